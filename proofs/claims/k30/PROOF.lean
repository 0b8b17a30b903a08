import PyProof.Rows.All
import Wide.All
import OpenK.AllK
import Wide.FinOn
import Lean
import PyProof.EqAt
import PyProof.EqKinds
import PyProof.TupleCall
import PyProof.Rows.SortRuns
import KE.KRevIter
import PyProof.SetRoads
import PyProof.ListNew
import PyProof.Rows.ListMulPlace
import PyProof.ZipIter
import PyProof.Rows.ZipGen
import PyProof.Rows.SumGenD
import PySem.Challenge.RW_closehaul_k30_whole_soonest
set_option tactic.hygienic false
set_option compiler.extract_closed false
set_option linter.defProp false
open Lean in
local macro_rules|`(#where)=>do
 let p:=`PySem.Challenge
 let l:=["closehaul_k30_whole_soonest"].flatMap λx=>[p.str ("pw_"++x),p.str ("rw_"++x)]++("env_41 heap_39 heap_46 heap_578 sts_134 sts_149 sts_197 sts_281 sts_359 sts_440 sts_49 sts_529 tree_133 tree_148 tree_196 tree_280 tree_358 tree_439 tree_47 tree_528 tree_577 view_39".splitOn " "++(List.range 535).map λi=>s!"o_{i+43}").map (p.str ("cw_"++x++"_holds")).str
 return mkNullNode (←l.toArray.mapM λn=>`(command|theorem $(mkIdent (.str `PySem.W.Fast s!"tw{n.hash}")):ident:True:=trivial))
#where
theorem jA10(h:True:=by rfl):True:=h
def jA1:=jA10._auto_1
theorem jB10(h:True:=by decide):True:=h
def jB1:=jB10._auto_1
theorem jC10(h:True:=by intro _;rfl):True:=h
def jC1:=jC10._auto_1
theorem jD10(h:True:=by first | exact .inl rfl | exact .inr rfl | assumption):True:=h
def jD1:=jD10._auto_1
theorem jE10(h:True:=by with_unfolding_all rfl):True:=h
def jE1:=jE10._auto_1
noncomputable section
section
set_option hygiene false
abbrev WvP:=PySem.Value->PySem.Shared->Prop
abbrev WmP:=PySem.Str->Option PySem.Value
set_option hygiene true
def wc:=@PySem.wpAny_bind
def wd:=@List.length_map
def we:=@List.mem_map
def wf:=@PySem.Heap.get?_push_of_some
def wg:=@List.mem_singleton
def wj:=@PySem.wpAny_pure
def wm:=@List.mem_cons
def wn:=@List.getElem?_eq_getElem
def wo:=@List.mem_cons_of_mem
def wp:=@Int.mul_le_mul_of_nonneg_right
def wq:=@PySem.Heap.get?_push_size
def wt:=@List.getElem?_eq_some_iff
def wu:=@Nat.le_refl
def wv:=@List.mem_of_getElem?
def ww:=@PySem.Heap.lt_size
def wz:=@Int.le_of_lt
def wA:=@List.map_cons
def wB:=@List.mem_cons_self
def wC:=@List.length_append
def wD:=@List.map_append
def wE:=@List.not_mem_nil
def wF:=@List.getElem?_set_ne
def wG:=@List.mem_append
def wH:=@List.getElem?_append_left
def wI:=@Nat.lt_of_lt_of_le
def wJ:=@Nat.ne_of_lt
def wK:=@Int.mul_eq_zero
def wL:=@List.getElem?_set_self
def wM:=@List.map_map
def wN:=@Int.mul_nonneg
def wO:=@List.getElem?_map
def wP:=@Nat.le_trans
def wQ:=@List.sum_cons
def wR:=@Nat.lt_or_ge
def wS:=@Int.mul_comm
def wT:=@Int.mul_le_mul_of_nonneg_left
def wU:=@List.length_cons
def wV:=@Nat.mod_eq_of_lt
def wW:=@Int.mul_pos
def wX:=@List.getElem?_append_right
def wY:=@List.length_pos_iff
def wZ:=@List.pairwise_map
def w5:=@Option.some.inj
def w6:=@List.pairwise_cons
def w9:=@Int.eq_of_mul_eq_mul_right
def vd:=@Bool.false_ne_true
def ve:=@List.mem_iff_getElem
def vf:=@List.mem_append_right
def vh:=@List.length_singleton
def vi:=@Int.le_of_mul_le_mul_right
def vj:=@PySem.wpAny_newObj_type
def vk:=@List.pairwise_iff_getElem
def vp:=@Int.mul_nonpos_of_nonneg_of_nonpos
def vq:=@List.size_toArray
def vz:=@Bool.false_eq_true
def vA:=@List.length_take
def vB:=@decide_eq_false
def vC:=@PySem.Heap.get?_update_other
def vD:=@Int.mul_le_mul_of_nonpos_right
def vE:=@List.mem_append_left
def vF:=@List.mem_of_mem_take
def vG:=@Int.mul_nonpos_of_nonpos_of_nonneg
def vH:=@Nat.zero_le
def vI:=@List.append_assoc
def vJ:=@PySem.Heap.get?_update_self
def vK:=@List.mem_range
def vL:=@Int.le_refl
def vN:=@Nat.lt_irrefl
def vO:=@or_false
def vP:=@Ne.symm
def vQ:=@PySem.wpAny_mono
def vR:=@List.nodup_cons
def vS:=@PyProof.Rows.slot_tuple_getitem
def vT:=@PySem.wpAny_setState_of
def vU:=@PySem.wpAny_callSpecial?_slot
def vV:=@PySem.W.kia_one
def vW:=@List.append_nil
def vX:=@Bool.and_eq_true
def vY:=@List.lookup_cons
def vZ:=@Int.mul_nonneg_of_nonpos_of_nonpos
def v4:=@decide_eq_true
def v5:=@PySem.Heap.size_push
def v6:=@List.length_range
def v7:=@Classical.byContradiction
def v8:=@PySem.wpAny_seqItems
def v9:=@List.pairwise_append
def ua:=@PySem.wpAny_holding
def ub:=@Prod.ext
def uc:=@List.length_nil
def ud:=@List.getElem_of_mem
def ue:=@PySem.wpAny_call_entry
def uf:=@Nat.lt_succ_of_lt
def ug:=@Nat.add_mod_right
def uh:=@List.getD_eq_getElem?_getD
def ui:=@PySem.Around.under_plainId
def uj:=@Int.lt_or_le
def uk:=@Int.mul_right_comm
def ul:=@Option.map_eq_some_iff
def uo:=@Int.natAbs_mul
def uq:=@Array.length_toList
def ur:=@List.mem_map_of_mem
def uv:=@List.map_congr_left
def uw:=@of_decide_eq_true
def ux:=@Int.add_zero
def uy:=@List.zip_cons_cons
def uz:=@PySem.wpAny_field
def uA:=@List.length_eq_zero_iff
def uB:=@PySem.Obj.data_mapFields
def uC:=@List.length_zip
def uD:=@Int.mul_lt_mul_of_pos_left
def uE:=@List.take_of_length_le
def uF:=@List.filterMap_cons
def uG:=@PySem.wpAny_truthy_bool
def uH:=@List.reverse_cons
def uI:=@Nat.lt_trichotomy
def uJ:=@PySem.Heap.SameBut.update
def uK:=@List.drop_eq_getElem_cons
def uL:=@Array.getElem?_eq_getElem
def uM:=@Int.le_of_mul_le_mul_left
def uN:=@Nat.le_of_lt
def uO:=@List.length_replicate
def uP:=@Int.natAbs_dvd_natAbs
def uQ:=@List.getElem?_eq_none
def uR:=@PySem.codeAny_builtin
def uS:=@Array.getElem?_toList
def uT:=@List.map_nil
def uU:=@List.mem_filterMap
def uV:=@Int.mul_ediv_cancel_left
def uW:=@Int.lt_or_eq_of_le
def uX:=@Nat.lt_succ_self
def uY:=@PySem.F.plainAttrs_list
def uZ:=@PySem.plainId_quiet
def u3:=@List.getElem?_cons_succ
def u4:=@Array.getD_eq_getD_getElem?
def u5:=@List.sum_append
def u6:=@Int.mul_lt_mul_of_pos_right
def u7:=@PySem.Calls.callWith_builtin
def u8:=@PySem.F.slot_tuple_iterator_next
def u9:=@List.getElem_mem
def ja:=@PySem.F.plain_max_loop
def jb:=@List.getElem_zip
def jc:=@Int.mul_assoc
def jd:=@PySem.wpAny_pyIter_tuple
def je:=@Int.zero_mul
def jf:=@List.take_append_drop
def jg:=@PySem.wpAny_setField_rec
def jh:=@Nat.eq_of_mul_eq_mul_left
def ji:=@List.pairwise_of_forall_mem_list
def jk:=@Int.mul_ediv_cancel'
def jl:=@PySem.wpAny_passesOwn
def jm:=@Bool.eq_iff_iff
def jn:=@PySem.wpAny_loadPart'
def jo:=@Nat.mod_lt
def jp:=@List.takeWhile_append_dropWhile
def jq:=@List.find?_cons
def jr:=@List.sum_nil
def jt:=@PySem.mem_of_lookup
def ju:=@List.getElem?_replicate
def jv:=@if_false
def jw:=@Nat.dvd_trans
def jx:=@List.getLast?_cons_cons
def jy:=@PyProof.Rows.F.plain_set_update_loop
def jz:=@List.getElem?_cons_zero
def jA:=@PySem.wpAny_forIn_list
def jB:=@List.length_drop
def jC:=@Int.gcd_dvd_left
def jD:=@List.append_eq_nil_iff
def jE:=@Int.emod_lt_of_pos
def jF:=@Nat.ne_of_gt
def jG:=@PyProof.Rows.callWith_type1
def jH:=@List.of_mem_zip
def jI:=@Nat.not_lt_zero
def jJ:=@PySem.F.called_set
def jK:=@List.Perm.append_left
def jL:=@PySem.wpAny_updateSeq
def jM:=@Int.le_trans
def jN:=@Int.mul_zero
def jO:=@Int.gcd_dvd_right
def jP:=@PySem.Heap.get?_push_ne
def jQ:=@Int.not_lt
def jR:=@Nat.pow_le_pow_right
def jS:=@List.append_eq_append_iff
def jT:=@List.take_succ
def jU:=@List.all_eq_true
def jV:=@List.perm_middle
def jW:=@PySem.wpAny_askSetting
def jX:=@if_true
def jY:=@PySem.wpAny_letGo
def jZ:=@PySem.wpAny_typeOf
def j0:=@Nat.gcd_comm
def j1:=@getElem?_pos
def j2:=@PySem.wpAny_Call_Name_kw
def j3:=@Int.natAbs_natCast
def j4:=@Int.dvd_trans
def j5:=@PySem.W.KasT.kasWp_bind
def j6:=@Int.emod_nonneg
def j7:=@decide_eq_true_iff
def j8:=@PySem.W.mg_none_of
def j9:=@Nat.dvd_gcd
def Wa:=@PySem.wpAny_setField
set_option autoImplicit true
set_option relaxedAutoImplicit true
set_option linter.all false
inductive Ee1 {a:Type}(P:a->Prop):Prop
 | mk (x0:a) (_:P x0):Ee1 P
inductive Ee2 {a b:Type}(P:a->b->Prop):Prop
 | mk (x0:a) (x1:b) (_:P x0 x1):Ee2 P
inductive Ee3 {a b c:Type}(P:a->b->c->Prop):Prop
 | mk (x0:a) (x1:b) (x2:c) (_:P x0 x1 x2):Ee3 P
inductive Ee4 {a b c d:Type}(P:a->b->c->d->Prop):Prop
 | mk (x0:a) (x1:b) (x2:c) (x3:d) (_:P x0 x1 x2 x3):Ee4 P
inductive Ee5 {a b c d e:Type}(P:a->b->c->d->e->Prop):Prop
 | mk (x0:a) (x1:b) (x2:c) (x3:d) (x4:e) (_:P x0 x1 x2 x3 x4):Ee5 P
inductive Ee6 {a b c d e f:Type}(P:a->b->c->d->e->f->Prop):Prop
 | mk (x0:a) (x1:b) (x2:c) (x3:d) (x4:e) (x5:f) (_:P x0 x1 x2 x3 x4 x5):Ee6 P
inductive Ee7 {a b c d e f g:Type}(P:a->b->c->d->e->f->g->Prop):Prop
 | mk (x0:a) (x1:b) (x2:c) (x3:d) (x4:e) (x5:f) (x6:g) (_:P x0 x1 x2 x3 x4 x5 x6):Ee7 P
inductive Ee9 {a b c d e f g h i:Type}(P:a->b->c->d->e->f->g->h->i->Prop):Prop
 | mk (x0:a) (x1:b) (x2:c) (x3:d) (x4:e) (x5:f) (x6:g) (x7:h) (x8:i) (_:P x0 x1 x2 x3 x4 x5 x6 x7 x8):Ee9 P
structure Aa2 (a b:Prop):Prop where
 (x0:a) (x1:b)
structure Aa3 (a b c:Prop):Prop where
 (x0:a) (x1:b) (x2:c)
structure Aa4 (a b c d:Prop):Prop where
 (x0:a) (x1:b) (x2:c) (x3:d)
structure Aa5 (a b c d e:Prop):Prop where
 (x0:a) (x1:b) (x2:c) (x3:d) (x4:e)
structure Aa6 (a b c d e f:Prop):Prop where
 (x0:a) (x1:b) (x2:c) (x3:d) (x4:e) (x5:f)
structure Aa8 (a b c d e f g h:Prop):Prop where
 (x0:a) (x1:b) (x2:c) (x3:d) (x4:e) (x5:f) (x6:g) (x7:h)
set_option Elab.async false
set_option maxRecDepth 100000
namespace L2
open PySem PySem.Spec PyProof.Rows
abbrev Key:=Sum Int Str
def z9H:Key->Value->Bool
 | .inl k,v=>Value.isInt k v
 | .inr x,v=>Value.isStrOf x v
def keyH (w:World):Key->Int
 | .inl k=>hashInt k
 | .inr x=>hashStr w x
def z0Z:∀{k:Key}{v:Value},z9H k v=true->(∃i t,k=Sum.inl i/\v=Value.int i t)\/(∃x t,k=Sum.inr x/\v=Value.str x t)
 | .inl i,v,h=>by
  obtain⟨t,e⟩:=Value.isInt_shape h;exact .inl ⟨i,t,rfl,e⟩
 | .inr x,v,h=>by
  obtain⟨t,e⟩:=Value.isStrOf_shape h;exact .inr ⟨x,t,rfl,e⟩
def zdb (i:Int)(t:Tok):z9H (.inl i) (.int i t)=true:=by simp[z9H,Value.isInt]
def zda (x:Str)(t:Tok):z9H (.inr x) (.str x t)=true:=by simp[z9H,Value.isStrOf]
def zlK (a b:Int):decide ((Sum.inl a:Key)=Sum.inl b)=(a == b):=by
 grind
def zlH (a b:Str):decide ((Sum.inr a:Key)=Sum.inr b)=decide (a=b):=by
 grind
def zlJ (a:Int)(b:Str):decide ((Sum.inl a)=Sum.inr b)=false:=vB (λq=>nomatch q)
def zlI (a:Str)(b:Int):decide ((Sum.inr a)=Sum.inl b)=false:=vB (λq=>nomatch q)
def z1i (prog:Program)(w:World):PySem.KeyKind prog w Key where
 is:=z9H
 hash:=keyH w
 inj:=λv a b l g=>by
  rcases z0Z l with ⟨i,t,rfl,rfl⟩ | ⟨x,t,rfl,rfl⟩
  .rcases z0Z g with ⟨j,u,rfl,e⟩ | ⟨y,u,rfl,e⟩
   .injection e with d _;rw[d]
   .exact nomatch e
  .rcases z0Z g with ⟨j,u,rfl,e⟩ | ⟨y,u,rfl,e⟩
   .exact nomatch e
   .injection e with d _;rw[d]
 byValue:=λk v h=>by
  rcases z0Z h with ⟨i,t,rfl,rfl⟩ | ⟨x,t,rfl,rfl⟩ <;> rfl
 pyHash:=λf h=>by
  rcases z0Z f with ⟨i,t,rfl,rfl⟩ | ⟨x,t,rfl,rfl⟩
  .exact wpAny_pyHash_int h
  .exact wpAny_pyHash_str h
 eqBool:=λm f h=>by
  rcases z0Z m with ⟨i,t,rfl,rfl⟩ | ⟨x,t,rfl,rfl⟩
  .rcases z0Z f with ⟨j,u,rfl,rfl⟩ | ⟨y,u,rfl,rfl⟩
   .rw[zlK] at h;exact wpAny_eqBool_int h
   .rw[zlJ] at h;exact SeqAt.EqAt.int_str i t y u _ _ _ _ h
  .rcases z0Z f with ⟨j,u,rfl,rfl⟩ | ⟨y,u,rfl,rfl⟩
   .rw[zlI] at h;exact SeqAt.EqAt.str_int x t j u _ _ _ _ h
   .rw[zlH] at h;exact wpAny_eqBool_str h
 «strs»:=λk x t v h=>by
  rcases z0Z h with ⟨i,u,rfl,e⟩ | ⟨y,u,rfl,e⟩
  .exact nomatch e
  .injection e with d _
   subst d
   cases v <;> rfl
def zbn (prog:Program)(w:World)(k:Key)(v:Value):(z1i prog w).is k v=z9H k v:=rfl
def z9C (prog:Program)(w:World)(i:Int)(t:Tok):(z1i prog w).is (.inl i) (.int i t)=true:=zdb i t
def z9B (prog:Program)(w:World)(x:Str)(t:Tok):(z1i prog w).is (.inr x) (.str x t)=true:=zda x t
inductive V where
 | non | bl (b:Bool) | int (i:Int) | str (x:Str) | byt (b:Array UInt8) | flt (b:UInt64) | ref (a:Addr) | ty (n:String)
 deriving DecidableEq
def RelV:V->Value->Prop
 | .non,u=>u=Value.none
 | .bl b,u=>u=Value.bool b
 | .int i,u=>∃t,u=Value.int i t
 | .str x,u=>∃t,u=Value.str x t
 | .byt b,u=>∃t,u=Value.bytes b t
 | .flt b,u=>∃t,u=Value.float b t
 | .ref a,u=>u=Value.ref a
 | .ty n,u=>u=Value.type n
abbrev Vals:List V->List Value->Prop:=Paired RelV
theorem Vals.length {xs:List V}{a:List Value}(r:Vals xs a):xs.length=a.length:=Paired.length r
theorem Vals.get:∀{xs:List V}{a:List Value}{i:Nat}{x:V},Vals xs a->xs[i]? = some x->∃u,a[i]? = some u/\RelV x u
 | _,_,_,_,.nil,e=>by simp at e
 | _,_,0,_,.cons r _,e=>by simp at e;subst e;exact⟨_,rfl,r⟩
 | _,_,i+1,x,.cons _ t,e=>by
  obtain⟨u,b,d⟩:=Vals.get t (by simpa using e);exact⟨u,by simpa using b,d⟩
theorem Vals.set {x:V}{u:Value}(r:RelV x u):∀{xs:List V}{a:List Value} i,Vals xs a->Vals (xs.set i x) (a.set i u)
 | _,_,_,.nil =>.nil
 | _,_,0,.cons _ t =>.cons r t
 | _,_,i+1,.cons q t =>.cons q (Vals.set r i t)
theorem Vals.append:∀{xs ys:List V}{a ws:List Value},Vals xs a->Vals ys ws->Vals (xs++ys) (a++ws)
 | _,_,_,_,.nil,s=>s
 | _,_,_,_,.cons r t,s =>.cons r (Vals.append t s)
theorem Vals.take:∀{xs:List V}{a:List Value} n,Vals xs a->Vals (xs.take n) (a.take n)
 | _,_,0,_ =>.nil
 | _,_,_+1,.nil =>.nil
 | _,_,n+1,.cons r t =>.cons r (Vals.take n t)
theorem Vals.drop:∀{xs:List V}{a:List Value} n,Vals xs a->Vals (xs.drop n) (a.drop n)
 | _,_,0,r=>r
 | _,_,_+1,.nil =>.nil
 | _,_,n+1,.cons _ t=>Vals.drop n t
def RelO:Option V->Option Value->Prop
 | some v,some u=>RelV v u
 | none,none=>True
 | _,_=>False
def KV {κ:Type}:List (κ × V)->List (κ × Value)->Prop:=Paired λp q=>p.1=q.1/\RelV p.2 q.2
noncomputable def kV:Key->V
 | .inl i =>.int i
 | .inr x =>.str x
inductive HO where
 | lst (xs:List V)
 | tup (xs:List V)
 | dK (kvs:List (Key × V)) | dT (kvs:List (List Key × V))
 | set (S:Int->Bool) (n:Nat)
 | ins (C dx:Addr) (fs:List (Str × V))
 | own (x:Addr)
 | xd (fs:List (Str × V))
 | met (f x:Addr)
 | rng (lo hi:Int)
 | frz (o:Obj) (u:HO)
 | tbl (ps:Array Value)
 | ext (φ:Heap->Prop)
abbrev Hp:=Addr->Option HO
def upd (H:Hp)(a:Addr)(o:HO):Hp:=λb=>if b=a then some o else H b
def z0c {H:Hp}{a:Addr}{o:HO}:upd H a o a=some o:=by unfold upd;rw[if_pos rfl]
def z08 {H:Hp}{a b:Addr}{o:HO}(h:b≠a):upd H a o b=H b:=by unfold upd;rw[if_neg h]
def znw {H:Hp}{a b:Addr}{o u:HO}(h:H a=some o)(f:H b=some u)(d:o≠u):a≠b:=by
 intro e;simp_all
def z0T {H:Hp}{a b:Addr}{o:HO}(h:H a=some o)(d:H b=none):a≠b:=by
 grind
def NoD (h:Heap)(a:Addr):Prop:=∃o,h.get? a=some o/\o.dict=none
def zo0 (H:Hp)(h:Heap)(a:Addr)(ps:Array Value):Prop:=h.get? a=some { cls :=.none,data :=.fields #[] }\/
 ∃(l c:Value) (q:Str) (t:Tok) (b:Addr) (o:Obj) (vs:Array Value) (u:Tok),ps[0]? = some l/\ps[1]? = some c/\ps[2]? = some (.str q t)/\h.get? a=some { cls :=.none,data :=.fields #[l,c,.ref b] }/\H b=some (.frz o (.own b))/\o.data = .fields vs/\vs[1]? = some (.str q u)
section
variable (P:Program)(w:World)
def z1G (H:Hp)(h:Heap)(a:Addr):HO->Prop
 | .lst e=>e.length<=sizeLine/\∃(b:List Value) (n:Nat),Vals e b/\h.get? a=some { cls :=.type "list",data :=.seq b.toArray n }
 | .tup e=>e.length<=sizeLine/\∃b,Vals e b/\IsTup h a b.toArray/\NoD h a
 | .dK d=>d.length<=sizeLine/\(a == sysModules)=false/\∃vs,KV d vs/\h.DictOf (z1i P w) a vs
 | .dT d=>d.length<=sizeLine/\(a == sysModules)=false/\∃e,
   Paired (λp q=>p.1=q.1/\H q.2.1=some (.tup (p.1.map kV))/\RelV p.2 q.2.2) d e/\
   ∃o l s,h.get? a=some o/\o.ExactDict/\o.data = .dict l s/\l.toList=e.map (entryOfKey (tupleKind (z1i P w)))/\(e.map (·.1)).Nodup
 | .set S n=>h.SetOf (intKind P w) a S n
 | .ins C i fs=>H i=some (.own a)/\fs.length<=1000/\i≠a/\h.get? a=some (W.instObj C i)/\
   ∃g,h.Ns1 i g/\(∀f,RelO (fs.lookup f) (g f))/\PySem.Within g (fs.map (·.1))
 | .own _=>∃o,h.get? a=some o
 | .xd fs=>∃g,h.Ns1 a g/\∀f,RelO (fs.lookup f) (g f)
 | .rng z y=>∃t u v,h.get? a=some { cls :=.type "range",data :=.fields #[.int z t,.int y u,.int 1 v] }
 | .frz o u=>h.get? a=some o/\z1G H h a u
 | .tbl ps=>zo0 H h a ps
 | .met f x=>h.get? a=some (W.methodObj (.ref f) (.ref x))
 | .ext j=>j h/\(∃o,h.get? a=some o)/\∀m r:Heap,j m->(∀o,m.get? a=some o->r.get? a=some o)->j r
def HOk (H:Hp)(h:Heap):Prop:=∀a o,H a=some o->z1G P w H h a o
end
section
variable {P:Program}{w:World}{H H':Hp}{h h':Heap}{a:Addr}{o:HO}
theorem z1G.lt (x:z1G P w H h a o):a<h.objs.size:=by
 cases o with
 | lst d=>obtain⟨_,_,_,_,e⟩:=x;exact ww e
 | tup d=>obtain⟨_,_,_,p,_⟩:=x;exact p.lt
 | dK b=>obtain⟨_,_,_,_,o,_,_,e,_⟩:=x;exact ww e
 | dT b=>obtain⟨_,_,_,_,o,_,_,e,_⟩:=x;exact ww e
 | set S n=>obtain⟨o,_,_,_,e,_⟩:=x;exact ww e
 | ins C g fs=>obtain⟨_,_,_,e,_⟩:=x;exact ww e
 | own y=>obtain⟨_,e⟩:=x;exact ww e
 | xd fs=>obtain⟨_,⟨_,_,_,e,_⟩,_⟩:=x;exact ww e
 | rng j i=>obtain⟨_,_,_,e⟩:=x;exact ww e
 | frz l u=>obtain⟨e,_⟩:=x;exact ww e
 | tbl ps=>rcases x with e | ⟨_,_,_,_,_,_,_,_,_,_,_,e,_⟩ <;> exact ww e
 | met f y=>exact ww (x)
 | ext m=>obtain⟨_,⟨_,e⟩,_⟩:=x;exact ww e
theorem Paired.mapP {d e:Type}{F G:d->e->Prop}:∀{l₁:List d} {l₂:List e},Paired F l₁ l₂->(∀a b,F a b->G a b)->Paired G l₁ l₂
 | _,_,.nil,_ =>.nil
 | _,_,.cons r t,f =>.cons (f _ _ r) (Paired.mapP t f)
def z1G.stay (x:z1G P w H h a o)(k:∀b u,(b=a\/H b=some (.own a))->h.get? b=some u->h'.get? b=some u)
  (Q:∀b,H b=some (.own a)->H' b=some (.own a)) (R:∀b xs,H b=some (.tup xs)->H' b=some (.tup xs)) (O:∀b o c,H b=some (.frz o (.own c))->H' b=some (.frz o (.own c)):=by first | exact λ_ _ _ q=>q | exact λc _ _ q=>by rw[z08 (z0T q (by assumption))];exact q):z1G P w H' h' a o:=by
 induction o with
 | lst xs=>obtain⟨z,m,n,r,e⟩:=x;exact⟨z,m,n,r,k _ _ (.inl rfl) e⟩
 | tup xs=>obtain⟨z,m,r,⟨g,e,c⟩,s,N,J⟩:=x;exact⟨z,m,r,⟨g,k _ _ (.inl rfl) e,c⟩,s,k _ _ (.inl rfl) N,J⟩
 | dK E=>obtain⟨z,y,vs,r,g,j,i,e,c⟩:=x;exact⟨z,y,vs,r,g,j,i,k _ _ (.inl rfl) e,c⟩
 | dT E=>
  obtain⟨z,y,xs,r,g,j,i,e,c⟩:=x;exact⟨z,y,xs,Paired.mapP r λp q z=>⟨z.1,R _ _ z.2.1,z.2.2⟩,g,j,i,k _ _ (.inl rfl) e,c⟩
 | set S n=>obtain⟨g,j,i,t,e,c⟩:=x;exact⟨g,j,i,t,k _ _ (.inl rfl) e,c⟩
 | ins C U fs=>
  obtain⟨d,z,ne,e,F,⟨s,j,i,A,c⟩,r⟩:=x;exact⟨Q _ d,z,ne,k _ _ (.inl rfl) e,F,⟨s,j,i,k _ _ (.inr d) A,c⟩,r⟩
 | own y=>obtain⟨g,e⟩:=x;exact⟨g,k _ _ (.inl rfl) e⟩
 | xd fs=>obtain⟨F,⟨s,j,i,e,c⟩,r⟩:=x;exact⟨F,⟨s,j,i,k _ _ (.inl rfl) e,c⟩,r⟩
 | rng Y X=>obtain⟨t,u,v,e⟩:=x;exact⟨t,u,v,k _ _ (.inl rfl) e⟩
 | frz g u T=>obtain⟨e,q⟩:=x;exact⟨k _ _ (.inl rfl) e,T q⟩
 | tbl ps=>
  rcases x with e | ⟨l,c,q,t,I,g,vs,u,K,A,L,e,M,r⟩
  .exact .inl (k a _ (.inl rfl) e)
  .exact .inr ⟨l,c,q,t,I,g,vs,u,K,A,L,k a _ (.inl rfl) e,O _ _ _ M,r⟩
 | met f y=>
  have e:h.get? a=some (W.methodObj (.ref f) (.ref y)):=x;exact k a _ (.inl rfl) e
 | ext Z=>obtain⟨p,⟨o,e⟩,G⟩:=x;exact⟨G _ _ p λo q=>k _ _ (.inl rfl) q,⟨o,k _ _ (.inl rfl) e⟩,G⟩
theorem HOk.lt (x:HOk P w H h)(e:H a=some o):a<h.objs.size:=(x a o e).lt
def HOk.fresh (x:HOk P w H h)(e:h.objs.size<=a):H a=none:=by
 cases q:H a with
 | none=>rfl
 | some u=>exact absurd (wI (x.lt q) e) (vN _)
def HOk.kept (x:HOk P w H h)(k:∀b u,h.get? b=some u->h'.get? b=some u):HOk P w H h':=λa o e=>
 (x a o e).stay (λb u _ q=>k b u q) (λ_ q=>q) λ_ _ q=>q
def HOk.laid (x:HOk P w H h)(k:∀b u,h.get? b=some u->h'.get? b=some u)(g:h.objs.size<=a)(new:z1G P w (upd H a o) h' a o):HOk P w (upd H a o) h':=λb u e=>by
 have f:=x.fresh g
 by_cases d:b=a
 .subst d;rw[z0c] at e;grind
 .rw[z08 d] at e;exact(x b u e).stay (λc v _ q=>k c v q) (λc q=>by rw[z08 (z0T q f)];exact q) λc i q=>by rw[z08 (z0T q f)];exact q
end
def Rd (H:Hp)(a:Addr)(u:HO):Prop:=H a=some u\/∃o,H a=some (.frz o u)
def Rd.ok {P:Program}{w:World}{H:Hp}{h:Heap}{a:Addr}{u:HO}(r:Rd H a u)(x:HOk P w H h):z1G P w H h a u:=by
 rcases r with r | ⟨o,r⟩
 .exact x a u r
 .obtain⟨_,q⟩:=x a _ r;exact q
def Mut:Option HO->Prop
 | some (.lst _)=>True
 | some (.dK _)=>True
 | some (.dT _)=>True
 | some (.set _ _)=>True
 | some (.ins _ _ _)=>True
 | some (.ext _)=>True
 | _=>False
section
variable {P:Program}{w:World}{H:Hp}{h h':Heap}{x e:Addr}{o':HO}
def HOk.write (ok:HOk P w H h)(a:Mut (H x))(s:e=x\/H e=some (.own x))(k:∀b u,b≠e->h.get? b=some u->h'.get? b=some u)(j:∃u,h'.get? e=some u)
  (new:z1G P w (upd H x o') h' x o'):HOk P w (upd H x o') h':=λb u q=>by
 have d:∀c y,H c=some (.own y)->c≠x:=λc y r z=>by subst z;rw[r] at a;exact a
 have f:∀c g,H c=some (.tup g)->c≠x:=λc g r z=>by subst z;rw[r] at a;exact a
 by_cases l:b=x
 .subst l;rw[z0c] at q;cases q;exact new
 .rw[z08 l] at q
  by_cases i:b=e
  .have m:H b=some (.own x):=by
    simp_all
   rw[q] at m;cases m;obtain⟨v,n⟩:=j;exact⟨v,by rw[i];exact n⟩
  .refine(ok b u q).stay (λc v p r=>k c v ?_ r) (λc r=>by rw[z08 (d c b r)];exact r) (λc g r=>by rw[z08 (f c g r)];exact r) λc o u r=>by rw[z08 (λz=>by subst z;rw[r] at a;exact a)];exact r
   grind
end
structure Un (fs ex:List Addr)(H H':Hp)(h h':Heap):Prop where
 keep:∀b o,h.get? b=some o->H b=none->b ∉ fs->b ∉ ex->h'.get? b=some o
 slot:∀b o,h.get? b=some o->H b=none->b∈fs->b ∉ ex->∃sl,h'.get? b=some { o with slots:=sl }
 free:∀b o,h.get? b=some o->H b=none->b ∉ ex->H' b=none
 there:∀b o,h.get? b=some o->b ∉ ex->∃o',h'.get? b=some o'
 tups:∀b xs,H b=some (.tup xs)->H' b=some (.tup xs)
 frzs:∀b o u,H b=some (.frz o u)->H' b=some (.frz o u)
 tbls:∀b ps,H b=some (.tbl ps)->∃more,H' b=some (.tbl (ps++more))
section
variable {fs fs' ex ex':List Addr}{H H1 H2:Hp}{h h1 h2 h':Heap}{a x e:Addr}{o:HO}
def Un.any (u:Un fs ex H H1 h h1){b:Addr}{a:Obj}(q:h.get? b=some a)(n:H b=none)(e:b ∉ ex):∃sl,h1.get? b=some { a with slots:=sl }:=by
 by_cases d:b∈fs
 .exact u.slot b a q n d e
 .exact⟨a.slots,u.keep b a q n d e⟩
def Un.kept (k:∀b u,h.get? b=some u->h'.get? b=some u):Un fs ex H H h h':=
 ⟨λb a q _ _ _=>k b a q,λb a q _ _ _=>⟨a.slots,k b a q⟩,λ_ _ _ n _=>n,λb a q _=>⟨a,k b a q⟩,λ_ _ q=>q,λ_ _ _ q=>q,λ_ ps q=>⟨#[],by rw[q];simp⟩⟩
def Un.refl:Un fs ex H H h h:=Un.kept λ_ _ q=>q
def Un.laid (k:∀b u,h.get? b=some u->h'.get? b=some u)(e:h.objs.size<=a)(d:H a=none):Un fs ex H (upd H a o) h h' where
 keep:=λb u q _ _ _=>k b u q
 slot:=λb u q _ _ _=>⟨u.slots,k b u q⟩
 free:=λb u q n _=>by rw[z08 (wJ (wI (ww q) e))];exact n
 there:=λb u q _=>⟨u,k b u q⟩
 tups:=λb f q=>by rw[z08 (z0T q d)];exact q
 frzs:=λb u f q=>by rw[z08 (z0T q d)];exact q
 tbls:=λb ps q=>⟨#[],by rw[z08 (z0T q d),q];simp⟩
def Un.write (g:Mut (H x))(m:e=x\/H e=some (.own x))(k:∀b u,b≠e->h.get? b=some u->h'.get? b=some u)(i:∃u,h'.get? e=some u):Un fs ex H (upd H x o) h h':=by
 have j:∀b,H b=none->b≠x:=λb n z=>by subst z;rw[n] at g;exact g
 have f:∀b,H b=none->b≠e:=λb n z=>by
  grind
 have d:∀b u,H b=some u->¬ Mut (some u)->b≠x:=λb u q p z=>by simp_all
 refine⟨λb u q n _ _=>k b u (f b n) q,λb u q n _ _=>⟨u.slots,k b u (f b n) q⟩,λb u q n _=>by rw[z08 (j b n)];exact n,λb u q _ =>?_,
  λb l q=>by rw[z08 (d b _ q λz=>z)];exact q,λb u l q=>by rw[z08 (d b _ q λz=>z)];exact q,λb ps q=>⟨#[],by rw[z08 (d b _ q λz=>z),q];simp⟩⟩
 by_cases a:b=e
 .simp_all
 .exact⟨u,k b u a q⟩
end
noncomputable def trk (h:Heap)(H:Hp):List Addr:=(List.range h.objs.size).filter λa=>(H a).isSome
def hidT (h:Heap)(H:Hp):Heap:=W.hideAll h (trk h H)
def zdj (h:Heap)(H:Hp):(hidT h H).objs.size=h.objs.size:=W.hideAll_size _ _
def z7G (e:h.get? b=some o)(n:H b=none):(hidT h H).get? b=some o:=
 W.hideAll_get _ e λa=>by
  have q  := (List.mem_filter.mp a).2
  simp_all
def zi4 (e:(hidT h H).get? b=some o):h.get? b=some o/\H b=none:=by
 have a  := W.of_hideAll _ e;refine⟨a,?_⟩
 cases q:H b with
 | none=>rfl
 | some x=>
  have d:b∈trk h H:=List.mem_filter.mpr ⟨vK.mpr (ww a),by simp[q]⟩;have z:(hidT h H).get? b=none:=W.hideAll_none _ d
  grind
def BmAt (mg:WmP)(h:Heap):Prop:=∃b a,mg "__builtins__"=some (.ref b)/\b≠builtinsNs/\h.get? b=some a/\a.cls = .type "module"/\a.dict=some builtinsNs/\a.data = .plain
noncomputable def zlG (d:FuncData):Option Pos:=match d.body with
 | .stmts b=>(match b.getLast? with
  | some (.Return (some (.Call _ _ [⟨_,.Lambda _ _ _ a,_⟩] _)) _)=>some a
  | _=>none)
 | _=>none
noncomputable def zbR (K:W.Frag)(c:Addr):Option Addr:=match K.lookup c with
 | some ⟨.type "code",_,.fields vs,_⟩=>(match (vs[11]? : Option Value) with | some (.ref P)=>if (K.lookup P).isNone then some P else none | _=>none)
 | _=>none
noncomputable def tsOf (K:W.Frag):List (Addr × Nat × Nat × Str):=K.filterMap λp=>match p.2.data with
 | .func b=>(match zlG b,b.code with
  | some a,.ref c=>(zbR K c).map λP=>(P,a.line,a.col,b.qualname++".<locals>."++"<lambda>")
  | _,_=>none)
 | _=>none
noncomputable def encT (t:Nat × Nat × Str):Array Value := #[rawInt t.1,rawInt t.2.1,.str t.2.2 0]
def Tbs (K:W.Frag)(H:Hp):Prop:=∀P t,(tsOf K).lookup P=some t->∃more,H P=some (.tbl (encT t++more))
structure Mod (K:W.Frag)(mg:WmP)(base:Heap):Prop where
 kin:K.In base
 glob:base.Ns mainGlobals mg
 blt:∃mb,base.Ns builtinsNs mb/\∀x:Str,x≠"__name__"->mb x=bootBuiltins x
 nolimit:base.NoLimit
 bm:BmAt mg base
structure Cx where
 prog:Program
 w:World
 K:W.Frag
 mg:Str->Option Value
 base:Heap
 A:Around
 N:List Str
 s₀:Shared
 H₀:Hp
 env:Env
 outer:List Env
 stack:List Env
 ex:List Addr
 fn:Str->Bool
 calm:Bool
 pn:List (Addr × Obj)
 xe:Value->Shared->Prop
abbrev sE (e:Expr)(l:List Expr)(X:Cx):Prop:=starEach (e::l) X.env=(false,eval e X.env)::starEach l X.env
abbrev aG (p:Pos)(l:List Expr)(X:Cx):Prop:=((backTo p (starEach l X.env)).all (λx=>!x.1) && (backToKw p (keywordEach [] X.env)).all (λx=>x.1.isSome) && decide (l.length+([]:List Keyword).length+(if ([]:List Keyword).isEmpty then 0 else 1)<30))=true
abbrev bT (p:Pos)(l:List Expr)(X:Cx):Prop:=(backTo p (starEach l X.env)).any (·.1)=false
abbrev dB (x:Str):Prop:=(x == ("__debug__":Str))=false
abbrev aL (a c:Pos):Prop:=(a.endLine == c.line)=true
abbrev fI (i:Expr)(X:Cx):Prop:=∀x,foldedSetIterable i X.env x=pure x
abbrev aB (o:Expr)(n:Str)(X:Cx):Prop:=attributeBase o n X.env (eval o X.env)=eval o X.env
def frs (l:List Env):List Addr:=l.filterMap (·.frame)
abbrev Cx.fs (X:Cx):List Addr:=frs X.outer
def Vis (sc:Scope)(x:Str):Prop:=sc.names.lookup x=some .local\/sc.names.lookup x=some .cell\/sc.names.lookup x=some .free
def Loc (sc:Scope)(x:Str):Prop:=sc.names.lookup x=some .local\/sc.names.lookup x=some .cell
def Look (env:Env)(h:Heap)(m:WmP)(x:Str)(u:Value):Prop:=
 (env.kindOf x=some .local/\m x=some u)\/((env.kindOf x=some .cell\/env.kindOf x=some .free)/\∃c,env.cells.lookup x=some c/\h.IsCell c (some u))
structure Cx.Ok (X:Cx):Prop where
 mod:Mod X.K X.mg X.base
 kind:X.env.scope.kind = .function
 glob:X.env.globals=mainGlobals
 blt:X.env.builtins=builtinsNs
 above:X.s₀.heap.objs.size<=X.env.locals
 inj:∀x y c,X.env.cells.lookup x=some c->X.env.cells.lookup y=some c->x=y
 has:∀x,(X.env.kindOf x=some .cell\/X.env.kindOf x=some .free)->∃c,X.env.cells.lookup x=some c
 cab:∀x c,X.fn x=true->X.env.cells.lookup x=some c->X.s₀.heap.objs.size<=c
 hd:X.calm=true->X.A.handled=none
 frames:X.A.frames=some X.stack
 stk:X.stack=X.outer\/(X.stack=X.env::X.outer/\X.env.frame=some X.env.locals)
 exf:∀b∈X.ex,b≠X.env.locals/\∀x c,X.env.cells.lookup x=some c->c≠b
 bs:∀b o,X.base.get? b=some o->X.s₀.heap.get? b=some o/\X.H₀ b=none
 bsz:X.base.objs.size<=X.s₀.heap.objs.size
 noex:∀b o,X.base.get? b=some o->b ∉ X.ex
 exfs:∀b∈X.ex,b ∉ X.fs
 funs:X.s₀.heap.FunFrames X.base X.outer
 frf:∀b∈X.fs,X.H₀ b=none
 tbs:Tbs X.K X.H₀
structure Inv (X:Cx)(pins:List (Addr × Obj))(σ:List (Option V))(H:Hp)(s:Shared):Prop where
 ok:X.Ok
 os:s.os=X.s₀.os
 bare:AllBare s.gens
 base:Un X.fs X.ex X.H₀ H X.s₀.heap s.heap
 loc:∃m,s.heap.Ns X.env.locals m/\∀(i:Nat) x v,X.N[i]? = some x->σ[i]? = some (some v)->Vis X.env.scope x->∃u,RelV v u/\Look X.env s.heap m x u
 cell:∀x c,X.env.cells.lookup x=some c->∃v,s.heap.IsCell c v
 free:H X.env.locals=none
 freeC:∀x c,X.env.cells.lookup x=some c->H c=none
 pin:∀p∈X.pn++pins,s.heap.get? p.1=some p.2/\H p.1=none/\p.1≠X.env.locals/\p.1 ∉ X.fs/\∀v,p.2.data ≠ .cell v
 hok:HOk X.prog X.w H s.heap
 len:σ.length=X.N.length
section
variable {X:Cx}{pins:List (Addr × Obj)}{σ:List (Option V)}{H H':Hp}{s:Shared}{h':Heap}
def Cx.Ok.nofr (ok:X.Ok)(e:X.base.get? b=some o):b ∉ X.fs:=λa=>by
 have:=(ok.funs.mem a).1
 grind
theorem Inv.bs (I:Inv X pins σ H s):∀b o,X.base.get? b=some o->s.heap.get? b=some o/\H b=none:=λb o e=>
 ⟨I.base.keep b o (I.ok.bs b o e).1 (I.ok.bs b o e).2 (I.ok.nofr e) (I.ok.noex b o e),I.base.free b o (I.ok.bs b o e).1 (I.ok.bs b o e).2 (I.ok.noex b o e)⟩
def Inv.bk (I:Inv X pins σ H s):∀b o,X.base.get? b=some o->s.heap.get? b=some o:=λb o e=>(I.bs b o e).1
theorem Inv.mod (I:Inv X pins σ H s):Mod X.K X.mg X.base:=I.ok.mod
def Inv.kIn (I:Inv X pins σ H s):X.K.In s.heap:=I.ok.mod.kin.keeps I.bk
theorem Inv.lt (I:Inv X pins σ H s):X.env.locals<s.heap.objs.size:=let ⟨_,a,_⟩:=I.loc;a.lt
def Inv.sz (I:Inv X pins σ H s):X.s₀.heap.objs.size<=s.heap.objs.size:=wP I.ok.above (uN I.lt)
def Inv.nofs (I:Inv X pins σ H s)(h:s.heap.objs.size<=a):a ∉ X.fs:=λb=>by
 obtain⟨_,o,d,_⟩:=I.ok.funs.mem b;exact absurd (wI (ww d) (wP I.sz h)) (vN _)
def Inv.cne (I:Inv X pins σ H s):∀x c,X.env.cells.lookup x=some c->c≠X.env.locals:=λx c e z=>by
 obtain⟨v,o,h,g⟩:=I.cell x c e;obtain⟨m,⟨i,f,d,b,a,_⟩,_⟩:=I.loc
 grind
theorem Inv.funs (I:Inv X pins σ H s):s.heap.FunFrames X.base X.outer:=by
 have all:∀l,(∀b∈frs l,b∈X.fs)->X.s₀.heap.FunFrames X.base l->s.heap.FunFrames X.base l:=by
  intro l
  induction l with
  | nil=>intro _ _;trivial
  | cons h r t=>
   intro g m;obtain⟨j,⟨L,o,f,n,p,i⟩,q⟩:=m;have a  := g L (by unfold frs;simp_all);obtain⟨sl,e⟩:=I.base.slot L o p (I.ok.frf L a) a λz=>I.ok.exfs L z a;exact⟨j,⟨L,_,f,n,e,i⟩,t (λb d=>g b (by unfold frs;rw[uF,f];exact wo _ d)) q⟩
 exact all _ (λ_ d=>d) I.ok.funs
theorem Inv.stack (I:Inv X pins σ H s):s.heap.FunFrames X.base X.stack:=by
 rcases I.ok.stk with e | ⟨e,a⟩
 .rw[e];exact I.funs
 .rw[e];obtain⟨m,b,_⟩:=I.loc;refine .cons (by rw[I.ok.kind];decide) a b ?_ I.funs;exact Heap.get?_none_of_le (wP I.ok.bsz I.ok.above)
def Inv.stkSub (I:Inv X pins σ H s):∀b∈frs X.stack,b∈X.env.locals::X.fs:=λb a=>by
 rcases I.ok.stk with e | ⟨e,d⟩
 .simp_all
 .rw[e] at a;unfold frs at a;rw[uF,d] at a;exact a
def Inv.stkFree (I:Inv X pins σ H s):∀b∈frs X.stack,H b=none:=λb a=>by
 rcases wm.mp (I.stkSub b a) with e | a
 .rw[e];exact I.free
 .obtain⟨_,o,d,_⟩:=I.ok.funs.mem a;exact I.base.free b o d (I.ok.frf b a) λz=>I.ok.exfs b z a
theorem Inv.tbs (I:Inv X pins σ H s):Tbs X.K H:=λP t e=>by
 obtain⟨b,a⟩:=I.ok.tbs P t e;obtain⟨d,f⟩:=I.base.tbls P _ a;exact⟨b++d,by simp_all⟩
def Inv.step {g':Array GenState}{t':Nat}{d':Drawn}{ch:List Addr}(I:Inv X pins σ H s)
  (g:∀b∈ch,(b∈X.ex\/X.s₀.heap.objs.size<=b)/\b≠X.env.locals/\(∀x c,X.env.cells.lookup x=some c->c≠b)/\∀p∈X.pn++pins,p.1≠b)
  (keep:∀b o,b≠X.env.locals->b ∉ X.fs->b ∉ ch->s.heap.get? b=some o->H b=none->h'.get? b=some o)
  (y:∀b o,b≠X.env.locals->b∈X.fs->b ∉ ch->s.heap.get? b=some o->H b=none->∃sl,h'.get? b=some { o with slots:=sl }) (free:∀b o,b ∉ ch->s.heap.get? b=some o->H b=none->H' b=none)
  (there:∀b o,b ∉ ch->s.heap.get? b=some o->∃J,h'.get? b=some J)
  (tups:∀b xs,H b=some (.tup xs)->H' b=some (.tup xs)) (F:∀b o u,H b=some (.frz o u)->H' b=some (.frz o u)) (K:∀b ps,H b=some (.tbl ps)->∃more,H' b=some (.tbl (ps++more)))
  (ns:∀m,s.heap.Ns X.env.locals m->h'.Ns X.env.locals m) (M:HOk X.prog X.w H' h') (T:AllBare g'):
  Inv X pins σ H' { s with heap:=h',gens:=g',drawn:=d',toks:=t' }:=by
 have G:∀b o,X.s₀.heap.get? b=some o->b≠X.env.locals:=λb o e=>wJ (wI (ww e) I.ok.above);have t:∀b o,X.s₀.heap.get? b=some o->b ∉ X.ex->b ∉ ch:=λb o e a A=>by
  rcases(g b A).1 with z | z
  .exact a z
  .exact absurd (wI (ww e) z) (vN _)
 have f:∀x c,X.env.cells.lookup x=some c->∀v,s.heap.IsCell c v->h'.IsCell c v:=by
  rintro x c e v ⟨o,C,L⟩;have h:c ∉ ch:=λz=>(g c z).2.2.1 x c e rfl
  by_cases O:c∈X.fs
  .obtain⟨sl,q⟩:=y c o (I.cne x c e) O h C (I.freeC x c e);exact⟨_,q,L⟩
  .exact⟨o,keep c o (I.cne x c e) O h C (I.freeC x c e),L⟩
 refine⟨I.ok,I.os,T,⟨λb o e n A a =>?_,λb o e n A a =>?_,λb o e n a =>?_,λb o e a =>?_,λb xs e=>tups b xs (I.base.tups b xs e),λb o xs e=>F b o xs (I.base.frzs b o xs e),λb ps e =>?_⟩,?_,λx c e =>?_,?_,λx c e =>?_,λp Q =>?_,M,I.len⟩
 .exact keep b o (G b o e) A (t b o e a) (I.base.keep b o e n A a) (I.base.free b o e n a)
 .obtain⟨sl,j⟩:=I.base.slot b o e n A a;obtain⟨N,E⟩:=y b _ (G b o e) A (t b o e a) j (I.base.free b o e n a);exact⟨N,E⟩
 .obtain⟨J,j⟩:=I.base.there b o e a;exact free b J (t b o e a) j (I.base.free b o e n a)
 .obtain⟨J,j⟩:=I.base.there b o e a;exact there b J (t b o e a) j
 .obtain⟨Y,j⟩:=I.base.tbls b ps e;obtain⟨Z,E⟩:=K b _ j;exact⟨Y++Z,by rw[E,Array.append_assoc]⟩
 .obtain⟨m,W,U⟩:=I.loc;refine⟨m,ns m W,λi x v j E S =>?_⟩;obtain⟨u,r,l⟩:=U i x v j E S;refine⟨u,r,?_⟩
  rcases l with l | ⟨k,c,e,z⟩
  .exact .inl l
  .exact .inr ⟨k,c,e,f x c e _ z⟩
 .obtain⟨v,z⟩:=I.cell x c e;exact⟨v,f x c e v z⟩
 .obtain⟨m,⟨o,_,_,C,_⟩,_⟩:=I.loc;exact free _ o (λz=>(g _ z).2.1 rfl) C I.free
 .obtain⟨v,o,C,L⟩:=I.cell x c e;exact free c o (λz=>(g c z).2.2.1 x c e rfl) C (I.freeC x c e)
 .obtain⟨e,n,ne,R,d⟩:=I.pin p Q;have h:p.1 ∉ ch:=λz=>(g p.1 z).2.2.2 p Q rfl;exact⟨keep p.1 p.2 ne R h e n,free p.1 p.2 h e n,ne,R,d⟩
def Inv.un {t':Nat}(I:Inv X pins σ H s)(u:Un X.fs [] H H' s.heap h')(h:HOk X.prog X.w H' h'):Inv X pins σ H' { s with heap:=h',toks:=t' }:=by
 obtain⟨m,⟨o,t,q,i,r⟩,_⟩:=id I.loc;obtain⟨sl,j⟩:=u.any i I.free (by simp);exact I.step (ch:=[]) (λ_ z=>nomatch z) (λb o _ g _ e n=>u.keep b o e n g (by simp)) (λb o _ g _ e n=>u.slot b o e n g (by simp)) (λb o _ e n=>u.free b o e n (by simp)) (λb o _ e=>u.there b o e (by simp)) u.tups u.frzs u.tbls (λx l=>by
  obtain⟨y,f,d,a,p⟩:=l;rw[i] at a;cases a;exact⟨_,f,d,j,p⟩) h I.bare
def Inv.call {t':Nat}(I:Inv X pins σ H s)(u:Un (frs X.stack) ch H H' s.heap h')(j:HOk X.prog X.w H' h')(t:AllBare g')
  (d:∀b∈ch,(b∈X.ex\/X.s₀.heap.objs.size<=b)/\b≠X.env.locals/\(∀x c,X.env.cells.lookup x=some c->c≠b)/\∀p∈X.pn++pins,p.1≠b):
  Inv X pins σ H' { s with heap:=h',gens:=g',drawn:=d',toks:=t' }:=by
 obtain⟨m,⟨o,E,C,l,r⟩,_⟩:=id I.loc;obtain⟨sl,i⟩:=u.any l I.free λz=>(d _ z).2.1 rfl;exact I.step d (λb o i q a e n=>u.keep b o e n (λz=>(wm.mp (I.stkSub b z)).elim i q) a) (λb o _ _ a e n=>u.any e n a) (λb o a e n=>u.free b o e n a) (λb o a e=>u.there b o e a) u.tups u.frzs u.tbls (λF y=>by
  obtain⟨G,h,g,f,A⟩:=y;rw[l] at f;cases f;exact⟨_,h,g,i,A⟩) j t
def Inv.turned {t':Nat}(I:Inv X pins σ H s)(k:∀b o,b≠it->s.heap.get? b=some o->h'.get? b=some o)(A:H it=none)(f:it≠X.env.locals)
  (i:it∈X.ex\/X.s₀.heap.objs.size<=it) (j:∀x c,X.env.cells.lookup x=some c->c≠it) (l:∀p∈X.pn++pins,p.1≠it):Inv X pins σ H { s with heap:=h',toks:=t' }:=by
 have d:∀b u,H b=some u->b≠it:=λb u e z=>by grind
 refine I.step (ch:=[it]) (λb t =>?_) (λb o _ _ a e _=>k b o (λz=>a (by simp[z])) e) (λb o _ _ a e _=>⟨o.slots,k b o (λz=>a (by simp[z])) e⟩) (λ_ _ _ _ n=>n)
  (λb o a e=>⟨o,k b o (λz=>a (by simp[z])) e⟩) (λ_ _ e=>e) (λ_ _ _ e=>e) (λb ps e=>⟨#[],by rw[e];simp⟩) (λm w =>?_) (λb u e =>?_) I.bare
 .have e  := by simpa using t
  subst e;exact⟨i,f,j,l⟩
 .obtain⟨o,h,g,y,r⟩:=w;exact⟨o,h,g,k _ o (vP f) y,r⟩
 .refine(I.hok b u e).stay (λc v a q=>k c v ?_ q) (λ_ q=>q) λ_ _ q=>q
  rcases a with z | z
  .rw[z];exact d b u e
  .exact d c _ z
def Inv.tok (I:Inv X pins σ H s)(t:Nat):Inv X pins σ H { s with toks:=t }:=I.un Un.refl I.hok
theorem Inv.kept (I:Inv X pins σ H s)(k:∀b u,s.heap.get? b=some u->h'.get? b=some u):Inv X pins σ H { s with heap:=h',toks:=t' }:=I.un (Un.kept k) (I.hok.kept k)
theorem Inv.laid {a:Addr}{o:HO}{t':Nat}(I:Inv X pins σ H s)(k:∀b u,s.heap.get? b=some u->h'.get? b=some u)(d:s.heap.objs.size<=a)(new:z1G X.prog X.w (upd H a o) h' a o):
  Inv X pins σ (upd H a o) { s with heap:=h',toks:=t' }:=I.un (Un.laid k d (I.hok.fresh d)) (I.hok.laid k d new)
theorem Inv.write (I:Inv X pins σ H s)(f:Mut (H x))(d:e=x\/H e=some (.own x))(k:∀b u,b≠e->s.heap.get? b=some u->h'.get? b=some u)(a:∃u,h'.get? e=some u)
  (new:z1G X.prog X.w (upd H x o) h' x o):Inv X pins σ (upd H x o) { s with heap:=h',toks:=t' }:=I.un (Un.write f d k a) (I.hok.write f d k a new)
def Inv.pins_of (I:Inv X pins σ H s)(h:∀p∈pins',s.heap.get? p.1=some p.2/\H p.1=none/\p.1≠X.env.locals/\p.1 ∉ X.fs/\∀v,p.2.data ≠ .cell v):Inv X pins' σ H s:=
 ⟨I.ok,I.os,I.bare,I.base,I.loc,I.cell,I.free,I.freeC,λp a=>(wG.mp a).elim (λz=>I.pin p (vE _ z)) (h p),I.hok,I.len⟩
def zan {N:List Str}(f:N.Nodup){i j:Nat}{x:Str}(a:N[i]? = some x)(b:N[j]? = some x):i=j:=by
 obtain⟨g,d⟩:=wt.mp a;obtain⟨h,e⟩:=wt.mp b;exact(List.getElem_inj f).mp (d.trans e.symm)
def z80 {E:WvP}{i:Nat}{x:Str}{v:V}{Q:Unit->Shared->Prop}(I:Inv X pins σ H s)(hN:X.N.Nodup)(W:X.N[i]? = some x)(C:Loc X.env.scope x)(r:RelV v u)
  (h:∀s',Inv X pins (σ.set i (some v)) H s'->(∃a,Heap.SameBut a s.heap s'.heap/\(a=X.env.locals\/X.env.cells.lookup x=some a))->Q () s') (hf:autoParam (X.fn x=true\/X.env.scope.names.lookup x=some .local) jD1):wpAny M A (storeName X.env x u) Q E s:=by
 obtain⟨m,hn,hl⟩:=id I.loc;have U:(X.env.scope.kind == .class || (X.env.scope.kind == .module && X.env.locals != X.env.globals))=false:=by rw[I.ok.kind];rfl
 have J:i < σ.length:=by rw[I.len];exact(wt.mp W).1
 have cne:=I.cne;have l:∀{a:Addr}{h':Heap},(∃o,s.heap.get? a=some o/\H a=none)->Heap.SameBut a s.heap h'->HOk X.prog X.w H h':=λ{a h'} ha f b ob e=>by
  obtain⟨_,_,F⟩:=ha;refine(I.hok b ob e).stay (λc w' t q=>(f.2 c ?_).trans q) (λ_ q=>q) λ_ _ q=>q;rintro rfl
  rcases t with rfl | t
  .rw[F] at e;cases e
  .rw[F] at t;cases t
 rcases C with K | K
 .refine wpAny_storeName_local K hn (λh' a0 f =>?_) U;obtain⟨oL,_,_,a1,_⟩:=id hn;refine h _ ⟨I.ok,I.os,I.bare,⟨λb o e n L C =>?_,λb o e n L C =>?_,I.base.free,λb o e C =>?_,I.base.tups,I.base.frzs,I.base.tbls⟩,⟨_,a0,λj y v' g G e3 =>?_⟩,λy c e =>?_,I.free,I.freeC,λp hp =>?_,l ⟨oL,a1,I.free⟩ f,by simpa using I.len⟩ ⟨_,f,.inl rfl⟩
  .exact(f.2 b (wJ (wI (ww e) I.ok.above))).trans (I.base.keep b o e n L C)
  .obtain⟨sl,g⟩:=I.base.slot b o e n L C;exact⟨sl,(f.2 b (wJ (wI (ww e) I.ok.above))).trans g⟩
  .obtain⟨o',g⟩:=I.base.there b o e C;exact⟨o',(f.2 b (wJ (wI (ww e) I.ok.above))).trans g⟩
  .by_cases R:j=i
   .subst R;rw[W] at g;cases g;rw[wL J] at G
    cases G
    exact⟨u,r,.inl ⟨K,by simp⟩⟩
   .rw[wF (vP R)] at G;obtain⟨u',r',q⟩:=hl j y v' g G e3;refine⟨u',r',?_⟩
    rcases q with ⟨k,e⟩ | ⟨k,c,e,z⟩
    .refine .inl ⟨k,?_⟩;have:y≠x:=λe=>R (zan hN g (e ▸ W));simp[this,e]
    .exact .inr ⟨k,c,e,z.sameBut f (cne y c e)⟩
  .obtain⟨w',z⟩:=I.cell y c e;exact⟨w',z.sameBut f (cne y c e)⟩
  .obtain⟨e,n,ne,nf,d⟩:=I.pin p hp;exact⟨(f.2 p.1 ne).trans e,n,ne,nf,d⟩
 .have O:X.fn x=true:=by
   rcases hf with z | z
   .exact z
   .rw[z] at K;cases K
  obtain⟨c,t⟩:=I.ok.has x (.inl K);obtain⟨w',z⟩:=I.cell x c t;refine wpAny_storeName_cell I.ok.kind K t z (λh' S f =>?_);obtain⟨oc,Y,Z⟩:=id z;refine h { s with heap:=h' } ⟨I.ok,I.os,I.bare,⟨λb o e n L C =>?_,λb o e n L C =>?_,I.base.free,λb o e C =>?_,I.base.tups,I.base.frzs,I.base.tbls⟩,⟨m,hn.sameBut f (vP (cne x c t)),λj y v' g G e3 =>?_⟩,λy c' e =>?_,I.free,I.freeC,λp hp =>?_,l ⟨oc,Y,I.freeC x c t⟩ f,by simpa using I.len⟩ ⟨c,f,.inr t⟩
  .exact(f.2 b (wJ (wI (ww e) (I.ok.cab x c O t)))).trans (I.base.keep b o e n L C)
  .obtain⟨sl,g⟩:=I.base.slot b o e n L C;exact⟨sl,(f.2 b (wJ (wI (ww e) (I.ok.cab x c O t)))).trans g⟩
  .obtain⟨o',g⟩:=I.base.there b o e C;exact⟨o',(f.2 b (wJ (wI (ww e) (I.ok.cab x c O t)))).trans g⟩
  .by_cases R:j=i
   .subst R;rw[W] at g;cases g;rw[wL J] at G
    cases G
    exact⟨u,r,.inr ⟨.inl K,c,t,S⟩⟩
   .rw[wF (vP R)] at G;obtain⟨u',r',q⟩:=hl j y v' g G e3;refine⟨u',r',?_⟩
    rcases q with q | ⟨k,c',e,z'⟩
    .exact .inl q
    .refine .inr ⟨k,c',e,z'.sameBut f ?_⟩;rintro rfl;exact R (zan hN g (I.ok.inj _ _ _ e t ▸ W))
  .by_cases T:c'=c
   .subst T;exact⟨_,S⟩
   .obtain⟨w2,z2⟩:=I.cell y c' e;exact⟨w2,z2.sameBut f T⟩
  .obtain⟨e,n,ne,nf,d⟩:=I.pin p hp;refine⟨(f.2 p.1 ?_).trans e,n,ne,nf,d⟩;intro q;rw[q,Y] at e;have q':oc=p.2:=w5 e;exact d w' (by rw[<- q'];exact Z)
def za4 {v:V}(I:Inv X pins σ H s)(b:X.N.Nodup)(e:X.N[i]? = some x)(f:Loc X.env.scope x)(r:RelV v u)
  (h:∀s',Inv X pins (σ.set i (some v)) H s'->Q () s') (d:autoParam (X.fn x=true\/X.env.scope.names.lookup x=some .local) jD1):wpAny M A (storeName X.env x u) Q E s:=
 z80 I b e f r (λs' a _=>h s' a) d
def Inv.call' (I:Inv X pins σ H s)(g:s'.os=s.os)(u:Un (frs X.stack) ch H H' s.heap s'.heap)(d:HOk X.prog X.w H' s'.heap)(f:AllBare s'.gens)
  (a:∀b∈ch,(b∈X.ex\/X.s₀.heap.objs.size<=b)/\b≠X.env.locals/\(∀x c,X.env.cells.lookup x=some c->c≠b)/\∀p∈X.pn++pins,p.1≠b):Inv X pins σ H' s':=by
 obtain⟨j,i,h,m,l⟩:=s';have e  := g;subst e;exact I.call u d f a
end
abbrev XK:=Value->Option Addr->Hp->Prop
abbrev St:=List (Option V)
abbrev VK:=V->Hp->Prop
abbrev TE:=St->Hp->VK->Prop
abbrev TT:=St->Hp->(Bool->Hp->Prop)->Prop
abbrev TA:=St->Hp->(List V->Hp->Prop)->Prop
structure Ends where
 nx:St->Hp->Prop
 rt:VK
 bk:St->Hp->Prop:=λ_ _=>False
 ct:St->Hp->Prop:=λ_ _=>False
abbrev TS:=Ends->St->Hp->Prop
def EP (X:Cx)(a:List (Addr × Obj))(d:St)(Q:VK)(u:Value)(s':Shared):Prop:=∃v b,Inv X a d b s'/\RelV v u/\Q v b
def TP (X:Cx)(a:List (Addr × Obj))(e:St)(Q:Bool->Hp->Prop)(b:Bool)(s':Shared):Prop:=∃d,Inv X a e d s'/\Q b d
def AP (X:Cx)(a:List (Addr × Obj))(e:St)(Q:List V->Hp->Prop)(d:List Value)(s':Shared):Prop:=∃vs b,Inv X a e b s'/\Vals vs d/\Q vs b
def SP (X:Cx)(b:List (Addr × Obj))(D:Ends)(f:Flow)(s':Shared):Prop:=
 match f with
 | .next=>∃a d,Inv X b a d s'/\D.nx a d
 | .brk=>∃a d,Inv X b a d s'/\D.bk a d
 | .cont=>∃a d,Inv X b a d s'/\D.ct a d
 | .ret u=>∃v a d,Inv X b a d s'/\RelV v u/\D.rt v d
def PE (X:Cx)(e:Expr)(t:TE):Prop:=
 ∀a s (b:St) H Q,Inv X a b H s->t b H Q->wpAny (model X.prog X.w) X.A (eval e X.env) (EP X a b Q) X.xe s
def PT (X:Cx)(e:Expr)(t:TT):Prop:=
 ∀a s (b:St) H Q,Inv X a b H s->t b H Q->wpAny (model X.prog X.w) X.A (isTrue e X.env (eval e X.env)) (TP X a b Q) X.xe s
def PW (X:Cx)(e:Expr)(t:TT):Prop:=
 ∀b a s (d:St) H Q,Inv X a d H s->t d H Q->wpAny (model X.prog X.w) X.A (isTrue e X.env b) (TP X a d Q) X.xe s
def PW.pt {X:Cx}{e:Expr}{t:TT}(h:PW X e t):PT X e t:=h _
def PA (X:Cx)(es:List Expr)(t:TA):Prop:=
 ∀b a s (d:St) H Q,Inv X a d H s->t d H Q->wpAny (model X.prog X.w) X.A (spliced (backTo b (starEach es X.env))) (AP X a d Q) X.xe s
def PS (X:Cx)(st:Stmt)(t:TS):Prop:=
 ∀a s (b:St) H D,Inv X a b H s->t D b H->wpAny (model X.prog X.w) X.A (exec st X.env) (SP X a D) X.xe s
def PSs (X:Cx)(st:List Stmt)(t:TS):Prop:=
 ∀a s (b:St) H D,Inv X a b H s->t D b H->wpAny (model X.prog X.w) X.A (execs st X.env) (SP X a D) X.xe s
def thn {b:Type}{t:Sem b}{Q Q':b->Shared->Prop}{M:Model}{A:Around}{E:WvP}{s:Shared}(h:wpAny M A t Q E s)(d:∀a s,Q a s->Q' a s):wpAny M A t Q' E s:=vQ h d λ_ _ x=>x
section
variable {X:Cx}
def tVar (i:Nat):TE:=λa H Q=>∃v,a[i]? = some (some v)/\Q v H
def tC (v:V):TE:=λ_ H Q=>Q v H
def zgq {g:Pos}(o:X.N[i]? = some x)(w:Vis X.env.scope x)(f:autoParam (dB x) jB1)(d:autoParam ((x == ("__classdict__"))=false) jB1):PE X (.Name x g) (tVar i):=by
 intro n s y H Q I h;obtain⟨v,e,h⟩:=h;obtain⟨m,t,p⟩:=I.loc;obtain⟨u,r,l⟩:=p i x v o e w;have fin:EP X _ y Q u s:=⟨v,H,I,r,h⟩
 rcases l with ⟨b,q⟩ | ⟨b,c,j,a⟩
 .exact wpAny_Name (wpAny_loadName_local I.ok.kind b t q fin) f
 .rcases b with b | b
  .exact wpAny_Name (wpAny_loadName_cell I.ok.kind b j a fin) f
  .exact wpAny_Name (wpAny_loadName_free I.ok.kind b j a fin d) f
def zkK {i j a}:PE X (.Constant (.int i) j a) (tC (.int i)):=λ_ _ _ H _ I h=>wpAny_Constant_int ⟨.int i,H,I.tok _,⟨_,rfl⟩,h⟩
def zn4 {b j a}:PE X (.Constant (.bool b) j a) (tC (.bl b)):=λ_ _ _ H _ I h=>Constant_bool ⟨.bl b,H,I,rfl,h⟩
def zkH {j a}:PE X (.Constant .none j a) (tC .non):=λ_ _ _ H _ I h=>Constant_none ⟨.non,H,I,rfl,h⟩
def zkE {x j a}:PE X (.Constant (.str x) j a) (tC (.str x)):=λ_ _ _ H _ I h=>Calls.Constant_str ⟨.str x,H,I.tok _,⟨_,rfl⟩,h⟩
def Gl (X:Cx)(x:Str):Prop:=X.env.kindOf x=some .globalImplicit
def zd6 {a:Pos}(I:Inv X pins σ H s)(d:Gl X x)(e:X.mg x=some u)(h:Q u s)
  (b:autoParam (dB x) jB1):wpAny (model X.prog X.w) X.A (eval (.Name x a) X.env) Q E s:=
 Calls.Name_function_global I.ok.kind d (Calls.loadGlobal_global (by rw[I.ok.glob];exact I.mod.glob.keeps I.bk) e h) b
def z8z {a:Pos}(I:Inv X pins σ H s)(f:Gl X x)(g:X.mg x=none)(j:bootBuiltins x=some u)(h:Q u s)
  (i:autoParam (x≠"__name__") jB1) (e:autoParam (dB x) jB1):wpAny (model X.prog X.w) X.A (eval (.Name x a) X.env) Q E s:=by
 obtain⟨l,b,d⟩:=I.mod.blt;exact Calls.Name_function_global I.ok.kind f (Calls.loadGlobal_builtin (by rw[I.ok.glob];exact I.mod.glob.keeps I.bk) g (by rw[I.ok.blt];exact b.keeps I.bk) ((d x i).trans j) h) e
def zcD {v:V}{a:Pos}(d:Gl X x)(e:X.mg x=some u)(r:RelV v u)(b:autoParam (dB x) jB1):PE X (.Name x a) (tC v):=
 λ_ _ _ H _ I h=>zd6 I d e ⟨v,H,I,r,h⟩ b
def zhW {v:V}{a:Pos}(d:Gl X x)(e:X.mg x=none)(g:bootBuiltins x=some u)(r:RelV v u)(f:autoParam (x≠"__name__") jB1)(b:autoParam (dB x) jB1):PE X (.Name x a) (tC v):=
 λ_ _ _ H _ I h=>z8z I d e g ⟨v,H,I,r,h⟩ f b
variable {a b:Expr}{ta tb:TE}{pos:Pos}
def tB (t:TE):TT:=λb H Q=>t b H λx a=>∃c,x = .bl c/\Q c a
def zkr {t:TE}(h:PE X e t)(i:autoParam (∀a,isTrue e X.env a=(do let v <- a;standAt e.pos;holding [v] (truthy v))) jC1):PT X e (tB t):=by
 intro b s n H Q I j;refine isTrue_plain (thn (h _ s n H _ I j) λv o m =>?_) (i _);obtain⟨x,f,g,r1,l⟩:=m;obtain⟨d,rfl,q⟩:=l
 cases r1
 exact uG ⟨f,g,q⟩
variable {tA tB':TT}{rest:List Expr}
def tAnd (t u:TT):TT:=λb H Q=>t b H λc a=>if c=true then u b a Q else Q false a
def tOr (t u:TT):TT:=λb H Q=>t b H λc a=>if c=true then Q true a else u b a Q
def tNot (t:TT):TT:=λb H Q=>t b H λc a=>Q (!c) a
def zhH (d:PT X a tA):PW X (.BoolOp .And [a] pos) tA:=by
 intro wh b s f H Q I h;refine isTrue_and (thn (d _ s f H Q I h) λc g e =>?_)
 cases c with
 | true=>exact isTrue_and_nil e
 | false=>exact e
def zkp (d:PT X a tA):PW X (.BoolOp .Or [a] pos) tA:=by
 intro wh b s f H Q I h;refine isTrue_or (thn (d _ s f H Q I h) λc g e =>?_)
 cases c with
 | false=>exact isTrue_or_nil e
 | true=>exact e
def zkq (j:PT X a tA)(l:PW X (.BoolOp .And (b::rest) pos) tB'):PW X (.BoolOp .And (a::b::rest) pos) (tAnd tA tB'):=by
 intro wh f s i H Q I h;refine isTrue_and (thn (j _ s i H _ I h) λc m n =>?_);obtain⟨d,e,g⟩:=n
 cases c with
 | true=>exact l wh _ m i d Q e g
 | false=>exact⟨d,e,g⟩
def zmW (j:PT X a tA)(l:PW X (.BoolOp .Or (b::rest) pos) tB'):PW X (.BoolOp .Or (a::b::rest) pos) (tOr tA tB'):=by
 intro wh f s i H Q I h;refine isTrue_or (thn (j _ s i H _ I h) λc m n =>?_);obtain⟨d,e,g⟩:=n
 cases c with
 | true=>exact⟨d,e,g⟩
 | false=>exact l wh _ m i d Q e g
def zks (d:PT X a tA):PT X (.UnaryOp .Not a pos) (tNot tA):=by
 intro b s e H Q I h;exact isTrue_not (d _ s e H _ I h)
def zjh (d e:TE):TE:=λb H Q=>d b H λx a=>∃c,x = .bl c/\if c=true then e b a Q else Q (.bl false) a
def tOrV (d e:TE):TE:=λb H Q=>d b H λx a=>∃c,x = .bl c/\if c=true then Q (.bl true) a else e b a Q
def zja (b:TE):TE:=λd H Q=>b d H λx a=>∃c,x = .bl c/\Q (.bl (!c)) a
def zkF {op}{t:TE}(h:PE X a t):PE X (.BoolOp op [a] pos) t:=λb s e H Q I d=>BoolOp_one (h _ s e H Q I d)
def zkM (j:PE X a ta)(l:PE X (.BoolOp .And (b::rest) pos) tb):PE X (.BoolOp .And (a::b::rest) pos) (zjh ta tb):=by
 intro g s i H Q I h;refine BoolOp_and (thn (j _ s i H _ I h) λv m n =>?_);obtain⟨x,e,f,r1,d⟩:=n;obtain⟨c,rfl,d⟩:=d
 cases r1
 refine uG ?_
 cases c with
 | true=>exact l _ m i e Q f d
 | false=>exact⟨.bl _,e,f,rfl,d⟩
def zmZ (j:PE X a ta)(l:PE X (.BoolOp .Or (b::rest) pos) tb):PE X (.BoolOp .Or (a::b::rest) pos) (tOrV ta tb):=by
 intro g s i H Q I h;refine BoolOp_or (thn (j _ s i H _ I h) λv m n =>?_);obtain⟨x,e,f,r1,d⟩:=n;obtain⟨c,rfl,d⟩:=d
 cases r1
 refine uG ?_
 cases c with
 | false=>exact l _ m i e Q f d
 | true=>exact⟨.bl _,e,f,rfl,d⟩
def zkG (g:PE X a ta):PE X (.UnaryOp .Not a pos) (zja ta):=by
 intro d s j H Q I h;refine UnaryOp_ (thn (g _ s j H _ I h) λv l i =>?_);obtain⟨x,e,f,r1,b⟩:=i;obtain⟨c,rfl,b⟩:=b
 cases r1
 exact not_of (uG ⟨.bl _,e,f,rfl,b⟩)
end
def SqL (K:W.Frag)(H:Hp)(a:Addr)(xs:List V):Prop:=
 Rd H a (.lst xs)\/
  ∃(o:Obj) (b:Array Value) (n:Nat),K.lookup a=some o/\o.cls = .type "list"/\o.dict=none/\o.data = .seq b n/\b.size<=sizeLine/\Vals xs b.toList
def SqT (K:W.Frag)(H:Hp)(a:Addr)(xs:List V):Prop:=
 Rd H a (.tup xs)\/
  ∃(o:Obj) (b:Array Value) (n:Nat),K.lookup a=some o/\o.cls = .type "tuple"/\o.data = .seq b n/\b.size<=sizeLine/\Vals xs b.toList/\o.dict=none
noncomputable def absV:Value->Option V
 | .none=>some .non
 | .bool b=>some (.bl b)
 | .int i _=>some (.int i)
 | .str x _=>some (.str x)
 | .bytes b _=>some (.byt b)
 | .float b _=>some (.flt b)
 | .ref a=>some (.ref a)
 | .type n=>some (.ty n)
 | _=>none
def RelV.abs (r:RelV x u):absV u=some x:=by
 cases x with
 | non=>cases r;rfl
 | bl _=>cases r;rfl
 | int _=>obtain⟨t,rfl⟩:=r;rfl
 | str _=>obtain⟨t,rfl⟩:=r;rfl
 | byt _=>obtain⟨t,rfl⟩:=r;rfl
 | flt _=>obtain⟨t,rfl⟩:=r;rfl
 | ref _=>cases r;rfl
 | ty _=>cases r;rfl
def RelV.inj {x y:V}{u:Value}(r:RelV x u)(q:RelV y u):x=y:=w5 (r.abs.symm.trans q.abs)
theorem Vals.inj:∀{xs ys:List V}{a:List Value},Vals xs a->Vals ys a->xs=ys
 | _,_,_,.nil,.nil=>rfl
 | _,_,_,.cons r t,.cons b d=>by rw[r.inj b,Vals.inj t d]
section
variable {X:Cx}{pins:List (Addr × Obj)}{σ:St}{H:Hp}{s:Shared}{a:Addr}{xs ys:List V}
def SqL.of {K:W.Frag}(h:H a=some (.lst xs)):SqL K H a xs :=.inl (.inl h)
def SqT.of {K:W.Frag}(h:H a=some (.tup xs)):SqT K H a xs :=.inl (.inl h)
def Inv.list (I:Inv X pins σ H s)(h:SqL X.K H a xs):∃b,Vals xs b/\PlainL s.heap a b.toArray/\xs.length<=sizeLine:=by
 rcases h with h | ⟨o,b,n,g,d,f,i,j,r⟩
 .obtain⟨z,b,n,r,e⟩:=h.ok I.hok;exact⟨b,r,⟨_,n,e,rfl,rfl,rfl⟩,z⟩
 .refine⟨b.toList,r,⟨o,n,I.kIn a o g,d,f,by simpa using i⟩,?_⟩;have e:=r.length
  simp_all
def Inv.tuple (I:Inv X pins σ H s)(h:SqT X.K H a xs):∃b,Vals xs b/\IsTup s.heap a b.toArray/\xs.length<=sizeLine:=by
 rcases h with h | ⟨o,b,n,f,d,g,i,r,_⟩
 .obtain⟨z,b,r,p,_⟩:=h.ok I.hok;exact⟨b,r,p,z⟩
 .refine⟨b.toList,r,⟨o,I.kIn a o f,d,n,by simpa using g⟩,?_⟩;have e:=r.length
  simp_all
def Inv.tupNoD (I:Inv X pins σ H s)(h:SqT X.K H a xs):NoD s.heap a:=by
 rcases h with h | ⟨o,e,n,d,f,g,i,r,b⟩
 .exact(h.ok I.hok).2.choose_spec.2.2
 .exact⟨o,I.kIn a o d,b⟩
def Inv.list_inj (I:Inv X pins σ H s)(h:SqL X.K H a xs)(g:SqL X.K H a ys):xs=ys:=by
 obtain⟨b,r,⟨o,n,e,_,_,d⟩,_⟩:=I.list h;obtain⟨its',i,⟨m,l,f,_,_,j⟩,_⟩:=I.list g;rw[e] at f;have:b=its':=by simp_all
 subst this;exact r.inj i
def Inv.tuple_inj (I:Inv X pins σ H s)(h:SqT X.K H a xs)(g:SqT X.K H a ys):xs=ys:=by
 obtain⟨b,r,⟨o,e,_,n,d⟩,_⟩:=I.tuple h;obtain⟨its',i,⟨m,f,_,l,j⟩,_⟩:=I.tuple g;rw[e] at f;have:b=its':=by simp_all
 subst this;exact r.inj i
end
noncomputable abbrev Cx.wish (X:Cx)(E:WvP):Cx:={ X with xe:=E }
abbrev Cx.nox (X:Cx):Cx:=X.wish λ_ _=>False
theorem Cx.Ok.wish {X:Cx}(ok:X.Ok)(E:WvP):(X.wish E).Ok:=
 ⟨ok.mod,ok.kind,ok.glob,ok.blt,ok.above,ok.inj,ok.has,ok.cab,ok.hd,ok.frames,ok.stk,ok.exf,ok.bs,ok.bsz,ok.noex,ok.exfs,ok.funs,ok.frf,ok.tbs⟩
def Cx.Ok.unwish {X:Cx}{E:WvP}(ok:(X.wish E).Ok):X.Ok:=
 ⟨ok.mod,ok.kind,ok.glob,ok.blt,ok.above,ok.inj,ok.has,ok.cab,ok.hd,ok.frames,ok.stk,ok.exf,ok.bs,ok.bsz,ok.noex,ok.exfs,ok.funs,ok.frf,ok.tbs⟩
section
variable {X:Cx}{pins:List (Addr × Obj)}{σ:St}{H:Hp}{s:Shared}{E:WvP}
theorem Inv.wish (I:Inv X pins σ H s)(E:WvP):Inv (X.wish E) pins σ H s:=⟨I.ok.wish E,I.os,I.bare,I.base,I.loc,I.cell,I.free,I.freeC,I.pin,I.hok,I.len⟩
theorem Inv.unwish (I:Inv (X.wish E) pins σ H s):Inv X pins σ H s:=⟨I.ok.unwish,I.os,I.bare,I.base,I.loc,I.cell,I.free,I.freeC,I.pin,I.hok,I.len⟩
theorem SP.unwish {D:Ends}{f:Flow}{s':Shared}(h:SP (X.wish E) pins D f s'):SP X pins D f s':=by
 cases f with
 | next=>obtain⟨a,b,I,q⟩:=h;exact⟨a,b,I.unwish,q⟩
 | brk=>obtain⟨a,b,I,q⟩:=h;exact⟨a,b,I.unwish,q⟩
 | cont=>obtain⟨a,b,I,q⟩:=h;exact⟨a,b,I.unwish,q⟩
 | ret u=>obtain⟨v,a,b,I,r,q⟩:=h;exact⟨v,a,b,I.unwish,r,q⟩
theorem PSs.nox {st:List Stmt}{t:TS}(h:PSs X.nox st t):PSs X st t:=λa s d H D I b=>
 vQ (h _ s d H D (I.wish _) b) (λ_ _ q=>q.unwish) λ_ _ z=>False.elim z
end
section
variable {X:Cx}{st:Stmt}{rest:List Stmt}{t u:TS}{e:Expr}{te:TE}{pos:Pos}
def zjb:TS:=λD a H=>D.nx a H
def tSeq (t u:TS):TS:=λD a H=>t { D with nx:=u D } a H
def zhM:PSs X [] zjb:=λ_ _ a H _ I h=>wpAny_execs_nil ⟨a,H,I,h⟩
def zeU (g:PS X st t)(i:PSs X rest u):PSs X (st::rest) (tSeq t u):=by
 intro b s l H D I h;refine wpAny_execs_cons (thn (g _ s l H _ I h) λf j q =>?_)
 cases f with
 | next=>
  obtain⟨a,d,e,q⟩:=q;exact i _ j a d D e q
 | ret v=>exact q
 | brk=>exact q
 | cont=>exact q
def zhL (b:PS X st t):PSs X [st] t:=by
 intro a s d H D I h;refine wpAny_execs_cons (thn (b _ s d H D I h) λf e q =>?_)
 cases f with
 | next=>exact wpAny_execs_nil q
 | ret v=>exact q
 | brk=>exact q
 | cont=>exact q
def Inv.quiet {a:List (Addr × Obj)}{b:St}{H:Hp}{s:Shared}(I:Inv X a b H s):interactive X.env=false:=by simp[interactive,I.ok.kind]
def zjc (d:TE):TS:=λD a H=>d a H λ_ b=>D.nx a b
def zhN (g:PE X e te)(i:autoParam (swapsWith e none pos.line X.env=pure false) jA1):PS X (.Expr e pos) (zjc te):=by
 intro a s b H D I h;exact wpAny_Expr_any (thn (g _ s b H _ I h) λv l ⟨x,d,f,r1,j⟩=>⟨b,d,f,j⟩) I.quiet i
def tRet (a:TE):TS:=λD b H=>a b H D.rt
def zkv (g:PE X e te):PS X (.Return (some e) pos) (tRet te):=by
 intro a s b H D I h;exact wpAny_Return_some (thn (g _ s b H _ I h) λv j ⟨x,d,f,r1,i⟩=>⟨x,b,d,f,r1,i⟩)
def tIfS (c:TT)(t u:TS):TS:=λD a H=>c a H λb d=>if b=true then t D a d else u D a d
def zmX {c:Expr}(o:PT X c tc)(m:PSs X a t)(n:PSs X b u):PS X (.If c a b pos) (tIfS tc t u):=by
 intro i s e H D I h;refine wpAny_If (thn (o _ s e H _ I h) λd l p =>?_);obtain⟨f,g,j⟩:=p
 cases d with
 | true=>exact m _ l e f D g j
 | false=>exact n _ l e f D g j
def zg5:TS:=λ_ _ _=>False
def zeW:PS X st zg5:=λ_ _ _ _ _ _ h=>h.elim
end
abbrev TG:=V->St->Hp->(St->Hp->Prop)->Prop
abbrev TGs:=List V->St->Hp->(St->Hp->Prop)->Prop
def PG (X:Cx)(a:Expr)(t:TG):Prop:=
 ∀b s (f:St) H v u Q,Inv X b f H s->RelV v u->t v f H Q->
  wpAny (model X.prog X.w) X.A (assign a X.env u) (λ_ g=>∃d e,Inv X b d e g/\Q d e) X.xe s
def PGs (X:Cx)(ts:List Expr)(t:TGs):Prop:=
 ∀a s (f:St) H vs e Q,Inv X a f H s->Vals vs e->t vs f H Q->
  wpAny (model X.prog X.w) X.A (assignInOrder ((assignEach ts X.env).map (·.2)) e) (λ_ g=>∃b d,Inv X a b d g/\Q b d) X.xe s
abbrev TSet:=V->V->V->Hp->(Hp->Prop)->Prop
def PSet (X:Cx)(t:TSet):Prop:=
 ∀a s (f:St) H o i v e d u Q,Inv X a f H s->RelV o e->RelV i d->RelV v u->t o i v H Q->
  wpAny (model X.prog X.w) X.A (setItem e d u) (λ_ g=>∃b,Inv X a f b g/\Q b) X.xe s
section
variable {X:Cx}{pos:Pos}
def z30 (i:Nat):TG:=λv a H Q=>Q (a.set i (some v)) H
def zcC (d:X.N.Nodup)(f:X.N[i]? = some x)(g:Loc X.env.scope x)(e:autoParam (X.fn x=true\/X.env.scope.names.lookup x=some .local) jD1):PG X (.Name x pos) (z30 i):=by
 intro a s l H v u Q I r h;exact wpAny_assign_Name (za4 I d f g r (λj b=>⟨_,H,b,h⟩) e)
def gNil:TGs:=λvs a H Q=>vs=[]/\Q a H
def zfB (t:TG)(u:TGs):TGs:=λvs d H Q=>∃v r,vs=v::r/\t v d H λa b=>u r a b Q
def zhT:PGs X [] gNil:=by
 intro a s b H vs d Q I r h;obtain⟨e,h⟩:=h;subst e;exact assignInOrder_nil ⟨b,H,I,h⟩
def zeY {t:TG}(i:PG X e t)(j:PGs X es u)
  (l:autoParam ((assignEach (e::es) X.env).map (·.2)=assign e X.env::(assignEach es X.env).map (·.2)) jA1):PGs X (e::es) (zfB t u):=by
 intro b s q H vs w Q I r h;obtain⟨v,x,g,h⟩:=h;subst g
 cases r with
 | cons r n=>
  rw[l];refine assignInOrder_cons (thn (i _ s q H _ _ _ I r h) λ_ o p =>?_);obtain⟨a,d,f,m⟩:=p;exact j _ o a d _ _ Q f n m
def gTup (K:W.Frag)(n:Nat)(t:TGs):TG:=λv d H Q=>∃a b,v = .ref a/\SqT K H a b/\b.length=n/\t b d H Q
def zkB {k:Nat}{t:TGs}(m:X.calm=true)(h:PGs X es t)
  (q:autoParam ((assignEach es X.env).length=n) jA1) (d:autoParam ((assignEach es X.env).findIdx? (·.1)=none) jA1):PG X (.Tuple es k pos) (gTup X.K n t):=by
 intro g s C H v u Q I r f;obtain⟨a,A,l,w,p,f⟩:=f;subst l
 cases r
 obtain⟨z,i,x,F⟩:=I.tuple w;refine assign_Tuple_tuple (I.ok.hd m) x (by simp[q, <- p,i.length]) d λE y =>?_;have j  := I.kept (t':=s.toks) λb o e=>y b o (wJ (ww e)) e;exact h _ _ C H A _ Q j (by simpa using i) f
def gSub (f ti:TE)(t:TSet):TG:=λv a H Q=>f a H λo b=>ti a b λi d=>t o i v d λe=>Q a e
def zkC {g ti:TE}{t:TSet}(A:PE X o g)(z:PE X i ti)(C:PSet X t)
  (w:autoParam (∀v,assign (.Subscript o i pos) X.env v=(do
   let a <- holding [v] (eval o X.env)
   let b <- holding [v,a] (eval i X.env)
   standAt pos
   holding [v,a,b] (setItem a b v)
   release [v,a,b] [])) jC1):PG X (.Subscript o i pos) (gSub g ti t):=by
 intro f s e H v u Q I r h;rw[w];refine wc (ua (thn (A _ s e H _ I h) λa J d =>?_));obtain⟨x,j,n,r1,E⟩:=d;refine wc (ua (thn (z _ J e j _ n E) λb K d =>?_));obtain⟨y,l,p,r2,F⟩:=d;refine wc (wpAny_standAt (wc (ua (thn (C _ K e l x y v a b u _ p r1 r2 r F) λ_ L d =>?_))));obtain⟨m,q,G⟩:=d;exact wpAny_release ⟨e,m,q,G⟩
def tAsg (d:TE)(g:TG):TS:=λD a H=>d a H λx b=>g x a b D.nx
def zky (j:PE X e te)(l:PG X tg g)(m:autoParam (swapsWithSole [tg] e pos.line X.env=pure false) jA1)(n:autoParam (swappedStores [tg] e X.env=pure none) jA1)
  (i:autoParam ((assignEach [tg] X.env).map (·.2)=[assign tg X.env]) jA1):PS X (.Assign [tg] e pos) (tAsg te g):=by
 intro a s b H D I h;refine wpAny_Assign_stores (thn (j _ s b H _ I h) λv p r =>?_) m n;obtain⟨x,d,f,r1,o⟩:=r;rw[i];exact thn (l _ p b d x v _ f r1 o) λ_ t q=>q
def zku {i:Nat}{x:Str}(g:X.N.Nodup)(m:X.N[i]? = some x)(o:Loc X.env.scope x)(j:PE X e te)(n:autoParam (swapsWith e (some (.Name x pos')) pos.line X.env=pure false) jA1)(l:autoParam (X.fn x=true\/X.env.scope.names.lookup x=some .local) jD1):
  PS X (.Assign [.Name x pos'] e pos) (tAsg te (z30 i)):=by
 intro a s r H D I h;refine wpAny_Assign_Name (thn (j _ s r H _ I h) λv t q =>?_) n;obtain⟨y,b,d,r1,p⟩:=q;exact za4 d g m o r1 (λu f=>⟨_,b,f,p⟩) l
def zg4 (c:TT)(h:TS):TS:=λD a H=>∃W:Nat->St->Hp->Prop,(∃m,W m a H)/\∀m a H,W m a H->
 c a H λb f=>if b=true then ∃N,(∀d e,N d e->∃g,g<m/\W g d e)/\h { D with nx:=N,ct:=N,bk:=D.nx } a f else D.nx a f
def zeV {c:Expr}(C:PassesOwn (model X.prog X.w) X.A X.env X.xe)(J:PT X c tc)(G:PSs X body tb):PS X (.While c body [] pos) (zg4 tc tb):=by
 intro E s T H D I h;obtain⟨W,⟨K,Q⟩,g⟩:=h;refine wpAny_While (codeAny_whileLoop (λn L=>Ee2 λi t=>Inv X _ i t L/\W n i t) ?_ K ⟨T,H,I,Q⟩);rintro n M ⟨d,u,F,R⟩;refine jl C (thn (J _ M d u _ F (g n d u R)) λb O S =>?_);obtain⟨x,y,j⟩:=S
 cases b with
 | true=>
  obtain⟨N,z,j⟩:=j;refine jl C (thn (G _ O d x _ y j) λf U l =>?_)
  cases f with
  | next=>
   obtain⟨a,e,m,q⟩:=l;obtain⟨p,o,r⟩:=z a e q;exact⟨p,o,a,e,m,r⟩
  | cont=>
   obtain⟨a,e,m,q⟩:=l;obtain⟨p,o,r⟩:=z a e q;exact⟨p,o,a,e,m,r⟩
  | brk=>exact l
  | ret v=>exact l
 | false=>
  exact wpAny_execs_nil ⟨d,x,y,j⟩
end
structure It where
 go:Nat->Hp->Prop
 yld:Nat->Hp->V->Hp->Prop
 stop:Nat->Hp->Prop
def FpOk (X:Cx)(a:List (Addr × Obj))(H:Hp)(b:Addr):Prop:=
 H b=none/\b≠X.env.locals/\b ∉ X.fs/\(b∈X.ex\/X.s₀.heap.objs.size<=b)/\(∀x c,X.env.cells.lookup x=some c->c≠b)/\∀p∈X.pn++a,p.1≠b
def Inv.fpOk (I:Inv X pins σ H s)(a:s.heap.objs.size<=b)(d:H' b=none):FpOk X pins H' b:=by
 refine⟨d,jF (wI I.lt a),I.nofs a,.inr (wP I.sz a),λx c e z =>?_,λp f z =>?_⟩
 .obtain⟨v,q⟩:=I.cell x c e;exact absurd (wI q.lt (by rw[z];exact a)) (vN _)
 .exact absurd (wI (ww (I.pin p f).1) (by rw[z];exact a)) (vN _)
structure Turn (P:Program)(w:World)(K:W.Frag)(tg:Expr)(J:It)(fp:List Addr)(it:Addr)(tn:Nat->Heap->Prop):Prop where
 mem:it∈fp
 obj:∀i h,tn i h->∀b∈fp,∃o,h.get? b=some o/\∀v,o.data ≠ .cell v
 keep:∀i h h',tn i h->(∀b∈fp,∀o,h.get? b=some o->h'.get? b=some o)->tn i h'
 item:∀X,X.prog=P->X.w=w->X.K=K->X.calm=true->∀i pins s (σ:St) H E,Inv X pins σ H s->(∀b∈fp,FpOk X pins H b)->tn i s.heap->J.go i H->
  wpAny (model P w) X.A (pyNext (.ref it)) (λr s1=>∃u,r=some u/\
   wpAny (model P w) X.A (letOwnedTupleGo tg (.ref it) u) (λ_ s2=>∃x H',Inv X pins σ H' s2/\RelV x u/\J.yld i H x H'/\tn (i+1) s2.heap/\∀b∈fp,H' b=none) E s1) E s
 done:∀X,X.prog=P->X.w=w->X.K=K->X.calm=true->∀i pins s (σ:St) H E,Inv X pins σ H s->(∀b∈fp,FpOk X pins H b)->tn i s.heap->J.stop i H->
  wpAny (model P w) X.A (pyNext (.ref it)) (λr s1=>r=none/\Inv X pins σ H s1) E s
 self:∀A i s Q E,tn i s.heap->Q (.ref it) s->wpAny (model P w) A (pyIter (.ref it)) Q E s
abbrev TI:=St->Hp->(It->Hp->Prop)->Prop
def PIE (X:Cx)(a:List (Addr × Obj))(l:St)(j:Expr)(R:It->Hp->Prop)(e:Value)(h:Shared):Prop:=
 ∃(g:Addr) (f:List Addr) (i:Nat->Heap->Prop) (J:It) (d:Hp),e = .ref g/\Inv X a l d h/\Turn X.prog X.w X.K j J f g i/\i 0 h.heap/\(∀b∈f,FpOk X a d b)/\R J d
def PI (X:Cx)(f b:Expr)(g:TI):Prop:=
 ∀a s (d:St) H R,Inv X a d H s->g d H R->
  wpAny (model X.prog X.w) X.A (eval b X.env) (λv e=>wpAny (model X.prog X.w) X.A (pyIter v) (PIE X a d f R) X.xe e) X.xe s
def zfw {vs:Array Value}(e:s.heap.get? it=some o)(b:o.cls = .type n)(d:o.data = .fields vs)
  (f:["enumerate","zip","dict_itemiterator","dict_reverseitemiterator","odict_iterator","itertools.zip_longest","itertools.pairwise"].contains n=false) (a:Q () s):wpAny M A (letOwnedTupleGo tg (.ref it) u) Q E s:=by
 cases tg <;> first
  | exact wj a
  | (cases u <;> first
    | exact wj a
    | (refine wc (wpAny_load e ?_)
       rw[b,d];show wpAny M A (if (["enumerate","zip","dict_itemiterator","dict_reverseitemiterator","odict_iterator","itertools.zip_longest","itertools.pairwise"].contains n && vs[0]? == some (rawInt _))=true then _ else _) Q E s;rw[if_neg (by grind)];exact wj a))
def Itl (K:W.Frag)(a:Addr):It:=
 ⟨λi H=>∃b x,SqL K H a b/\b[i]? = some x,λi H x d=>d=H/\∀b,SqL K H a b->b[i]? = some x,λi H=>∃b,SqL K H a b/\b.length<=i⟩
def Itt (K:W.Frag)(a:Addr):It:=
 ⟨λi H=>∃b x,SqT K H a b/\b[i]? = some x,λi H x d=>d=H/\∀b,SqT K H a b->b[i]? = some x,λi H=>∃b,SqT K H a b/\b.length<=i⟩
def Itr (b:Int)(n:Nat):It:=⟨λi _=>i<n,λi H x a=>a=H/\x = .int (b+i),λi _=>n<=i⟩
def zbJ {P:Program}{w:World}{K:W.Frag}{tg:Expr}(a it:Addr):Turn P w K tg (Itl K a) [it] it (λi h=>h.IsListIter it a i) where
 mem:=by simp
 obj:=λi h f b j=>by
  have e:b=it:=by simpa using j
  subst e;obtain⟨o,e,c,d⟩:=f;exact⟨o,e,λv z=>by rw[d] at z;cases z⟩
 keep:=λi h m f k=>f.at λo e=>k it (by simp) o e
 item:=by
  intro X G L F Q i g s R H E I n f J;subst G L F;obtain⟨xs,x,q,M⟩:=J;obtain⟨N,O,p,hz⟩:=I.list q;obtain⟨u,Y,ru⟩:=O.get M;obtain⟨r,t,U,y,A,C⟩:=n it (by simp);refine wpAny_pyNext_list_item f p.isList (x:=u) (by simpa using Y) λm l sb =>?_;have S:Inv X g R H { s with heap:=m }:=I.turned (t':=s.toks) (λb o j e=>(sb.2 b j).trans e) r t y A C;obtain⟨o,e,c,d⟩:=id l;exact⟨u,rfl,zfw (s:={ s with heap:=m }) e c d (by decide) ⟨x,H,S,ru,⟨rfl,λys Z=>by rw[I.list_inj Z q];exact M⟩,l,λb j=>(n b j).1⟩⟩
 done:=by
  intro X G L F Q i g s R H E I n f J;subst G L F;obtain⟨xs,q,M⟩:=J;obtain⟨N,O,p,hz⟩:=I.list q;obtain⟨r,t,U,y,A,C⟩:=n it (by simp);have hl:=O.length;exact wpAny_pyNext_list_end (I.ok.hd Q) f p.isList (by simp;lia) λm T=>⟨rfl,I.turned (t':=s.toks) (λb o j e=>T b o j e) r t y A C⟩
 self:=λ_ _ _ _ _ f h=>wpAny_pyIter_listiter f h
def zaS {P:Program}{w:World}{K:W.Frag}{tg:Expr}(a it:Addr):Turn P w K tg (Itt K a) [it] it (λi h=>h.IsTupleIter it a i) where
 mem:=by simp
 obj:=λi h f b j=>by
  have e:b=it:=by simpa using j
  subst e;obtain⟨o,e,c,d⟩:=f;exact⟨o,e,λv z=>by rw[d] at z;cases z⟩
 keep:=λi h n f k=>f.at λo e=>k it (by simp) o e
 item:=by
  intro X J M G Q i g s R H E I q f L;subst J M G;obtain⟨xs,x,r,N⟩:=L;obtain⟨l,O,p,hz⟩:=I.tuple r;obtain⟨u,Y,ru⟩:=O.get N;obtain⟨t,y,U,A,C,F⟩:=q it (by simp);refine wpAny_pyNext_tuple_item f (show s.heap.IsTuple a l.toArray from p) (x:=u) (by simpa using Y) λn m sb =>?_;have S:Inv X g R H { s with heap:=n }:=I.turned (t':=s.toks) (λb o j e=>(sb.2 b j).trans e) t y A C F;obtain⟨o,e,c,d⟩:=id m;exact⟨u,rfl,zfw (s:={ s with heap:=n }) e c d (by decide) ⟨x,H,S,ru,⟨rfl,λys Z=>by rw[I.tuple_inj Z r];exact N⟩,m,λb j=>(q b j).1⟩⟩
 done:=by
  intro X J M G Q i g s R H E I q f L;subst J M G;obtain⟨xs,r,N⟩:=L;obtain⟨l,O,p,hz⟩:=I.tuple r;obtain⟨t,y,U,A,C,F⟩:=q it (by simp);have hl:=O.length;exact wpAny_pyNext_tuple_end (I.ok.hd Q) f (show s.heap.IsTuple a l.toArray from p) (by simp;lia) λn T=>⟨rfl,I.turned (t':=s.toks) (λb o j e=>T b o j e) t y A C F⟩
 self:=λ_ _ _ _ _ f h=>wpAny_pyIter_tupleiter f h
def zaT {P:Program}{w:World}{K:W.Frag}{Q:Expr}(it:Addr)(l:Int)(n:Nat):Turn P w K Q (Itr l n) [it] it (λi h=>IsRangeIter h it (l+i*1) (n - i) 1) where
 mem:=by simp
 obj:=λi h d b f=>by
  simp_all
 keep:=λi h x d k=>k it (by simp) _ d
 item:=by
  intro X C F A y i a s G H E I j d z;subst C F A;obtain⟨m,p,M,q,r,u⟩:=j it (by simp);have W:=Walks.range (prog:=X.prog) (w:=X.w) (I.ok.hd y) it l 1 n;refine W.item i s _ _ z d λv x R N g O =>?_;obtain⟨t,rfl⟩:=N;have J:Inv X a G H { s with heap:=x,toks:=R }:=I.turned (λb o f e=>O b o (by simpa using f) e) m p q r u;refine⟨_,rfl,zfw g rfl rfl (by decide) ⟨.int (l+i),H,J,⟨t,?_⟩,⟨rfl,rfl⟩,g,λb f=>(j b f).1⟩⟩;rw[Int.mul_one]
 done:=by
  intro X C F A y i a s G H E I j d z;obtain⟨m,p,M,q,r,u⟩:=j it (by simp);exact wpAny_pyNext_range_end (I.ok.hd y) d (by have:n<=i:=z;lia) λx L=>⟨rfl,I.turned (t':=s.toks) (λb o f e=>L b o f e) m p q r u⟩
 self:=λ_ _ _ _ _ d h=>wpAny_pyIter_rangeiter d h
section
variable {X:Cx}{tg:Expr}
def zew {lo a:Int}{t u v:Tok}(I:Inv X pins σ H s)(h : -(2 ^ 62)<=lo)(i:lo<2 ^ 62)(j : -(2 ^ 62)<=a)(l:a<2 ^ 62)
  (q:R (Itr lo (a - lo).toNat) H):wpAny (model X.prog X.w) X.A (pyIter (.ref s.heap.objs.size)) (PIE X pins σ tg R) E { s with heap:=s.heap.push { cls :=.type "range",data :=.fields #[.int lo t,.int a u,.int 1 v] },toks:=tk }:=by
 refine wpAny_pyIter_range (IsRange.new ..) (small_one h i j l) ?_;have d:Inv X _ σ H { s with heap:=s.heap.push { cls :=.type "range",data :=.fields #[.int lo t,.int a u,.int 1 v] },toks:=tk }:=I.kept λb o e=>wf _ e;refine⟨(s.heap.push _).objs.size,[(s.heap.push _).objs.size],_,_,H,rfl,
  d.kept λb o e=>wf _ e,zaT _ lo _,?_,λb m =>?_,q⟩
 .have f:lo+((0:Nat))*1=lo:=by simp
  have g:(((a - lo).toNat)) - ((0:Nat))=Builtin.Range.rangeSize lo a 1:=by rw[rangeSize_one];split <;> lia
  rw[f,g];exact wq _ rfl
 .have e:b=(s.heap.push { cls :=.type "range",data :=.fields #[.int lo t,.int a u,.int 1 v] }).objs.size:=by simpa using m
  subst e;exact d.fpOk (wu _) (d.hok.fresh (wu _))
def zlR (b:TA):TI:=λd H R=>b d H λvs a=>∃j,vs=[.int j] /\ -(2 ^ 62)<=j/\j<2 ^ 62/\R (Itr 0 j.toNat) a
def zcB {p b:Pos}(l:Gl X "range")(m:X.mg "range"=none)(i:PA X [a] ta)(n:autoParam (starEach [a] X.env=[(false,eval a X.env)]) jA1):PI X tg (.Call (.Name "range" p) [a] [] b) (zlR ta):=by
 intro f s x H R I h;refine Call_ (z8z I l m boot_range (jG (thn (i b _ s x H _ I h) λA z w =>?_) n rfl));obtain⟨vs,y,g,r1,d⟩:=w;obtain⟨j,e,d,o,q⟩:=d;subst e
 cases r1 with
 | cons r u=>
  cases u
  obtain⟨t,rfl⟩:=r;exact call_range_1 (zew g (by lia) (by lia) d o (by simpa using q))
def tFor (n:TI)(g:TG)(l:TS):TS:=λD a H=>n a H λJ h=>∃W:Nat->Nat->St->Hp->Prop,(∃m,W 0 m a h)/\∀i m a H,W i m a H->
 (J.stop i H/\D.nx a H)\/(J.go i H/\∃N,(∀d b,N d b->∃f,f<m/\W (i+1) f d b)/\∀x b,J.yld i H x b->g x a b λe j=>l { D with nx:=N,ct:=N,bk:=D.nx } e j)
def z8i (a:List Addr)(h:Heap):List (Addr × Obj):=a.filterMap λb=>(h.get? b).map λo=>(b,o)
def z3X (a:b∈fp)(e:h.get? b=some o):(b,o)∈z8i fp h:=uU.mpr ⟨b,a,by rw[e];rfl⟩
def zcO (f:p∈z8i fp h):p.1∈fp/\h.get? p.1=some p.2:=by
 obtain⟨b,d,e⟩:=uU.mp f
 cases q:h.get? b with
 | none=>simp_all
 | some o=>
  rw[q] at e;have a  := w5 e;subst a;exact⟨d,q⟩
def Inv.pinned (I:Inv X pins σ H s)(f:∀b∈fp,FpOk X pins H b)(g:∀b∈fp,∃o,s.heap.get? b=some o/\∀v,o.data ≠ .cell v):Inv X (pins++z8i fp s.heap) σ H s:=
 I.pins_of λp h=>(wG.mp h).elim (λz=>I.pin p (vf _ z)) λz=>by
  obtain⟨a,e⟩:=zcO z;obtain⟨j,l,m,_⟩:=f p.1 a;obtain⟨o,i,d⟩:=g p.1 a
  simp_all
def Inv.unpinned {a pl:List (Addr × Obj)}(I:Inv X (a++pl) σ H s):Inv X a σ H s:=I.pins_of λp b=>I.pin p (vf _ (vE _ b))
def zkx {Z:Pos}(L:PassesOwn (model X.prog X.w) X.A X.env X.xe)(hc:X.calm=true)(hi:PI X tg iter wi)(hg:PG X tg g)(t:PSs X body tb)
  (hs:autoParam (fI iter X) jC1):PS X (.For tg iter body [] Z) (tFor wi g tb):=by
 intro a s σ H D I h;refine wpAny_For (thn (hi a s σ H _ I h) λv s1 h1=>thn h1 λa2 s2 h2 =>?_) hs;obtain⟨it,G,tn,J,H2,e,I2,T,a0,f2,W,⟨m0,w0⟩,Q⟩:=h2;subst e;have y:∀{H':Hp},(∀b∈G,H' b=none)->∀b∈G,FpOk X a H' b:=λhn b t=>⟨hn b t,(f2 b t).2⟩
 refine codeAny_forLoop_any (λn s'=>∃i z H',Inv X a z H' s'/\tn i s'.heap/\(∀b∈G,H' b=none)/\W i n z H') ?_ m0 ⟨0,σ,H2,I2,a0,λb t=>(f2 b t).1,w0⟩;rintro n s3 ⟨i,C,R,I3,O,K,w3⟩
 rcases Q i n C R w3 with ⟨stop,qn⟩ | ⟨go,N,hN,step⟩
 .refine jl L (thn (T.done X rfl rfl rfl hc i a s3 C R X.xe I3 (y K) O stop) λr s4 ⟨Y,I4⟩ =>?_);subst Y;exact wpAny_execs_nil ⟨C,R,I4,qn⟩
 .refine jl L (thn (T.item X rfl rfl rfl hc i a s3 C R X.xe I3 (y K) O go) λr s4 ⟨u,Y,h4⟩ =>?_);subst Y;refine jl L (thn h4 λ_ s5 z9 =>?_);obtain⟨x,H5,I5,r5,y5,F,U⟩:=z9;have S:=I5.pinned (y U) (T.obj _ _ F);refine jl L (thn (hg _ s5 C H5 x u _ S r5 (step x H5 y5)) λ_ s6 z9 =>?_);obtain⟨a1,H6,I6,q6⟩:=z9;refine jl L (thn (t _ s6 a1 H6 _ I6 q6) λf s7 E =>?_);have q:∀{j:St}{l:Hp},Inv X (a++z8i G s5.heap) j l s7->N j l->∃m,m<n/\∃i z H',Inv X a z H' s7/\tn i s7.heap/\(∀b∈G,H' b=none)/\W i m z H':=λ{j l} p M=>by
   obtain⟨m',hm,w7⟩:=hN j l M;refine⟨m',hm,i+1,j,l,p.unpinned,T.keep _ _ _ F λb t o e=>(p.pin (b,o) (vf _ (vf _ (z3X t e)))).1,λb t =>?_,w7⟩;obtain⟨o,e,d⟩:=T.obj _ _ F b t;exact(p.pin (b,o) (vf _ (vf _ (z3X t e)))).2.1
  cases f with
  | next=>obtain⟨j,l,p,M⟩:=E;exact q p M
  | cont=>obtain⟨j,l,p,M⟩:=E;exact q p M
  | brk=>obtain⟨j,l,p,E⟩:=E;exact⟨j,l,p.unpinned,E⟩
  | ret v=>obtain⟨x7,j,l,p,r7,E⟩:=E;exact⟨x7,j,l,p.unpinned,r7,E⟩
end
abbrev R2:=V->V->Hp->VK->Prop
def OpR (X:Cx)(f:Value->Value->Sem Value)(r:R2):Prop:=
 ∀a s (b:St) H x y v u Q,Inv X a b H s->RelV x v->RelV y u->r x y H Q->
  wpAny (model X.prog X.w) X.A (f v u) (EP X a b Q) X.xe s
def UnR (X:Cx)(f:Value->Sem Value)(r:V->Hp->VK->Prop):Prop:=
 ∀a s (b:St) H x v Q,Inv X a b H s->RelV x v->r x H Q->
  wpAny (model X.prog X.w) X.A (f v) (EP X a b Q) X.xe s
def z0D (X:Cx)(f:Value)(r:List V->Hp->VK->Prop):Prop:=
 ∀a s (e:St) H d b Q,Inv X a e H s->Vals d b->r d H Q->
  wpAny (model X.prog X.w) X.A (call f b) (EP X a e Q) X.xe s
def tOp (r:R2)(e f:TE):TE:=λa H Q=>e a H λx b=>f a b λy d=>r x y d Q
def tUn (r:V->Hp->VK->Prop)(b:TE):TE:=λd H Q=>b d H λx a=>r x a Q
def rI (C:Int->Int->Prop)(g:Int->Int->V):R2:=λx y H Q=>∃i j,x = .int i/\y = .int j/\C i j/\Q (g i j) H
def rI0 (g:Int->Int->V):R2:=λx y H Q=>∃i j,x = .int i/\y = .int j/\Q (g i j) H
def rU (g:Int->V):V->Hp->VK->Prop:=λx H Q=>∃i,x = .int i/\Q (g i) H
section
variable {X:Cx}{a b c:Expr}{ta tb tc:TE}{pos:Pos}
def binT (q:PE X a ta)(r:PE X b tb){d:List (Addr × Obj)}{s:Shared}{g:St}{H:Hp}{R:V->V->Hp->Prop}(I:Inv X d g H s)
  (h:ta g H λx m=>tb g m λy e=>R x y e) {Q:WvP}{f:Value->Value->Sem Value}
  (t:∀v u l x y e,Inv X d g e l->RelV x v->RelV y u->R x y e->wpAny (model X.prog X.w) X.A (f v u) Q X.xe l):
  wpAny (model X.prog X.w) X.A (eval a X.env) (λv i=>wpAny (model X.prog X.w) X.A (eval b X.env) (λu j=>wpAny (model X.prog X.w) X.A (f v u) Q X.xe j) X.xe i) X.xe s:=by
 refine thn (q _ s g H _ I h) λv E n =>?_;obtain⟨x,m,o,r1,z⟩:=n;refine thn (r _ E g m _ o z) λu l n =>?_;obtain⟨y,e,p,r2,C⟩:=n;exact t v u l x y e p r1 r2 C
def zn0 {op:Operator}(j:OpR X (binaryOp op) r)(g:PE X a ta)(i:PE X b tb):PE X (.BinOp a op b pos) (tOp r ta tb):=by
 intro d s o H Q I h;exact wpAny_BinOp (binT g i I h λv u n x y e f l m q=>j _ n o e x y v u Q f l m q)
def zmY {op:UnaryOp}(i:UnR X (unaryOp op) r)(g:PE X a ta):PE X (.UnaryOp op a pos) (tUn r ta):=by
 intro b s d H Q I h;exact UnaryOp_ (thn (g _ s d H _ I h) λv l ⟨x,e,f,r1,j⟩=>i _ l d e x v Q f r1 j)
def opI {f:Value->Value->Sem Value}{C:Int->Int->Prop}{g:Int->Int->Int}
  (a:∀i j t u s Q E,C i j->Q (.int (g i j) s.toks) { s with toks:=s.toks+1 }->wpAny (model X.prog X.w) X.A (f (.int i t) (.int j u)) Q E s):
  OpR X f (rI C λi j =>.int (g i j)):=by
 intro b s n H x y v u Q I e l h;obtain⟨i,j,rfl,rfl,d,q⟩:=h;obtain⟨t,rfl⟩:=e;obtain⟨m,rfl⟩:=l;exact a i j t m s _ _ d ⟨.int _,H,I.tok _,⟨_,rfl⟩,q⟩
def opI0 {f:Value->Value->Sem Value}{g:Int->Int->Int}
  (a:∀i j t u s Q E,Q (.int (g i j) s.toks) { s with toks:=s.toks+1 }->wpAny (model X.prog X.w) X.A (f (.int i t) (.int j u)) Q E s):
  OpR X f (rI0 λi j =>.int (g i j)):=by
 intro b s m H x y v u Q I d e h;obtain⟨i,j,rfl,rfl,q⟩:=h;obtain⟨t,rfl⟩:=d;obtain⟨l,rfl⟩:=e;exact a i j t l s _ _ ⟨.int _,H,I.tok _,⟨_,rfl⟩,q⟩
def opB0 {f:Value->Value->Sem Value}{g:Int->Int->Bool}
  (a:∀i j t u s Q E,Q (.bool (g i j)) s->wpAny (model X.prog X.w) X.A (f (.int i t) (.int j u)) Q E s):
  OpR X f (rI0 λi j =>.bl (g i j)):=by
 intro b s m H x y v u Q I d e h;obtain⟨i,j,rfl,rfl,q⟩:=h;obtain⟨t,rfl⟩:=d;obtain⟨l,rfl⟩:=e;exact a i j t l s _ _ ⟨.bl _,H,I,rfl,q⟩
def CPow (i j:Int):Prop:=0<=j/\j<=1000000/\i.natAbs<2 ^ 64
def zl5:OpR X (binaryOp .Add) (rI0 λi j =>.int (i+j)):=opI0 λ_ _ _ _ _ _ _ q=>add_int q
def zkY:OpR X (binaryOp .Sub) (rI0 λi j =>.int (i - j)):=opI0 λ_ _ _ _ _ _ _ q=>sub_int q
def zi1:OpR X (binaryOp .Mod) (rI (λ_ j=>j≠0) λi j =>.int (i.fmod j)):=opI λ_ _ _ _ _ _ _ a q=>mod_int' a q
def zkZ:OpR X (binaryOp .Pow) (rI CPow λi j =>.int (i ^ j.toNat)):=opI λ_ _ _ _ _ _ _ a q=>pow_int_small a.1 a.2.1 a.2.2 q
def unI {f:Value->Sem Value}{g:Int->Int}
  (a:∀i t s Q E,Q (.int (g i) s.toks) { s with toks:=s.toks+1 }->wpAny (model X.prog X.w) X.A (f (.int i t)) Q E s):
  UnR X f (rU λi =>.int (g i)):=by
 intro b s e H x v Q I d h;obtain⟨i,rfl,q⟩:=h;obtain⟨t,rfl⟩:=d;exact a i t s _ _ ⟨.int _,H,I.tok _,⟨_,rfl⟩,q⟩
def ziX:UnR X (unaryOp .USub) (rU λi =>.int (-i)):=unI λ_ _ _ _ _ q=>neg_int q
end
noncomputable def scal:V->V->Bool
 | .non,.non=>true | .non,.int _=>true | .int _,.non=>true | .non,.bl _=>true | .bl _,.non=>true | .non,.str _=>true | .str _,.non=>true
 | .int _,.int _=>true | .bl _,.bl _=>true | .str _,.str _=>true | .byt _,.byt _=>true
 | .int _,.str _=>true | .str _,.int _=>true | .bl _,.str _=>true | .str _,.bl _=>true
 | _,_=>false
def rEq:R2:=λx y H Q=>scal x y=true/\Q (.bl (decide (x=y))) H
def rNe:R2:=λx y H Q=>scal x y=true/\Q (.bl (!decide (x=y))) H
def zdz:decide (V.int i=V.int j)=(i == j):=by
 rw[jm];simp
def zgR:decide (V.bl i=V.bl j)=(i == j):=by
 rw[jm];simp
def zdy:decide (V.str i=V.str j)=(i == j):=by
 rw[jm];simp
def zdA:decide (V.byt i=V.byt j)=(i.toList == j.toList):=by
 rw[jm]
 simp_all
section
variable {X:Cx}{a b c:Expr}{ta tb tc:TE}{pos:Pos}
def z0J {k a:Bool}(I:Inv X pins σ H s)(q:Q (.bl k) H)(e:k=a):EP X pins σ Q (.bool a) s:=by
 subst e;exact⟨.bl k,H,I,rfl,q⟩
def zna:OpR X (compareOp .Eq) rEq:=by
 intro f s g H x y v u Q I e a h;obtain⟨d,q⟩:=h
 cases x with
 | non=>
  cases e
  cases y with
  | non=>cases a;exact PySem.EqNone.eq_none_none (z0J I q (by simp))
  | bl j=>cases a;exact PySem.EqNone.eq_none_bool (z0J I q (by simp))
  | int j=>obtain⟨b,rfl⟩:=a;exact PySem.EqNone.eq_none_int (z0J I q (by simp))
  | str j=>obtain⟨b,rfl⟩:=a;exact PySem.EqNone.eq_none_str (z0J I q (by simp))
  | _=>exact absurd (show false=true from d) vd
 | bl i=>
  cases e
  cases y with
  | non=>cases a;exact PySem.EqNone.eq_bool_none (z0J I q (by simp))
  | bl j=>cases a;exact eq_bool (z0J I q zgR)
  | str j=>obtain⟨b,rfl⟩:=a;exact PySem.EqMixed.eq_bool_str (z0J I q (by simp))
  | _=>exact absurd (show false=true from d) vd
 | int i=>
  obtain⟨t,rfl⟩:=e
  cases y with
  | non=>cases a;exact PySem.EqNone.eq_int_none (z0J I q (by simp))
  | int j=>obtain⟨b,rfl⟩:=a;exact eq_int (z0J I q zdz)
  | str j=>obtain⟨b,rfl⟩:=a;exact PySem.EqMixed.eq_int_str (z0J I q (by simp))
  | _=>exact absurd (show false=true from d) vd
 | str i=>
  obtain⟨t,rfl⟩:=e
  cases y with
  | non=>cases a;exact PySem.EqNone.eq_str_none (z0J I q (by simp))
  | bl j=>cases a;exact PySem.EqMixed.eq_str_bool (z0J I q (by simp))
  | int j=>obtain⟨b,rfl⟩:=a;exact PySem.EqMixed.eq_str_int (z0J I q (by simp))
  | str j=>obtain⟨b,rfl⟩:=a;exact eq_str (z0J I q zdy)
  | _=>exact absurd (show false=true from d) vd
 | byt i=>
  obtain⟨t,rfl⟩:=e
  cases y with
  | byt j=>obtain⟨b,rfl⟩:=a;exact W.eq_bytes (z0J I q zdA)
  | _=>exact absurd (show false=true from d) vd
 | _=>cases y <;> exact absurd (show false=true from d) vd
def zn5:OpR X (compareOp .NotEq) rNe:=by
 intro f s g H x y v u Q I e a h;obtain⟨d,q⟩:=h
 cases x with
 | non=>
  cases e
  cases y with
  | non=>cases a;exact PySem.EqNone.ne_none_none (z0J I q (by simp))
  | bl j=>cases a;exact PySem.EqNone.ne_none_bool (z0J I q (by simp))
  | int j=>obtain⟨b,rfl⟩:=a;exact PySem.EqNone.ne_none_int (z0J I q (by simp))
  | str j=>obtain⟨b,rfl⟩:=a;exact PySem.EqNone.ne_none_str (z0J I q (by simp))
  | _=>exact absurd (show false=true from d) vd
 | bl i=>
  cases e
  cases y with
  | non=>cases a;exact PySem.EqNone.ne_bool_none (z0J I q (by simp))
  | bl j=>cases a;exact ne_bool (z0J I q (congrArg not zgR))
  | str j=>obtain⟨b,rfl⟩:=a;exact PySem.EqMixed.ne_bool_str (z0J I q (by simp))
  | _=>exact absurd (show false=true from d) vd
 | int i=>
  obtain⟨t,rfl⟩:=e
  cases y with
  | non=>cases a;exact PySem.EqNone.ne_int_none (z0J I q (by simp))
  | int j=>obtain⟨b,rfl⟩:=a;exact ne_int (z0J I q (congrArg not zdz))
  | str j=>obtain⟨b,rfl⟩:=a;exact PySem.EqMixed.ne_int_str (z0J I q (by simp))
  | _=>exact absurd (show false=true from d) vd
 | str i=>
  obtain⟨t,rfl⟩:=e
  cases y with
  | non=>cases a;exact PySem.EqNone.ne_str_none (z0J I q (by simp))
  | bl j=>cases a;exact PySem.EqMixed.ne_str_bool (z0J I q (by simp))
  | int j=>obtain⟨b,rfl⟩:=a;exact PySem.EqMixed.ne_str_int (z0J I q (by simp))
  | str j=>obtain⟨b,rfl⟩:=a;exact ne_str (z0J I q (congrArg not zdy))
  | _=>exact absurd (show false=true from d) vd
 | byt i=>
  obtain⟨t,rfl⟩:=e
  cases y with
  | byt j=>obtain⟨b,rfl⟩:=a;exact W.ne_bytes (z0J I q (congrArg not zdA))
  | _=>exact absurd (show false=true from d) vd
 | _=>cases y <;> exact absurd (show false=true from d) vd
def zn6:OpR X (compareOp .Lt) (rI0 λi j =>.bl (decide (i<j))):=opB0 λ_ _ _ _ _ _ _ q=>lt_int q
def zn7:OpR X (compareOp .LtE) (rI0 λi j =>.bl (decide (i<=j))):=opB0 λ_ _ _ _ _ _ _ q=>le_int q
def zn8:OpR X (compareOp .Gt) (rI0 λi j =>.bl (decide (j<i))):=opB0 λ_ _ _ _ _ _ _ q=>gt_int q
def zn9:OpR X (compareOp .GtE) (rI0 λi j =>.bl (decide (j<=i))):=opB0 λ_ _ _ _ _ _ _ q=>ge_int q
def zl2:OpR X (compareOp .Is) (λx y H Q=>y = .non/\Q (.bl (decide (x = .non))) H):=by
 intro a s e H x y v u Q I b d h;obtain⟨rfl,q⟩:=h
 cases d
 refine is_none_gen (z0J I q ?_)
 cases x <;> first
  | rfl
  | (obtain⟨t,rfl⟩:=b;rfl)
def zhZ:OpR X (compareOp .IsNot) (λx y H Q=>y = .non/\Q (.bl (!decide (x = .non))) H):=by
 intro a s e H x y v u Q I b d h;obtain⟨rfl,q⟩:=h
 cases d
 refine isnot_none_gen (z0J I q ?_)
 cases x <;> first
  | rfl
  | (obtain⟨t,rfl⟩:=b;rfl)
def zlu (b:Expr){op:CmpOp}(h:autoParam (op ≠ .In) jB1)(e:autoParam (op ≠ .NotIn) jB1):behindInMarks op b=false:=by
 have a:(op == CmpOp.In)=false:=by grind
 have d:(op == CmpOp.NotIn)=false:=by grind
 cases b <;> simp[behindInMarks,a,d]
def zhU {op:CmpOp}(l:OpR X (compareOp op) r)(g:PE X a ta)(i:PE X b tb)(j:behindInMarks op b=false):PE X (.Compare a [op] [b] pos) (tOp r ta tb):=by
 intro d s p H Q I h;exact wpAny_Compare1 (binT g i I h λv u o x y e f m n q=>l _ o p e x y v u Q f m n q) j
def zbS (t:TE):TT:=λb H Q=>t b H λx a=>∃k,x = .bl k/\Q k a
def zhK {op:CmpOp}(t:OpR X (compareOp op) r)(o:PE X a ta)(p:PE X b tb)(q:behindInMarks op b=false):PT X (.Compare a [op] [b] pos) (zbS (tOp r ta tb)):=by
 intro f s d H Q I h;refine wpAny_isTrue_Compare1 (thn (o _ s d H _ I h) λv F ⟨x,g,l,r1,w⟩=>thn (p _ F d g _ l w) λu G ⟨y,i,m,r2,A⟩=>
  thn (t _ G d i x y v u _ m r1 r2 A) λc J ⟨z,j,n,E,k,e,C⟩ =>?_) q
 subst e
 cases E
 exact uG ⟨j,n,C⟩
def zbU (r g:R2)(h i j:TE):TE:=λa H Q=>h a H λx d=>i a d λy e=>r x y e λz b=>∃k,z = .bl k/\
 (if k=true then j a b λl f=>g y l f Q else Q (.bl false) b)
def zeT {op f:CmpOp}(N:OpR X (compareOp op) r)(i:OpR X (compareOp f) r')(J:PE X a ta)(K:PE X b tb)(L:PE X c tc)
  (M:autoParam (lastMarks [op,f] [b,c]=false) jE1):PT X (.Compare a [op,f] [b,c] pos) (zbS (zbU r r' ta tb tc)):=by
 intro m s g H Q I h;refine isTrue_chain (thn (J _ s g H _ I h) λv s1 ⟨x,o,w,r1,R⟩=>test_link (thn (K _ s1 g o _ w R) λu s2 ⟨y,p,A,r2,S⟩=>
  thn (N _ s2 g p x y v u _ A r1 r2 S) λd s3 ⟨z,j,l,W,k,e,n⟩ =>?_)) M
 subst e
 cases W
 refine uG ?_
 cases k with
 | false=>
  obtain⟨k',F,O⟩:=n
  cases F
  exact ite_ff ⟨j,l,O⟩
 | true=>
  refine ite_tt (test_last (thn (L _ s3 g j _ l n) λw' s4 ⟨z',q,C,Y,T⟩=>thn (i _ s4 g q y z' u w' _ C r2 Y T) λd' s5 z9 =>?_));obtain⟨z2,t,E,Z,k2,G,U⟩:=z9;subst G
  cases Z
  exact uG ⟨t,E,U⟩
def z68:sizeLine<2 ^ 63:=by decide
def zbb:OpR X (binaryOp .Add) (λx y H Q=>∃i j,x = .str i/\y = .str j/\i.length+j.length<=sizeLine/\Q (.str (i++j)) H):=by
 intro a s l H x y v u Q I d e h;obtain⟨i,j,rfl,rfl,b,q⟩:=h;obtain⟨t,rfl⟩:=d;obtain⟨f,rfl⟩:=e;exact add_str (λf g=>⟨.str _,H,I.tok _,⟨_,rfl⟩,q⟩) b
def z32 {x:V}{a:List Value}(r:Vals [x] a):∃u,a=[u]/\RelV x u:=by
 cases r with
 | cons r1 r2=>cases r2;exact⟨_,rfl,r1⟩
def ziW (r:Vals [x,y] us):∃u w',us=[u,w']/\RelV x u/\RelV y w':=by
 cases r with
 | cons r1 r2=>
  cases r2 with
  | cons a b=>cases b;exact⟨_,_,rfl,r1,a⟩
def zfT:z0D X (.builtin "abs") (λxs H Q=>∃i,xs=[.int i]/\Q (.int (if i<0 then -i else i)) H):=by
 intro a s e H xs d Q I r h;obtain⟨i,rfl,q⟩:=h;obtain⟨u,rfl,t,rfl⟩:=z32 r;exact call_abs_int λu b=>⟨.int _,H,I.tok _,⟨_,rfl⟩,q⟩
def zdM (d:X.calm=true):z0D X (.builtin "min") (λxs H Q=>∃i j,xs=[.int i,.int j]/\Q (.int (if j<i then j else i)) H):=by
 intro b s n H xs l Q I r h;obtain⟨i,j,rfl,q⟩:=h;obtain⟨u,m,rfl,⟨t,rfl⟩,⟨f,rfl⟩⟩:=ziW r;refine min_two_ints (I.ok.hd d) λe g k=>⟨_,H,I.kept k,?_,q⟩
 by_cases a:j<i
 .rw[if_pos a,if_pos a];exact⟨_,rfl⟩
 .rw[if_neg a,if_neg a];exact⟨_,rfl⟩
def zdQ:z0D X (.type "int") (λxs H Q=>(∃i,xs=[.int i]/\Q (.int i) H)\/∃k,xs=[.bl k]/\Q (.int (if k then 1 else 0)) H):=by
 intro a s d H xs b Q I r h
 rcases h with ⟨i,rfl,q⟩ | ⟨k,rfl,q⟩
 .obtain⟨u,rfl,t,rfl⟩:=z32 r;exact call_int_int ⟨.int i,H,I,⟨_,rfl⟩,q⟩
 .obtain⟨u,rfl,r1⟩:=z32 r
  cases r1
  exact call_int_bool ⟨.int _,H,I.tok _,⟨_,rfl⟩,q⟩
end
structure ObjM (h:Heap)(x dx C:Addr)(mA:WmP):Prop where
 obj:h.get? x=some (W.instObj C dx)
 ns:h.Ns1 dx mA
 ne:dx≠x
set_option tactic.hygienic true in
def zd4 {h:Heap}{d:WmP}(n:h.Ns1 dx d):∃f,h.get? dx=some f/\∀name,W.lookIn name f=some (d name):=by
 obtain⟨o,g,r,m,i,j,_,l⟩:=n;refine⟨o,m,λname =>?_⟩;have e:=l name;unfold nsFind findBy at e;rw[<- Array.find?_toList] at e;unfold W.lookIn;rw[i];dsimp only
 split
 .simp_all
 .rename_i q
  rw[q] at e;have a:g.toList.any (·.refKey)=false:=by
   rw[List.any_eq_false];intro y p;obtain⟨z,t,b⟩:=j y (Array.mem_toList_iff.mp p);simp[DictEntry.refKey,b]
  grind
def ObjM.look (I:ObjM h x dx C mA):∃a,W.InstAt h x (W.instObj C dx) C (some a)/\∀name,W.lookIn name a=some (mA name):=
 let ⟨a,d,b⟩:=zd4 I.ns
 ⟨a,⟨I.obj,rfl,rfl,d⟩,b⟩
section
variable {P:Program}{w:World}{H H':Hp}{h h':Heap}{a C dx:Addr}{fs fs':List (Str × V)}
def zit (g:HOk P w H h)(e:H a=some (.ins C dx fs)):∃b,ObjM h a dx C b/\(∀f,RelO (fs.lookup f) (b f))/\PySem.Within b (fs.map (·.1))/\fs.length<=1000/\H dx=some (.own a):=by
 obtain⟨d,z,ne,i,b,n,r,q⟩:=(g a _ e)
 exact⟨b,⟨i,n,ne⟩,r,q,z,d⟩
end
structure Cls (K:W.Frag)(C:Addr):Prop where
 pg:W.plainGet K C Str.empty=true
 hd:W.hasDictIn K C=true
 po:W.plainOver K C=true
 sa:W.findIn K (.ref C) "__setattr__"=some (some (.builtin "object.__setattr__"))
def Cls.get {K:W.Frag}{C:Addr}(c:Cls K C)(f:Str):W.plainGet K C f=true:=c.pg
section
variable {X:Cx}{pins:List (Addr × Obj)}{σ:St}{H:Hp}{s:Shared}{A:Around}{E:WvP}{Q:WvP}{c:Value}{b:Bool}
inductive TyOf (K:W.Frag) (H:Hp):V->Value->Prop where
 | non:TyOf K H .non (.type "NoneType")
 | bl (x:Bool):TyOf K H (.bl x) (.type "bool")
 | int (i:Int):TyOf K H (.int i) (.type "int")
 | str (x:Str):TyOf K H (.str x) (.type "str")
 | flt (x:UInt64):TyOf K H (.flt x) (.type "float")
 | lst {a:Addr}{xs:List V}(e:H a=some (.lst xs)):TyOf K H (.ref a) (.type "list")
 | frz {a:Addr}{o:Obj}{xs:List V}(e:H a=some (.frz o (.lst xs))):TyOf K H (.ref a) (.type "list")
 | tup {a:Addr}{xs:List V}(e:H a=some (.tup xs)):TyOf K H (.ref a) (.type "tuple")
 | dK {a:Addr}{kvs:List (Key × V)}(e:H a=some (.dK kvs)):TyOf K H (.ref a) (.type "dict")
 | dT {a:Addr}{kvs:List (List Key × V)}(e:H a=some (.dT kvs)):TyOf K H (.ref a) (.type "dict")
 | ins {a C dx:Addr}{fs:List (Str × V)}(e:H a=some (.ins C dx fs)) (cl:Cls K C) (ha:W.findIn K (.ref C) "__class__"=some (some (.builtin "object.__class__")))
   (hn:W.specialIn K (.builtin "object.__class__") "__get__"=some (some (.builtin "getset_descriptor.__get__"))) (htk:W.takesIn K (.builtin "object.__class__")=some true)
   (hm:W.mroIn K C (.type "object")=some true):TyOf K H (.ref a) (.ref C)
def z4K {u t:Value}(I:Inv X pins σ H s)(f:RelV x u)(T:TyOf X.K H x t)(e:W.kitOne X.K t c=some b)(h:∀tk,Q (.bool b) { s with toks:=tk }):
  wpAny (model X.prog X.w) A (call (.builtin "isinstance") [u,c]) Q E s:=by
 cases T with
 | non=>cases (show u=Value.none from f);exact vV W.kitx_none I.kIn True.intro e (λz=>nomatch z) h
 | bl y=>cases (show u=Value.bool y from f);exact vV W.kitx_bool I.kIn True.intro e (λz=>nomatch z) h
 | int i=>obtain⟨t,q⟩:=(show ∃t,u=Value.int i t from f);cases q;exact vV W.kitx_int I.kIn True.intro e (λz=>nomatch z) h
 | str y=>obtain⟨t,q⟩:=(show ∃t,u=Value.str y t from f);cases q;exact vV W.kitx_str I.kIn True.intro e (λz=>nomatch z) h
 | flt y=>obtain⟨t,q⟩:=(show ∃t,u=Value.float y t from f);cases q;exact vV W.kitx_float I.kIn True.intro e (λz=>nomatch z) h
 | @lst a l d=>
  cases (show u=Value.ref a from f)
  obtain⟨_,_,n,_,g⟩:=(show z1G X.prog X.w H s.heap a (.lst l) from I.hok a _ d)
  exact vV W.kitx_list I.kIn ⟨_,g,rfl⟩ e (λz=>nomatch z) h
 | @frz a S l d=>
  cases (show u=Value.ref a from f)
  obtain⟨_,_,_,n,_,g⟩:=(show z1G X.prog X.w H s.heap a (.frz S (.lst l)) from I.hok a _ d)
  exact vV W.kitx_list I.kIn ⟨_,g,rfl⟩ e (λz=>nomatch z) h
 | @tup a l d=>
  cases (show u=Value.ref a from f)
  obtain⟨_,_,_,p,_⟩:=(show z1G X.prog X.w H s.heap a (.tup l) from I.hok a _ d)
  obtain⟨o,g,m,_⟩:=p;exact vV W.kitx_tuple I.kIn ⟨o,g,m⟩ e (λz=>nomatch z) h
 | @dK a j d=>
  cases (show u=Value.ref a from f)
  obtain⟨_,_,vs,_,p⟩:=(show z1G X.prog X.w H s.heap a (.dK j) from I.hok a _ d)
  obtain⟨o,L,G,g,m,_⟩:=p;exact vV W.kitx_dict I.kIn ⟨o,g,m.1⟩ e (λz=>nomatch z) h
 | @dT a j d=>
  cases (show u=Value.ref a from f)
  obtain⟨_,_,l,_,o,L,G,g,m,_⟩:=(show z1G X.prog X.w H s.heap a (.dT j) from I.hok a _ d)
  exact vV W.kitx_dict I.kIn ⟨o,g,m.1⟩ e (λz=>nomatch z) h
 | @ins a C U fs d F M R r N=>
  cases (show u=Value.ref a from f)
  obtain⟨Y,O,_⟩:=zit I.hok d;obtain⟨Z,J,_⟩:=O.look;exact vV (W.kitx_own (F.get _) F.hd M R r N) I.kIn J e (λz=>nomatch z) h
end
structure Room (k:Nat)(A:Around):Prop where
 hd:A.handled=none
 dp:A.depth+3*k+5<recursionLimit
 un:A.units+16*k+200<cLine
def Room.mono {j k:Nat}{A:Around}(r:Room k A)(h:j<=k):Room j A:=⟨r.hd,by have:=r.dp;lia,by have:=r.un;lia⟩
theorem Room.deeper {k:Nat}(r:Room (k+1) A)(env:Env):Room k (A.deeper env):=
 ⟨r.hd,by have:=r.dp;show A.depth+1+3*k+5<_;lia,by have:=r.un;show A.units+3+16*k+200<_;lia⟩
theorem Room.depth {k:Nat}(r:Room k A):A.depth<recursionLimit:=by have:=r.dp;lia
theorem Room.units {k:Nat}{A:Around}(r:Room k A):A.units+64<cLine:=by have:=r.un;lia
def tNil:TA:=λ_ H Q=>Q [] H
def zjf (e:TE)(tr:TA):TA:=λa H Q=>e a H λx b=>tr a b λf d=>Q (x::f) d
section
variable {X:Cx}{e:Expr}{es:List Expr}{te:TE}{t:TA}{pos:Pos}
def zkP:PA X [] tNil:=λ_ _ _ _ H Q I h=>Calls.spliced_nil ⟨[],H,I,.nil,h⟩
def zhY (l:PE X e te)(m:PA X es t)(n:autoParam (sE e es X) jA1):PA X (e::es) (zjf te t):=by
 intro a b s d H Q I h;rw[n];refine Calls.spliced_cons (thn (l _ s d H _ I h) λu q w =>?_);obtain⟨x,f,i,r1,o⟩:=w;exact thn (m a _ q d f _ i o) λz y ⟨r,g,j,r2,p⟩=>⟨x::r,g,j,.cons r1 r2,p⟩
def tTup (t:TA):TE:=λd H Q=>t d H λb a=>b.length<=sizeLine/\∀p,a p=none->Q (.ref p) (upd a p (.tup b))
def tLst (t:TA):TE:=λd H Q=>t d H λb a=>b.length<=sizeLine/\∀p,a p=none->Q (.ref p) (upd a p (.lst b))
def zkD {l}(h:PA X es t):PE X (.Tuple es l pos) (tTup t):=by
 intro d s m H Q I i;refine wpAny_Tuple_spliced (thn (h pos _ s m H _ I i) λj n ⟨o,f,a,r,z,q⟩=>⟨by rw[<- r.length];exact z,?_⟩);have g  := a.hok.fresh (wu _);refine⟨.ref _,upd f _ _,a.laid (λb u e=>wf _ e) (wu _) ?_,rfl,q _ g⟩;exact⟨z,j,r,⟨_,wq _ rfl,rfl,_,rfl⟩,_,wq _ rfl,rfl⟩
def zkI (h:PA X es t):PE X (.List es pos) (tLst t):=by
 intro d s l H Q I i;refine wpAny_List_spliced (thn (h pos _ s l H _ I i) λj m ⟨n,f,a,r,z,q⟩=>⟨by rw[<- r.length];exact z,?_⟩);have g  := a.hok.fresh (wu _);refine⟨.ref _,upd f _ _,a.laid (λb u e=>wf _ e) (wu _) ?_,rfl,q _ g⟩;exact⟨z,j,0,r,wq _ rfl⟩
end
abbrev Sp:=List V->Hp->VK->XK->Prop
abbrev CXT:=List Env->Hp->Shared->XK->Value->Shared->Prop
structure Env0 (P:Program)(w:World)(K:W.Frag)(mg:WmP)(base:Heap)(A:Around)(outer:List Env)(s:Shared)(H:Hp):Prop where
 frames:A.frames=some outer
 mod:Mod K mg base
 bs:∀b o,base.get? b=some o->s.heap.get? b=some o/\H b=none
 bsz:base.objs.size<=s.heap.objs.size
 funs:s.heap.FunFrames base outer
 frf:∀b∈frs outer,H b=none
 tbs:Tbs K H
 hok:HOk P w H s.heap
 bare:AllBare s.gens
def CE (a:List Env)(P:Program)(w:World)(H:Hp)(s:Shared)(Q:VK)(u:Value)(s':Shared):Prop:=
 ∃v b,s'.os=s.os/\AllBare s'.gens/\Un (frs a) [] H b s.heap s'.heap/\HOk P w b s'.heap/\RelV v u/\Q v b
def CR (CX:CXT)(a:List Env)(P:Program)(w:World)(H:Hp)(s:Shared)(Q:VK)(E:XK)(r:Result)(s':Shared):Prop:=
 match r with
 | .ok (.ret u)=>CE a P w H s Q u s'
 | .ok _=>False
 | .error e=>CX a H s E e s'
structure FnOk (P:Program)(w:World)(K:W.Frag)(mg:WmP)(base:Heap)(CX:CXT)(k:Nat)(f:Addr)(fd:FuncData)(ps:List Str)(sp:Sp):Prop where
 len:∀vs H Q E,sp vs H Q E->vs.length=ps.length
 run:∀A outer s H args us vs Q E,Room k A->Env0 P w K mg base A outer s H->BindsTo s fd args (ps.zip us)->Vals vs us->sp vs H Q E->
  codeAny (model P w) A (.call (.ref f) args) (CR CX outer P w H s Q E) s
def FnOk.imp {P:Program}{w:World}{K:W.Frag}{mg:WmP}{a:Heap}{CX:CXT}{k:Nat}{f:Addr}{e:FuncData}{ps:List Str}{sp sp':Sp}(F:FnOk P w K mg a CX k f e ps sp)
  (h:∀vs H Q E,sp' vs H Q E->sp vs H Q E):FnOk P w K mg a CX k f e ps sp':=
 ⟨λvs H Q E q=>F.len vs H Q E (h _ _ _ _ q),λA b s H d n vs Q E j i g m l=>F.run A _ s H _ n vs Q E j i g m (h _ _ _ _ l)⟩
section
variable {X:Cx}{pins:List (Addr × Obj)}{σ:St}{H:Hp}{s s':Shared}
def Inv.env0 (I:Inv X pins σ H s):Env0 X.prog X.w X.K X.mg X.base X.A X.stack s H:=
 ⟨I.ok.frames,I.ok.mod,I.bs,wP I.ok.bsz I.sz,I.stack,I.stkFree,I.tbs,I.hok,I.bare⟩
def Inv.after (I:Inv X pins σ H s)(h:CE X.stack X.prog X.w H s Q u s'):EP X pins σ Q u s':=by
 obtain⟨v,i,j,a,un,e,r,q⟩:=h;obtain⟨l,g,d,t,f⟩:=s';obtain rfl:f=s.os:=j;exact⟨v,i,I.call un e a (λb z=>absurd z (by simp)),r,q⟩
end
def zh5 (sp:Sp)(a:List V)(E:XK)(t:TA):TE:=λd H Q=>t d H λvs b=>sp (vs++a) b Q E
def z6K (K:W.Frag)(b:FuncData)(ps:List Str)(ds:List Value):Prop:=
 ∀s a,K.In s.heap->(a++ds).length=ps.length->BindsTo s b ⟨a,[]⟩ (ps.zip (a++ds))
def z6K.all {K:W.Frag}{b:FuncData}{ps:List Str}(h:∀a:List Value,a.length=ps.length->bindArgs b ⟨a,[]⟩=pure (ps.zip a)):z6K K b ps []:=λs a _ d=>by
 rw[vW] at d ⊢;exact .of_eq (h a d)
def z4U (CX:CXT)(X:Cx)(E:XK):Prop:=∀a (d:St) H s e b,Inv X a d H s->CX X.stack H s E e b->X.xe e b
section
variable {X:Cx}{CX:CXT}{k:Nat}{f C:Addr}{fd:FuncData}{ps:List Str}{sp:Sp}{dvs:List V}{ds:List Value}{E:XK}{x m:Str}{p pos apos:Pos}{e o:Expr}{es:List Expr}{ta:TE}{t:TA}
def zgc {vs:List V}(F:FnOk X.prog X.w X.K X.mg X.base CX k f fd ps sp)(j:Room k X.A)(d:z6K X.K fd ps ds)(g:Vals dvs ds)(l:z4U CX X E)
  (I:Inv X pins σ H s) (r:Vals vs us) (h:sp (vs++dvs) H Q E):wpAny (model X.prog X.w) X.A (call (.ref f) us) (EP X pins σ Q) X.xe s:=by
 have r2  := r.append g;have i:(us++ds).length=ps.length:=by rw[<- r2.length];exact F.len _ _ _ _ h
 refine wpAny_call (codeAny_mono (F.run X.A _ s H _ _ _ Q E j I.env0 (d s us I.kIn i) r2 h) λr m a =>?_)
 cases r with
 | error e=>exact l _ σ H s e m I a
 | ok b=>
  cases b with
  | ret u=>exact I.after a
  | next=>exact False.elim a
  | brk=>exact False.elim a
  | cont=>exact False.elim a
def zhV (F:FnOk X.prog X.w X.K X.mg X.base CX k f fd ps sp)(y:Room k X.A)(n:Gl X x)(u:X.mg x=some (.ref f))(o:W.keepIn X.K (.ref f)=true)(j:z6K X.K fd ps ds)(l:Vals dvs ds)(z:z4U CX X E)
  (i:PA X (e::es) t) (a:autoParam (dB x) jB1) (m:autoParam (sE e es X) jA1) (b:autoParam (bT pos es X) jA1):
  PE X (.Call (.Name x p) (e::es) [] pos) (zh5 sp dvs E t):=by
 intro g s C H Q I h;refine j2 (zd6 I n u ?_ a);refine W.callWith_K I.ok.mod.kin o (thn (i pos _ s C H _ I h) λL J ⟨vs,G,d,r,q⟩=>⟨d.kIn,?_⟩) m b;exact zgc F y j l z d r q
end
def PK (X:Cx)(b:List Keyword)(t:TA):Prop:=
 ∀d a s (e:St) H Q,Inv X a e H s->t e H Q->wpAny (model X.prog X.w) X.A (evalAll ((backToKw d (keywordEach b X.env)).map (·.2))) (AP X a e Q) X.xe s
structure z5i (N P:List Str)(sc:Scope):Prop where
 kind:sc.kind = .function
 co:sc.isCoroutine=false
 gen:sc.isGenerator=false
 nd:N.Nodup
 pre:N.take P.length=P
 par:∀x∈P,sc.names.lookup x=some .local\/sc.names.lookup x=some .cell
 nofree:∀y∈sc.names,y.2 ≠ .free
theorem z8Z {a:Str->Option NameKind}{x:Str}:∀{binds:List (Str × Value)}{m:WmP},(∀v,(x,v) ∉ binds)->bindL a binds m x=m x
 | [],_,_=>rfl
 | (n,v)::r,m,h=>by
  unfold bindL;rw[z8Z λw b=>h w (wo _ b)]
  split
  .have:x≠n:=by rintro rfl;exact h v wB
   simp[this]
  .rfl
theorem z91 {a:Str->Option NameKind}{x:Str}:∀{binds:List (Str × Value)}{m:WmP},(∀v,(x,v) ∉ binds)->bindC a binds m x=m x
 | [],_,_=>rfl
 | (n,v)::r,m,h=>by
  unfold bindC;rw[z91 λw b=>h w (wo _ b)]
  split
  .rfl
  grind
theorem z90 {a:Str->Option NameKind}{x:Str}{v:Value}:∀{P:List Str}{vs:List Value}{i:Nat}{m:WmP},P.Nodup->P[i]? = some x->vs[i]? = some v->a x=some .local->
  bindL a (P.zip vs) m x=some v
 | [],_,_,_,_,h,_,_=>by simp at h
 | _::_,[],_,_,_,_,h,_=>by simp at h
 | p::P,w::vs,0,m,f,b,d,e=>by
  simp at b d;subst b;subst d;show bindL _ ((p,w)::P.zip vs) m p=_;unfold bindL;rw[z8Z λv g=>(vR.mp f).1 (jH g).1,if_pos e];simp
 | p::P,w::vs,i+1,m,f,b,d,e=>by
  unfold bindL;exact z90 (vR.mp f).2 (by simpa using b) (by simpa using d) e
theorem z92 {a:Str->Option NameKind}{x:Str}{v:Value}:∀{P:List Str}{vs:List Value}{i:Nat}{m:WmP},P.Nodup->P[i]? = some x->vs[i]? = some v->a x≠some .local->
  bindC a (P.zip vs) m x=some v
 | [],_,_,_,_,h,_,_=>by simp at h
 | _::_,[],_,_,_,_,h,_=>by simp at h
 | p::P,w::vs,0,m,f,b,d,e=>by
  simp at b d;subst b;subst d;show bindC _ ((p,w)::P.zip vs) m p=_;unfold bindC;rw[z91 λv g=>(vR.mp f).1 (jH g).1,if_neg e];simp
 | p::P,w::vs,i+1,m,f,b,d,e=>by
  unfold bindC;exact z92 (vR.mp f).2 (by simpa using b) (by simpa using d) e
noncomputable def z4X (N:List Str)(vs:List V):St:=vs.map some++List.replicate (N.length - vs.length) none
noncomputable def cxOf (CX:CXT)(P:Program)(w:World)(K:W.Frag)(mg:WmP)(base:Heap)(N:List Str)(b:Str)(a:Scope)(f:Addr)(g:Value)(A:Around)(outer:List Env)(s:Shared)(H:Hp)(E:XK):Cx where
 prog:=P
 w:=w
 K:=K
 mg:=mg
 base:=base
 A:=A.deeper (envOfC b a s.heap.objs.size f g)
 N:=N
 s₀:=s
 H₀:=H
 env:=envOfC b a s.heap.objs.size f g
 outer:=outer
 stack:=envOfC b a s.heap.objs.size f g::outer
 ex:=[]
 calm:=true
 fn:=λ_=>true
 pn:=[]
 xe:=λe i=>wpAny (model P w) (A.deeper (envOfC b a s.heap.objs.size f g)) (leaving (envOfC b a s.heap.objs.size f g) e) (λ_ d=>CX outer H s E e d) (λh d=>CX outer H s E h d) i
def zaO {sc:Scope}(h:sc.names.lookup x=some .cell):∃c,(cellsFrom n sc.names []).lookup x=some c:=by
 have q:=W.cellsFrom_some _ n [] (.inl h);exact Option.isSome_iff_exists.mp q
def zdf {CX:CXT}{P:Program}{w:World}{K:W.Frag}{mg:WmP}{m:Heap}{N ps:List Str}{j:Str}{d:Scope}{f:Addr}{I:Value}{A:Around}{g:List Env}{s s1:Shared}{H:Hp}{E:XK}{M:List Value}{vs:List V}
  (S:z5i N ps d) (T:A.handled=none) (o:Env0 P w K mg m A g s H) (Z:vs.length=ps.length) (r:Vals vs M)
  (x:InCallC s s.heap.objs.size (bindL (envOfC j d s.heap.objs.size f I).kindOf (ps.zip M) λ_=>none) (cellsFrom (s.heap.objs.size+1) d.names []) (bindC (envOfC j d s.heap.objs.size f I).kindOf (ps.zip M) λ_=>none) s1):
  Inv (cxOf CX P w K mg m N j d f I A g s H E) [] (z4X N vs) H s1:=by
 have U:ps.length<=N.length:=by have:=congrArg List.length S.pre;rw[vA] at this;lia
 obtain⟨J,tk,rfl,O⟩:=x.done;have C:∀b:Addr,b ∉ (cxOf CX P w K mg m N j d f I A g s H E).ex:=λb z=>absurd (show b∈([]) from z) (by simp);refine⟨⟨o.mod,S.kind,rfl,rfl,wu _,λy z c J l =>?_,λy t =>?_,λy c _ h =>?_,λ_=>T,Around.frames_deeper o.frames,.inr ⟨rfl,rfl⟩,λb z=>absurd z (C b),o.bs,o.bsz,λb _ _=>C b,λb z=>absurd z (C b),o.funs,o.frf,o.tbs⟩,
  rfl,o.bare,Un.kept O,⟨_,x.toInCall.ns,λi y v J l Y =>?_⟩,λy c h=>⟨_,x.cell y c h⟩,o.hok.fresh (wu _),λy c h =>?_,λp F=>absurd (show p∈([]) from F) (by simp),o.hok.kept O,?_⟩
 .exact name_of_addr x.apart (jt J) (jt l)
 .have t:d.names.lookup y=some .cell\/d.names.lookup y=some .free:=t
  rcases t with t | t
  .exact zaO t
  .exact absurd rfl (S.nofree _ (jt t))
 .exact uN (x.above y c (jt h))
 .have L:i<vs.length:=by
   unfold z4X at l
   by_cases L:i<vs.length
   .exact L
   .rw[wX (by simpa using L)] at l;rw[ju] at l
    split at l <;> cases l
  have R:vs[i]? = some v:=by
   unfold z4X at l;rw[wH (by simpa using L),wO] at l
   cases e:vs[i]? with
   | none=>rw[e] at l;cases l
   | some a=>rw[e] at l;cases l;rfl
  obtain⟨u,Q,X⟩:=r.get R;have F:ps[i]? = some y:=by
   rw[<- S.pre,List.getElem?_take_of_lt (by lia)];exact J
  have G:ps.Nodup:=by rw[<- S.pre];exact S.nd.sublist (List.take_sublist _ _)
  refine⟨u,X,?_⟩
  rcases S.par y (wv F) with k | k
  .exact .inl ⟨k,z90 G F Q k⟩
  .obtain⟨c,e⟩:=zaO (n:=s.heap.objs.size+1) k;refine .inr ⟨.inl k,c,e,?_⟩;have q:=x.cell y c e;rw[z92 G F Q (by show d.names.lookup y≠_;rw[k];decide)] at q;exact q
 .exact o.hok.fresh (uN (x.above y c (jt h)))
 .unfold z4X;show _=N.length;rw[wC,wd,uO];lia
def znE {P:Program}{K:W.Frag}{mg:WmP}{k:Nat}{name d:Str}{R kV p T g ct oc:Value}
     {N ps:List Str}(lk:K.lookup f=some ⟨oc,od,.func (W.fnOf name d params body scope R kV p T an g ct),osl⟩) (F:W.codeIn K g d=true) (S:z5i N ps scope)
  (len:∀vs H Q E,sp vs H Q E->vs.length=ps.length)
  (j:∀A a s H vs Q E,Room k (A.deeper (envOfC d scope s.heap.objs.size f g))->sp vs H Q E->
   ∃t,PSs (cxOf CX P w K mg base N d scope f g A a s H E) body t/\t { nx:=λ_ i=>Q .non i,rt:=Q } (z4X N vs) H):
  FnOk P w K mg base CX (k+1) f (W.fnOf name d params body scope R kV p T an g ct) ps sp:=by
 refine⟨len,λA a s H O us vs Q E G z Y r C =>?_⟩;have hl:=len _ _ _ _ C;have M:K.In s.heap:=z.mod.kin.keeps λb o e=>(z.bs b o e).1;have lim  := z.mod.nolimit.keeps λb o e=>(z.bs b o e).1;have l:∀y∈ps.zip us,scope.names.lookup y.1=some .local\/(scope.names.lookup y.1=some .cell/\((cellsFrom (s.heap.objs.size+1) scope.names []).lookup y.1).isSome=true):=by
  rintro⟨n,v⟩ hy
  rcases S.par n (jH hy).1 with q | q
  .exact .inl q
  .exact .inr ⟨q,W.cellsFrom_some _ _ _ (.inl q)⟩
 refine codeAny_call_function G.depth (M _ _ lk) rfl S.co S.gen rfl (W.codeRec_of M F) (Y _ _ _ _ ?_);refine wpAny_newFunctionEnv_cells S.kind l λU Z s1 x =>?_;subst Z;refine⟨lim.keeps x.toInCall.keep,codeAny_func ?_⟩;obtain⟨t,ht,hq⟩:=j A a s H vs Q E (G.deeper _) C;have I:Inv (cxOf CX P w K mg base N d scope f g A a s H E) [] (z4X N vs) H s1:=zdf S G.hd z hl r x;refine vQ (ht [] s1 (z4X N vs) H _ I hq) (λX s' m =>?_) λe s' m=>m;have fin:∀{h:St}{i:Hp}{v:V}{u:Value},Inv (cxOf CX P w K mg base N d scope f g A a s H E) [] h i s'->RelV v u->Q v i->CE a P w H s Q u s':=
  λ{h i v u} J L q=>⟨v,i,J.os,J.bare,J.base,J.hok,L,q⟩
 cases X with
 | ret u=>
  obtain⟨v,h,i,J,L,q⟩:=m;exact fin J L q
 | next=>
  obtain⟨h,i,J,q⟩:=m;exact fin (v:=V.non) J rfl q
 | brk=>
  obtain⟨_,_,_,q⟩:=m;exact False.elim q
 | cont=>
  obtain⟨_,_,_,q⟩:=m;exact False.elim q
section
variable {X:Cx}{x:Str}{p pos:Pos}{e:Expr}{es:List Expr}{t:TA}{id T:String}{r:List V->Hp->VK->Prop}
def tCB (r:List V->Hp->VK->Prop)(t:TA):TE:=λb H Q=>t b H λvs a=>r vs a Q
def zf4 (l:z0D X (.builtin id) r)(n:Gl X x)(o:X.mg x=none)(u:bootBuiltins x=some (.builtin id))(j:PA X (e::es) t)(q:autoParam (x≠"__name__") jB1)(a:autoParam (dB x) jB1)
  (m:autoParam (sE e es X) jA1) (b:autoParam (bT pos es X) jA1):PE X (.Call (.Name x p) (e::es) [] pos) (tCB r t):=by
 intro d s f H Q I h;refine j2 (z8z I n o u ?_ q a);exact PyProof.Rows.callWith_builtin1 (thn (j pos _ s f H _ I h) λz y ⟨vs,g,i,r1,w⟩=>l _ y f g vs z Q i r1 w) m b
def zcE (l:z0D X (.type T) r)(n:Gl X x)(o:X.mg x=none)(u:bootBuiltins x=some (.type T))(j:PA X (e::es) t)(q:autoParam (x≠"__name__") jB1)(a:autoParam (dB x) jB1)
  (m:autoParam (sE e es X) jA1) (b:autoParam (bT pos es X) jA1):PE X (.Call (.Name x p) (e::es) [] pos) (tCB r t):=by
 intro d s f H Q I h;refine j2 (z8z I n o u ?_ q a);exact jG (thn (j pos _ s f H _ I h) λz y ⟨vs,g,i,r1,w⟩=>l _ y f g vs z Q i r1 w) m b
end
end L2
namespace HT
open PySem PyProof.Rows
def z0H:List Int->List Int->Bool
 | [],[]=>false
 | [],_::_=>true
 | _::_,[]=>false
 | x::a,y::b=>if x=y then z0H a b else decide (x<y)
def z13 (x y:Int)(xs ys:List Int):z0H (x::xs) (y::ys)=if x=y then z0H xs ys else decide (x<y):=rfl
def z3j:z0H [] []=false:=rfl
def z46 (y:Int)(ys:List Int):z0H [] (y::ys)=true:=rfl
def z47 (x:Int)(xs:List Int):z0H (x::xs) []=false:=rfl
def zaF (A:Around)(s:Shared)(a:Int)(t:Tok)(c:Int)(u:Tok):∃e,SeqAt.EqAt A s (.int a t) (.int c u) e/\(e=true↔a=c):=
 ⟨(a == c),SeqAt.EqAt.int_int a t c u,by simp⟩
def zeu (A:Around)(s:Shared)(a:Int)(t:Tok)(c:Int)(u:Tok)(prog:Program)(w:World)(E:WvP)(Q:WvP)(h:Q (.bool (decide (a<c))) s):
  wpAny (model prog w) A (richCompare .Lt (.int a t) (.int c u)) Q E s:=
 (PyProof.Rows.lt_int h)
section
open PySem.SeqAt
open PySem.AutoSeq1 (wpAny_loadPart')
open PySem.MeetsSeq PySem.MeetsSeq2 PySem.MeetsSeq3
def z77 (l b:Addr)(z04 f:Array Value)(n n2:Nat)(dd Q:Option Addr)(sl W:Array (Option Value))(ns L:List Int)(X:IntsAre z04.toList ns)(Y:IntsAre f.toList L):
  Meets (Builtin.«tuple.__lt__» ⟨[.ref l,.ref b],[]⟩)
   (λ_ R s=>s.heap.get? l=some { cls :=.type "tuple",dict:=dd,data :=.seq z04 n,slots:=sl }/\s.heap.get? b=some { cls :=.type "tuple",dict:=Q,data :=.seq f n2,slots:=W }/\
    R (.ok (.ret (.bool (z0H ns L)))) s):=
 .of_wp λC w A R s h=>by
  obtain⟨K,g,d,N,M⟩:=s;obtain⟨hl,hb,h⟩:=h;have f2:=AutoSeq1.sub_tuple_tuple;have z1:z04.size=ns.length:=by rw[<- X.length];simp
  have z2:f.size=L.length:=by rw[<- Y.length];simp
  wp_walk using jn hl,jn hb,jA _ (λE b U=>Aa3 (b.1=none) (U=⟨K,g,d,N,M⟩) (∃(vs O:List Value) (m j:List Int),E=vs.zip O/\
   IntsAre vs m/\IntsAre O j/\m.length+f.size=j.length+z04.size/\R (.ok (.ret (.bool (z0H m j)))) ⟨K,g,d,N,M⟩)) _
  case turn=>
   rintro⟨y,x⟩ E b U ⟨F,rfl,vs,O,m,j,p,H,o,i,r⟩
   cases H with
   | nil=>rw[List.zip_nil_left] at p;cases p
   | cons a t I=>
    cases o with
    | nil=>rw[List.zip_nil_right] at p;cases p
    | cons c u J=>
     rw[uy] at p
     injection p with T G
     injection T with hy hx
     subst hy hx;rw[z13] at r;simp only[wU] at i;obtain⟨e,he,z⟩:=zaF A.in1 ⟨K,g,d,N,M⟩ a t c u;refine wc (he C w _ _ ?_)
     cases e with
     | true=>
      rw[if_pos (z.mp rfl)] at r
      wp_walk
      exact⟨rfl,rfl,_,_,_,_,G,I,J,by lia,r⟩
     | false=>
      rw[if_neg (λq=>absurd (z.mpr q) vd)] at r;have S:=zeu A.in1 ⟨K,g,d,N,M⟩ a t c u C w
      wp_walk using S
      exact⟨_,rfl,by simpa using r⟩
  case fin=>
   rintro⟨b1,b2⟩ U ⟨F,rfl,vs,O,m,j,p,H,o,i,r⟩;simp only at F;subst F;have Z:z0H m j=decide (z04.size<f.size):=by
    cases H with
    | nil=>
     cases o with
     | nil=>
      simp only[uc] at i;rw[z3j];exact(vB (by lia)).symm
     | cons c u hw=>
      simp only[uc,wU] at i;rw[z46];exact(v4 (by lia)).symm
    | cons a t Z=>
     cases o with
     | nil=>
      simp only[uc,wU] at i;rw[z47];exact(vB (by lia)).symm
     | cons c u hw=>
      rw[uy] at p
      cases p
   rw[Z] at r
   wp_walk
   exact⟨_,rfl,by simpa[Builtin.Tuple.tupleCompareSizes] using r⟩
  case h=>
   exact⟨rfl,rfl,z04.toList,f.toList,ns,L,rfl,X,Y,by lia,h⟩
end
section
variable {prog:Program}{w:World}{A:Around}{E:WvP}{s:Shared}
def zbq {z04 a:Array Value}(G:IsTup s.heap l z04)(t:IsTup s.heap b a)(z:IntsAre z04.toList ns)(C:IntsAre a.toList ms)
  (H:A.units<cLine) (h:Q (.bool (z0H ns ms)) s):wpAny (model prog w) A (compareOp .Lt (.ref l) (.ref b)) Q E s:=by
 obtain⟨⟨q,r,o,sl⟩,p,u,n,y⟩:=id G;obtain⟨⟨m,f,e,j⟩,d,g,I,i⟩:=id t;subst u y g i;exact richCompare_meets_room (op :=.Lt) ⟨_,p,rfl⟩ ⟨_,d,rfl⟩ PySem.F.slot_tuple_lt PySem.F.entry_tuple_lt (PySem.F.args_tuple_lt_2 _ _) (z77 l b _ _ n I r f sl j ns ms z C)
  ⟨p,d,⟨(λx=>nomatch x),h⟩⟩ H
def ziL {t b:Addr}{vs ws:List Value}(C:IsTup s.heap t vs.toArray)(x:IsTup s.heap b ws.toArray)(p:vs≠[])
  (r:ws=[]->Q (.ref t) s) (u:ws≠[]->Q (.ref s.heap.objs.size) { s with heap:=s.heap.push { cls :=.type "tuple",data :=.seq (vs++ws).toArray } })
  (hsz:vs.length+ws.length<=sizeLine):wpAny (model prog w) A (binaryOp .Add (.ref t) (.ref b)) Q E s:=by
 obtain⟨⟨cls,o,data,sl⟩,g,y,n,z⟩:=id C;obtain⟨⟨m,d,i,f⟩,a,j,q,l⟩:=id x;subst y z j l;have e:vs.toArray++ws.toArray=(vs++ws).toArray:=by simp
 by_cases h:ws=[]
 .exact concat_meets ⟨_,g,rfl⟩ ⟨_,a,rfl⟩ noFill_tuple_add seq_tuple_add PySem.F.slot_tuple_add PySem.F.entry_tuple_add (PySem.F.args_tuple_add_2 _ _)
   (tuple_addW1 t b _ _ n q o d sl f (by simpa using p) (by simp[h])) ⟨g,a,r h⟩
 .refine concat_meets ⟨_,g,rfl⟩ ⟨_,a,rfl⟩ noFill_tuple_add seq_tuple_add PySem.F.slot_tuple_add PySem.F.entry_tuple_add (PySem.F.args_tuple_add_2 _ _)
   (tuple_addW2 t b _ _ n q o d sl f (by simpa using p) (by simpa using h) (by omega)) ⟨g,a,?_⟩
  rw[e];exact u h
noncomputable def sIx (n d:Nat):Option Int->Nat
 | none=>d
 | some v=>if v<0 then (v+n).toNat else min v.toNat n
def zjx (n d:Nat)(b:d<=n)(o:Option Int):sIx n d o<=n:=by
 cases o with
 | none=>exact b
 | some v=>
  show (if v<0 then (v+n).toNat else min _ n)<=n
  by_cases a:v<0
  .rw[if_pos a];lia
  .rw[if_neg a];exact Nat.min_le_right _ _
def zdH (v:Int)(n d:Nat):(if v<0 then max (v+n) 0 else min v n)=((sIx n d (some v):Nat)):=by
 show (if v<0 then max _ 0 else min v _)=(((if v<0 then (v+n).toNat else min _ n):Nat))
 grind
def zbC (b a:Option Int)(n:Nat):Builtin.Slice.sliceAdjust b a 1 n=(((sIx n 0 b):Int),((sIx n n a):Int)):=by
 have d:¬ ((1:Int)<0):=by lia
 unfold Builtin.Slice.sliceAdjust;refine ub ?_ ?_
 .cases b with
  | none=>rfl
  | some v=>exact zdH v n 0
 .cases a with
  | none=>rfl
  | some v=>exact zdH v n n
def zb8 (i j:Nat):Builtin.Slice.slicePlaces i j 1=j - i:=by
 unfold Builtin.Slice.slicePlaces;have a:(1) > 0:=by lia
 simp[a,jX,Int.ediv_one]
 split <;> lia
def z6N {v:Value}(p:IsPart v o)(h:Q o s):wpAny (model prog w) A (Builtin.Slice.slicePartIndex v) Q E s:=by
 cases p with
 | none=>exact slicePart_none h
 | int i t=>exact slicePart_int h
def z3r {sl:Addr}{a e:Option Int}{n:Nat}(g:s.heap.IsSliceOf sl vl vu .none)(pl:IsPart vl a)(i:IsPart vu e)
  (h:Q (((sIx n 0 a):Int),1,sIx n n e - sIx n 0 a) s):wpAny (model prog w) A (Builtin.Slice.sliceApplied (.ref sl) (pure n)) Q E s:=by
 obtain⟨j,d,f,b⟩:=id g;refine wc (wc (uz d b (x:=vl) rfl (wc (uz d b (x:=vu) rfl (wc (uz d b rfl (wj ?_)))))));refine wc (slicePart_none ?_);refine wc (z6N pl (wc (z6N i (wc (wj ?_)))));show wpAny _ _ (match Builtin.Slice.sliceAdjust a e 1 n with | (a,e)=>pure (a,(1:Int),Builtin.Slice.slicePlaces a e 1)) _ _ s;rw[zbC a e n];show wpAny _ _ (pure _) _ _ s;rw[zb8];exact wj h
def zeX (xs:Array Value)(i k:Nat):((List.range k).filterMap λ(m:Nat)=>xs[(i+(m:Int)*1).toNat]?).toArray=((xs.toList.drop i).take k).toArray:=by
 have e:(λ(m:Nat)=>xs[((i:Int)+m*1).toNat]?)=λm=>xs[i+m]? := by
  funext m
  have:(i+(m:Int)*1).toNat=i+m:=by lia
  rw[this]
 rw[e];have:=pick_run xs i k;rw[List.filterMap_map] at this;have a:((λx=>xs[x]?) ∘ λx=>i+x)=λm=>xs[i+m]? := rfl
 simp_all
def z5c {t sl:Addr}{z04:Array Value}{b d:Option Int}(e:IsTup s.heap t z04)(l:s.heap.IsSliceOf sl vl vu .none)(pl:IsPart vl b)(r:IsPart vu d)
  (o:¬ (sIx z04.size 0 b=0/\sIx z04.size z04.size d=z04.size))
  (h:Q (.ref s.heap.objs.size) { s with heap:=s.heap.push { cls :=.type "tuple",data :=.seq ((z04.toList.drop (sIx z04.size 0 b)).take (sIx z04.size z04.size d - sIx z04.size 0 b)).toArray } })
  (hsz:z04.size<=sizeLine):wpAny (model prog w) A (getItem (.ref t) (.ref sl)) Q E s:=by
 have a:sizeOk (.seq ((z04.toList.drop (sIx z04.size 0 b)).take (sIx z04.size z04.size d - sIx z04.size 0 b)).toArray):=by
  show ((z04.toList.drop (sIx z04.size 0 b)).take (sIx z04.size z04.size d - sIx z04.size 0 b)).toArray.size<=sizeLine;rw[vq,vA,jB,uq];exact wP (Nat.min_le_right ..) (wP (Nat.sub_le ..) hsz)
 have u:sIx z04.size z04.size d<=z04.size:=zjx _ _ (wu _) d;obtain⟨p,j,g,n⟩:=id l;have f:s.TypeIs (.ref sl) "slice":=⟨p,j,g⟩
 unfold getItem
 try with_reducible refine ua ?_
 first | refine wc (wj ?_) | skip
 refine wc (wpAny_sequenceKey e.typeIs (by decide) ?_);refine wc (vU (name:=Str.ofString "__getitem__") e.typeIs vS
  (ue vS e.typeIs entry_tuple_getitem ?_ (args_tuple_getitem _ _)))
 show wpAny _ _ (Builtin.Tuple.tupleItemsOf (.ref t) >>= _) _ _ s;refine wc (tupleItemsOf_ e ?_);refine wc (jZ f ?_);rw[if_pos (by decide)];refine wc (z3r l pl r ?_);have i:¬ ((((sIx z04.size 0 b):Int) == 0 && (1:Int) == 1 && (sIx z04.size z04.size d - sIx z04.size 0 b) == z04.size)=true):=by
  intro q;rw[vX,vX] at q;have x:((sIx z04.size 0 b):Int)=0:=eq_of_beq q.1.1;have y:sIx z04.size z04.size d - sIx z04.size 0 b=z04.size:=eq_of_beq q.2;exact o ⟨by lia,by lia⟩
 show wpAny _ _ (if (((sIx z04.size 0 b):Int) == 0 && (1) == 1 && (sIx z04.size z04.size d - sIx z04.size 0 b) == z04.size)=true then _ else _) _ _ s;rw[if_neg i,zeX]
 first
  | exact wc (m:=Builtin.Tuple.tupleExact _) (vj (wj ⟨_,rfl,wj h⟩) a)
  | exact wc (m:=Builtin.Tuple.tupleExact _) (vj (wc (wj (wj ⟨_,rfl,wj h⟩))) a)
  | exact wc (wc (m:=Builtin.Tuple.tupleExact _) (vj (wj (wj ⟨_,rfl,wj h⟩)) a))
  | exact wc (wc (m:=Builtin.Tuple.tupleExact _) (vj (wj ⟨_,rfl,wj h⟩) a))
end
end HT
namespace L2
open PySem PySem.Spec PyProof.Rows
abbrev TO:=St->Hp->(Option Int->Hp->Prop)->Prop
def PO (X:Cx)(e:Option Expr)(t:TO):Prop:=
 ∀a s (b:St) H Q,Inv X a b H s->t b H Q->
  wpAny (model X.prog X.w) X.A (evalPart e X.env) (λu f=>∃o d,Inv X a b d f/\IsPart u o/\Q o d) X.xe s
def zbT:TO:=λ_ H Q=>Q none H
def zj9 (t:TE):TO:=λb H Q=>t b H λx a=>∃i,x = .int i/\Q (some i) a
def z3Y:∀{a:List Value},Vals (ns.map V.int) a->IntsAre a ns:=by
 induction ns with
 | nil=>intro a r;cases r;exact .nil
 | cons n ns b=>
  intro a r
  cases r with
  | cons r1 r2=>
   obtain⟨t,e⟩:=r1;subst e;exact .cons n t (b r2)
section
variable {X:Cx}{e:Expr}{te:TE}{lo hi:Option Expr}{tl th:TO}{pos p2:Pos}
def zhS:PO X none zbT:=by
 intro a s b H Q I h;exact wj ⟨none,H,I,.none,h⟩
def zhR (h:PE X e te):PO X (some e) (zj9 te):=by
 intro a s l H Q I f;refine thn (h _ s l H _ I f) λu m j =>?_;obtain⟨x,b,d,r1,g⟩:=j;obtain⟨i,rfl,q⟩:=g;obtain⟨t,rfl⟩:=r1;exact⟨some i,b,d,.int i t,q⟩
def SlR (X:Cx)(r:V->Option Int->Option Int->Hp->VK->Prop):Prop:=
 ∀a s (g:St) H x v e f d b sl Q,Inv X a g H s->RelV x v->s.heap.IsSliceOf sl e f .none->IsPart e d->IsPart f b->r x d b H Q->
  ∃T h,typeLookup (.type T) "__getitem__"=pure (some (.builtin h))/\s.TypeIs v T/\wpAny (model X.prog X.w) X.A (getItem v (.ref sl)) (EP X a g Q) X.xe s
def SlR.or (h:SlR X r)(m:SlR X r'):SlR X (λx b a H Q=>r x b a H Q\/r' x b a H Q):=by
 intro e s l H x v i j b a sl Q I g d pl f q
 rcases q with q | q
 .exact h _ s l H x v i j b a sl Q I g d pl f q
 .exact m _ s l H x v i j b a sl Q I g d pl f q
def tSl (r:V->Option Int->Option Int->Hp->VK->Prop)(f:TE)(tl g:TO):TE:=λa H Q=>f a H λx b=>tl a b λl d=>g a d λu e=>r x l u e Q
def zeZ (F:SlR X r)(A:PE X e te)(E:PO X lo tl)(J:PO X hi th):PE X (.Subscript e (.Slice lo hi none p2) pos) (tSl r te tl th):=by
 intro g s a H Q I h;refine Subscript_ (thn (A _ s a H _ I h) λv O d =>?_);obtain⟨x,n,p,r1,L⟩:=d;refine wpAny_Slice (thn (E _ O a n _ p L) λj R ⟨l,o,t,pl,M⟩=>thn (J _ R a o _ t M) λm i d =>?_);obtain⟨u,f,w,K,N⟩:=d;refine wj ?_;have y:Inv X _ a f { i with heap:=i.heap.push { cls :=.type "slice",data :=.fields #[j,m,.none] } }:=w.kept λb U q=>wf _ q;obtain⟨T,S,z,G,C⟩:=F _ _ a f x v j m l u _ Q y r1 (Heap.IsSliceOf.new ..) pl K N;exact tail_any G z C (by rfl)
def cutV (xs:List V)(a b:Option Int):List V:=(xs.drop (HT.sIx xs.length 0 a)).take (HT.sIx xs.length xs.length b - HT.sIx xs.length 0 a)
def z6o (xs:List V)(b a:Option Int):(cutV xs b a).length<=xs.length:=by
 unfold cutV;rw[vA,jB];exact wP (Nat.min_le_right ..) (Nat.sub_le ..)
def rSlT (K:W.Frag):V->Option Int->Option Int->Hp->VK->Prop:=λx e d H Q=>∃a b,x = .ref a/\SqT K H a b/\
 ¬ (HT.sIx b.length 0 e=0/\HT.sIx b.length b.length d=b.length)/\∀p,H p=none->Q (.ref p) (upd H p (.tup (cutV b e d)))
def zjk:SlR X (rSlT X.K):=by
 intro i s A H x v y z p l sl Q I u m pl t h;obtain⟨a,j,rfl,o,n,q⟩:=h
 cases u
 obtain⟨e,r,f,g⟩:=I.tuple o;have d:e.toArray.size=j.length:=by exact r.length.symm
 refine⟨"tuple",_,vS.lookup,f.typeIs,?_⟩;refine HT.z5c f m pl t (by rw[d];exact n) ?_ (by rw[d];exact g);rw[d];refine⟨.ref _,_,I.laid (λb w q=>wf _ q) (wu _) ?_,rfl,q _ (I.hok.fresh (wu _))⟩;exact⟨wP (z6o j p l) g,_,(r.drop _).take _,IsTup.new _ _,_,wq _ rfl,rfl⟩
def rLtT (K:W.Frag):R2:=λx y H Q=>∃a b e d,x = .ref a/\y = .ref b/\SqT K H a (e.map V.int)/\SqT K H b (d.map V.int)/\Q (.bl (HT.z0H e d)) H
def zl1 (i:X.A.units<cLine):OpR X (compareOp .Lt) (rLtT X.K):=by
 intro e s z H x y v u Q I p r h;obtain⟨a,b,w,t,rfl,rfl,f,g,q⟩:=h
 cases p
 cases r
 obtain⟨m,r1,n,_⟩:=I.tuple f;obtain⟨d,r2,o,_⟩:=I.tuple g;have j  := z3Y r1;have l  := z3Y r2;exact HT.zbq n o j l i ⟨.bl _,H,I,rfl,q⟩
def zmB (K:W.Frag):R2:=λx y H Q=>∃a b e d,x = .ref a/\y = .ref b/\SqT K H a e/\SqT K H b d/\e≠[]/\e.length+d.length<=sizeLine/\
 (d=[]->Q (.ref a) H)/\(d≠[]->∀p,H p=none->Q (.ref p) (upd H p (.tup (e++d))))
def Vals.nil_iff (r:Vals xs us):us=[]↔xs=[]:=by
 cases r with
 | nil=>simp
 | cons _ _=>simp
def zi2:OpR X (binaryOp .Add) (zmB X.K):=by
 intro e s F H x y v u Q I r t h;obtain⟨a,b,C,E,rfl,rfl,f,g,i,j,o,p⟩:=h
 cases r
 cases t
 obtain⟨l,r1,m,_⟩:=I.tuple f;obtain⟨d,r2,n,_⟩:=I.tuple g;refine HT.ziL m n (λz=>i (r1.nil_iff.mp z)) (λz=>⟨.ref a,H,I,rfl,o (r2.nil_iff.mp z)⟩) (λz =>?_) (by rw[<- r1.length, <- r2.length];exact j);refine⟨.ref _,_,I.laid (λb A q=>wf _ q) (wu _) ?_,rfl,p (λw=>z (r2.nil_iff.mpr w)) _ (I.hok.fresh (wu _))⟩;exact⟨by simp_all,_,r1.append r2,IsTup.new _ _,_,wq _ rfl,rfl⟩
end
noncomputable def ixN (n:Nat)(i:Int):Option Nat:=if 0<=i then (if i<n then some i.toNat else none) else if -n<=i then some (i+n).toNat else none
def atI {α:Type}(xs:List α)(i:Int):Option α:=(ixN xs.length i).bind λj=>xs[j]?
def zdd (h:ixN n i=some j):seqIndex? i n=some j/\j<n /\ -n<=i/\i<n:=by
 unfold ixN at h
 by_cases b:0<=i
 .rw[if_pos b] at h
  by_cases a:i<n
  .rw[if_pos a] at h;have e  := w5 h;exact⟨by rw[seqIndex_of b a,e],by lia,by lia,a⟩
  simp_all
 .rw[if_neg b] at h
  by_cases a : -n<=i
  .rw[if_pos a] at h;have e  := w5 h;exact⟨by rw[seqIndex_neg (by lia) a,e],by lia,a,by lia⟩
  simp_all
def z9U {a:Type}{xs:List a}{i:Int}{v:a}(h:atI xs i=some v):∃j,seqIndex? i xs.length=some j/\xs[j]? = some v/\j<xs.length /\ -xs.length<=i/\i<xs.length:=by
 unfold atI at h
 cases e:ixN xs.length i with
 | none=>simp_all
 | some j=>
  rw[e] at h;obtain⟨b,d,f,g⟩:=zdd e;exact⟨j,b,h,d,f,g⟩
def ziO {a:Type}{xs:List a}{j:Nat}{v:a}(h:xs[j]? = some v):atI xs j=some v:=by
 have b  := (wt.mp h).1;have e:ixN xs.length j=some j:=by
  unfold ixN
  simp_all
 unfold atI;rw[e];exact h
def z9W (b:Expr):Prop:=∀o i,subscripted b false o i=operate [o,i] (getItem o i)
def IxR (X:Cx)(r:R2):Prop:=
 ∀d a b s (e:St) H x y v u Q,Inv X b e H s->RelV x v->RelV y u->r x y H Q->
  subscripted a false v u=operate [v,u] (getItem v u)->wpAny (model X.prog X.w) X.A (subscriptTail d a v u) (EP X b e Q) X.xe s
def MtR (X:Cx)(id:String)(r:V->List V->Hp->VK->Prop):Prop:=
 ∀a s (e:St) H x d v b Q,Inv X a e H s->RelV x v->Vals d b->r x d H Q->
  wpAny (model X.prog X.w) X.A (call (.builtin id) (v::b)) (EP X a e Q) X.xe s
section
variable {X:Cx}{a b:Expr}{ta tb:TE}{pos:Pos}
def IxR.or (h:IxR X r)(j:IxR X r'):IxR X (λx y H Q=>r x y H Q\/r' x y H Q):=by
 intro b a e s i H x y v u Q I f g q d
 rcases q with q | q
 .exact h _ _ _ s i H x y v u Q I f g q d
 .exact j _ _ _ s i H x y v u Q I f g q d
def zn1 (j:IxR X r)(g:PE X a ta)(i:PE X b tb)(l:z9W b):PE X (.Subscript a b pos) (tOp r ta tb):=by
 intro d s p H Q I h;exact Subscript_ (binT g i I h λv u o x y e f m n q=>j a b _ o p e x y v u Q f m n q (l _ _))
def rIxL (K:W.Frag):R2:=λx y H Q=>∃p a i v,x = .ref p/\y = .int i/\SqL K H p a/\atI a i=some v/\Q v H
def rIxT (K:W.Frag):R2:=λx y H Q=>∃p a i v,x = .ref p/\y = .int i/\SqT K H p a/\atI a i=some v/\Q v H
def rIxS:R2:=λx y H Q=>∃z i c,x = .str z/\y = .int i/\z.length<=sizeLine/\atI z.cps.toList i=some c/\Q (.str ⟨#[c]⟩) H
def zis:IxR X (rIxL X.K):=by
 intro l g a s M H x y v u Q I J L h o;obtain⟨p,T,i,z,rfl,rfl,G,F,q⟩:=h
 cases J
 obtain⟨t,rfl⟩:=L;obtain⟨e,r,pl,S⟩:=I.list G;obtain⟨j,b,A,N,C,E⟩:=z9U F;obtain⟨w,m,f⟩:=r.get A;have O:=r.length;have R:=z68;have fin:EP X a M Q w s:=⟨z,H,I,f,q⟩
 by_cases n:0<=i
 .have d:i.toNat=j:=by
   rw[seqIndex_of n E] at b;exact w5 b
  exact item_listR pl.isList n (by lia) (by rw[d];simpa using m) fin o
 .have d:(i+e.toArray.size).toNat=j:=by
   rw[seqIndex_neg (by lia) C] at b
   simp_all
  exact subscriptTail_builtinR (x:=w) pl.isList.typeIs slot_list_getitem.lookup
   (wpAny_getItem_list_neg pl.isList (by lia) (by rw[vq] <;> lia) (by lia) (by rw[d];simpa using m) ⟨rfl,fin⟩) o
def zlM:IxR X (rIxT X.K):=by
 intro d b e s E H x y v u Q I A C h n;obtain⟨p,R,i,z,rfl,rfl,m,l,q⟩:=h
 cases A
 obtain⟨t,rfl⟩:=C;obtain⟨o,r,pl,O⟩:=I.tuple m;obtain⟨j,F,g,G,J,L⟩:=z9U l;obtain⟨w,f,a⟩:=r.get g;have M:=r.length;have N:=z68;have fin:EP X _ E Q w s:=⟨z,H,I,a,q⟩
 exact subscriptTail_builtinR pl.typeIs slot_tuple_getitem.lookup
  (getItem_tuple (j:=j) pl (by lia) (by lia) (by simp_all) (by simpa using f) ⟨rfl,fin⟩) n
def zlN:IxR X rIxS:=by
 intro b a e s F H x y v u Q I p r h o;obtain⟨z,i,c,rfl,rfl,C,m,q⟩:=h;obtain⟨t,rfl⟩:=p;obtain⟨E,rfl⟩:=r;obtain⟨j,d,f,w,g,l⟩:=z9U m;have n:z.cps.toList.length=z.length:=by rfl
 rw[n] at d g l;have A:=z68;exact tail_any (typeIs_str s z t) slot_str_getitem.lookup (getItem_str (by
  grind) (by rw[d];simpa using f) ⟨.str _,H,I.tok _,⟨_,rfl⟩,q⟩) o
def rIx (K:W.Frag):R2:=λx y H Q=>rIxL K x y H Q\/rIxT K x y H Q\/rIxS x y H Q
def zlO:IxR X (rIx X.K):=zis.or (zlM.or zlN)
def zbo (a:List Value)(n j:Nat)(u:Value):Obj.mapSeq (·.setIfInBounds j u) { cls :=.type "list",data :=.seq a.toArray n }={ cls :=.type "list",data :=.seq (a.set j u).toArray n }:=by
 simp[Obj.mapSeq]
theorem Inv.lst {b:List (Addr × Obj)}{d:St}{H:Hp}{s:Shared}{p:Addr}{xs:List V}(I:Inv X b d H s)(h:H p=some (.lst xs)):
  ∃(a:List Value) (n:Nat),Vals xs a/\s.heap.get? p=some { cls :=.type "list",data :=.seq a.toArray n }/\xs.length<=sizeLine:=by
 obtain⟨z,a,n,r,e⟩:=I.hok p _ h;exact⟨a,n,r,e,z⟩
def Inv.lstUpd {s:Shared}{xs ys:List V}{d a:List Value}{n g:Nat}{f:Obj->Obj}(I:Inv X pins σ H s)(h:H p=some (.lst xs))
  (l:s.heap.get? p=some { cls :=.type "list",data :=.seq d.toArray n }) (i:f { cls :=.type "list",data :=.seq d.toArray n }={ cls :=.type "list",data :=.seq a.toArray g }) (r:Vals ys a) (m:ys.length<=sizeLine) (t:Nat):
  Inv X pins σ (upd H p (.lst ys)) { s with heap:=s.heap.update p f,toks:=t }:=by
 have e:(s.heap.update p f).get? p=some { cls :=.type "list",data :=.seq a.toArray g }:=by
  rw[vJ f l (by rw[i] <;> rfl),i]
 refine I.write (by rw[h];trivial) (.inl rfl) (λb u j q=>(vC _ _ (vP j)).trans q) ⟨_,e⟩ ?_;exact⟨m,a,g,r,e⟩
def zmx:V->V->V->Hp->(Hp->Prop)->Prop:=λo i v H Q=>∃p a k j,o = .ref p/\i = .int k/\H p=some (.lst a)/\ixN a.length k=some j/\Q (upd H p (.lst (a.set j v)))
def zef:PSet X zmx:=by
 intro m s N H o i v L K u Q I A z C h;obtain⟨p,M,k,j,rfl,rfl,l,y,q⟩:=h
 cases A
 obtain⟨t,rfl⟩:=z;obtain⟨a,n,r,e,J⟩:=I.lst l;obtain⟨b,E,w,x⟩:=zdd y;have F:=r.length;have G:=z68;have f  :=
  I.lstUpd l e (zbo a n j u) (r.set C j) (by simp_all) s.toks
 by_cases g:0<=k
 .have d:k.toNat=j:=by
   rw[seqIndex_of g x] at b;exact w5 b
  exact W.ki_setAt e g (by lia) (by simp_all) (by rw[d];exact⟨_,f,q⟩)
 .have d:(k+a.toArray.size).toNat=j:=by
   rw[seqIndex_neg (by lia) w] at b
   simp_all
  exact W.ki_setBack e (by lia) (by simp_all) (by lia) (by rw[d];exact⟨_,f,q⟩)
def z82 (b a:Option Int)(n:Nat):(sliceBounds b a none n).1=((HT.sIx n 0 b:Nat))/\(sliceBounds b a none n).2.1=((HT.sIx n n a:Nat))/\(sliceBounds b a none n).2.2=1:=by
 refine⟨?_,?_,rfl⟩
 .cases b with
  | none=>rfl
  | some i=>
   simp[sliceBounds,HT.sIx,Option.getD_none,show (1) > 0 by decide,jX]
   by_cases h:i<0
   .simp only[h,jX] <;> lia
   .simp only[h,jv] <;> lia
 .cases a with
  | none=>rfl
  | some i=>
   simp[sliceBounds,HT.sIx,Option.getD_none,show (1) > 0 by decide,jX]
   by_cases h:i<0
   .simp only[h,jX] <;> lia
   .simp only[h,jv] <;> lia
def z7e (a:List Value)(b d:Option Int):slicePick a.toArray b d none=((a.drop (HT.sIx a.length 0 b)).take (HT.sIx a.length a.length d - HT.sIx a.length 0 b)).toArray:=by
 obtain⟨e,f,g⟩:=z82 b d _;unfold slicePick;rw[e,f,g];simp only[sliceRange_one,pick_run,vq] <;> rfl
def rSlL (K:W.Frag):V->Option Int->Option Int->Hp->VK->Prop:=λx e d H Q=>∃a b,x = .ref a/\SqL K H a b/\∀p,H p=none->Q (.ref p) (upd H p (.lst (cutV b e d)))
def zh6:SlR X (rSlL X.K):=by
 intro f s z H x v w y n g sl Q I p i pl o h;obtain⟨a,t,rfl,j,q⟩:=h
 cases p
 obtain⟨m,r,e,l⟩:=I.list j;have d:=r.length;refine⟨"list",_,slot_list_getitem.lookup,e.isList.typeIs,?_⟩;refine wpAny_getItem_list_slice e.isList i pl o .none (by simp) ?_ (by simp_all);rw[z7e, <- d];refine⟨.ref _,_,I.laid (λb u q=>wf _ q) (wu _) ?_,rfl,q _ (I.hok.fresh (wu _))⟩;exact⟨wP (z6o t n g) l,_,0,(r.drop _).take _,wq _ rfl⟩
def z8Y:z0D X (.builtin "len") (λxs H Q=>∃p ys,xs=[.ref p]/\(SqL X.K H p ys\/SqT X.K H p ys)/\Q (.int ys.length) H):=by
 intro f s m H xs l Q I r h;obtain⟨p,ys,rfl,b,q⟩:=h;obtain⟨u,rfl,i⟩:=z32 r
 cases i
 have j:=z68
 rcases b with b | b
 .obtain⟨d,e,pl,g⟩:=I.list b;have a:=e.length;exact Calls.call_len_list pl.isList (by simp only[vq] <;> lia) ⟨.int _,H,I.tok _,⟨s.toks+1,by rw[vq,a]⟩,q⟩
 .obtain⟨d,e,pl,g⟩:=I.tuple b;have a:=e.length;exact len_tuple pl (by simp only[vq] <;> lia) ⟨.int _,H,I.tok _,⟨s.toks+1,by rw[vq,a]⟩,q⟩
def z8X:z0D X (.builtin "len") (λxs H Q=>∃z,xs=[.str z]/\z.length<=sizeLine/\Q (.int z.length) H):=by
 intro a s f H xs e Q I r h;obtain⟨z,rfl,d,q⟩:=h;obtain⟨u,rfl,t,rfl⟩:=z32 r;have b:=z68;exact len_str (by lia) ⟨.int _,H,I.tok _,⟨_,rfl⟩,q⟩
def z0D.or (h:z0D X f r)(g:z0D X f r'):z0D X f (λxs H Q=>r xs H Q\/r' xs H Q):=by
 intro a s e H xs d Q I b q
 rcases q with q | q
 .exact h _ s e H xs d Q I b q
 .exact g _ s e H xs d Q I b q
def z8W:z0D X (.type "list") (λxs H Q=>∃p ys,xs=[.ref p]/\(SqL X.K H p ys\/SqT X.K H p ys)/\∀l,H l=none->Q (.ref l) (upd H l (.lst ys))):=by
 intro C s F H xs G Q I r h;obtain⟨p,ys,rfl,j,q⟩:=h;obtain⟨u,rfl,E⟩:=z32 r
 cases E
 have fin:∀a,Vals ys a->ys.length<=sizeLine->∀(d:Heap) g,(∀b A,s.heap.get? b=some A->d.get? b=some A)->
   d.get? _=some _->EP X _ F Q _ _:=λa f m d g t e=>
  ⟨.ref _,_,I.laid (t':=s.toks) t (wu _) (show z1G _ X.w _ d _ (.lst ys) from ⟨m,a,g,f,e⟩),rfl,q _ (I.hok.fresh (wu _))⟩
 rcases j with j | j
 .obtain⟨a,f,pl,m⟩:=I.list j;have i:=f.length;obtain⟨o,z,x,n,y⟩:=pl.isList;exact call_list_seq p (.inl rfl) z x y (λd g t e=>fin a f m d g t e) (by simp_all)
 .obtain⟨a,f,pl,m⟩:=I.tuple j;have i:=f.length;obtain⟨o,z,x,n,y⟩:=pl;exact call_list_seq p (.inr rfl) z x y (λd g t e=>fin a f m d g t e) (by simp_all)
def z7Q:z0D X (.type "tuple") (λxs H Q=>∃p ys,xs=[.ref p]/\((SqL X.K H p ys/\∀l,H l=none->Q (.ref l) (upd H l (.tup ys)))\/(SqT X.K H p ys/\Q (.ref p) H))):=by
 intro m s A H xs z Q I r h;obtain⟨p,ys,rfl,h⟩:=h;obtain⟨u,rfl,x⟩:=z32 r
 cases x
 rcases h with ⟨d,q⟩ | ⟨d,q⟩
 .obtain⟨a,f,pl,j⟩:=I.list d;have i:=f.length;refine call_tuple_list pl.isList (λy t =>?_) (by grind);have g  := I.kept (t':=s.toks) t;have n  :=
   g.laid (t':=s.toks) (λb o e=>wf _ e) (wu _) (show z1G _ X.w _ _ _ (.tup ys) from ⟨j,a,f,IsTup.new _ _,_,wq _ rfl,rfl⟩)
  exact⟨.ref _,_,n,rfl,q _ (g.hok.fresh (wu _))⟩
 .obtain⟨a,f,pl,j⟩:=I.tuple d;exact call_tuple_same pl ⟨.ref p,H,I,rfl,q⟩
def tyV (K:W.Frag)(T:String)(x:V)(H:Hp):Prop:=match x with
 | .str _=>T="str"
 | .int _=>T="int"
 | .ref p=>(T="list"/\∃b,SqL K H p b)\/(T="tuple"/\∃o,K.lookup p=some o/\o.cls = .type "tuple"/\o.dict=none)\/
   (T="dict"/\((∃a,H p=some (.dK a))\/∃a,H p=some (.dT a)))\/(T="set"/\∃S n,H p=some (.set S n))
 | _=>False
def zg2 {v:Value}(I:Inv X pins σ H s)(r:RelV x v)(d:tyV X.K T x H):
  s.TypeIs v T/\∀a,v = .ref a->∃j,s.heap.get? a=some j/\j.dict=none:=by
 cases x with
 | str z=>
  obtain⟨t,rfl⟩:=r
  cases (show T="str" from d)
  exact⟨typeIs_str s z t,λ_ e=>nomatch e⟩
 | int i=>
  obtain⟨t,rfl⟩:=r
  cases (show T="int" from d)
  exact⟨typeIs_int s i t,λ_ e=>nomatch e⟩
 | ref p=>
  cases r
  rcases d with ⟨rfl,u,m⟩ | ⟨rfl,o,b,l,g⟩ | ⟨rfl,b⟩ | ⟨rfl,S,n,b⟩
  .obtain⟨q,_,pl,_⟩:=I.list m;refine⟨pl.isList.typeIs,λa e =>?_⟩
   cases e
   obtain⟨o,n,e,c,g,_⟩:=pl;exact⟨o,e,g⟩
  .refine⟨⟨o,I.kIn p o b,l⟩,λa e =>?_⟩
   cases e
   exact⟨o,I.kIn _ o b,g⟩
  .have z:∃o,s.heap.get? p=some o/\o.ExactDict:=by
    rcases b with ⟨h,b⟩ | ⟨h,b⟩
    .obtain⟨_,_,_,_,o,_,_,e,ex,_⟩:=I.hok p _ b;exact⟨o,e,ex⟩
    .obtain⟨_,_,_,_,o,_,_,e,ex,_⟩:=I.hok p _ b;exact⟨o,e,ex⟩
   obtain⟨o,e,ex⟩:=z;refine⟨⟨o,e,ex.1⟩,λa f =>?_⟩
   cases f
   exact⟨o,e,ex.2.1⟩
  .obtain⟨o,_,_,_,e,ex,_⟩:=I.hok p _ b;refine⟨⟨o,e,ex.1⟩,λa f =>?_⟩
   cases f
   exact⟨o,e,ex.2.1⟩
 | _=>exact False.elim d
def tBM0 (K:W.Frag)(T:String)(r:V->List V->Hp->VK->Prop)(b:TE):TE:=λd H Q=>b d H λx a=>tyV K T x a/\r x [] a Q
def tBM (K:W.Frag)(T:String)(r:V->List V->Hp->VK->Prop)(e:TE)(t:TA):TE:=λb H Q=>e b H λx a=>tyV K T x a/\t b a λf d=>r x f d Q
variable {o e:Expr}{es:List Expr}{to:TE}{t:TA}{name:Str}{apos cpos:Pos}{T id:String}{r:V->List V->Hp->VK->Prop}
def zkL (q:PlainAttrs T)(d:Slot T name id)(e:typeOf (.builtin id)=pure (.type "method_descriptor"))(n:MtR X id r)(p:PE X o to)
  (a:autoParam (aB o name X) jA1) (b:autoParam (aL apos cpos) jA1):PE X (.Call (.Attribute o name apos) [] [] cpos) (tBM0 X.K T r to):=by
 intro g s i H Q I h;refine wpAny_Call_method0_late a b (thn (p _ s i H _ I h) λv u y =>?_);obtain⟨x,j,f,r1,w,t⟩:=y;obtain⟨l,m⟩:=zg2 f r1 w;exact⟨T,id,q,d,e,l,m,u7 rfl (PySem.evalArgs_none (n _ u i j x [] v [] Q f r1 .nil t))⟩
def zn3 (F:PlainAttrs T)(g:Slot T name id)(i:typeOf (.builtin id)=pure (.type "method_descriptor"))(A:MtR X id r)(C:PE X o to)(z:PA X (e::es) t)
  (b:autoParam (aB o name X) jA1)
  (f:autoParam (aG cpos (e::es) X) jA1)
  (d:autoParam (aL apos cpos) jA1) (E:autoParam (sE e es X) jA1) (a:autoParam (bT cpos es X) jA1):
  PE X (.Call (.Attribute o name apos) (e::es) [] cpos) (tBM X.K T r to t):=by
 intro n s j H Q I h;refine wpAny_Call_method_late b f d rfl (thn (C _ s j H _ I h) λv L R =>?_);obtain⟨x,p,l,r1,N,G⟩:=R;obtain⟨w,y⟩:=zg2 l r1 N;refine⟨T,id,F,g,i,w,y,?_⟩;have m:=z cpos _ L j p _ l G;rw[E] at m ⊢;refine u7 (by show (false || (backTo _ _).any _)=false;rw[a] <;> rfl) (Calls.evalArgs_plain ?_);exact thn m λO M ⟨vs,q,u,r2,J⟩=>A _ M j q x vs v O Q u r1 r2 J
end
def MtM (X:Cx)(id:String)(r:V->List V->Hp->VK->Prop):Prop:=
 ∀a s (e:St) H x d v b Q,Inv X a e H s->RelV x v->Vals d b->r x d H Q->
  wpAny (model X.prog X.w) X.A (call (.builtin id) (v::b)) (EP X a e Q) X.xe s
def Vals.one:∀{x:V}{a:List Value},Vals [x] a->∃u,a=[u]/\RelV x u
 | _,_,.cons r .nil=>⟨_,rfl,r⟩
def Vals.zero:∀{a:List Value},Vals [] a->a=[]
 | _,.nil=>rfl
theorem Vals.dropLast {xs:List V}{a:List Value}(h:Vals xs a):Vals xs.dropLast a.dropLast:=by
 induction h with
 | nil=>exact .nil
 | cons r t b=>
  cases t with
  | nil=>exact .nil
  | cons q d=>exact .cons r b
theorem Vals.reverse {xs:List V}{a:List Value}(h:Vals xs a):Vals xs.reverse a.reverse:=by
 induction h with
 | nil=>exact .nil
 | cons r t b=>rw[uH,uH];exact Vals.append b (.cons r .nil)
def ziS {a:Type}(l:List a):l.eraseIdx (l.length - 1)=l.dropLast:=by
 grind
section
variable {X:Cx}{pins:List (Addr × Obj)}{σ:St}{H:Hp}{s:Shared}{l b:Addr}{xs ys zs:List V}
def Inv.lset {b a:List Value}{n:Nat}{f:Array Value->Array Value}{t':Nat}(I:Inv X pins σ H s)(d:H l=some (.lst xs))
  (e:s.heap.get? l=some { cls :=.type "list",data :=.seq b.toArray n }) (h:f b.toArray=a.toArray) (j:Vals ys a) (m:ys.length<=sizeLine):
  Inv X pins σ (upd H l (.lst ys)) { s with heap:=s.heap.update l (Obj.mapSeq f),toks:=t' }:=by
 have q:=PySem.IsL.update e f;rw[h] at q;refine I.write (by rw[d];exact trivial) (.inl rfl) (λo u g i=>(vC _ _ (vP g)).trans i) ⟨_,q⟩ ?_;exact⟨m,a,_,j,q⟩
def Inv.lnew (I:Inv X pins σ H s)(a:Vals ys its)(b:ys.length<=sizeLine):
  Inv X pins σ (upd H s.heap.objs.size (.lst ys)) { s with heap:=s.heap.push { cls :=.type "list",data :=.seq its.toArray },toks:=t' }:=
 I.laid (λ_ _ q=>wf _ q) (wu _) ⟨b,its,0,a,wq _ rfl⟩
theorem Inv.fresh (I:Inv X pins σ H s):H s.heap.objs.size=none:=I.hok.fresh (wu _)
def Inv.lstM (I:Inv X pins σ H s)(b:H l=some (.lst xs)):xs.length<=sizeLine/\∃(a:List Value) (n:Nat),Vals xs a/\xs.length=a.length/\s.heap.get? l=some { cls :=.type "list",data :=.seq a.toArray n }:=by
 obtain⟨z,a,n,r,e⟩:=I.hok l _ b;exact⟨z,a,n,r,r.length,e⟩
def zfj {n:Nat}(h:n<=sizeLine):Builtin.List.listTooLong n=false:=by
 exact vB (by lia)
end
section
variable {X:Cx}
def zcl:V->List V->Hp->VK->Prop:=λx vs H Q=>∃l a y,x = .ref l/\vs=[y]/\H l=some (.lst a)/\a.length<sizeLine/\Q .non (upd H l (.lst (a++[y])))
def zcW:MtM X "list.append" zcl:=by
 intro b s t H x vs v o Q I i g h;obtain⟨l,p,y,rfl,rfl,a,m,q⟩:=h
 cases i
 obtain⟨u,rfl,f⟩:=g.one;obtain⟨z,d,n,r,j,e⟩:=I.lstM a;refine call_meets F.slot_list_append ⟨_,e,rfl⟩ F.entry_list_append (F.args_list_append_2 _ _) (PySem.list_append l _ n u (by simp_all)) ⟨e,?_⟩;refine⟨.non,_,I.lset a e (by simp) (r.append (.cons f .nil)) ?_,rfl,q⟩;rw[wC,vh];lia
def zhl:V->List V->Hp->VK->Prop:=λx vs H Q=>∃l b a d,x = .ref l/\vs=[.ref b]/\H l=some (.lst a)/\H b=some (.lst d)/\a.length+d.length<=sizeLine/\Q .non (upd H l (.lst (a++d)))
def zcV:MtM X "list.extend" zhl:=by
 intro j s M H x vs v G Q I A y h;obtain⟨l,b,J,L,rfl,rfl,i,o,E,q⟩:=h
 cases A
 obtain⟨u,rfl,w⟩:=y.one
 cases w
 obtain⟨z,f,n,r,C,e⟩:=I.lstM i;obtain⟨K,a,t,r2,p,m⟩:=I.lstM o;have g:f.toArray.size+a.toArray.size<=sizeLine:=by grind
 have d:¬ (!f.toArray.isEmpty && Builtin.List.listTooLong (f.toArray.size+a.toArray.size))=true:=by
  rw[zfj g]
  simp_all
 refine call_meets F.slot_list_extend ⟨_,e,rfl⟩ F.entry_list_extend (F.args_list_extend_2 _ _)
  (AutoSeq1.list_extend_list_list_0 l _ n b _ t d (by lia) (by lia)) ⟨e,m,?_⟩
 refine⟨.non,_,I.lset i e (by simp) (r.append r2) ?_,rfl,q⟩
 simp_all
def rPop:V->List V->Hp->VK->Prop:=λx vs H Q=>∃l a y,x = .ref l/\vs=[]/\H l=some (.lst a)/\a[a.length - 1]? = some y/\Q y (upd H l (.lst a.dropLast))
def zgA:MtM X "list.pop" rPop:=by
 intro g s C H x vs v w Q I o m h;obtain⟨l,A,y,rfl,rfl,f,i,q⟩:=h
 cases o
 have b:=m.zero;subst b;obtain⟨z,a,n,r,p,e⟩:=I.lstM f;obtain⟨u,t,j⟩:=r.get i;have d:a.toArray[a.toArray.size - 1]? = some u:=by
  simp_all
 refine call_meets F.slot_list_pop ⟨_,e,rfl⟩ F.entry_list_pop (F.args_list_pop_1 _) (MeetsSeq.list_pop_last l _ n u d (by simp_all)) ⟨e,?_⟩;refine⟨y,_,I.lset f e ?_ r.dropLast ?_,j,q⟩
 .simp_all
 .rw[List.length_dropLast];lia
end
end L2
namespace Att
open PySem PySem.W PySem.Calls PyProof.Rows
def z6f {P:Params}:∀ns vs,WellAll P h vs (ns.map WData.int)->IntsAre vs ns:=by
 intro ns
 induction ns with
 | nil=>
  intro vs w
  cases w
  exact .nil
 | cons n ns d=>
  intro vs w
  cases w with
  | cons a b=>
   cases a
   exact .cons _ _ (d _ b)
def zc4 {l:OpenLaw}{n:Nat}(s:l.most=some n){P:Params}{h:Heap}
  (b:l.row.toRowW.claim.pre args=true) (j:WellAll P h vals args):
  ∃a vs ns,vals=[Value.ref a]/\args=[WData.list (ns.map WData.int)]/\h.get? a=some { cls :=.type "list",data :=.seq vs.toArray }/\IntsAre vs ns/\ns.length<=n:=by
 have i:WShape.hasAll [] _ _=true:=(pre_splitW b).1;have m:l.pre.holds [] _=true:=(pre_splitW b).2;obtain⟨d,r,rfl,o,p⟩:=hasAllW_cons i;obtain rfl:=hasAllW_nil p;obtain⟨y,rfl,q⟩:=hasW_list o;obtain⟨ns,rfl⟩:=items_int q;have f:ns.length<=n:=by
  unfold OpenLaw.pre at m;have g  := by
   have g:=(holds_andW m).1;rw[s] at g;exact g
  have x:=condW_of g (w_not (w_lt w_lit (w_len_list (w_arg rfl))))
  grind
 cases j with
 | cons u w=>
  cases w
  cases u with
  | list t e=>exact⟨_,_,ns,rfl,rfl,t,z6f ns _ e,f⟩
def zcs (l:OpenLaw)(a:List WData):l.row.toRowW.claim.post a (.bool true) a=true:=
 postW_of
  (rfl)
  (w_eq_bool (w_res rfl) w_lit) rfl
def z9T {l:OpenLaw}{n:Nat}{XP:(Str->Option Value)->Heap->Prop}{C:World->Heap->Prop}{d:DefRec}
  (S:l.most=some n) (u:d.params.defaults=[])
  (call:∀w e b mg z i o A s g a vs ns,
   Ground q loose [] XP w e mg z b.heap->C w b.heap->
   b.heap.get? i=some o->o.data = .func (docDef d.name d.params d.body d.scope A s g)->b.heap.CodeRec s d.name->mg d.name=some (.ref i)->
   b.heap.get? a=some { cls :=.type "list",data :=.seq vs.toArray }->IntsAre vs ns->ns.length<=n->b.gens = #[]->
   codeAny (model l.prog w) callerA (.call (.ref i) ⟨[.ref a],[]⟩) (λr s'=>r = .ok (.ret (.bool true))/\OldK b.heap s'.heap/\s'.os=b.os/\AllBare s'.gens) b):
  WalkO q loose XP C l.row.toRowW d [] (λf vs=>PySem.call f vs):=by
 intro w e b mg z G Y i o A s g J kV T N t F x O E I X p H W y Q;obtain rfl:J = .none:=Dflts.none F u;obtain rfl:kV = .none:=Dflts.noKw F;obtain⟨a,vs,ns,rfl,rfl,m,h,j⟩:=zc4 S p y;refine enter_call (codeAny_mono (call w _ _ mg z i o A s g a vs ns G Y T (fd_plain N) t x m h j O) λr s' U =>?_);obtain⟨rfl,K,L,M⟩:=U;exact⟨.inl ⟨.bool _,.bool _,[],rfl,λ_=>rfl,.bool _,zcs l _,λ_=>⟨List.Pairwise.nil,λ_ R=>(nomatch R)⟩⟩,K,L,M⟩
end Att
namespace L2
open PySem PySem.Spec PyProof.Rows
theorem z7W:∀{vs:List Value}{ns:List Int},IntsAre vs ns->Vals (ns.map V.int) vs
 | _,_,.nil =>.nil
 | _,_,.cons n t h =>.cons ⟨t,rfl⟩ (z7W h)
theorem zgF {f g:Type}[BEq f][LawfulBEq f]{a:f}{b:g}:∀{l:List (f × g)},l.lookup a=some b->(a,b)∈l
 | [],h=>by cases h
 | (c,d)::r,h=>by
  rw[vY] at h
  cases e:a == c with
  | true=>simp_all
  | false=>rw[e] at h;exact .tail _ (zgF h)
set_option tactic.hygienic true in
def z6L {K:W.Frag}{c P:Addr}(h:zbR K c=some P):K.lookup P=none/\∃o vs,K.lookup c=some o/\o.cls = .type "code"/\o.data = .fields vs/\vs[11]? = some (.ref P):=by
 unfold zbR at h
 split at h
 .rename_i vs _ b
  split at h
  .rename_i e a
   split at h
   .rename_i d
    cases h
    exact⟨by simpa using d,_,vs,b,rfl,rfl,a⟩
   .cases h
  .cases h
 .cases h
set_option tactic.hygienic true in
def z7X {K:W.Frag}{P:Addr}{t:Nat × Nat × Str}(h:(tsOf K).lookup P=some t):∃c,zbR K c=some P:=by
 obtain⟨p,_,e⟩:=uU.mp (zgF h)
 split at e
 .split at e
  .rename_i c _ _
   cases q:zbR K c with
   | none=>simp_all
   | some a=>grind
  .cases e
 .cases e
def zfp {P:Program}{K:W.Frag}{mg mb:WmP}{k:Nat}{x:Str}{s₁:Shared}{vs:List Value}{ns:List Int}
  (R:K.In s₁.heap) (N:s₁.heap.Ns mainGlobals mg) (p:s₁.heap.Ns builtinsNs mb) (T:∀x:Str,x≠"__name__"->mb x=bootBuiltins x) (M:s₁.heap.NoLimit) (U:BmAt mg s₁.heap) (hg:s₁.gens = #[])
  (C:s₁.heap.get? a=some { cls :=.type "list",data :=.seq vs.toArray }) (hi:IntsAre vs ns) (hl:ns.length<=sizeLine) (hr:Room k callerA)
  (L:∀P t,(tsOf K).lookup P=some t->s₁.heap.get? P=some { cls :=.none,data :=.fields #[] })
  (F:∀i:Heap,K.In i->i.Ns mainGlobals mg->FnOk P w K mg i CX k fa fd [x] sp) (E:∀s u,BindsTo s fd ⟨[u],[]⟩ [(x,u)])
  (a0:∀H:Hp,SqL K H a (ns.map V.int)->sp [.ref a] H (λv _=>v = .bl true) λ_ _ _=>False)
  (S:∀H e s',CX [] H s₁ (λ_ _ _=>False) e s'->False):
  codeAny (model P w) callerA (.call (.ref fa) ⟨[.ref a],[]⟩) (λr s'=>r = .ok (.ret (.bool true))/\OldK s₁.heap s'.heap/\s'.os=s₁.os/\AllBare s'.gens) s₁:=by
 have rv:=z7W hi;have O:=hi.length;have aT:(tsOf K).lookup a=none:=by
  cases q:(tsOf K).lookup a with
  | none=>rfl
  | some t=>
   have e:=L a t q;rw[C] at e;cases e
 have n:∀u:Option HO,SqL K (λb=>if b=a then u else ((tsOf K).lookup b).map λt =>.tbl (encT t)) a (ns.map V.int)->((u=none)\/(K.lookup a=none/\u=some (.frz { cls :=.type "list",data :=.seq vs.toArray } (.lst (ns.map V.int)))))->
   codeAny (model P w) callerA (.call (.ref fa) ⟨[.ref a],[]⟩) (λr s'=>r = .ok (.ret (.bool true))/\OldK s₁.heap s'.heap/\s'.os=s₁.os/\AllBare s'.gens) s₁:=by
  intro u hS f;generalize hH:(λb=>if b=a then u else ((tsOf K).lookup b).map λt=>HO.tbl (encT t))=H at hS;have g:∀{b v},H b=some v->(b=a/\u=some v)\/(b≠a/\∃t,(tsOf K).lookup b=some t/\v = .tbl (encT t)):=λ{b v} e=>by
   rw[<- hH] at e
   by_cases p:b=a
   .exact .inl ⟨p,by rw[<- e];exact(if_pos p).symm⟩
   .have Q:=(if_neg p).symm.trans e
    cases q:(tsOf K).lookup b with
    | none=>rw[q] at Q;cases Q
    | some t=>rw[q] at Q;cases Q;exact .inr ⟨p,t,rfl,rfl⟩
  have Z:HOk P w H s₁.heap:=λb v e=>by
   rcases g e with ⟨rfl,z⟩ | ⟨_,t,q,rfl⟩
   .rcases f with f | ⟨_,f⟩
    .rw[f] at z;cases z
    .rw[f] at z
     cases z
     exact⟨C,by rw[wd];exact hl,vs,_,rv,C⟩
   .exact .inl (L b t q)
  have a1:∀{b:Addr}{o:Obj}{G:Array DictEntry}{ep:Nat},s₁.heap.get? b=some o->o.data = .dict G ep->H b=none:=λ{b o G ep} e d=>by
   cases q:H b with
   | none=>rfl
   | some v=>
    rcases g q with ⟨rfl,_⟩ | ⟨_,t,q,_⟩
    .rw[C] at e;cases e;have A:Data.seq vs.toArray _=Data.dict G ep:=d
     cases A
    .have:=L b t q;rw[e] at this;cases this;have A:Data.fields _=Data.dict G ep:=d
     cases A
  have a2:∀{b:Addr}{o:Obj},s₁.heap.get? b=some o->o.data = .plain->H b=none:=λ{b o} e d=>by
   cases q:H b with
   | none=>rfl
   | some v=>
    rcases g q with ⟨rfl,_⟩ | ⟨_,t,q,_⟩
    .rw[C] at e;cases e;have A:Data.seq vs.toArray _=Data.plain:=d
     cases A
    .have:=L b t q;rw[e] at this;cases this;have A:Data.fields _=Data.plain:=d
     cases A
  have j:∀{b:Addr}{m:WmP},s₁.heap.Ns b m->(hidT s₁.heap H).Ns b m:=λ{b m} ⟨o,G,ep,e,d,r⟩=>⟨o,G,ep,z7G e (a1 e d),d,r⟩
  have J:K.In (hidT s₁.heap H):=λb o e=>z7G (R b o e) (by
   cases q:H b with
   | none=>rfl
   | some v=>
    rcases g q with ⟨rfl,z⟩ | ⟨_,t,q,_⟩
    .rcases f with f | ⟨f,_⟩
     .rw[f] at z;cases z
     .rw[f] at e;cases e
    .obtain⟨c,X⟩:=z7X q;rw[(z6L X).1] at e;cases e)
  have hM:Mod K mg (hidT s₁.heap H):=⟨J,j N,⟨mb,j p,T⟩,let ⟨mc,h1,h2⟩:=M;⟨mc,j h1,h2⟩,let ⟨bm,ob,b1,b2,b3,b4,b5,b6⟩:=U;⟨bm,ob,b1,b2,z7G b3 (a2 b3 b6),b4,b5,b6⟩⟩
  have e0:Env0 P w K mg (hidT s₁.heap H) callerA [] s₁ H:=⟨rfl,hM,λb o e=>zi4 e,Nat.le_of_eq (zdj _ _),trivial,λb p=>absurd (show b∈([]) from p) (by simp),λPt t e=>⟨#[],by
   rw[<- hH];show (if Pt=a then u else ((tsOf K).lookup Pt).map λt=>HO.tbl (encT t))=_;rw[if_neg (λz=>by rw[z,aT] at e;cases e),e];simp⟩,Z,.of_eq hg⟩
  refine codeAny_mono ((F _ J (j N)).run callerA [] s₁ H ⟨[.ref a],[]⟩ [.ref a] [.ref a] _ _ hr e0 (E s₁ (.ref a)) (.cons rfl .nil) (a0 H hS)) λr s' h =>?_
  cases r with
  | error e=>exact(S H e s' h).elim
  | ok fl=>
   cases fl with
   | next=>exact False.elim h
   | brk=>exact False.elim h
   | cont=>exact False.elim h
   | ret v0=>
    obtain⟨v,H',os,I,un,y,r',q⟩:=h;have q':v = .bl true:=q;subst q';obtain rfl:v0=Value.bool true:=r';refine⟨rfl,⟨λb o e =>?_,λb o e=>un.there b o e (by simp)⟩,os,I⟩
    cases q:H b with
    | none=>exact .inl (un.keep b o e q (by intro z;exact absurd (show b∈([]) from z) (by simp)) (by simp))
    | some v=>
     rcases g q with ⟨rfl,z⟩ | ⟨_,t,q2,rfl⟩
     .rcases f with f | ⟨_,f⟩
      .rw[f] at z;cases z
      .rw[f] at z
       cases z
       obtain⟨e2,_⟩:=y _ _ (un.frzs _ _ _ q);rw[C] at e
       cases e
       exact .inl e2
     .have e1:=L b t q2;rw[e] at e1
      cases e1
      obtain⟨more,q3⟩:=un.tbls b _ q;obtain⟨c,X⟩:=z7X q2;obtain⟨_,oc,vc,c1,c2,c3,c4⟩:=z6L X
      rcases y b _ q3 with z | ⟨l,c,_,_,c',_,_,_,_,_,_,z,_⟩
      .exact .inl z
      .exact .inr (.inl ⟨⟨_,oc,vc,R _ _ c1,c2,c3,c4⟩,rfl, #[], #[l,c,.ref c'],rfl,by rw[z];simp⟩)
 cases Y:K.lookup a with
 | some o=>
  have e:=R a o Y;rw[C] at e
  cases e
  exact n none (.inr ⟨_,vs.toArray,_,Y,rfl,rfl,rfl,by rw[vq,O];exact hl,by simpa using rv⟩) (.inl rfl)
 | none=>exact n _ (.inl (.inr ⟨_,if_pos rfl⟩)) (.inr ⟨Y,rfl⟩)
def zgX {l:W.OpenLaw}{n k:Nat}{XP:(Str->Option Value)->Heap->Prop}{y:World->Heap->Prop}{d:DefRec}{K:Params->W.Frag}{CX:World->CXT}{sp:World->Sp}{x:Str}
  (hn:l.most=some n) (I:n<=sizeLine) (C:d.params.defaults=[]) (hr:Room k callerA)
  (U:∀w h,y w h->(K w.params).In h) (S:∀w h,y w h->∀P t,(tsOf (K w.params)).lookup P=some t->h.get? P=some { cls :=.none,data :=.fields #[] })
  (F:∀w mg r h,(K w.params).In h->h.Ns mainGlobals mg->mg d.name=some (.ref r)->
   ∃z,(∀s u,BindsTo s z ⟨[u],[]⟩ [(x,u)])/\
    ∀i:Heap,(K w.params).In i->i.Ns mainGlobals mg->FnOk l.prog w (K w.params) mg i (CX w) k r z [x] (sp w))
  (J:∀w H a (ns:List Int),ns.length<=n->SqL (K w.params) H a (ns.map V.int)->sp w [.ref a] H (λv _=>v = .bl true) λ_ _ _=>False)
  (A:∀w H s e s',CX w [] H s (λ_ _ _=>False) e s'->False):
  W.WalkO q loose XP y l.row.toRowW d [] (λf vs=>PySem.call f vs):=by
 refine Att.z9T hn C λw M N mg mb r o pm cd O a vs ns G Y ho hd Z E p m j hg =>?_;have L:=U w _ Y;obtain⟨z,X,Q⟩:=F w mg r _ L G.T.g E;exact zfp L G.T.g G.T.b G.T.builtins G.T.nolimit G.T.bmain hg p m (wP j I) hr (S w _ Y) Q X (λH R=>J w H a ns j R) λH e s'=>A w H _ e s'
def z3q (s:Stmt):Arguments:=match s with
 | .FunctionDef _ a _ _ _ _ _ _ _ _=>a
 | _=>{ posonlyargs:=[],args:=[],vararg:=none,kwonlyargs:=[],kw_defaults:=[],kwarg:=none,defaults:=[] }
def z1Y (s:Stmt):List Stmt:=match s with
 | .FunctionDef _ _ b _ _ _ _ _ _ _=>b
 | _=>[]
def z0g (s:Stmt):Scope:=match s with
 | .FunctionDef _ _ _ _ _ _ sc _ _ _=>sc
 | _=>{ kind :=.function,names:=[],isGenerator:=false,isCoroutine:=false }
abbrev E0:XK:=λ_ _ _=>False
structure Fun (K:W.Frag)(x qual:Str)(st:Stmt)(f:Addr)(fd:FuncData):Prop where
 ex:∃(oc:Value) (od:Option Addr) (kV doc pm:Value) (an:Option Addr) (cdv ct:Value) (osl:Array (Option Value)),
  fd=W.fnOf x qual (z3q st) (z1Y st) (z0g st) .none kV doc pm an cdv ct/\K.lookup f=some ⟨oc,od,.func fd,osl⟩/\W.codeIn K cdv qual=true
 kp:W.keepIn K (.ref f)=true
section
variable {P:Program}{w:World}{K:W.Frag}{mg:WmP}{base:Heap}
def Fun.binds {st:Stmt}{ps:List Str}(F:Fun K x qual st f fd)
  (h:∀kV b e d a ct g,g.length=ps.length->bindArgs (W.fnOf x qual (z3q st) (z1Y st) (z0g st) .none kV b e d a ct) ⟨g,[]⟩=pure (ps.zip g)):z6K K fd ps []:=by
 obtain⟨m,n,kV,b,e,d,a,ct,j,rfl,l,i⟩:=F.ex;exact .all (h kV b e d a ct)
def zgM {st:Stmt}{kV b d a ct:Value}(l:K.lookup f=some ⟨oc,od,.func (W.fnOf x qual (z3q st) (z1Y st) (z0g st) .none kV b d an a ct),osl⟩)
  (c:W.codeIn K a qual=true) (k:W.keepIn K (.ref f)=true):Fun K x qual st f (W.fnOf x qual (z3q st) (z1Y st) (z0g st) .none kV b d an a ct):=⟨⟨oc,od,kV,b,d,an,a,ct,osl,rfl,l,c⟩,k⟩
end
def iteF {A B:Prop}(h:B):if false=true then A else B:=by
 grind
def iteT {A B:Prop}(h:A):if true=true then A else B:=by
 exact h
def Same (H a:Hp):Prop:=∀b o,H b=some o->a b=some o
def Same.seq {K:W.Frag}{H b:Hp}{a:Addr}{xs:List V}(e:Same H b)(h:SqL K H a xs):SqL K b a xs:=by
 rcases h with (h | ⟨o,h⟩) | h
 .exact .inl (.inl (e _ _ h))
 .exact .inl (.inr ⟨o,e _ _ h⟩)
 .exact .inr h
end L2
set_option maxHeartbeats 4000000
namespace L2
open PySem PySem.Spec PyProof.Rows
open Builtin.Int (intBits)
abbrev Bt (n:Nat)(i:Int):Prop:=intBits i<=n
def Bt.le {m n:Nat}{i:Int}(h:Bt m i)(q:autoParam (m<=n) jB1):Bt n i:=wP h q
def z05 {n:Nat}{i:Int}(h:i.natAbs<2 ^ n):Bt n i:=PySem.intBits_le_iff.mpr h
def Bt.of_abs {n:Nat}{i j:Int}(h:Bt n j)(q:i.natAbs<=j.natAbs):Bt n i:=PySem.intBits_le_of_natAbs q h
def Bt.add {m n:Nat}{i j:Int}(h:Bt m i)(q:Bt n j):Bt (max m n+1) (i+j):=PySem.intBits_add_le h q
def Bt.sub {m n:Nat}{i j:Int}(h:Bt m i)(q:Bt n j):Bt (max m n+1) (i - j):=PySem.intBits_sub_le h q
def Bt.mul {m n:Nat}{i j:Int}(h:Bt m i)(q:Bt n j):Bt (m+n) (i*j):=PySem.intBits_mul_le h q
def Bt.neg {m:Nat}{i:Int}(h:Bt m i):Bt m (-i):=PySem.intBits_neg_le h
def ziR (i j:Int):Prop:=Bt 60000000 i/\Bt 60000000 j
def zmh (_ j:Int):Prop:=j≠0/\Bt 9000 j
def zd5 (a:j≠0)(h:Bt 9000 j):j.natAbs.log2<9000:=by
 have e:intBits j=j.natAbs.log2+1:=by
  unfold Builtin.Int.intBits
  simp_all
 omega
section
variable {X:Cx}{a b c:Expr}{ta tb tc:TE}{pos:Pos}
def zi0:OpR X (binaryOp .Mult) (rI ziR λi j =>.int (i*j)):=opI λ_ _ _ _ _ _ _ a q=>mul_int q (IntMulOk.of_le a.1 a.2 (by decide))
def zf8:OpR X (binaryOp .FloorDiv) (rI zmh λi j =>.int (i.fdiv j)):=opI λ_ _ _ _ _ _ _ a q=>floordiv_int a.1 q (.inl (PyProof.noPylong_of_log2 (zd5 a.1 a.2)))
end
mutual
def Rp (K:W.Frag)(H:Hp):PyData->V->Prop
 | .none,v=>v = .non
 | .bool b,v=>v = .bl b
 | .int i,v=>v = .int i
 | .str x,v=>v = .str x
 | .list e,v=>∃a d,v = .ref a/\SqL K H a d/\RpL K H e d
 | .tuple e,v=>∃a d,v = .ref a/\SqT K H a d/\RpL K H e d
 | .dict _,_=>False
def RpL (K:W.Frag)(H:Hp):List PyData->List V->Prop
 | [],a=>a=[]
 | d::b,a=>∃x r,a=x::r/\Rp K H d x/\RpL K H b r
end
def Same.seqT {K:W.Frag}{H b:Hp}{a:Addr}{xs:List V}(e:Same H b)(h:SqT K H a xs):SqT K b a xs:=by
 rcases h with (h | ⟨o,h⟩) | h
 .exact .inl (.inl (e _ _ h))
 .exact .inl (.inr ⟨o,e _ _ h⟩)
 .exact .inr h
mutual
theorem Rp.same {K:W.Frag}{H l:Hp}(e:Same H l):∀(d:PyData) {v:V},Rp K H d v->Rp K l d v
 | .none,_,h=>by simpa[Rp] using h
 | .bool _,_,h=>by simpa[Rp] using h
 | .int _,_,h=>by simpa[Rp] using h
 | .str _,_,h=>by simpa[Rp] using h
 | .list b,_,h=>by
  rw[Rp] at h ⊢;obtain⟨a,j,f,g,i⟩:=h;exact⟨a,j,f,e.seq g,RpL.same e b i⟩
 | .tuple b,_,h=>by
  rw[Rp] at h ⊢;obtain⟨a,j,f,g,i⟩:=h;exact⟨a,j,f,e.seqT g,RpL.same e b i⟩
 | .dict _,_,h=>by simp[Rp] at h
theorem RpL.same {K:W.Frag}{H a:Hp}(e:Same H a):∀(ds:List PyData) {xs:List V},RpL K H ds xs->RpL K a ds xs
 | [],_,h=>by simpa[RpL] using h
 | d::ds,_,h=>by
  rw[RpL] at h ⊢;obtain⟨x,r,b,f,g⟩:=h;exact⟨x,r,b,Rp.same e d f,RpL.same e ds g⟩
end
section
variable {X:Cx}{pins:List (Addr × Obj)}{σ:St}{H:Hp}{s:Shared}
mutual
theorem Rp.reads (I:Inv X pins σ H s):∀(d:PyData) {v:V}{u:Value},Rp X.K H d v->RelV v u->∃f,Reads s.heap u d f
 | .none,v,u,h,r=>by
  rw[Rp] at h;subst h
  cases (show u=Value.none from r);exact⟨_,.none⟩
 | .bool b,v,u,h,r=>by
  rw[Rp] at h;subst h
  cases (show u=Value.bool b from r);exact⟨_,.bool b⟩
 | .int i,v,u,h,r=>by
  rw[Rp] at h;subst h;obtain⟨t,rfl⟩:=(show ∃t,u=Value.int i t from r);exact⟨_,.int i t⟩
 | .str x,v,u,h,r=>by
  rw[Rp] at h;subst h;obtain⟨t,rfl⟩:=(show ∃t,u=Value.str x t from r);exact⟨_,.str x t⟩
 | .list g,v,u,h,r=>by
  rw[Rp] at h;obtain⟨a,z,rfl,j,l⟩:=h
  cases (show u=Value.ref a from r)
  obtain⟨y,w,⟨o,n,e,m,_,p⟩,_⟩:=I.list j;obtain⟨f,q⟩:=RpL.reads I g l w;exact⟨_,.list e m p (by simpa using q)⟩
 | .tuple g,v,u,h,r=>by
  rw[Rp] at h;obtain⟨a,z,rfl,j,l⟩:=h
  cases (show u=Value.ref a from r)
  obtain⟨y,w,⟨o,e,m,n,p⟩,_⟩:=I.tuple j;obtain⟨f,q⟩:=RpL.reads I g l w;exact⟨_,.tuple e m p (by simpa using q)⟩
 | .dict _,v,u,h,r=>by simp[Rp] at h
theorem RpL.reads (I:Inv X pins σ H s):∀(ds:List PyData) {xs:List V}{a:List Value},RpL X.K H ds xs->Vals xs a->∃b,ReadsAll s.heap a ds b
 | [],xs,a,h,r=>by
  rw[RpL] at h;subst h
  cases r;exact⟨_,.nil⟩
 | d::ds,xs,a,h,r=>by
  rw[RpL] at h;obtain⟨x,t,rfl,e,f⟩:=h
  cases r with
  | cons r1 r2=>
   obtain⟨b,q⟩:=Rp.reads I d e r1;obtain⟨bs,g⟩:=RpL.reads I ds f r2;exact⟨_,.cons q g⟩
end
end
section
variable {X:Cx}
def rEqD (K:W.Frag)(neg:Bool):R2:=λx y H Q=>∃d e,Rp K H d x/\Rp K H e y/\PySem.SeqAt.shaped d=true/\PySem.SeqAt.shaped e=true/\Q (.bl (if neg then !PyData.eqv d e else PyData.eqv d e)) H
def zl4 (j:X.A.units+64<cLine):OpR X (compareOp .Eq) (rEqD X.K false):=by
 intro a s o H x y v u Q I l m h;obtain⟨d,e,b,f,g,i,q⟩:=h;obtain⟨n,r1⟩:=Rp.reads I d b l;obtain⟨bs,r2⟩:=Rp.reads I e f m;exact eq_dataH r1 r2 g i j ⟨.bl _,H,I,rfl,q⟩
def zl0 (j:X.A.units+64<cLine):OpR X (compareOp .NotEq) (rEqD X.K true):=by
 intro a s o H x y v u Q I l m h;obtain⟨d,e,b,f,g,i,q⟩:=h;obtain⟨n,r1⟩:=Rp.reads I d b l;obtain⟨bs,r2⟩:=Rp.reads I e f m;exact ne_dataH r1 r2 g i j ⟨.bl _,H,I,rfl,q⟩
end
structure Cal (P:Program)(w:World)(K:W.Frag)(mg:WmP)(base:Heap)(CX:CXT)(k:Nat)(x:Str)(ps:List Str)(sp:Sp):Prop where
 ex:∃f fd,FnOk P w K mg base CX k f fd ps sp/\mg x=some (.ref f)/\W.keepIn K (.ref f)=true/\z6K K fd ps []
section
variable {X:Cx}{CX:CXT}{k:Nat}{ps:List Str}{sp:Sp}{E:XK}{x:Str}{p pos:Pos}{e:Expr}{es:List Expr}{t:TA}
def zn2 (C:Cal X.prog X.w X.K X.mg X.base CX k x ps sp)(m:Room k X.A)(n:z4U CX X E)(d:PA X (e::es) t)(i:autoParam (Gl X x) jA1)
  (a:autoParam (dB x) jB1) (h:autoParam (sE e es X) jA1) (b:autoParam (bT pos es X) jA1):
  PE X (.Call (.Name x p) (e::es) [] pos) (zh5 sp [] E t):=by
 obtain⟨f,o,F,l,j,g⟩:=C.ex;exact zhV F m i l j g .nil n d a h b
end
end L2
namespace L2
open PySem PySem.Spec PyProof.Rows
section
variable {P:Program}{w:World}{H:Hp}{h h':Heap}{a:Addr}{o:HO}
def HOk.track (x:HOk P w H h)(f:H a=none)(new:z1G P w (upd H a o) h a o):HOk P w (upd H a o) h:=λb u e=>by
 by_cases d:b=a
 .subst d;rw[z0c] at e;grind
 .rw[z08 d] at e;exact(x b u e).stay (λc v _ q=>q) (λc q=>by rw[z08 (z0T q f)];exact q) λc g q=>by rw[z08 (z0T q f)];exact q
def HOk.other (x:HOk P w H h)(g:H a=none)(k:∀b u,b≠a->h.get? b=some u->h'.get? b=some u):HOk P w H h':=λb u e=>by
 have d:∀c v,H c=some v->c≠a:=λc v q z=>by grind
 refine(x b u e).stay (λc v f q=>k c v ?_ q) (λ_ q=>q) λ_ _ q=>q
 rcases f with z | z
 .rw[z];exact d b u e
 .exact d c _ z
end
end L2
namespace Mth
def z3J {t b:Int}(h:0<b):(0)<(Int.gcd t b:Int)/\t=(Int.gcd t b)*(t / (Int.gcd t b))/\b=(Int.gcd t b)*(b / (Int.gcd t b))/\1<=b / (Int.gcd t b)/\Int.gcd (t / (Int.gcd t b)) (b / (Int.gcd t b))=1:=by
 have p:=(Int.gcd_pos_iff (a:=t) (b:=b)).mpr (.inr (by lia));have d:t=(Int.gcd t b)*(t / (Int.gcd t b)):=(jk (jC t b)).symm;have e:b=(Int.gcd t b)*(b / (Int.gcd t b)):=(jk (jO t b)).symm;refine⟨by lia,d,e,?_,?_⟩
 .rcases(show b / (Int.gcd t b)<1\/1<=b / (Int.gcd t b) by lia) with q | q
  .have:(Int.gcd t b)*(b / (Int.gcd t b))<=0:=vp (by lia) (by lia);lia
  .exact q
 .have q:=Int.gcd_mul_left (Int.gcd t b) (t / (Int.gcd t b)) (b / (Int.gcd t b));rw[<- d, <- e,j3] at q;have f:Int.gcd t b*1=Int.gcd t b*Int.gcd (t / (Int.gcd t b)) (b / (Int.gcd t b)):=by rw[Nat.mul_one];exact q
  exact(jh p f).symm
def z1h {a b:Int}(d:0<b):(a / b).natAbs<=a.natAbs:=by
 rw[<- Int.fdiv_eq_ediv_of_nonneg a (wz d)];exact PySem.natAbs_fdiv_le a b
end Mth
namespace L2
open PySem PySem.Spec PyProof.Rows
def zaP (a : -(2 ^ 64)<i)(b:i<2 ^ 64):Bt 9000 i:=wP (PySem.intBits_le_64 a b) (by decide)
def bt_k (h:i.natAbs<2 ^ 640):Bt 640 i:=z05 h
def bt_n (a:0<=i)(h:i<2 ^ 640):Bt 640 i:=z05 (by lia)
def z0o {H:Hp}{p:Addr}(h:H p=none)(o:HO):Same H (upd H p o):=λb u q=>by rw[z08 (z0T q h)];exact q
def PE.imp {X:Cx}{e:Expr}{t t':TE}(h:PE X e t)(i:∀a H Q,t' a H Q->t a H Q):PE X e t':=λb s a H Q I q=>h _ s a H Q I (i a H Q q)
def OpR.imp {X:Cx}{f:Value->Value->Sem Value}{r r':R2}(h:OpR X f r)(i:∀x y H Q,r' x y H Q->r x y H Q):OpR X f r':=λa s e H x y v u Q I b d q=>h _ s e H x y v u Q I b d (i x y H Q q)
section
variable {X:Cx}{es:List Expr}{t:TA}{pos:Pos}
def SlR.imp {r r':V->Option Int->Option Int->Hp->VK->Prop}(h:SlR X r)(i:∀x b a H Q,r' x b a H Q->r x b a H Q):SlR X r':=by
 unfold SlR at h ⊢
 intros
 apply h
 all_goals first | assumption | simp_all
end
structure QE (X:Cx)(e:Expr)(t:TE):Prop where
 p:PE X e t
structure QT (X:Cx)(e:Expr)(t:TT):Prop where
 p:PT X e t
structure QW (X:Cx)(e:Expr)(t:TT):Prop where
 p:PW X e t
structure QA (X:Cx)(es:List Expr)(t:TA):Prop where
 p:PA X es t
structure QS (X:Cx)(st:Stmt)(t:TS):Prop where
 p:PS X st t
structure QSs (X:Cx)(st:List Stmt)(t:TS):Prop where
 p:PSs X st t
structure QG (X:Cx)(e:Expr)(t:TG):Prop where
 p:PG X e t
structure QGs (X:Cx)(es:List Expr)(t:TGs):Prop where
 p:PGs X es t
structure QI (X:Cx)(tg e:Expr)(t:TI):Prop where
 p:PI X tg e t
structure QO (X:Cx)(e:Option Expr)(t:TO):Prop where
 p:PO X e t
section
variable {X:Cx}{a b c e f o:Expr}{ta tb tc te:TE}{pos pos2 p2:Pos}{tA tB':TT}{rest:List Expr}{es:List Expr}{aa:TA}
def zkm {i j a}:QE X (.Constant (.int i) j a) (tC (.int i)):=⟨zkK⟩
def zmV {i j a}:QE X (.Constant (.bool i) j a) (tC (.bl i)):=⟨zn4⟩
def zkj {j a}:QE X (.Constant .none j a) (tC .non):=⟨zkH⟩
def zkg {x j a}:QE X (.Constant (.str x) j a) (tC (.str x)):=⟨zkE⟩
def qv (i:Nat){b:Pos}(d:autoParam (X.N[i]? = some x) jA1)(f:Vis X.env.scope x:=by first | exact Or.inl rfl | exact Or.inr (Or.inl rfl) | exact Or.inr (Or.inr rfl))(e:autoParam (dB x) jB1)
  (a:autoParam ((x == ("__classdict__"))=false) jB1):QE X (.Name x b) (tVar i):=⟨zgq d f e a⟩
def zmS {op:Operator}(f:OpR X (binaryOp op) r)(d:QE X a ta)(e:QE X b tb):QE X (.BinOp a op b pos) (tOp r ta tb):=⟨zn0 f d.p e.p⟩
def zmQ {op:UnaryOp}(d:UnR X (unaryOp op) r)(b:QE X a ta):QE X (.UnaryOp op a pos) (tUn r ta):=⟨zmY d b.p⟩
def zki (b:QE X a ta):QE X (.UnaryOp .Not a pos) (zja ta):=⟨zkG b.p⟩
def zkh {op}{t:TE}(h:QE X a t):QE X (.BoolOp op [a] pos) t:=⟨zkF h.p⟩
def zko (d:QE X a ta)(e:QE X (.BoolOp .And (b::rest) pos) tb):QE X (.BoolOp .And (a::b::rest) pos) (zjh ta tb):=⟨zkM d.p e.p⟩
def zmR (d:QE X a ta)(e:QE X (.BoolOp .Or (b::rest) pos) tb):QE X (.BoolOp .Or (a::b::rest) pos) (tOrV ta tb):=⟨zmZ d.p e.p⟩
def zhE {op:CmpOp}(g:OpR X (compareOp op) r)(d:QE X a ta)(e:QE X b tb)(f:behindInMarks op b=false):QE X (.Compare a [op] [b] pos) (tOp r ta tb):=⟨zhU g d.p e.p f⟩
def zhv {op:CmpOp}(g:OpR X (compareOp op) r)(d:QE X a ta)(e:QE X b tb)(f:behindInMarks op b=false):QT X (.Compare a [op] [b] pos) (zbS (tOp r ta tb)):=⟨zhK g d.p e.p f⟩
def zeH {op d:CmpOp}(j:OpR X (compareOp op) r)(e:OpR X (compareOp d) r')(f:QE X a ta)(g:QE X b tb)(h:QE X c tc)(i:autoParam (lastMarks [op,d] [b,c]=false) jE1):QT X (.Compare a [op,d] [b,c] pos) (zbS (zbU r r' ta tb tc)):=⟨zeT j e f.p g.p h.p i⟩
def zk4 {t:TE}(h:QE X e t)(b:autoParam (∀a,isTrue e X.env a=(do let v <- a;standAt e.pos;holding [v] (truthy v))) jC1):QT X e (tB t):=⟨zkr h.p b⟩
def zk5 (b:QT X a tA):QT X (.UnaryOp .Not a pos) (tNot tA):=⟨zks b.p⟩
def zhs (b:QT X a tA):QW X (.BoolOp .And [a] pos) tA:=⟨zhH b.p⟩
def zk2 (b:QT X a tA):QW X (.BoolOp .Or [a] pos) tA:=⟨zkp b.p⟩
def zk3 (d:QT X a tA)(e:QW X (.BoolOp .And (b::rest) pos) tB'):QW X (.BoolOp .And (a::b::rest) pos) (tAnd tA tB'):=⟨zkq d.p e.p⟩
def zmN (d:QT X a tA)(e:QW X (.BoolOp .Or (b::rest) pos) tB'):QW X (.BoolOp .Or (a::b::rest) pos) (tOr tA tB'):=⟨zmW d.p e.p⟩
theorem QW.pt {t:TT}(h:QW X e t):QT X e t:=⟨h.p.pt⟩
def zhG {v:V}(b:Gl X x)(d:X.mg x=none)(f:bootBuiltins x=some u)(r:RelV v u)(e:autoParam (x≠"__name__") jB1)(a:autoParam (dB x) jB1):QE X (.Name x pos) (tC v):=⟨zhW b d f r e a⟩
def z6U:QA X [] tNil:=⟨zkP⟩
def z4d (a:QE X e te)(b:QA X es aa)(d:autoParam (sE e es X) jA1):QA X (e::es) (zjf te aa):=⟨zhY a.p b.p d⟩
def zmU {k:Nat}{ps:List Str}(C:Cal X.prog X.w X.K X.mg X.base CX k x ps sp)(h:Room k X.A)(i:z4U CX X E)(d:QA X (e::es) aa)(g:autoParam (Gl X x) jA1)
  (a:autoParam (dB x) jB1) (f:autoParam (sE e es X) jA1) (b:autoParam (bT pos es X) jA1):QE X (.Call (.Name x pp) (e::es) [] pos) (zh5 sp [] E aa):=⟨zn2 C h i d.p g a f b⟩
def z4w {x:Str}{m:Pos}{id:String}{r:List V->Hp->VK->Prop}(f:z0D X (.builtin id) r)(h:Gl X x)(i:X.mg x=none)(l:bootBuiltins x=some (.builtin id))(d:QA X (e::es) aa)(j:autoParam (x≠"__name__") jB1)(a:autoParam (dB x) jB1)
  (g:autoParam (sE e es X) jA1) (b:autoParam (bT pos es X) jA1):QE X (.Call (.Name x m) (e::es) [] pos) (tCB r aa):=⟨zf4 f h i l d.p j a g b⟩
def z3z {x:Str}{m:Pos}{id:String}{r:List V->Hp->VK->Prop}(f:z0D X (.type id) r)(h:Gl X x)(i:X.mg x=none)(l:bootBuiltins x=some (.type id))(d:QA X (e::es) aa)(j:autoParam (x≠"__name__") jB1)(a:autoParam (dB x) jB1)
  (g:autoParam (sE e es X) jA1) (b:autoParam (bT pos es X) jA1):QE X (.Call (.Name x m) (e::es) [] pos) (tCB r aa):=⟨zcE f h i l d.p j a g b⟩
def zmT (f:IxR X r)(d:QE X a ta)(e:QE X b tb)(g:z9W b):QE X (.Subscript a b pos) (tOp r ta tb):=⟨zn1 f d.p e.p g⟩
def zhB:QO X none zbT:=⟨zhS⟩
def zhA (h:QE X e te):QO X (some e) (zj9 te):=⟨zhR h.p⟩
def zeR {b a:Option Expr}{tl d:TO}(h:SlR X r)(f:QE X e te)(g:QO X b tl)(i:QO X a d):QE X (.Subscript e (.Slice b a none p2) pos) (tSl r te tl d):=⟨zeZ h f.p g.p i.p⟩
def zgn {T id:String}{name:Str}{a b:Pos}{r:V->List V->Hp->VK->Prop}(j:PlainAttrs T)(f:Slot T name id)(g:typeOf (.builtin id)=pure (.type "method_descriptor"))(h:MtR X id r)(i:QE X o te)
  (d:autoParam (aB o name X) jA1) (e:autoParam (aL a b) jA1):QE X (.Call (.Attribute o name a) [] [] b) (tBM0 X.K T r te):=⟨zkL j f g h i.p d e⟩
def zhF {T id:String}{name:Str}(n:PlainAttrs T)(g:Slot T name id)(h:typeOf (.builtin id)=pure (.type "method_descriptor"))(j:MtR X id r)(l:QE X o te)(i:QA X (e::es) aa)
  (b:autoParam (aB o name X) jA1)
  (f:autoParam (aG cpos (e::es) X) jA1)
  (d:autoParam (aL apos cpos) jA1) (m:autoParam (sE e es X) jA1) (a:autoParam (bT cpos es X) jA1):
  QE X (.Call (.Attribute o name apos) (e::es) [] cpos) (tBM X.K T r te aa):=⟨zn3 n g h j l.p i.p b f d m a⟩
end
section
variable {X:Cx}{st:Stmt}{rest body a b:List Stmt}{t u tb:TS}{e tg c iter:Expr}{te:TE}{tc:TT}{pos:Pos}{g:TG}{wi:TI}{aa:TA}
def zhx:QSs X [] zjb:=⟨zhM⟩
def zeI (a:QS X st t)(b:QSs X rest u):QSs X (st::rest) (tSeq t u):=⟨zeU a.p b.p⟩
def zhw (a:QS X st t):QSs X [st] t:=⟨zhL a.p⟩
def zeK:QS X st zg5:=⟨zeW⟩
def zk7 (a:QE X e te):QS X (.Return (some e) pos) (tRet te):=⟨zkv a.p⟩
def z9n (a:QE X e te)(b:autoParam (swapsWith e none pos.line X.env=pure false) jA1):QS X (.Expr e pos) (zjc te):=⟨zhN a.p b⟩
def zmO (f:QT X c tc)(d:QSs X a t)(e:QSs X b u):QS X (.If c a b pos) (tIfS tc t u):=⟨zmX f.p d.p e.p⟩
def zeJ (d:PassesOwn (model X.prog X.w) X.A X.env X.xe)(b:QT X c tc)(a:QSs X body tb):QS X (.While c body [] pos) (zg4 tc tb):=⟨zeV d b.p a.p⟩
def zgm (f:PassesOwn (model X.prog X.w) X.A X.env X.xe)(b:X.calm=true)(e:QI X tg iter wi)(d:QG X tg g)(a:QSs X body tb)
  (h:autoParam (fI iter X) jC1):QS X (.For tg iter body [] pos) (tFor wi g tb):=⟨zkx f b e.p d.p a.p h⟩
def zk9 (b:QE X e te)(d:QG X tg g)(f:autoParam (swapsWithSole [tg] e pos.line X.env=pure false) jA1)(h:autoParam (swappedStores [tg] e X.env=pure none) jA1)
  (a:autoParam ((assignEach [tg] X.env).map (·.2)=[assign tg X.env]) jA1):QS X (.Assign [tg] e pos) (tAsg te g):=⟨zky b.p d.p f h a⟩
def zhC:QGs X [] gNil:=⟨zhT⟩
def zeO {es:List Expr}{t:TG}{u:TGs}(a:QG X e t)(b:QGs X es u)
  (d:autoParam ((assignEach (e::es) X.env).map (·.2)=assign e X.env::(assignEach es X.env).map (·.2)) jA1):QGs X (e::es) (zfB t u):=⟨zeY a.p b.p d⟩
def zkb {es:List Expr}{k:Nat}{t:TGs}{n:Nat}(b:X.calm=true)(h:QGs X es t)
  (d:autoParam ((assignEach es X.env).length=n) jA1) (a:autoParam ((assignEach es X.env).findIdx? (·.1)=none) jA1):QG X (.Tuple es k pos) (gTup X.K n t):=⟨zkB b h.p d a⟩
def z8d {a:Expr}{p:Pos}(d:Gl X "range")(e:X.mg "range"=none)(b:QA X [a] aa)(f:autoParam (starEach [a] X.env=[(false,eval a X.env)]) jA1):QI X tg (.Call (.Name "range" p) [a] [] pos) (zlR aa):=⟨zcB d e b.p f⟩
end
def eqv2 {a b c d:Int}:PyData.eqv (.tuple [.int a,.int b]) (.tuple [.int c,.int d])=decide (a=c/\b=d):=by
 simp[PyData.eqv,PyData.eqvAll]
 by_cases e:a=c <;> by_cases f:b=d <;> simp[e,f]
end L2
namespace Mth
def g3 (x y b:Int):Int:=((Int.gcd ((Int.gcd b x):Int) y:Nat):Int)
def z5H (x y b:Int):g3 x y b ∣ b:=j4 (jC _ _) (jC b x)
def zaD (x y b:Int):g3 x y b ∣ x:=j4 (jC _ _) (jO b x)
def zaC (x y b:Int):g3 x y b ∣ y:=jO _ _
def zaB {x y b:Int}(h:0<b):0<g3 x y b:=by
 have p:=(Int.gcd_pos_iff (a:=b) (b:=x)).mpr (.inl (by lia));have d:=(Int.gcd_pos_iff (a:=((Int.gcd b x))) (b:=y)).mpr (.inl (by lia));unfold g3;lia
structure Plc (x y b u v t:Int):Prop where
 pos:1<=t
 cop:Int.gcd ((Int.gcd u v):Int) t=1
 cx:u*b=x*t
 cy:v*b=y*t
 lu:u.natAbs<=x.natAbs
 lv:v.natAbs<=y.natAbs
 lt:t.natAbs<=b.natAbs
def z3n (a b c:Int):Int.gcd ((Int.gcd a b):Int) c=Nat.gcd (Nat.gcd a.natAbs b.natAbs) c.natAbs:=rfl
def zgo (h:0<b):Plc x y b (x / g3 x y b) (y / g3 x y b) (b / g3 x y b):=by
 have f:=zaB (x:=x) (y:=y) h;have ex:x=g3 x y b*(x / g3 x y b):=(jk (zaD x y b)).symm;have d:y=g3 x y b*(y / g3 x y b):=(jk (zaC x y b)).symm;have a:b=g3 x y b*(b / g3 x y b):=(jk (z5H x y b)).symm;have m:g3 x y b=((Nat.gcd (Nat.gcd b.natAbs x.natAbs) y.natAbs):Int):=rfl;refine⟨?_,?_,?_,?_,z1h f,z1h f,z1h f⟩
 .generalize b / g3 x y b=t at a
  rcases(show t<1\/1<=t by lia) with q | q
  .have:g3 x y b*t<=0:=vp (by lia) (by lia);lia
  .exact q
 .rw[z3n];generalize p:x / g3 x y b=u at ex;generalize r:y / g3 x y b=v at d;generalize o:b / g3 x y b=t at a;have nx:=congrArg Int.natAbs ex;have i:=congrArg Int.natAbs d;have g:=congrArg Int.natAbs a;rw[uo] at nx i g;have ng:(g3 x y b).natAbs=Nat.gcd (Nat.gcd b.natAbs x.natAbs) y.natAbs:=by rw[m,j3]
  generalize n:(g3 x y b).natAbs=G at nx i g ng;have e:0<G:=by lia
  rw[nx,i,g,Nat.gcd_mul_left,Nat.gcd_mul_left] at ng;have j:G*1=G*Nat.gcd (Nat.gcd t.natAbs u.natAbs) v.natAbs:=by rw[Nat.mul_one];exact ng
  have l:=jh e j;rw[j0 (Nat.gcd u.natAbs v.natAbs), <- Nat.gcd_assoc];exact l.symm
 .have:x / g3 x y b*b=x / g3 x y b*(g3 x y b*(b / g3 x y b)):=congrArg _ a;rw[this,Int.mul_left_comm, <- jc, <- ex]
 .have:y / g3 x y b*b=y / g3 x y b*(g3 x y b*(b / g3 x y b)):=congrArg _ a;rw[this,Int.mul_left_comm, <- jc, <- d]
end Mth
namespace L2
open PySem PySem.Spec PyProof.Rows
structure Fly (P:Program)(w:World)(outer:List Env)(H:Hp)(h0:Heap)(Cv:Value)(H':Hp)(ea t:Addr)(B h:Heap):Prop where
 fl:Heap.FlyingW B outer ea Cv (.ref t) h
 un:Un (frs outer) [] H H' h0 h
 hok:HOk P w H' h
 trk:∀b o,H' b=some o->∃ob,B.get? b=some ob
 kep:∀b o,h0.get? b=some o->b ∉ frs outer->∃ob,B.get? b=some ob
def CXe (P:Program)(w:World):CXT:=λa H s E e b=>∃(g t:Addr) (d:Value) (f:Hp) (B:Heap),e = .ref g/\Fly P w a H s.heap d f g t B b.heap/\AllBare b.gens/\b.os=s.os/\E d none f
section
variable {P:Program}{w:World}{outer:List Env}{H H':Hp}{h0 h h2:Heap}{Cv:Value}{ea t:Addr}{B:Heap}
def z1G.there {a:Addr}{o:HO}(x:z1G P w H h a o):∃ob,h.get? a=some ob:=by
 cases o with
 | lst d=>obtain⟨_,_,_,_,e⟩:=x;exact⟨_,e⟩
 | tup d=>obtain⟨_,_,_,⟨ob,e,_⟩,_⟩:=x;exact⟨_,e⟩
 | dK b=>obtain⟨_,_,_,_,o,_,_,e,_⟩:=x;exact⟨_,e⟩
 | dT b=>obtain⟨_,_,_,_,o,_,_,e,_⟩:=x;exact⟨_,e⟩
 | set S n=>obtain⟨o,_,_,_,e,_⟩:=x;exact⟨_,e⟩
 | ins C g fs=>obtain⟨_,_,_,e,_⟩:=x;exact⟨_,e⟩
 | own y=>obtain⟨_,e⟩:=x;exact⟨_,e⟩
 | xd fs=>obtain⟨_,⟨_,_,_,e,_⟩,_⟩:=x;exact⟨_,e⟩
 | rng j i=>obtain⟨_,_,_,e⟩:=x;exact⟨_,e⟩
 | frz ob u=>obtain⟨e,_⟩:=x;exact⟨_,e⟩
 | tbl ps=>rcases x with e | ⟨_,_,_,_,_,_,_,_,_,_,_,e,_⟩ <;> exact⟨_,e⟩
 | met f y=>exact⟨_,(x)⟩
 | ext l=>obtain⟨_,⟨_,e⟩,_⟩:=x;exact⟨_,e⟩
end
section
variable {P:Program}{w:World}{K:W.Frag}{mg:WmP}{base:Heap}{N:List Str}{qual:Str}{sc:Scope}{f:Addr}{cdv:Value}{A:Around}{outer:List Env}{s:Shared}{H:Hp}{E:XK}
def Fun.okN {st:Stmt}{ps:List Str}{k:Nat}(F:Fun K x qual st f fd)(S:z5i N ps (z0g st))(len:∀vs H Q E,sp vs H Q E->vs.length=ps.length)
  (d:∀b A a s H vs Q E,Room k (A.deeper (envOfC qual (z0g st) s.heap.objs.size f b))->sp vs H Q E->
   ∃t,QSs ((cxOf (CXe P w) P w K mg base N qual (z0g st) f b A a s H E).wish λ_ _=>False) (z1Y st) t/\t { nx:=λ_ i=>Q .non i,rt:=Q } (z4X N vs) H):FnOk P w K mg base (CXe P w) (k+1) f fd ps sp:=by
 obtain⟨u,y,kV,j,z,o,b,r,n,rfl,m,e⟩:=F.ex;refine znE m e S len λA a s H vs Q E l g =>?_;obtain⟨t,h,q⟩:=d b A _ s H vs Q E l g;exact⟨t,h.p.nox,q⟩
def zkN:z4U (CXe P w) X E0:=λ_ _ _ _ _ _ _ ⟨_,_,_,_,_,_,_,_,_,q⟩=>q.elim
end
def zo2 (a C:Addr)(h:Heap):Prop:=∃o,h.get? a=some o/\o.cls = .ref C/\∃vs,o.data = .fields vs
section
variable {X:Cx}
theorem vals_refs:∀(a:List Addr) {b:List Value},Vals (a.map V.ref) b->b=a.map Value.ref
 | [],_,r=>by cases r;rfl
 | c::a,_,r=>by
  cases r with
  | cons r1 r2=>
   rw[vals_refs a r2]
   cases (show _=Value.ref c from r1)
   rfl
end
open Builtin.Str
section
variable {X:Cx}
def zmA:List V->Hp->VK->Prop:=λa H Q=>∃x n,a=[.str x]/\PySem.intText? x=some n/\x.length<=640/\Q (.int n) H
def zdP:z0D X (.type "int") zmA:=by
 intro a s g H f e Q I r h;obtain⟨x,n,rfl,d,b,q⟩:=h;obtain⟨u,rfl,t,rfl⟩:=z32 r;exact W.KIN.call_text d b ⟨.int n,H,I.tok _,⟨_,rfl⟩,q⟩
def rAll (K:W.Frag):List V->Hp->VK->Prop:=λb H Q=>∃(a:Addr) (bs:List Bool),b=[.ref a]/\SqL K H a (bs.map V.bl)/\Q (.bl (bs.all id)) H
theorem z9Z:∀(bs:List Bool) {a:List Value},Vals (bs.map V.bl) a->a=bs.map Value.bool
 | [],_,r=>by cases r;rfl
 | b::bs,_,r=>by
  cases r with
  | cons r1 r2=>
   rw[z9Z bs r2]
   cases (r1)
   rfl
def zdV (bs:List Bool):(List.range bs.length).all (λi=>bs[i]?.getD true)=bs.all id:=by
 apply jm.mpr;simp only[jU,vK,id]
 constructor
 .intro h b d;obtain⟨i,a,e⟩:=ve.mp d
  simp_all
 .intro h i a;rw[wn a];exact h _ (u9 a)
def zdR (x:X.calm=true):z0D X (.builtin "all") (rAll X.K):=by
 intro l s S H R O Q I r h;obtain⟨a,bs,rfl,E,q⟩:=h;obtain⟨u,rfl,J⟩:=z32 r
 cases (J)
 obtain⟨G,F,pl,_⟩:=I.list E
 cases z9Z bs F
 have C:=pl.isList;refine call_all_walk (wpAny_pyIter_list C ?_);have j:a≠s.heap.objs.size:=by
  obtain⟨o,n,e,_⟩:=pl;exact wJ (ww e)
 refine⟨s.heap.objs.size,_,_,_,_,_,λi=>bs[i]?.getD true,rfl,Walks.list (A:=X.A.in1) (I.ok.hd x) s.heap.objs.size a j _,⟨⟨_,wq _ rfl,rfl,rfl⟩,(pl.keeps λb o e=>wf _ e).isList⟩,?_,λN L y =>?_⟩
 .intro i v s' m M p t;have d:(bs.map Value.bool)[i]? = some v:=by simpa using p
  rw[wO] at d;obtain⟨b,w,rfl⟩:=ul.mp d;have f:m (bs[i]?.getD true) s':=t;rw[w] at f;exact wj f
 .have e:(List.range (bs.map Value.bool).toArray.size).all (λi=>bs[i]?.getD true)=bs.all id:=by
   rw[vq,wd];exact zdV bs
  rw[e];refine⟨.bl _,H,I.kept (t':=L) λb o g=>y b o ?_ (wf _ g),rfl,q⟩;intro z;rw[wg.mp z] at g;exact absurd (ww g) (vN _)
def rSlS:V->Option Int->Option Int->Hp->VK->Prop:=λx b a H Q=>∃y,x = .str y/\y.length<=sizeLine/\Q (.str (Txt.slice y b a)) H
def zjl:SlR X rSlS:=by
 intro a s M H x v K L E p sl Q I G z pl b h;obtain⟨y,rfl,C,q⟩:=h;obtain⟨t,rfl⟩:=G;refine⟨"str",_,F.slot_str_getitem.lookup,typeIs_str _ _ _,?_⟩;obtain⟨o,r,m,n⟩:=z;have fin:∀l u,l.map (·.1)=E->u.map (·.1)=p->K=partValue l->L=partValue u->wpAny (model X.prog X.w) X.A (getItem (.str y t) (.ref sl)) (EP X a M Q) X.xe s:=λl u d e f g=>by
  subst d e f g;exact wpAny_getItem_str_slice (l:=l) (u:=u) (st:=none) ⟨o,r,m,n⟩ rfl (post_val_or_str ⟨wP (Txt.slice_le y _ _) C,λJ k=>⟨.str _,H,I.tok k,⟨J,rfl⟩,q⟩⟩)
 cases pl with
 | none=>
  cases b with
  | none=>exact fin none none rfl rfl rfl rfl
  | int j u=>exact fin none (some (j,u)) rfl rfl rfl rfl
 | int i w=>
  cases b with
  | none=>exact fin (some (i,w)) none rfl rfl rfl rfl
  | int j u=>exact fin (some (i,w)) (some (j,u)) rfl rfl rfl rfl
def Its (x:Str):It:=⟨λi _=>i<x.cps.size,λi H v a=>a=H/\∃c,x.cps[i]? = some c/\v = .str ⟨#[c]⟩,λi _=>x.cps.size<=i⟩
def za1 {P:Program}{w:World}{K:W.Frag}{tg:Expr}(x:Str)(t:Tok)(it:Addr){p:String}(N:["enumerate","zip","dict_itemiterator","dict_reverseitemiterator","odict_iterator","itertools.zip_longest","itertools.pairwise"].contains p=false)
  (W:∀A':Around,A'.handled=none->Walks P w A' it [it] [it] x.cps.size (SignAt x) (λi h=>h.IsStrIter it p x t i)) (hs:∀A i s Q E,s.heap.IsStrIter it p x t i->Q (.ref it) s->wpAny (model P w) A (pyIter (.ref it)) Q E s):
  Turn P w K tg (Its x) [it] it (λi h=>i<=x.cps.size/\h.IsStrIter it p x t i) where
 mem:=by simp
 obj:=λi h a b g=>by
  have e:b=it:=by simpa using g
  subst e;obtain⟨_,o,e,c,d⟩:=a;exact⟨o,e,λv z=>by rw[d] at z;cases z⟩
 keep:=λi h j a k=>⟨a.1,(W { } rfl).frame i h j a.2 k⟩
 item:=by
  intro X J O G L i f s T H E I m a n;subst J O G;obtain⟨q,r,f2,y,C,F⟩:=m it (by simp);refine(W X.A (I.ok.hd L)).item i s _ _ n a.2 λv j S hv l R =>?_;obtain⟨c,u,M,rfl⟩:=hv;have U:Inv X f T H { s with heap:=j,toks:=S }:=I.turned (λb o g e=>R b o (by simpa using g) e) q r y C F;obtain⟨o,Y,Z,e3⟩:=id l;exact⟨_,rfl,zfw (s:={ s with heap:=j,toks:=S }) Y Z e3 N ⟨.str ⟨#[c]⟩,H,U,⟨u,rfl⟩,⟨rfl,c,M,rfl⟩,⟨n,l⟩,λb g=>(m b g).1⟩⟩
 done:=by
  intro X J O G L i f s T H E I m a n;subst J O G;obtain⟨q,r,f2,y,C,F⟩:=m it (by simp);have e:i=x.cps.size:=Nat.le_antisymm a.1 n;subst e;exact(W X.A (I.ok.hd L)).done s _ _ a.2 λj S R=>⟨rfl,I.turned (λb o g e=>R b o (by simpa using g) e) q r y C F⟩
 self:=λA i s Q E a h=>hs A i s Q E a.2 h
variable {tg:Expr}
def zkk {a:Pos}(h:QA X es aa):QE X (.List es a) (tLst aa):=⟨zkI h.p⟩
def z6G:MtR X "list.append" zcl:=zcW
end
end L2
namespace Mth
def z58 {a b:Nat}(h:∀p,p ∣ a->p ∣ b->p ∣ 1):Nat.Coprime a b:=
 Nat.dvd_one.mp (h _ (Nat.gcd_dvd_left a b) (Nat.gcd_dvd_right a b))
def z9M {p:Nat}{x:Int}:p ∣ x.natAbs↔(p:Int) ∣ x:=by rw[<- uP,j3]
def z7L {p z c:Nat}{x a:Int}(b:Nat.Coprime z c)(d:p ∣ z)(h:(p:Int) ∣ x*c+a*z):p ∣ x.natAbs:=by
 have e:(p:Int) ∣ a*z:=j4 (Int.natCast_dvd_natCast.mpr d) (Int.dvd_mul_left _ _);have f  := (Int.dvd_add_left e).mp h;have g  := by
  have:=z9M.mpr f;rw[uo] at this;exact this
 exact(Nat.Coprime.coprime_dvd_left d b).dvd_of_dvd_mul_right g
def zcw {x y z a b c:Int}(hz:0<z)(hc:0<c)(W:Int.gcd ((Int.gcd x y:Nat)) z=1)(X:Int.gcd ((Int.gcd a b:Nat)) c=1)
  {g u v r:Int}(T:g=((Int.gcd z c:Nat))) (H:u=x*(c / g)+a*(z / g)) (I:v=y*(c / g)+b*(z / g)) (U:r=((Int.gcd ((Int.gcd g u:Nat):Int) v:Nat))):
  0<g/\0<r/\g.natAbs<=z.natAbs/\r.natAbs<=z.natAbs/\Plc (x*c+a*z) (y*c+b*z) (z*c) (u / r) (v / r) (z / g*(c / r)):=by
 have gp:=(Int.gcd_pos_iff (a:=z) (b:=c)).mpr (.inl (by omega));have A:0<g:=by omega
 have gz:g ∣ z:=T ▸ jC z c;have gc:g ∣ c:=T ▸ jO z c;have F:r=g3 u v g:=U;have N:0<r:=F ▸ zaB A;have rg:r ∣ g:=F ▸ z5H u v g;have ru:r ∣ u:=F ▸ zaD u v g;have rv:r ∣ v:=F ▸ zaC u v g;obtain⟨z',s⟩:=gz;obtain⟨c',w⟩:=gc;obtain⟨g',e⟩:=rg;obtain⟨u',i⟩:=ru;obtain⟨v',j⟩:=rv;have q1:z / g=z':=by rw[s];exact uV z' (by omega)
 have q2:c / g=c':=by rw[w];exact uV c' (by omega)
 have q3:u / r=u':=by rw[i];exact uV u' (by omega)
 have q4:v / r=v':=by rw[j];exact uV v' (by omega)
 have q5:c / r=g'*c':=by rw[w,e,jc];exact uV _ (by omega)
 rw[q1,q2] at H I;rw[q1,q3,q4,q5];have O:0<z':=by
  rcases(show z'<=0\/0<z' by omega) with h | h
  .have:=vp (wz A) h;omega
  .exact h
 have L:0<c':=by
  rcases(show c'<=0\/0<c' by omega) with h | h
  .have:=vp (wz A) h;omega
  .exact h
 have M:0<g':=by
  rcases(show g'<=0\/0<g' by omega) with h | h
  .have:=vp (wz N) h;omega
  .exact h
 have f:Nat.Coprime z'.natAbs c'.natAbs:=by
  have q:=Int.gcd_mul_left g z' c';rw[<- s, <- w] at q;have q':g.natAbs*1=g.natAbs*Int.gcd z' c':=by omega
  exact(jh (by omega) q').symm
 have cg:Nat.gcd (Nat.gcd g'.natAbs u'.natAbs) v'.natAbs=1:=by
  have Y:=congrArg Int.natAbs e;have Z:=congrArg Int.natAbs i;have n3:=congrArg Int.natAbs j;rw[uo] at Y Z n3;have K:r.natAbs=Nat.gcd (Nat.gcd g.natAbs u.natAbs) v.natAbs:=by rw[U,j3,z3n]
  rw[Y,Z,n3,Nat.gcd_mul_left,Nat.gcd_mul_left] at K;have:r.natAbs*1=r.natAbs*Nat.gcd (Nat.gcd g'.natAbs u'.natAbs) v'.natAbs:=by omega
  exact(jh (by omega) this).symm
 have m:(z'.natAbs:Int)=z':=Int.natAbs_of_nonneg (by omega);have l:(c'.natAbs:Int)=c':=Int.natAbs_of_nonneg (by omega);have big:∀{p:Nat},p ∣ u'.natAbs->(p:Int) ∣ u:=λh=>i ▸ j4 (z9M.mp h) (Int.dvd_mul_left _ _);have o:∀{p:Nat},p ∣ v'.natAbs->(p:Int) ∣ v:=λh=>j ▸ j4 (z9M.mp h) (Int.dvd_mul_left _ _);have k1:Nat.Coprime (Nat.gcd u'.natAbs v'.natAbs) z'.natAbs:=by
  refine z58 λp t n =>?_;have C:=big (jw t (Nat.gcd_dvd_left _ _));have E:=o (jw t (Nat.gcd_dvd_right _ _));rw[H, <- m, <- l] at C;rw[I, <- m, <- l] at E;have Q:p ∣ z.natAbs:=by rw[s,uo];exact jw n (Nat.dvd_mul_left _ _)
  have:=j9 (j9 (z7L f n C) (z7L f n E)) Q;rw[z3n] at W;rw[W] at this;exact this
 have k2:Nat.Coprime (Nat.gcd u'.natAbs v'.natAbs) c'.natAbs:=by
  refine z58 λp t n =>?_;have C:=big (jw t (Nat.gcd_dvd_left _ _));have E:=o (jw t (Nat.gcd_dvd_right _ _));rw[H, <- m, <- l,Int.add_comm] at C;rw[I, <- m, <- l,Int.add_comm] at E;have Q:p ∣ c.natAbs:=by rw[w,uo];exact jw n (Nat.dvd_mul_left _ _)
  have:=j9 (j9 (z7L f.symm n C) (z7L f.symm n E)) Q;rw[z3n] at X;rw[X] at this;exact this
 have k3:Nat.Coprime (Nat.gcd u'.natAbs v'.natAbs) g'.natAbs:=by
  refine z58 λp t n =>?_;have:=j9 (j9 n (jw t (Nat.gcd_dvd_left _ _))) (jw t (Nat.gcd_dvd_right _ _));rw[cg] at this;exact this
 have R:x*c+a*z=g*r*u':=by rw[jc, <- i,H,w,s];grind
 have S:y*c+b*z=g*r*v':=by rw[jc, <- j,I,w,s];grind
 have J:z*c=g*r*(z'*(g'*c')):=by rw[s,w];generalize g=G at e ⊢;subst e;grind
 have a0:0<g*r:=wW A N;have d:∀k:Int,k.natAbs<=(g*r*k).natAbs:=λk=>by
  rw[uo];exact Nat.le_mul_of_pos_left _ (by omega)
 refine⟨A,N,Nat.le_of_dvd (by omega) (uP.mpr ⟨z',s⟩),Nat.le_of_dvd (by omega) (uP.mpr ⟨g'*z',by rw[s,e,jc]⟩),?_,?_,?_,?_,?_,?_,?_⟩
 .have:=wW O (wW M L);omega
 .rw[z3n,uo,uo];exact Nat.Coprime.mul_right k1 (Nat.Coprime.mul_right k3 k2)
 .rw[R,J];grind
 .rw[S,J];grind
 .rw[R];exact d _
 .rw[S];exact d _
 .rw[J];exact d _
end Mth
namespace L2
open PySem PySem.Spec PyProof.Rows
section
variable {prog:Program}{w:World}{A:Around}{R:Result->Shared->Prop}{s:Shared}
def ziP (M:Model)(A:Around)(ct:Option Expr)(env:Env)(Q:Bool->Shared->Prop)(E:WvP)(s:Shared):Prop:=
 match ct with
 | none=>Q true s
 | some c=>wpAny M A (isTrue c env (eval c env)) Q E s
def z8S {g:Pos}(I:Nat->Shared->Prop)
  (i:∀n s,I n s->wpAny (model prog w) A (pyNext it) (λr q=>match r with
   | none=>R (.ok .next) q
   | some v=>wpAny (model prog w) A (letOwnedTupleGo target it v) (λ_ E=>wpAny (model prog w) A (assign target env v) (λ_ t=>ziP (model prog w) A ct env (λok b=>if ok=true then wpAny (model prog w) A (eval elt env) (λx u=>
     wpAny (model prog w) A (call (.builtin "list.append") [acc,x]) (λ_ y=>∃m,m<n/\I m y) (notedBy (model prog w) A env λe s'=>R (.error e) s') u)
     (notedBy (model prog w) A env λe s'=>R (.error e) s') b else ∃m,m<n/\I m b) (notedBy (model prog w) A env λe s'=>R (.error e) s') t) (notedBy (model prog w) A env λe s'=>R (.error e) s') E) (notedBy (model prog w) A env λe s'=>R (.error e) s') q) (notedBy (model prog w) A env λe s'=>R (.error e) s') s)
  (n:Nat) (h:I n s):
  codeAny (model prog w) A (.compLoop (.ListComp elt [⟨target,iter,ct.toList,0⟩] scope g) 0 it acc env) R s:=by
 refine codeAny_loop rfl I (λn s G =>?_) n h;show wpAny _ _ ((compTurn (.ListComp elt [⟨target,iter,ct.toList,0⟩] scope g) 0 it acc env).onRaise (λx=>do noteFrame x env;theTreesLotGoes x)) _ _ s;refine wpAny_noted ?_;rw[compTurn_list];refine wc (wpAny_standAt (wc (vQ (i n s G) (λr q z =>?_) λ_ _ a=>a)))
 cases r with
 | none=>exact wj z
 | some v=>
  refine wc (vQ z (λ_ E F =>?_) λ_ _ a=>a);refine wc (vQ F (λ_ t C =>?_) λ_ _ a=>a)
  cases ct with
  | none=>
   refine wc (vQ (wpAny_tests_nil (Q:=λok b=>ok=true/\b=t) ⟨rfl,rfl⟩) (λok b j =>?_) λ_ _ a=>a);obtain⟨rfl,rfl⟩:=j;have d:=C;simp only[ziP,jX] at d;exact wc (wc (vQ d (λx u l=>wc (vQ l (λ_ y o=>wj (wj ⟨rfl,o⟩)) λ_ _ a=>a)) λ_ _ a=>a))
  | some c=>
   refine wc (wpAny_tests_one (vQ (show wpAny (model prog w) A (isTrue c env (eval c env)) _ _ _ from C) (λp b j =>?_) λ_ _ a=>a))
   cases p with
   | false=>exact wj ⟨rfl,by simpa using j⟩
   | true=>
    have f:=j;simp only[jX] at f;exact wc (wc (vQ f (λx u l=>wc (vQ l (λ_ y o=>wj (wj ⟨rfl,o⟩)) λ_ _ a=>a)) λ_ _ a=>a))
end
noncomputable def z4g (env:Env)(a:List (Str × NameKind))(b:List (Str × Addr)):List (Str × Addr):=a.foldl (λc x=>if x.2 == .free then (x.1,(env.cells.lookup x.1).getD 0)::c else c) b
theorem z71 {d a:Type}{f:d->a->Sem (ForInStep a)}{g:d->a->a}:∀(l:List d) b,(∀x∈l,∀c,f x c=pure (.yield (g x c)))->forIn l b f=(pure (l.foldl (λc x=>g x c) b))
 | [],b,_=>rfl
 | x::l,b,h=>by
  rw[List.forIn_cons,h x wB];exact z71 l _ λy e=>h y (wo _ e)
def z7P {b:Scope}{env:Env}(h:∀x∈b.names,x.2 = .free->∃c,env.cells.lookup x.1=some c):closureFor b env=pure (z4g env b.names []):=by
 simp[closureFor];rw[z71 (g:=λx c=>if x.2 == .free then (x.1,(env.cells.lookup x.1).getD 0)::c else c) _ [] (λx j c=>by
  obtain⟨n,d⟩:=x
  by_cases i:d = .free
  .subst i;obtain⟨a,f⟩:=h _ j rfl;have e:cellOf env n=pure a:=by unfold cellOf;rw[f]
   simp[e,f]
  simp_all)]
 rfl
theorem z9D {c:Addr}:∀{a:List (Str × NameKind)}{b:List (Str × Addr)},(y,c)∈z4g env a b↔(y,c)∈b\/((y,NameKind.free)∈a/\c=(env.cells.lookup y).getD 0)
 | [],b=>by simp[z4g]
 | (n,k)::r,b=>by
  show (y,c)∈z4g env r _↔_;rw[z9D]
  grind
theorem z24 {a:Type}{c:a}:∀{l:List (Str × a)},l.lookup y=some c->(y,c)∈l
 | [],h=>by simp at h
 | (n,j)::r,h=>by
  rw[vY] at h
  by_cases e:y=n
  .simp_all
  .have:(y == n)=false:=by simpa using e
   rw[this] at h;exact wo _ (z24 h)
theorem z3G {a:Type}{c:a}:∀{l:List (Str × a)},(y,c)∈l->∃d,l.lookup y=some d
 | (n,j)::r,h=>by
  rw[vY]
  by_cases e:y=n
  .simp_all
  .have:(y == n)=false:=by simpa using e
   rw[this]
   rcases wm.mp h with h | h
   .simp_all
   .exact z3G h
theorem z2Z {env:Env}:∀{a:List (Str × NameKind)}{x:Str}{k:NameKind},(a.map λ(n,k)=>if (k == NameKind.free && env.scope.kind == .function && env.kindOf n == some .cell) then (n,NameKind.cell) else (n,k)).lookup x=some k->
  a.lookup x=some k\/(k = .cell/\a.lookup x=some .free)
 | [],_,_,h=>by simp at h
 | (n,j)::r,x,k,h=>by
  have f := @z2Z env r x k;have b:List.lookup x ((if (j == NameKind.free && env.scope.kind == .function && env.kindOf n == some _)=true then (n,NameKind.cell) else (n,j))::(r.map _))=some k:=h
  by_cases e:(j == NameKind.free && env.scope.kind == .function && env.kindOf n == some .cell)=true
  .rw[if_pos e] at b;have g:j = .free:=by
    simp_all
   cases d:x == n with
   | true=>
    simp only[vY,d] at b ⊢
    simp_all
   | false=>
    simp only[vY,d] at b ⊢;exact f b
  .rw[if_neg e] at b
   cases d:x == n with
   | true=>
    simp only[vY,d] at b ⊢;exact .inl b
   | false=>
    simp only[vY,d] at b ⊢;exact f b
theorem z2A {env:Env}:∀{a:List (Str × NameKind)}{x:Str},a.lookup x=some .free->
  (a.map λ(n,k)=>if (k == NameKind.free && env.scope.kind == .function && env.kindOf n == some .cell) then (n,NameKind.cell) else (n,k)).lookup x=some .cell\/
  (a.map λ(n,k)=>if (k == NameKind.free && env.scope.kind == .function && env.kindOf n == some .cell) then (n,NameKind.cell) else (n,k)).lookup x=some .free
 | [],_,h=>by simp at h
 | (n,j)::r,x,h=>by
  have e := @z2A env r x;show List.lookup x ((if (j == NameKind.free && env.scope.kind == .function && env.kindOf n == some _)=true then (n,NameKind.cell) else (n,j))::_)=_\/List.lookup x ((if (j == NameKind.free && env.scope.kind == .function && env.kindOf n == some _)=true then (n,NameKind.cell) else (n,j))::_)=_
  cases d:x == n with
  | true=>
   simp[vY,d] at h
   cases h
   by_cases b:(NameKind.free == NameKind.free && env.scope.kind == .function && env.kindOf n == some .cell)=true
   .rw[if_pos b];simp[vY,d]
   .rw[if_neg b];simp_all
  | false=>
   simp[vY,d] at h
   by_cases b:(j == NameKind.free && env.scope.kind == .function && env.kindOf n == some .cell)=true
   .rw[if_pos b];simp only[vY,d];exact e h
   .rw[if_neg b];simp only[vY,d];exact e h
@[reducible] def Cx.compG (X:Cx)(a:Scope)(b:List Str)(C:Addr)(s:Shared)(H:Hp)(d:List Addr):Cx:=
 { X with N:=b,s₀:=s,H₀:=H,env:=compEnvC a (z4g X.env a.names []) C X.env,outer:=X.stack,stack:=X.stack,ex:=d,pn:=[],fn:=λy=>((z4g X.env a.names []).lookup y).isNone,xe:=λ_ _=>False }
def z5R:TT:=λ_ H Q=>Q true H
def LcG (J:It)(g:TG)(q:TT)(r:TE)(Q:VK)(h:St)(f:Hp):Prop:=∃W:Nat->Nat->List V->St->Hp->Prop,(∃m,W 0 m [] h f)/\∀i m e n H,W i m e n H->
 e.length<sizeLine/\((J.stop i H/\∀p,H p=none->Q (.ref p) (upd H p (.lst e)))\/(J.go i H/\∀x j,J.yld i H x j->g x n j λa f=>q a f λb l=>if b=true then r a l λy o=>∃d,d<m/\W (i+1) d (e++[y]) a o else ∃d,d<m/\W (i+1) d e a l))
def tLcG (i:TI)(g:TG)(f:TT)(h:TE)(e:Nat)(d:List Nat):TE:=λa H Q=>i a H λJ b=>LcG J g f h Q (List.replicate e none++d.map λj=>(a[j]?).getD none) b
noncomputable def z6p (d g:List Str)(f:Nat)(e:List Nat)(a b:List (Str × NameKind)):Bool:=
 d.length == f+e.length && (e.zipIdx.all λp=>match d[f+p.2]? with
  | some y=>g[p.1]? == some y && a.lookup y == some .free
  | none=>false) && a.all (λx=>x.2 != .cell && (x.2 != .local || a.lookup x.1 == some .local) && (x.2 != .free || ((b.lookup x.1 == some .cell || b.lookup x.1 == some .free))))
section
variable {X:Cx}{pins:List (Addr × Obj)}{σ:St}{H:Hp}{s:Shared}
structure z4h (X:Cx)(N':List Str)(nt:Nat)(js:List Nat)(scope:Scope):Prop where
 len:N'.length=nt+js.length
 cap:∀k j,js[k]? = some j->∃y,N'[nt+k]? = some y/\X.N[j]? = some y/\scope.names.lookup y=some .free
 nocell:∀y∈scope.names,y.2 ≠ .cell
 loc:∀y∈scope.names,y.2 = .local->scope.names.lookup y.1=some .local
 free:∀y∈scope.names,y.2 = .free->X.env.kindOf y.1=some .cell\/X.env.kindOf y.1=some .free
def z6p.ok {g o:List Str}{l:Nat}{i:List Nat}{scope a:Scope}(t:X.N=o)(f:X.env.scope=a)(h:z6p g o l i scope.names a.names=true):z4h X g l i scope:=by
 unfold z6p at h;simp only[vX,beq_iff_eq] at h;obtain⟨⟨p,m⟩,n⟩:=h;rw[jU] at m n;have b:∀y∈scope.names,y.2 ≠ .cell/\(y.2 = .local->scope.names.lookup y.1=some .local)/\(y.2 = .free->a.names.lookup y.1=some .cell\/a.names.lookup y.1=some .free):=λy d=>by
  have:=n y d;simp only[vX,Bool.or_eq_true,bne_iff_ne,beq_iff_eq] at this;refine⟨this.1.1,λz =>?_,λz =>?_⟩
  .rcases this.1.2 with q | q
   .exact absurd z q
   .exact q
  .rcases this.2 with q | q
   .exact absurd z q
   .exact q
 refine⟨p,λk j r =>?_,λy d=>(b y d).1,λy d=>(b y d).2.1,λy d z =>?_⟩
 .have s:(j,k)∈i.zipIdx:=by
   rw[List.mem_zipIdx_iff_getElem?];exact r
  have:=m (j,k) s
  cases e:g[l+k]? with
  | none=>simp only[e] at this;cases this
  | some y=>
   simp_all
 .show X.env.scope.names.lookup y.1=some .cell\/X.env.scope.names.lookup y.1=some .free;rw[f];exact(b y d).2.2 z
theorem z4h.cells (c:z4h X N' nt js scope)(I:Inv X pins σ H s):∀x∈scope.names,x.2 = .free->∃a,X.env.cells.lookup x.1=some a:=λx d b=>I.ok.has x.1 (c.free x d b)
def z4h.clo (c:z4h X N' nt js scope)(I:Inv X pins σ H s)(h:(z4g X.env scope.names []).lookup y=some a):X.env.cells.lookup y=some a/\(y,NameKind.free)∈scope.names:=by
 rcases z9D.mp (z24 h) with z | ⟨d,f⟩
 .simp at z
 .obtain⟨b,e⟩:=c.cells I _ d rfl
  simp_all
def z4h.has {d:List Str}{f:Nat}{e:List Nat}{b:Scope}(c:z4h X d f e b)(I:Inv X pins σ H s){y:Str}(h:(y,NameKind.free)∈b.names):∃a,(z4g X.env b.names []).lookup y=some a:=
 z3G (z9D.mpr (.inr ⟨h,rfl⟩))
theorem Inv.compG (I:Inv X pins σ H s)(hk:scope.kind = .function)(c:z4h X N' nt js scope)
  (J:s.heap.objs.size<=C) (g:∀b∈fp,FpOk X pins H b) (K:∀b∈fp,b<s.heap.objs.size) (keep:∀b o,s.heap.get? b=some o->h1.get? b=some o) (N:∃m,h1.Ns C m) (Y:X.calm=true):
  Inv (X.compG scope N' C s H fp) [] (List.replicate nt none++js.map λj=>(σ[j]?).getD none) H { s with heap:=h1,toks:=t1 }:=by
 have nofs:∀b∈fp,b ∉ frs X.stack:=λb f z=>by
  rcases wm.mp (I.stkSub b z) with q | q
  .exact(g b f).2.1 q
  .exact(g b f).2.2.1 q
 have h:∀b o,X.base.get? b=some o->b ∉ fp:=λb o e f=>by
  have d:=(I.ok.bs b o e).1
  rcases(g b f).2.2.2.1 with z | z
  .exact I.ok.noex b o e z
  .exact absurd (wI (ww d) z) (vN _)
 have kd:∀{y:Str},((compEnvC scope (z4g X.env scope.names []) C X.env).kindOf y=some .cell\/(compEnvC scope (z4g X.env scope.names []) C X.env).kindOf y=some .free)->(y,NameKind.free)∈scope.names:=λ{y} q=>by
  rcases q with q | q
  .rcases z2Z (env:=X.env) q with z | ⟨_,z⟩
   .exact absurd rfl (c.nocell _ (z24 z))
   .exact z24 z
  .rcases z2Z (env:=X.env) q with z | ⟨z,_⟩
   .exact z24 z
   .cases z
 have n:∀{a:Addr}{v:Option Value},s.heap.IsCell a v->h1.IsCell a v:=λ⟨o,ho,Z⟩=>⟨o,keep _ _ ho,Z⟩
 obtain⟨m1,M⟩:=N;refine⟨⟨I.ok.mod,hk,I.ok.glob,I.ok.blt,J,(λy z a F d=>I.ok.inj y z a (c.clo I F).1 (c.clo I d).1),(λy q=>c.has I (kd q)),(λy a hf e =>?_),(λ_=>I.ok.hd Y),I.ok.frames,.inl rfl,(λb f=>⟨wJ (wI (K b f) J),(λy a e=>(g b f).2.2.2.2.1 y a (c.clo I e).1)⟩),(λb o e=>⟨I.bk b o e,(I.bs b o e).2⟩),wP I.ok.bsz I.sz,h,nofs,I.stack,I.stkFree,I.tbs⟩,
  rfl,I.bare,Un.kept keep,⟨m1,M,(λi y v F d hv =>?_)⟩,(λy a e =>?_),I.hok.fresh J,(λy a e=>I.freeC y a (c.clo I e).1),(λp hp=>by simp at hp),I.hok.kept keep,?_⟩
 .have x:((z4g X.env scope.names []).lookup y).isNone=true:=hf;have U:(z4g X.env scope.names []).lookup y=some a:=e;rw[U] at x
  cases x
 .rcases wR i nt with E | E
  .rw[wH (by simpa using E),ju] at d;rw[if_pos E] at d
   cases d
  .rw[wX (by simpa using E),uO,wO] at d
   cases G:js[i - nt]? with
   | none=>rw[G] at d;cases d
   | some j=>
    rw[G] at d;obtain⟨y',T,q2,Q⟩:=c.cap _ _ G;have L:nt+(i - nt)=i:=by lia
    rw[L] at T;have w:N'[i]? = some y:=F;rw[T] at w
    cases w
    have d:some ((σ[j]?).getD none)=some (some v):=d;have O:σ[j]? = some (some v):=by
     cases R:σ[j]? with
     | none=>rw[R] at d;cases d
     | some z=>rw[R] at d;exact congrArg some (w5 d)
    have A:=c.free _ (z24 Q) rfl;obtain⟨m,hn,hl⟩:=I.loc;obtain⟨u,r,l⟩:=hl j y v q2 O (.inr A);refine⟨u,r,.inr ⟨z2A (env:=X.env) Q,?_⟩⟩
    rcases l with ⟨l,_⟩ | ⟨_,a,W,t⟩
    .have S:X.env.kindOf y=some .local:=l
     rcases A with z | z
     .rw[S] at z;cases z
     .rw[S] at z;cases z
    .obtain⟨b,f⟩:=c.has I (z24 Q);have:=(c.clo I f).1;rw[W] at this
     cases this
     exact⟨a,f,n t⟩
 .obtain⟨v,z⟩:=I.cell y a (c.clo I e).1;exact⟨v,n z⟩
 .show (List.replicate nt none++js.map λj=>(σ[j]?).getD none).length=N'.length;rw[wC,uO,wd,c.len]
def zd7 {c5:Pos}(hc:X.calm=true)(hi:PI X target iter wi)(hk:scope.kind = .function)(cp:z4h X N' nt js scope)
  (hg:∀C s H K,PG (X.compG scope N' C s H K) target g)
  (ht:match ct with
   | none=>tc=z5R
   | some c=>∀C s H K,PT (X.compG scope N' C s H K) c tc)
  (he:∀C s H K,PE (X.compG scope N' C s H K) elt te) (hs:fI iter X) (I:Inv X pins σ H s) (h:tLcG wi g tc te nt js σ H Q)
  (fin:∀C D M s5 m5,Inv X pins σ M s5->s5.heap.Ns C m5->X.env.locals<C->(∀x a,X.env.cells.lookup x=some a->a<C)->(∀{N:St}{s':Shared}{h':Heap},Inv X pins N M s'->Heap.SameBut C s'.heap h'->Inv X pins N M { s' with heap:=h' })->Q (.ref D) M->compPost (model X.prog X.w) X.A X.xe use R (.ref D) C (.ok .next) s5):
  wpAny (model X.prog X.w) X.A (comprehension (.ListComp elt [⟨target,iter,ct.toList,0⟩] scope c5) scope X.env p0 (newList []) false (eval iter X.env) use) R X.xe s:=by
 refine wpAny_comprehension_free rfl hs (z7P (cp.cells I)) hk cp.loc (thn (hi pins s σ H _ I h) λv s1 h1=>thn h1 λe8 G h2 =>?_);obtain⟨it,K,tn,J,H2,e,I2,T,b8,f2,W,⟨m0,w0⟩,c9⟩:=h2;subst e;have b3:∀b∈K,b<G.heap.objs.size:=λb l=>by
  obtain⟨o,e,_⟩:=T.obj _ _ b8 b l;exact ww e
 refine vj (wpAny_newFunctionEnv cp.nocell (by intro y hy;simp at hy) (λg1 a1 Z =>?_) hk);dsimp only at a1 Z ⊢;generalize b2:G.heap.push { cls :=.type "list",dict:=none,data :=.seq ([]).toArray }=G2 at a1 Z ⊢;have hC:G2.objs.size=G.heap.objs.size+1:=by rw[<- b2,v5]
 have a5:G.heap.objs.size≠G2.objs.size:=by rw[hC];exact wJ (uX _)
 have t:∀b,b<G.heap.objs.size->b≠G2.objs.size/\b≠G.heap.objs.size:=λb l=>⟨by rw[hC];exact wJ (uf l),wJ l⟩
 have b5:∀b o,G.heap.get? b=some o->g1.get? b=some o:=λb o e=>Z.extBut b o (t b (ww e)).1 (wf _ (b2 ▸ wf _ e));have c4:g1.get? G.heap.objs.size=some { cls :=.type "list",data :=.seq ([]).toArray 0 }:=Z.extBut _ _ a5 (wf _ (b2 ▸ wq _ rfl));have E:G.heap.objs.size<=G2.objs.size:=by rw[hC];exact Nat.le_succ _
 have S:∀y a,X.env.cells.lookup y=some a->a<G.heap.objs.size:=λy a e=>by
  obtain⟨v,o,ho,_⟩:=I2.cell y a e;exact ww ho
 generalize e7:G2.objs.size=C at*;generalize F:G.heap.objs.size=D at*
 let Y:Cx:=X.compG scope N' C G H2 K
 have IY:Inv Y [] (List.replicate nt none++js.map λj=>(σ[j]?).getD none) H2 { G with heap:=g1,toks:=G.toks+([]:List (Str × Value)).length }:=I2.compG hk cp (by rw[F];exact E) f2 (by rw[F];exact b3) b5 ⟨_,a1⟩ hc;have c2:∀b∈K,b≠D:=λb l=>(t b (b3 b l)).2;have d5:∀b∈K,b≠C:=λb l=>(t b (b3 b l)).1;have d2:H2 D=none:=I2.hok.fresh (by rw[F];exact wu _);have d1:D ∉ frs X.stack:=λz=>by
  obtain⟨_,o,e,_⟩:=I2.stack.mem z;exact absurd (ww e) (by rw[F];exact vN _)
 have a2:∀{M:Hp}{pl:List (Addr × Obj)},(∀b∈K,M b=none)->(∀p∈pl,p.1=D)->∀b∈K,FpOk Y pl M b:=λhn hp b l=>⟨hn b l,d5 b l,(λz=>IY.ok.exfs b l z),.inl l,(λy a e=>(f2 b l).2.2.2.2.1 y a (cp.clo I2 e).1),λp e2 z=>c2 b l (z.symm.trans (hp p (by simpa[Y] using e2)))⟩
 have a9:∀s3:Shared,s3={ G with heap:=g1,toks:=G.toks+([]:List (Str × Value)).length }->
   codeAny (model X.prog X.w) X.A (.compLoop (.ListComp elt [⟨target,iter,ct.toList,0⟩] scope c5) 0 (.ref it) (.ref D) (compEnvC scope (z4g X.env scope.names []) C X.env)) (compPost (model X.prog X.w) X.A X.xe use R (.ref D) C) s3:=by
  intro s3 e3;refine z8S (λn s'=>∃i O f N M,Inv Y [] N M s'/\s'.heap.get? D=some { cls :=.type "list",data :=.seq f.toArray f.length }/\Vals O f/\M D=none/\tn i s'.heap/\(∀b∈K,M b=none)/\W i n O N M) ?_ m0 ⟨0,[],[],_,H2,e3 ▸ IY,?_,.nil,d2,?_,λb l=>(f2 b l).1,w0⟩
  .rintro n s4 ⟨i,O,f,a3,H4,I4,d7,a6,a0,c8,c3,w4⟩;obtain⟨hsz,step⟩:=c9 i n O a3 H4 w4;have e0:O.length=f.length:=a6.length;have c1:Inv Y [(D,{ cls :=.type "list",data :=.seq f.toArray f.length })] a3 H4 s4:=I4.pins_of λp hp=>by
    rw[wg.mp hp];exact⟨d7,a0,a5,d1,λv z=>by cases z⟩
   have one:∀p∈[(D,({ cls :=.type "list",data :=.seq f.toArray f.length }:Obj))],p.1=D:=λp hp=>by rw[wg.mp hp]
   rcases step with ⟨stop,qn⟩ | ⟨go,step⟩
   .refine vQ (T.done Y rfl rfl rfl hc i _ s4 a3 H4 (λ_ _=>False) c1 (a2 c3 one) c8 stop) (λr s5 hr =>?_) λ_ _ z=>z.elim;obtain⟨rfl,I5⟩:=hr;have d8:s5.heap.get? D=some { cls :=.type "list",data :=.seq f.toArray f.length }:=(I5.pin (D,_) (by simp)).1;obtain⟨m5,e1,_⟩:=I5.loc;have U:Un (frs X.stack) K H2 H4 G.heap s5.heap:=I5.base;have nC:∀b o,G.heap.get? b=some o->b≠C:=λb o e=>(t b (F ▸ ww e)).1;have nD:∀b o,G.heap.get? b=some o->b≠D:=λb o e=>(t b (F ▸ ww e)).2;have U':Un (frs X.stack) K H2 (upd H4 D (.lst O)) G.heap s5.heap:=⟨U.keep,U.slot,λb o e n e5=>by rw[z08 (nD b o e)];exact U.free b o e n e5,U.there,λb xs e=>by rw[z08 (z0T (U.tups b xs e) a0)];exact U.tups b xs e,λb o xs e=>by rw[z08 (z0T (U.frzs b o xs e) a0)];exact U.frzs b o xs e,λb ps e=>by
      obtain⟨more,q⟩:=U.tbls b ps e;exact⟨more,by rw[z08 (z0T q a0)];exact q⟩⟩
    have e6:HOk X.prog X.w (upd H4 D (.lst O)) s5.heap:=HOk.track I5.hok a0 ⟨uN hsz,f,_,a6,d8⟩;have I6:Inv X pins σ (upd H4 D (.lst O)) s5:=I2.call' (s':=s5) I5.os U' e6 I5.bare (λb l=>⟨(f2 b l).2.2.2.1,(f2 b l).2.1,(f2 b l).2.2.2.2.1,(f2 b l).2.2.2.2.2⟩);exact fin C D _ s5 m5 I6 e1 (wI (by rw[<- F];exact I2.lt) E) (λ_ _ e=>wI (S _ _ e) E) (λI7 sb=>I7.turned (it:=C) (λb o n e=>sb.extBut b o n e) (by rw[z08 (vP a5)];exact I5.free) (jF (wI (by rw[<- F];exact I2.lt) E)) (.inr (wP I2.sz (by rw[F];exact E))) (λx a e z=>by
      have:=S x a e;rw[z] at this;exact absurd (wI this E) (vN _)) (λp hp z=>by
      have:=ww (I2.pin p hp).1;rw[z,F] at this;exact absurd (wI this E) (vN _))) (qn D a0)
   .refine vQ (T.item Y rfl rfl rfl hc i _ s4 a3 H4 (λ_ _=>False) c1 (a2 c3 one) c8 go) (λr s5 hr =>?_) λ_ _ z=>z.elim;obtain⟨u,rfl,h5⟩:=hr;refine vQ h5 (λ_ s6 h6 =>?_) λ_ _ z=>z.elim;obtain⟨xv,H6,I6,r6,y6,b9,d6⟩:=h6;have d3:=I6.pinned (a2 d6 one) (T.obj _ _ b9);have after:∀{a8:St}{H8:Hp}{s8:Shared},Inv Y _ a8 H8 s8->_:=λ{a8 H8 s8} (I8:Inv Y ([(D,{ cls :=.type "list",data :=.seq f.toArray f.length })]++z8i K s6.heap) a8 H8 s8)=>
     (show Aa4 (s8.heap.get? D=some { cls :=.type "list",data :=.seq f.toArray f.length }/\H8 D=none) (tn (i+1) s8.heap) (∀b∈K,H8 b=none) (Inv Y [] a8 H8 s8) from by
      have pD:=I8.pin (D,{ cls :=.type "list",data :=.seq f.toArray f.length }) (by simp);refine⟨⟨pD.1,pD.2.1⟩,T.keep _ _ _ b9 λb l o e=>(I8.pin (b,o) (vf _ (vf _ (z3X l e)))).1,λb l =>?_,I8.pins_of (pins':=[]) λp hp=>by simp at hp⟩;obtain⟨o,e,d⟩:=T.obj _ _ b9 b l;exact(I8.pin (b,o) (vf _ (vf _ (z3X l e)))).2.1)
    refine vQ (hg C G H2 K _ s6 a3 H6 xv u _ d3 r6 (step xv H6 y6)) (λ_ s7 h7 =>?_) λ_ _ z=>z.elim;obtain⟨L,H7,I7,q7⟩:=h7;have d0:∀b7 a4,Inv Y _ L a4 b7->(te L a4 λy H3=>∃m',m'<n/\W (i+1) m' (O++[y]) L H3)->_:=λb7 a4 d4 qe=>
     vQ (Q':=λyv s8=>wpAny (model X.prog X.w) X.A (call (.builtin "list.append") [.ref D,yv]) (λ_ s6=>∃m,m<n/\∃i O f N M,Inv Y [] N M s6/\s6.heap.get? D=some { cls :=.type "list",data :=.seq f.toArray f.length }/\Vals O f/\M D=none/\tn i s6.heap/\(∀b∈K,M b=none)/\W i m O N M) (notedBy (model X.prog X.w) X.A (compEnvC scope (z4g X.env scope.names []) C X.env) λe s'=>compPost (model X.prog X.w) X.A X.xe use R (.ref D) C (.error e) s') s8) (he C G H2 K _ b7 L a4 _ d4 qe) (λyv s8 h8=>by
      obtain⟨y,H8,I8,r8,m',b4,w8⟩:=h8;obtain⟨⟨b6,a7⟩,c0,b1,b0⟩:=after I8;refine append_at (hsz:=by rw[vq, <- e0];exact uN hsz) b6 λh9 c7 d9 =>?_;refine⟨m',b4,i+1,O++[y],f++[yv],L,H8,b0.turned (it:=D) (t':=s8.toks) (λb o n e=>c7.extBut b o n e) a7 a5 (.inr (by rw[F];exact wu _)) (λy a e z=>by
        have:=S y a (cp.clo I2 e).1;rw[z] at this;exact vN _ this) (λp hp=>by simp[Y] at hp),?_,Vals.append a6 (.cons r8 .nil),a7,T.keep _ _ _ c0 λb l o e=>c7.extBut b o (c2 b l) e,b1,w8⟩
      show h9.get? D=_;rw[d9];simp) (E':=notedBy (model X.prog X.w) X.A (compEnvC scope (z4g X.env scope.names []) C X.env) λe s'=>compPost (model X.prog X.w) X.A X.xe use R (.ref D) C (.error e) s') (λ_ _ z=>z.elim)
    cases ct with
    | none=>
     have e4:tc=z5R:=ht;subst e4;simp only[ziP,jX];have c6:if true=true then te L H7 λy H3=>∃m',m'<n/\W (i+1) m' (O++[y]) L H3 else ∃m',m'<n/\W (i+1) m' O L H7:=q7
     rw[if_pos rfl] at c6;exact d0 s7 H7 I7 c6
    | some c=>
     refine vQ (ht C G H2 K _ s7 L H7 _ I7 q7) (λb s8 h8 =>?_) λ_ _ z=>z.elim;obtain⟨H8,I8,q8⟩:=h8
     cases b with
     | true=>
      rw[if_pos rfl] at q8 ⊢;exact d0 s8 H8 I8 q8
     | false=>
      rw[if_neg vd] at q8 ⊢;obtain⟨m',b4,w8⟩:=q8;obtain⟨⟨b6,a7⟩,c0,b1,b0⟩:=after I8;exact⟨m',b4,i+1,O,f,L,H8,b0,b6,a6,a7,c0,b1,w8⟩
  .rw[e3];exact c4
  .rw[e3];exact T.keep _ _ _ b8 λb _ o e=>b5 b o e
 exact codeAny_compStart_list (a9 _ rfl) (T.self _ 0 _ _ _ (T.keep _ _ _ b8 λb _ o e=>b5 b o e) (a9 _ rfl))
def zkJ {b:Pos}(i:X.calm=true)(m:PI X target iter wi)(n:scope.kind = .function)(f:z4h X N' nt js scope)
  (l:∀C s H a,PG (X.compG scope N' C s H a) target g)
  (r:match ct with
   | none=>tc=z5R
   | some c=>∀C s H a,PT (X.compG scope N' C s H a) c tc)
  (j:∀C s H a,PE (X.compG scope N' C s H a) elt te) (p:autoParam (fI iter X) jC1):PE X (.ListComp elt [⟨target,iter,ct.toList,0⟩] scope b) (tLcG wi g tc te nt js):=by
 intro d s A H Q I h;rw[eval_ListComp];exact zd7 i m n f l r j p I h λC D w z t e o _ _ u q=>⟨t,o,λy sb=>⟨.ref D,_,u e sb,rfl,q⟩⟩
def zkl {b:Pos}(f:X.calm=true)(j:QI X target iter wi)(l:scope.kind = .function)(e:z4h X N' nt js scope)
  (i:∀C s H a,QG (X.compG scope N' C s H a) target g)
  (d:match ct with
   | none=>tc=z5R
   | some c=>∀C s H a,QT (X.compG scope N' C s H a) c tc)
  (h:∀C s H a,QE (X.compG scope N' C s H a) elt te) (m:autoParam (fI iter X) jC1):QE X (.ListComp elt [⟨target,iter,ct.toList,0⟩] scope b) (tLcG wi g tc te nt js):=by
 refine⟨zkJ f j.p l e (λC s H a=>(i C s H a).p) ?_ (λC s H a=>(h C s H a).p) m⟩
 cases ct with
 | none=>exact d
 | some c=>exact λC s H a=>(d C s H a).p
def zkd {a:Pos}(d:X.N.Nodup)(e:X.N[i]? = some x)(b:X.env.scope.names.lookup x=some .local):QG X (.Name x a) (z30 i):=⟨zcC d e (.inl b) (.inr b)⟩
end
theorem z5L:∀ns {a:List Value},Vals (ns.map V.int) a->∃l:List (Int × Tok),a=l.map (λp=>Value.int p.1 p.2)/\l.map (·.1)=ns
 | [],_,r=>by cases r;exact⟨[],rfl,rfl⟩
 | n::ns,_,r=>by
  cases r with
  | cons r1 r2=>
   obtain⟨t,rfl⟩:=(r1)
   obtain⟨l,rfl,b⟩:=z5L ns r2;exact⟨(n,t)::l,rfl,by simp_all⟩
theorem z75 (bt:Nat->Nat->Bool):∀k,argBest bt k<=k
 | 0=>wu _
 | k+1=>by
  rw[argBest]
  split
  .simp_all
  .exact Nat.le_succ_of_le (z75 bt k)
theorem z6s (f:Nat->Int):∀k j,j<=k->f j<=f (argBest (λi j=>decide (f i > f j)) k)
 | 0,j,h=>by
  have:j=0:=by lia
  subst this;exact vL _
 | k+1,j,h=>by
  have a:=z6s f k;rw[argBest]
  grind
section
variable {X:Cx}
def zmy (K:W.Frag):List V->Hp->VK->Prop:=λd H Q=>∃(a:Addr) (b:List Int),d=[.ref a]/\SqL K H a (b.map V.int)/\b≠[]/\∀m,m∈b->(∀x∈b,x<=m)->Q (.int m) H
def zdO (o:X.calm=true):z0D X (.builtin "max") (zmy X.K):=by
 intro n s S H xs R Q I r h;obtain⟨a,f,rfl,A,z,q⟩:=h;obtain⟨u,rfl,L⟩:=z32 r
 cases (show u=Value.ref a from L)
 obtain⟨G,E,pl,_⟩:=I.list A;obtain⟨l,rfl,m⟩:=z5L f E;have y:l.length=f.length:=by rw[<- m,wd]
 have d:0<l.length:=by
  grind
 have J:∀i,numAt l.toArray i=(f[i]?).getD 0:=λi=>by
  unfold numAt;rw[<- m,wO];simp
 refine max_intList (xs:=l.toArray) (I.ok.hd o) (by have:=pl.isList;simpa[intItems] using this) (by simpa using d) λv N M e p =>?_;obtain⟨t,rfl⟩:=intItems_at e;generalize b:argBest _ (l.toArray.size - 1)=k at*;have g:k<=l.length - 1:=by
  have:=z75 (λi j=>decide (numAt l.toArray i > numAt l.toArray j)) (l.toArray.size - 1);rw[b] at this;simpa using this
 have w:k<f.length:=by lia
 refine⟨.int _,H,I.kept (t':=M) p,⟨t,rfl⟩,q _ ?_ λx F =>?_⟩
 .simp_all
 .obtain⟨j,O,rfl⟩:=ve.mp F;have C:l.toArray.size=l.length:=by simp
  have:=z6s (numAt l.toArray) (l.toArray.size - 1) j (by lia);rw[b] at this
  simp_all
def zmw (K:W.Frag):List V->Hp->VK->Prop:=λd H Q=>∃(a:Addr) (b:List Int),d=[.ref a]/\SqL K H a (b.map V.int)/\Q (.int b.sum) H
def zdK (d:X.calm=true):z0D X (.builtin "sum") (zmw X.K):=by
 intro b s x H xs w Q I r h;obtain⟨a,j,rfl,f,q⟩:=h;obtain⟨u,rfl,m⟩:=z32 r
 cases (m)
 obtain⟨i,g,pl,_⟩:=I.list f;obtain⟨l,rfl,p⟩:=z5L j g;refine sum_intListG (xs:=l.toArray) (I.ok.hd d) (by have:=pl.isList;simpa[intItems] using this) λo t n e =>?_;refine⟨.int _,H,I.kept e,⟨n,rfl⟩,?_⟩;rw[preSum_eq,uE (by simp)]
 simp_all
def z0D.imp {f:Value}{r r':List V->Hp->VK->Prop}(h:z0D X f r)(i:∀xs H Q,r' xs H Q->r xs H Q):z0D X f r':=λa s e H xs d Q I b q=>h _ s e H xs d Q I b (i xs H Q q)
end
def z5s {d:Type}{xs:List d}{i:Int}(e:0<=i)(f:i<xs.length):∃v∈xs,atI xs i=some v:=by
 have a:i.toNat<xs.length:=by lia
 have b:i=i.toNat:=by lia
 refine⟨xs[i.toNat],u9 a,?_⟩;have q  := ziO (wn a);rw[<- b] at q;exact q
section
variable {X:Cx}{pins:List (Addr × Obj)}{σ:St}{H:Hp}{s:Shared}
def zkw {b a py:Pos}(u:X.N.Nodup)(l:X.N[iy]? = some y)(f:X.env.scope.names.lookup y=some .local)(w:X.calm=true)(G:PI X target iter wi)(J:scope.kind = .function)(t:z4h X N' nt js scope)
  (F:∀(C:Addr) (s:Shared) (H:Hp) (d:List Addr),PG (X.compG scope N' C s H d) target g)
  (O:match ct with
   | none=>tc=z5R
   | some c=>∀(C:Addr) (s:Shared) (H:Hp) (d:List Addr),PT (X.compG scope N' C s H d) c tc)
  (E:∀(C:Addr) (s:Shared) (H:Hp) (d:List Addr),PE (X.compG scope N' C s H d) elt te) (m:autoParam (swapsWith (.ListComp elt [⟨target,iter,ct.toList,0⟩] scope b) (some (.Name y py)) a.line X.env=pure true) jA1) (M:autoParam (fI iter X) jC1):PS X (.Assign [.Name y py] (.ListComp elt [⟨target,iter,ct.toList,0⟩] scope b) a) (tAsg (tLcG wi g tc te nt js) (z30 iy)):=by
 intro i s σ H Dn I h;rw[exec_Assign_Name_used _ _ _ _ m];refine wc (wpAny_standAt (wc ?_));show wpAny _ X.A (do let _ <- comprehension (.ListComp elt [⟨target,iter,ct.toList,0⟩] scope b) scope X.env _ (newList []) false (eval iter X.env) (some (assign (.Name y py) X.env))) _ _ s;refine wc (vQ (zd7 (R:=λ_ o=>SP X i Dn .next o) w G J t F O E M I h λC D W s5 S p K lt Q T q =>?_) (λ_ o L=>wj (wj L)) λ_ _ e=>e);show wpAny _ X.A (assign (.Name y py) X.env (.ref D)) _ _ _;refine wpAny_assign_Name (z80 p u l (.inl f) (show RelV (.ref D) (.ref D) from rfl) (λs7 r U =>?_) (.inr f));obtain⟨Y,n,j⟩:=U;exact⟨S,K.sameBut n (jF (j.elim (λz=>z ▸ lt) (Q _ _))),λZ sb=>⟨_,_,T r sb,q⟩⟩
def zk8 {d b py:Pos}(l:X.N.Nodup)(e:X.N[iy]? = some y)(f:X.env.scope.names.lookup y=some .local)(m:X.calm=true)(q:QI X target iter wi)(r:scope.kind = .function)(j:z4h X N' nt js scope)
  (o:∀(C:Addr) (s:Shared) (H:Hp) (a:List Addr),QG (X.compG scope N' C s H a) target g)
  (i:match ct with
   | none=>tc=z5R
   | some c=>∀(C:Addr) (s:Shared) (H:Hp) (a:List Addr),QT (X.compG scope N' C s H a) c tc)
  (n:∀(C:Addr) (s:Shared) (H:Hp) (a:List Addr),QE (X.compG scope N' C s H a) elt te) (h:autoParam (swapsWith (.ListComp elt [⟨target,iter,ct.toList,0⟩] scope d) (some (.Name y py)) b.line X.env=pure true) jA1) (t:autoParam (fI iter X) jC1):QS X (.Assign [.Name y py] (.ListComp elt [⟨target,iter,ct.toList,0⟩] scope d) b) (tAsg (tLcG wi g tc te nt js) (z30 iy)):=by
 refine⟨zkw l e f m q.p r j (λC s H a=>(o C s H a).p) ?_ (λC s H a=>(n C s H a).p) h t⟩
 cases ct with
 | none=>exact i
 | some c=>exact λC s H a=>(i C s H a).p
end
end L2
namespace Pu
open PySem PySem.Spec PyProof.Rows L2
inductive D where
 | non | bl (b:Bool) | int (i:Int) | str (x:Str) | tup (l:List D) | lst (l:List D) | dct (ks vs:List D) | fn (n:Nat) | exc (x:Str) | ptr (a:Addr) | ins (n:Str) (fs:List Str) (cs:List D) | fz (ks vs:List D)
instance:Inhabited D:=⟨.non⟩
noncomputable def z6k:Nat->Str
 | 0=>"turn_by" | 1=>"turn_among" | 2=>"step_of" | 3=>"step_among" | _=>""
noncomputable def kD:Key->D
 | .inl i =>.int i
 | .inr x =>.str x
section
variable (K:W.Frag)(mg:WmP)
mutual
/-- the value v stands for d,in the heap G -/
def RD (G:Hp):D->V->Prop
 | .non,v=>v = .non
 | .bl b,v=>v = .bl b
 | .int i,v=>v = .int i
 | .str x,v=>v = .str x
 | .tup h,v=>∃a e,v = .ref a/\SqT K G a e/\RDs G h e
 | .lst h,v=>∃a e,v = .ref a/\SqL K G a e/\RDs G h e
 | .dct g vs,v=>∃a e,v = .ref a/\RDs G vs e/\((∃d:List (Key × V),Rd G a (.dK d)/\g=d.map (λp=>kD p.1)/\e=d.map (·.2))\/∃d:List (List Key × V),G a=some (.dT d)/\d≠[]/\g=d.map (λp =>.tup (p.1.map kD))/\e=d.map (·.2))
 | .fn n,v=>∃f,v = .ref f/\mg (z6k n)=some (.ref f)
 | .exc x,v=>∃j C,v = .ref j/\G j=some (.ext (zo2 j C))/\mg x=some (.ref C)
 | .ptr a,v=>v = .ref a
 | .fz g vs,v=>∃a e,v = .ref a/\RDs G vs e/\∃(o:Obj) (d:List (Key × V)),G a=some (.frz o (.dK d))/\g=d.map (λp=>kD p.1)/\e=d.map (·.2)
 | .ins n fs l,v=>∃p C m e,v = .ref p/\G p=some (.ins C m (fs.zip e))/\mg n=some (.ref C)/\RDs G l e
def RDs (G:Hp):List D->List V->Prop
 | [],a=>a=[]
 | d::b,a=>∃x r,a=x::r/\RD G d x/\RDs G b r
end
end
section
variable {K:W.Frag}{mg:WmP}{G G' H H':Hp}
def Same.refl':Same H H:=λ_ _ h=>h
def z02 {A B C:Hp}(h:Same A B)(b:Same B C):Same A C:=λa o e=>b a o (h a o e)
def z1l {a:Addr}{xs:List V}(e:Same G G')(h:SqL K G a xs):SqL K G' a xs:=by
 rcases h with (h | ⟨o,h⟩) | h
 .exact .inl (.inl (e _ _ h))
 .exact .inl (.inr ⟨o,e _ _ h⟩)
 .exact .inr h
def z0L {a:Addr}{xs:List V}(e:Same G G')(h:SqT K G a xs):SqT K G' a xs:=by
 rcases h with (h | ⟨o,h⟩) | h
 .exact .inl (.inl (e _ _ h))
 .exact .inl (.inr ⟨o,e _ _ h⟩)
 .exact .inr h
mutual
theorem RD.same (e:Same G G'):∀(d:D) {v:V},RD K mg G d v->RD K mg G' d v
 | .non,_,h=>by simpa[RD] using h
 | .bl _,_,h=>by simpa[RD] using h
 | .int _,_,h=>by simpa[RD] using h
 | .str _,_,h=>by simpa[RD] using h
 | .fn _,_,h=>by rw[RD] at h ⊢;exact h
 | .exc _,_,h=>by
  rw[RD] at h ⊢;obtain⟨t,C,b,g,i⟩:=h;exact⟨t,C,b,e _ _ g,i⟩
 | .ptr _,_,h=>by rw[RD] at h ⊢;exact h
 | .fz _ vs,_,h=>by
  rw[RD] at h ⊢;obtain⟨a,j,b,g,o,f,q,r⟩:=h;exact⟨a,j,b,RDs.same e vs g,o,f,e _ _ q,r⟩
 | .ins _ _ n,_,h=>by
  rw[RD] at h ⊢;obtain⟨p,C,s,j,b,g,i,m⟩:=h;exact⟨p,C,s,j,b,e _ _ g,i,RDs.same e n m⟩
 | .tup l,_,h=>by
  rw[RD] at h ⊢;obtain⟨a,j,b,g,i⟩:=h;exact⟨a,j,b,z0L e g,RDs.same e l i⟩
 | .lst l,_,h=>by
  rw[RD] at h ⊢;obtain⟨a,j,b,g,i⟩:=h;exact⟨a,j,b,z1l e g,RDs.same e l i⟩
 | .dct u vs,_,h=>by
  rw[RD] at h ⊢;obtain⟨a,j,b,i,m⟩:=h;refine⟨a,j,b,RDs.same e vs i,?_⟩
  rcases m with ⟨f,q,r⟩ | ⟨f,q,r⟩
  .exact .inl ⟨f,q.imp (e _ _) λ⟨o,q⟩=>⟨o,e _ _ q⟩,r⟩
  .exact .inr ⟨f,e _ _ q,r⟩
theorem RDs.same (e:Same G G'):∀(ds:List D) {xs:List V},RDs K mg G ds xs->RDs K mg G' ds xs
 | [],_,h=>by simpa[RDs] using h
 | d::ds,_,h=>by
  rw[RDs] at h ⊢;obtain⟨x,r,a,b,f⟩:=h;exact⟨x,r,a,RD.same e d b,RDs.same e ds f⟩
end
def RDs.nil:RDs K mg G [] []:=by rw[RDs]
def RDs.cons {d:D}{v:V}{ds:List D}{vs:List V}(h:RD K mg G d v)(t:RDs K mg G ds vs):RDs K mg G (d::ds) (v::vs):=by exact⟨v,vs,rfl,h,t⟩
theorem RDs.len:∀{ds:List D}{vs:List V},RDs K mg G ds vs->vs.length=ds.length
 | [],_,h=>by subst h;rfl
 | _::_,_,h=>by
  obtain⟨x,r,rfl,_,a⟩:=h;simp[RDs.len a]
theorem RDs.app:∀{ds es:List D}{vs a:List V},RDs K mg G ds vs->RDs K mg G es a->RDs K mg G (ds++es) (vs++a)
 | [],_,_,_,h,k=>by subst h;exact k
 | _::_,_,_,_,h,k=>by
  obtain⟨x,r,rfl,b,d⟩:=h;exact RDs.cons b (RDs.app d k)
theorem RDs.get:∀{ds:List D}{vs:List V}{i:Nat}{d:D},RDs K mg G ds vs->ds[i]? = some d->∃v,vs[i]? = some v/\RD K mg G d v
 | [],_,_,_,_,e=>by simp at e
 | _::_,_,0,_,h,e=>by
  obtain⟨x,r,rfl,a,b⟩:=h;simp at e;subst e;exact⟨x,rfl,a⟩
 | _::_,_,i+1,_,h,e=>by
  obtain⟨x,r,rfl,a,b⟩:=h;obtain⟨v,f,g⟩:=RDs.get b (by simpa using e);exact⟨v,by simpa using f,g⟩
theorem RDs.take:∀{ds:List D}{vs:List V} n,RDs K mg G ds vs->RDs K mg G (ds.take n) (vs.take n)
 | _,_,0,_=>by rfl
 | [],_,_+1,h=>by subst h;rfl
 | _::_,_,n+1,h=>by
  obtain⟨x,r,rfl,a,b⟩:=h;exact RDs.cons a (RDs.take n b)
theorem RDs.drop:∀{ds:List D}{vs:List V} n,RDs K mg G ds vs->RDs K mg G (ds.drop n) (vs.drop n)
 | _,_,0,h=>by simpa using h
 | [],_,_+1,h=>by subst h;rfl
 | _::_,_,n+1,h=>by
  obtain⟨x,r,rfl,b,a⟩:=h;exact RDs.drop n a
def RDs.rev {vs:List V}(h:RDs K mg G ds vs):RDs K mg G ds.reverse vs.reverse:=by
 induction ds generalizing vs with
 | nil=>subst h;rfl
 | cons d ds e=>
  obtain⟨x,r,rfl,a,b⟩:=h;rw[uH,uH];exact RDs.app (e b) (RDs.cons a RDs.nil)
theorem RDs.set {d:D}{v:V}(q:RD K mg G d v):∀{ds:List D}{vs:List V} i,RDs K mg G ds vs->RDs K mg G (ds.set i d) (vs.set i v)
 | [],_,_,h=>by subst h;rfl
 | _::_,_,0,h=>by
  obtain⟨x,r,rfl,b,a⟩:=h;exact RDs.cons q a
 | _::_,_,i+1,h=>by
  obtain⟨x,r,rfl,b,a⟩:=h;exact RDs.cons b (RDs.set q i a)
theorem RDs.at {ds:List D}{vs:List V}{i:Int}{d:D}(h:RDs K mg G ds vs)(e:atI ds i=some d):∃v,atI vs i=some v/\RD K mg G d v:=by
 unfold atI at e ⊢;rw[h.len]
 cases q:ixN _ i with
 | none=>simp_all
 | some j=>
  rw[q] at e;exact h.get e
def RDs.cut {ds:List D}{vs:List V}(a b:Option Int)(h:RDs K mg G ds vs):RDs K mg G ((ds.drop (HT.sIx ds.length 0 a)).take (HT.sIx ds.length ds.length b - HT.sIx ds.length 0 a)) (cutV vs a b):=by
 unfold cutV;rw[h.len];exact(h.drop _).take _
end
inductive B where
 | n | s (d:D) | o (d:D)
abbrev Env:=List B
noncomputable def B.get:B->Option D
 | .n=>none
 | .s d=>some d
 | .o d=>some d
def Env.get (a:Env)(i:Nat):Option D:=match a,i with
 | [],_=>none
 | b::_,0=>b.get
 | _::r,i+1=>Env.get r i
theorem Env.get_eq:∀a i,Env.get a i=(a[i]?).bind B.get
 | [],i=>by rfl
 | b::r,0=>by rfl
 | b::r,i+1=>by simp[Env.get,Env.get_eq r i]
abbrev DK:=D->Prop
abbrev XP:=Str->Prop
structure Fn where
 run:List D->DK->XP->Prop
 mono:∀ds Q Q' X X',(∀d,Q d->Q' d)->(∀x,X x->X' x)->run ds Q X->run ds Q' X'
structure Ex where
 run:Env->DK->XP->Prop
 mono:∀ρ Q Q' X X',(∀d,Q d->Q' d)->(∀x,X x->X' x)->run ρ Q X->run ρ Q' X'
structure Sm where
 run:Env->(Env->Prop)->DK->XP->Prop
 mono:∀ρ N N' Q Q' X X',(∀ρ,N ρ->N' ρ)->(∀d,Q d->Q' d)->(∀x,X x->X' x)->run ρ N Q X->run ρ N' Q' X'
def onV (o:Option D)(Q:DK):Prop:=match o with
 | some d=>Q d
 | none=>False
def Ex.c (d:D):Ex:=⟨λ_ Q _=>Q d,λ_ _ _ _ _ m _ q=>m _ q⟩
def Ex.v (i:Nat):Ex:=⟨λa Q _=>onV (a.get i) Q,λa Q f _ _ m _ q=>by
 show onV (a.get i) f;have b:onV (a.get i) Q:=q
 cases e:a.get i with
 | none=>rw[e] at b;exact b
 | some d=>rw[e] at b;exact m _ b⟩
def runs:List Ex->Env->(List D->Prop)->XP->Prop
 | [],_,Q,_=>Q []
 | e::f,a,Q,X=>e.run a (λd=>runs f a (λb=>Q (d::b)) X) X
theorem z3y:∀es b Q Q' X a,(∀d,Q d->Q' d)->(∀x,X x->a x)->runs es b Q X->runs es b Q' a
 | [],_,_,_,_,_,m,_,q=>m _ q
 | e::es,b,Q,Q',X,a,m,f,q=>e.mono b _ _ X a (λd g=>z3y es b _ _ X a (λi h=>m _ h) f g) f q
def Ex.op (f:Fn)(es:List Ex):Ex:=⟨λb Q X=>runs es b (λa=>f.run a Q X) X,λb Q g X d m e q=>z3y es b _ _ X d (λa h=>f.mono a Q g X d m e h) e q⟩
def tst (d:D)(A B:Prop):Prop:=match d with
 | .bl b=>(b=true->A)/\(b=false->B)
 | _=>False
def z2I {A A' B B':Prop}(a:A->A')(f:B->B')(h:tst d A B):tst d A' B':=by
 cases d with
 | bl b=>exact⟨λe=>a (h.1 e),λe=>f (h.2 e)⟩
 | _=>exact h.elim
def z5N {A B:Prop}(h:tst d A B):∃b,d = .bl b/\(b=true->A)/\(b=false->B):=by
 cases d with
 | bl b=>exact⟨b,rfl,h⟩
 | _=>exact h.elim
def Ex.and (a b:Ex):Ex:=⟨λe Q X=>a.run e (λd=>tst d (b.run e Q X) (Q (.bl false))) X,λe Q h X f m g q=>a.mono e _ _ X f (λd i=>z2I (b.mono e Q h X f m g) (m _) i) g q⟩
def Ex.or (a b:Ex):Ex:=⟨λe Q X=>a.run e (λd=>tst d (Q (.bl true)) (b.run e Q X)) X,λe Q h X f m g q=>a.mono e _ _ X f (λd i=>z2I (m _) (b.mono e Q h X f m g) i) g q⟩
def Ex.not (a:Ex):Ex:=⟨λe Q X=>a.run e (λd=>match d with | .bl b=>Q (.bl (!b)) | _=>False) X,λe Q i X g m h q=>a.mono e _ _ X g (λd f=>by
 cases d with
 | bl b=>exact m _ f
 | _=>exact f.elim) h q⟩
inductive Tg where
 | nm (i:Nat) | tp (is:List Nat)
def z0m:List Nat->List D->Env->Env
 | i::is,d::b,a=>z0m is b (a.set i (.s d))
 | _,_,a=>a
def Tg.put (t:Tg)(d:D)(b:Env)(K:Env->Prop):Prop:=match t,d with
 | .nm i,d=>K (b.set i (.s d))
 | .tp is,.tup a=>is.length=a.length/\K (z0m is a b)
 | _,_=>False
def Tg.put_mono {t:Tg}{d:D}{a:Env}{K K':Env->Prop}(m:∀a,K a->K' a)(h:t.put d a K):t.put d a K':=by
 cases t with
 | nm i=>exact m _ h
 | tp is=>
  cases d with
  | tup b=>exact⟨h.1,m _ h.2⟩
  | _=>exact h.elim
noncomputable def z04:D->Option (List D)
 | .lst l=>some l
 | .tup l=>some l
 | .str x=>some (x.cps.toList.map λc =>.str ⟨#[c]⟩)
 | _=>none
def onL (o:Option (List D))(Q:List D->Prop):Prop:=match o with
 | some l=>Q l
 | none=>False
def zak (m:∀l,Q l->Q' l)(h:onL o Q):onL o Q':=by
 cases o with
 | none=>exact h
 | some l=>exact m _ h
def z4R (f:D->(Option D->Prop)->Prop):List D->(List D->Prop)->Prop
 | [],N=>N []
 | x::a,N=>f x λo=>z4R f a λr=>N (o.toList++r)
theorem z41 (d:∀x K b,(∀o,K o->b o)->f x K->f' x b):∀xs N a,(∀l,N l->a l)->z4R f xs N->z4R f' xs a
 | [],_,_,m,q=>m _ q
 | x::xs,N,a,m,q=>d x _ _ (λo e=>z41 d xs _ _ (λr g=>m _ g) e) q
noncomputable def z1r (b:Nat)(a:List Nat)(d:Env):Env:=List.replicate b .n++a.map λj=>(d[j]?).getD .n
def z5f (t:Tg)(c:Option Ex)(e:Ex)(f:Env)(x:D)(K:Option D->Prop):Prop:=
 t.put x f λa=>match c with
  | none=>e.run a (λd=>K (some d)) (λ_=>False)
  | some c=>c.run a (λb=>tst b (e.run a (λd=>K (some d)) (λ_=>False)) (K none)) (λ_=>False)
def z5e {t:Tg}{c:Option Ex}(x:D)(K K':Option D->Prop)(m:∀o,K o->K' o)(h:z5f t c elt ρ x K):z5f t c elt ρ x K':=by
 refine Tg.put_mono (λa q =>?_) h
 cases c with
 | none=>exact elt.mono a _ _ _ _ (λd e=>m _ e) (λ_ z=>z) q
 | some c=>exact c.mono a _ _ _ _ (λb e=>z2I (elt.mono a _ _ _ _ (λd f=>m _ f) (λ_ z=>z)) (m _) e) (λ_ z=>z) q
def Ex.comp (i:Nat)(g:List Nat)(t:Tg)(src:Ex)(c:Option Ex)(b:Ex):Ex:=
 ⟨λa Q X=>src.run a (λd=>onL (z04 d) λl=>l.length<sizeLine/\z4R (z5f t c b (z1r i g a)) l λr=>Q (.lst r)) X,λa Q o X f m h q=>
  src.mono a _ _ X f (λd j=>zak (λl e=>⟨e.1,z41 z5e l _ _ (λr n=>m _ n) e.2⟩) j) h q⟩
def Sm.skip:Sm:=⟨λa N _ _=>N a,λ_ _ _ _ _ _ _ m _ _ q=>m _ q⟩
def Sm.seq (a b:Sm):Sm:=⟨λe N Q X=>a.run e (λd=>b.run d N Q X) Q X,λe N i Q f X g j m h q=>a.mono e _ _ Q f X g (λd l=>b.mono d N i Q f X g j m h l) m h q⟩
mutual
def noL:D->Bool
 | .lst _=>false
 | .tup l=>noLs l
 | .dct a vs=>noLs vs
 | .ins _ _ _=>false
 | .fz _ _=>false
 | _=>true
def noLs:List D->Bool
 | []=>true
 | d::a=>noL d && noLs a
end
mutual
def noD:D->Bool
 | .dct _ _=>false
 | .tup l=>noDs l
 | .lst l=>noDs l
 | .ins _ _ _=>false
 | .fz _ _=>false
 | _=>true
def noDs:List D->Bool
 | []=>true
 | d::a=>noD d && noDs a
end
def zjo (d:D):B->Prop
 | .o (.lst _)=>noL d=true
 | .o (.dct _ _)=>noD d=true
 | _=>True
def Safe (d:D):Env->Prop
 | []=>True
 | b::r=>zjo d b/\Safe d r
def zfY (d:D)(a:Env):Prop:=match d with
 | .lst l=>∀x∈l,Safe x a
 | .dct _ vs=>∀x∈vs,Safe x a
 | _=>False
def Sm.set (i:Nat)(e:Ex):Sm:=⟨λa N _ X=>e.run a (λd=>Safe d (a.set i .n)/\N (a.set i (.s d))) X,λa N j Q l X f g m h q=>e.mono a _ _ X f (λd b=>⟨b.1,g _ b.2⟩) h q⟩
def Sm.own (i:Nat)(e:Ex):Sm:=⟨λa N _ X=>e.run a (λd=>zfY d (a.set i .n)/\N (a.set i (.o d))) X,λa N j Q l X f g m h q=>e.mono a _ _ X f (λd b=>⟨b.1,g _ b.2⟩) h q⟩
def demB:B->B
 | .o d =>.s d
 | b=>b
def dem:List Nat->Env->Env
 | [],a=>a
 | j::b,a=>dem b (a.set j (demB ((a[j]?).getD .n)))
def visB:B->B
 | .o _ =>.n
 | b=>b
def vis (a:Env):Env:=a.map visB
def Sm.setx (b:List Nat)(i:Nat)(e:Ex):Sm:=⟨λa N _ X=>e.run (vis (dem b a)) (λd=>N ((dem b a).set i (.s d))) X,λa N l Q n X f g m h q=>e.mono _ _ _ X f (λd j=>g _ j) h q⟩
def Sm.ifs (c:Ex)(a b:Sm):Sm:=⟨λe N Q X=>c.run e (λd=>tst d (a.run e N Q X) (b.run e N Q X)) X,λe N h Q i X f j m g q=>c.mono e _ _ X f (λd l=>z2I (a.mono e N h Q i X f j m g) (b.mono e N h Q i X f j m g) l) g q⟩
def Sm.ret (e:Ex):Sm:=⟨λa _ Q X=>e.run a Q X,λa N f Q g X b h m d q=>e.mono a _ _ X b m d q⟩
def Sm.ex (e:Ex):Sm:=⟨λa N _ X=>e.run a (λ_=>N a) X,λa N h Q i X b d m f q=>e.mono a _ _ X b (λ_ g=>d _ g) f q⟩
def wh (c:Ex)(b:Sm)(N:Env->Prop)(Q:DK)(X:XP):Nat->Env->Prop
 | 0,_=>False
 | n+1,a=>c.run a (λd=>tst d (b.run a (wh c b N Q X n) Q X) (N a)) X
theorem zbE {c:Ex}(g:∀a,N a->N' a)(m:∀d,Q d->Q' d)(e:∀x,X x->X' x):∀n a,wh c b N Q X n a->wh c b N' Q' X' n a
 | 0,_,q=>q
 | n+1,a,q=>c.mono a _ _ X X' (λd h=>z2I (b.mono a _ _ Q Q' X X' (λf i=>zbE g m e n f i) m e) (g a) h) e q
def Sm.wh (c:Ex)(b:Sm):Sm:=⟨λa N Q X=>∃n,Pu.wh c b N Q X n a,λa N f Q g X h d m e ⟨n,q⟩=>⟨n,zbE d m e n a q⟩⟩
def forL (t:Tg)(b:Sm)(N:Env->Prop)(Q:DK)(X:XP):List D->Env->Prop
 | [],a=>N a
 | x::e,a=>t.put x a λd=>b.run d (forL t b N Q X e) Q X
theorem z6j {t:Tg}{b:Sm}{N h:Env->Prop}{Q Q':DK}{X e:XP}(i:∀a,N a->h a)(m:∀d,Q d->Q' d)(j:∀x,X x->e x):∀l a,forL t b N Q X l a->forL t b h Q' e l a
 | [],_,q=>i _ q
 | x::p,a,q=>Tg.put_mono (λf n=>b.mono f _ _ Q Q' X e (λg o=>z6j i m j p g o) m j n) q
def Sm.for_ (e:List Nat)(t:Tg)(src:Ex)(b:Sm):Sm:=⟨λa N Q X=>src.run (vis (dem e a)) (λd=>onL (z04 d) λl=>forL t b N Q X l (dem e a)) X,λa N n Q o X g h m f q=>src.mono _ _ _ X g (λd i=>zak (λl j=>z6j h m f l _ j) i) f q⟩
def onR (ds:List D)(K:List D->Prop):Prop:=match ds with
 | [.int j]=>(-(2 ^ 62)<=j/\j<2 ^ 62)/\K ((List.range j.toNat).map λ(k:Nat) =>.int k)
 | [.int i,.int j]=>((-(2 ^ 62)<=i/\i<2 ^ 62) /\ -(2 ^ 62)<=j/\j<2 ^ 62)/\K ((List.range (j - i).toNat).map λ(k:Nat) =>.int (i+k))
 | _=>False
def zai {ds:List D}{K K':List D->Prop}(m:∀l,K l->K' l)(h:onR ds K):onR ds K':=by
 unfold onR at h ⊢
 split at h
 .exact⟨h.1,m _ h.2⟩
 .exact⟨h.1,m _ h.2⟩
 omega
def Sm.forr (es:List Ex)(t:Tg)(b:Sm):Sm:=⟨λa N Q X=>runs es a (λg=>onR g λl=>forL t b N Q X l a) X,λa N n Q o X f h m e q=>z3y es a _ _ X f (λd i=>zai (λl j=>z6j h m e l _ j) i) e q⟩
def ownL (a:Env)(i:Nat)(K:List D->Prop):Prop:=match a[i]? with
 | some (.o (.lst l))=>K l
 | _=>False
set_option tactic.hygienic true in
def z3C {a:Env}{i:Nat}{K K':List D->Prop}(m:∀l,K l->K' l)(h:ownL a i K):ownL a i K':=by
 unfold ownL at h ⊢
 split <;> rename_i e
 .simp_all
 simp_all
def Sm.app (i:Nat)(e:Ex):Sm:=⟨λa N _ X=>ownL a i λl=>e.run a (λd=>l.length<sizeLine/\Safe d a/\N (a.set i (.o (.lst (l++[d]))))) X,λa N n Q p X f g m h q=>z3C (λl j=>e.mono a _ _ X f (λd b=>⟨b.1,b.2.1,g _ b.2.2⟩) h j) q⟩
def popL (l:List D)(K:List D->D->Prop):Prop:=match l[l.length - 1]? with
 | some d=>K l.dropLast d
 | none=>False
set_option tactic.hygienic true in
def z8h {K K':List D->D->Prop}(m:∀l d,K l d->K' l d)(h:popL l K):popL l K':=by
 unfold popL at h ⊢
 split <;> rename_i e
 .simp_all
 simp_all
def Sm.pop (i:Nat):Sm:=⟨λa N _ _=>ownL a i λl=>popL l λb _=>N (a.set i (.o (.lst b))),λa N g Q h X j d m n q=>z3C (λl e=>z8h (λ_ _ f=>d _ f) e) q⟩
def Sm.popTo (j i:Nat):Sm:=⟨λa N _ _=>ownL a i λl=>popL l λb d=>N ((a.set i (.o (.lst b))).set j (.s d)),λa N h Q n X p e m r q=>z3C (λl f=>z8h (λ_ _ g=>e _ g) f) q⟩
def isLs (d:D)(K:List D->Prop):Prop:=match d with
 | .lst l=>K l
 | _=>False
def z8G {d:D}{K K':List D->Prop}(m:∀j,K j->K' j)(h:isLs d K):isLs d K':=by
 cases d with
 | lst l=>exact m _ h
 | _=>exact h.elim
def Sm.ext (i:Nat)(e:Ex):Sm:=⟨λa N _ X=>ownL a i λl=>e.run a (λd=>isLs d λm=>l.length+m.length<=sizeLine/\(∀x∈m,Safe x a)/\N (a.set i (.o (.lst (l++m))))) X,λa N p Q r X f g m h q=>z3C (λl j=>e.mono a _ _ X f (λd n=>z8G (λm b=>⟨b.1,b.2.1,g _ b.2.2⟩) n) h j) q⟩
def onN (o:Option Nat)(K:Nat->Prop):Prop:=match o with
 | some j=>K j
 | none=>False
def zfb {o:Option Nat}{K K':Nat->Prop}(m:∀j,K j->K' j)(h:onN o K):onN o K':=by
 cases o with
 | none=>exact h
 | some l=>exact m _ h
def isI (d:D)(K:Int->Prop):Prop:=match d with
 | .int i=>K i
 | _=>False
def zaw {d:D}{K K':Int->Prop}(m:∀j,K j->K' j)(h:isI d K):isI d K':=by
 cases d with
 | int i=>exact m _ h
 | _=>exact h.elim
def Sm.put (i:Nat)(k e:Ex):Sm:=⟨λa N _ X=>ownL a i λl=>e.run a (λd=>Safe d a/\k.run a (λf=>isI f λz=>onN (ixN l.length z) λj=>N (a.set i (.o (.lst (l.set j d))))) X) X,λa N u Q w X b n m g q=>
 z3C (λl p=>e.mono a _ _ X b (λd h=>⟨h.1,k.mono a _ _ X b (λf r=>zaw (λz s=>zfb (λj t=>n _ t) s) r) g h.2⟩) g p) q⟩
def Fn.mk' (d h:Nat)(b:Sm):Fn:=⟨λa Q X=>a.length=d/\b.run (a.map B.s++List.replicate (h - d) .n) (λ_=>Q .non) Q X,λa Q e X f m g q=>⟨q.1,b.mono _ _ _ Q e X f (λ_ i=>m _ i) m g q.2⟩⟩
noncomputable def Fn.mkN (d f:Nat)(b:Sm):Fn:=⟨λa Q _=>a.length=d/\b.run (a.map B.s++List.replicate (f - d) .n) (λ_=>Q .non) Q (λ_=>False),λa Q e X h m i q=>⟨q.1,b.mono _ _ _ Q e _ _ (λ_ g=>m _ g) m (λ_ z=>z) q.2⟩⟩
def Sm.calm (b:Sm):Sm:=⟨λa N Q _=>b.run a N Q (λ_=>False),λa N d Q e X g f m h q=>b.mono a N d Q e _ _ f m (λ_ z=>z) q⟩
def AbE (K:W.Frag)(mg:WmP)(G:Hp)(a:Pu.Env)(b:L2.St):Prop:=∀i d,a.get i=some d->∃v,b[i]? = some (some v)/\RD K mg G d v
def Gr (G H b:Hp):Prop:=Same G b/\∀a o,b a=some o->(∃u,G a=some u)\/H a=none
def Gr.refl {G H:Hp}:Gr G H G:=⟨Same.refl',λa o e =>.inl ⟨o,e⟩⟩
def Gr.trans {G H b d G2:Hp}(h:Gr G H b)(k:Same H d)(f:Gr b d G2):Gr G H G2:=⟨z02 h.1 f.1,λa o e=>by
 rcases f.2 a o e with ⟨u,q⟩ | q
 .exact h.2 a u q
 .refine .inr ?_
  cases z:H a with
  | none=>rfl
  | some w=>rw[k a w z] at q;cases q⟩
def Gr.new {G H:Hp}{p:Addr}{o:HO}(g:Same G H)(b:H p=none):Gr G H (upd G p o):=by
 have f:G p=none:=by
  cases e:G p with
  | none=>rfl
  | some u=>rw[g p u e] at b;cases b
 refine⟨z0o f o,λa u e =>?_⟩
 by_cases d:a=p
 .subst d;exact .inr b
 .rw[z08 d] at e;exact .inl ⟨u,e⟩
def Kt (K:W.Frag)(mg:WmP)(G H:Hp)(e:DK)(Q:VK):Prop:=∀d v a b,e d->Gr G H a->Same a b->Same H b->RD K mg a d v->Q v b
def Kts (K:W.Frag)(mg:WmP)(G H:Hp)(e:List D->Prop)(Q:List V->Hp->Prop):Prop:=∀d vs a b,e d->Gr G H a->Same a b->Same H b->RDs K mg a d vs->Q vs b
def Kx (mg:WmP)(H:Hp)(b:XP)(E:XK):Prop:=∀x C a,b x->mg x=some (.ref C)->Same H a->E (.ref C) none a
def tx (K:W.Frag)(mg:WmP)(E:XK)(e:Ex):TE:=λf H Q=>∃G d a b,Same G H/\AbE K mg G d f/\e.run d a b/\Kt K mg G H a Q/\Kx mg H b E
def txa (K:W.Frag)(mg:WmP)(E:XK)(es:List Ex):TA:=λe H Q=>∃G d a b,Same G H/\AbE K mg G d e/\runs es d a b/\Kts K mg G H a Q/\Kx mg H b E
def tt (K:W.Frag)(mg:WmP)(E:XK)(e:Ex):TT:=λj H Q=>∃G i g h,Same G H/\AbE K mg G i j/\e.run i g h/\(∀d f a,g d->Gr G H f->Same f a->Same H a->∃b,d = .bl b/\Q b a)/\Kx mg H h E
section
variable {K:W.Frag}{mg:WmP}{G G' H H':Hp}{ρ:Pu.Env}{σ:L2.St}{Q0:DK}{Q:VK}{X0:XP}{E:XK}
theorem AbE.same (h:AbE K mg G ρ σ)(g:Same G G'):AbE K mg G' ρ σ:=λi d e=>by
 obtain⟨v,a,b⟩:=h i d e;exact⟨v,a,b.same g⟩
def Kt.same (h:Kt K mg G H Q0 Q)(g:Gr G H G')(k:Same H H'):Kt K mg G' H' Q0 Q:=λd v e f q a b c r=>h d v e f q (g.trans k a) b (z02 k c) r
def Kx.same (h:Kx mg H X0 E)(k:Same H H'):Kx mg H' X0 E:=λx C a q m c=>h x C a q m (z02 k c)
def Kx.no:Kx mg H (λ_=>False) E:=λ_ _ _ z=>z.elim
def Kt.now {d:D}{v:V}(h:Kt K mg G H Q0 Q)(g:Same G H)(q:Q0 d)(r:RD K mg G d v):Q v H:=h d v G H q Gr.refl g Same.refl' r
theorem Kt.new {d:D}{p:Addr}{o:HO}{v:V}(h:Kt K mg G H Q0 Q)(g:Same G H)(f:H p=none)(q:Q0 d)(r:RD K mg (upd G p o) d v):Q v (upd H p o):=by
 refine h d v _ _ q (Gr.new g f) (λb u e =>?_) (z0o f o) r
 by_cases a:b=p
 .subst a;rw[z0c] at e ⊢;exact e
 .rw[z08 a] at e ⊢;exact g b u e
def z1c (g:Same G H){p:Addr}(a:H p=none):G p=none:=by
 cases e:G p with
 | none=>rfl
 | some u=>rw[g p u e] at a;cases a
end
def Lk2 (K:W.Frag)(mg:WmP)(F:Fn)(r:R2):Prop:=∀G H b d e f a g Q,Same G H->RD K mg G b e->RD K mg G d f->F.run [b,d] a g->Kt K mg G H a Q->r e f H Q
def Lk1 (K:W.Frag)(mg:WmP)(F:Fn)(r:V->Hp->VK->Prop):Prop:=∀G H d v a b Q,Same G H->RD K mg G d v->F.run [d] a b->Kt K mg G H a Q->r v H Q
def LkN (K:W.Frag)(mg:WmP)(F:Fn)(r:List V->Hp->VK->Prop):Prop:=∀G H b vs a d Q,Same G H->RDs K mg G b vs->F.run b a d->Kt K mg G H a Q->r vs H Q
section
variable {K:W.Frag}{mg:WmP}{E:XK}{σ:L2.St}{H:Hp}{Q:VK}{a b c:Ex}{F:Fn}{es:List Ex}
def tx2 (I:Lk2 K mg F r)(h:tx K mg E (.op F [a,b]) σ H Q):tOp r (tx K mg E a) (tx K mg E b) σ H Q:=by
 obtain⟨G,g,i,e,z,j,y,x,n⟩:=h;refine⟨G,g,λd=>b.run g _ e,e,z,j,y,?_,n⟩;intro d v p L w m t g3 rd;refine⟨p,g,λl=>F.run _ i e,e,t,j.same m.1,w,?_,n.same g3⟩;intro l J q s u o A C f;exact I q s d l v J i e Q A (rd.same o.1) f u (x.same (m.trans g3 o) (z02 g3 C))
def tx1 (s:Lk1 K mg F r)(h:tx K mg E (.op F [a]) σ H Q):tUn r (tx K mg E a) σ H Q:=by
 obtain⟨G,t,e,b,p,i,o,n,q⟩:=h;refine⟨G,t,λd=>F.run [d] e b,b,p,i,o,?_,q⟩;intro d v f g m j l g3 rd;exact s f g d v e b Q l rd m (n.same j g3)
def txN (q:LkN K mg F r)(h:tx K mg E (.op F es) σ H Q):tCB r (txa K mg E es) σ H Q:=by
 obtain⟨G,s,d,a,o,g,n,m,p⟩:=h;refine⟨G,s,λb=>F.run b d a,a,o,g,n,?_,p⟩;intro b vs e f l i j g3 rd;exact q e f b vs d a Q j rd l (m.same i g3)
end
theorem QE.imp {X:Cx}{e:Expr}{t t':TE}(h:QE X e t)(i:∀a H Q,t' a H Q->t a H Q):QE X e t':=⟨h.p.imp i⟩
def QT.imp {X:Cx}{e:Expr}{t t':TT}(h:QT X e t)(i:∀a H Q,t' a H Q->t a H Q):QT X e t':=⟨λb s a H Q I q=>h.p _ s a H Q I (i a H Q q)⟩
def QA.imp {X:Cx}{e:List Expr}{t t':TA}(h:QA X e t)(i:∀a H Q,t' a H Q->t a H Q):QA X e t':=⟨λb d s a H Q I q=>h.p b _ s a H Q I (i a H Q q)⟩
def QW.imp {X:Cx}{e:Expr}{t t':TT}(h:QW X e t)(i:∀a H Q,t' a H Q->t a H Q):QW X e t':=⟨λw b s a H Q I q=>h.p w _ s a H Q I (i a H Q q)⟩
def QS.imp {X:Cx}{e:Stmt}{t t':TS}(h:QS X e t)(i:∀D a H,t' D a H->t D a H):QS X e t':=⟨λb s a H D I q=>h.p _ s a H D I (i D a H q)⟩
def QSs.imp {X:Cx}{e:List Stmt}{t t':TS}(h:QSs X e t)(i:∀D a H,t' D a H->t D a H):QSs X e t':=⟨λb s a H D I q=>h.p _ s a H D I (i D a H q)⟩
def QI.imp {X:Cx}{d e:Expr}{t t':TI}(h:QI X d e t)(i:∀a H R,t' a H R->t a H R):QI X d e t':=⟨λb s a H R I q=>h.p _ s a H R I (i a H R q)⟩
abbrev QX (X:Cx)(E:XK)(e:Expr)(x:Ex):Prop:=QE X e (tx X.K X.mg E x)
abbrev QXT (X:Cx)(E:XK)(e:Expr)(x:Ex):Prop:=QT X e (tt X.K X.mg E x)
abbrev QXW (X:Cx)(E:XK)(e:Expr)(x:Ex):Prop:=QW X e (tt X.K X.mg E x)
abbrev QXA (X:Cx)(E:XK)(es:List Expr)(x:List Ex):Prop:=QA X es (txa X.K X.mg E x)
section
variable {X:Cx}{E:XK}{e a b c:Expr}{x y z:Ex}{pos:Pos}{es:List Expr}{xs:List Ex}{rest:List Expr}
def qx_c {v:V}(h:QE X e (tC v))(r:∀G,RD X.K X.mg G d v):QX X E e (.c d):=QE.imp h <| by rintro n H Q ⟨G,m,g,i,f,j,b,a,l⟩;exact a.now f b (r G)
def qx_v (h:QE X e (tVar i)):QX X E e (.v i):=QE.imp h <| by
 rintro r H Q ⟨G,n,Q0,o,m,b,l,j,p⟩;have a:onV _ Q0:=l
 cases q:n.get i with
 | none=>rw[q] at a;exact a.elim
 | some d=>
  rw[q] at a;obtain⟨v,f,g⟩:=b i d q;exact⟨v,f,j.now m a g⟩
def zjV:QX X E (.Constant (.int i) j pos) (.c (.int i)):=qx_c zkm λ_=>by rw[RD]
def zmL:QX X E (.Constant (.bool i) j pos) (.c (.bl i)):=qx_c zmV λ_=>by rw[RD]
def zjT:QX X E (.Constant .none j pos) (.c .non):=qx_c zkj λ_=>by rw[RD]
def zjQ:QX X E (.Constant (.str i) j pos) (.c (.str i)):=qx_c zkg λ_=>by rw[RD]
def zjZ {op:Operator}(f:OpR X (binaryOp op) r)(g:Lk2 X.K X.mg F r)(d:QX X E a x)(e:QX X E b y):QX X E (.BinOp a op b pos) (.op F [x,y]):=QE.imp (zmS f d e) λ_ _ _ h=>tx2 g h
def zmE {op:UnaryOp}(d:UnR X (unaryOp op) r)(e:Lk1 X.K X.mg F r)(b:QX X E a x):QX X E (.UnaryOp op a pos) (.op F [x]):=QE.imp (zmQ d b) λ_ _ _ h=>tx1 e h
def zjY {op:CmpOp}(g:OpR X (compareOp op) r)(i:Lk2 X.K X.mg F r)(d:QX X E a x)(e:QX X E b y)(f:behindInMarks op b=false):QX X E (.Compare a [op] [b] pos) (.op F [x,y]):=QE.imp (zhE g d e f) λ_ _ _ h=>tx2 i h
def zbL {t:TE}(m:∀Q,tx X.K X.mg E x σ H Q->t σ H Q)(h:tt X.K X.mg E x σ H Q):zbS t σ H Q:=by
 obtain⟨G,u,f,g,p,i,o,n,r⟩:=h;refine m _ ⟨G,u,f,g,p,i,o,λd v a e q j l g3 rd =>?_,r⟩;obtain⟨b,rfl,s⟩:=n d a e q j l g3;exact⟨b,rd,s⟩
def zk6 {op:CmpOp}(g:OpR X (compareOp op) r)(i:Lk2 X.K X.mg F r)(d:QX X E a x)(e:QX X E b y)(f:behindInMarks op b=false):QXT X E (.Compare a [op] [b] pos) (.op F [x,y]):=QT.imp (zhv g d e f) λj H Q h=>zbL (λ_ h=>tx2 i h) h
def zhu (h:QX X E e x)(o:autoParam (∀a,isTrue e X.env a=(do let v <- a;standAt e.pos;holding [v] (truthy v))) jC1):QXT X E e x:=QT.imp (zk4 h o) λy H Q h=>by
 obtain⟨G,w,i,j,s,l,r,p,t⟩:=h;refine⟨G,w,i,j,s,l,r,λd v f g q m n g3 rd =>?_,t⟩;obtain⟨b,rfl,u⟩:=p d f g q m n g3;exact⟨b,rd,u⟩
def zjS (l:QX X E a x):QX X E (.UnaryOp .Not a pos) (.not x):=QE.imp (zki l) <| by
 rintro t H Q ⟨G,r,s,g,o,h,n,m,p⟩;refine⟨G,r,_,g,o,h,n,λd v e f q i j g3 rd =>?_,p⟩
 cases d with
 | bl b=>
  exact⟨b,rd,m _ _ e f q i j g3 (by rw[RD])⟩
 | _=>exact q.elim
def zht (m:QXT X E a x):QXT X E (.UnaryOp .Not a pos) (.not x):=QT.imp (zk5 m) <| by
 rintro y H Q ⟨G,t,u,h,p,i,o,n,r⟩;refine⟨G,t,_,h,p,i,o,λd f g q j l g3 =>?_,r⟩
 cases d with
 | bl b=>
  obtain⟨w,e,s⟩:=n _ f g q j l g3
  cases e
  exact⟨b,rfl,s⟩
 | _=>exact q.elim
def zjR {op}(h:QX X E a x):QX X E (.BoolOp op [a] pos) x:=zkh h
def zk0 (p:QX X E a x)(r:QX X E (.BoolOp .And (b::rest) pos) y):QX X E (.BoolOp .And (a::b::rest) pos) (.and x y):=QE.imp (zko p r) <| by
 rintro z H Q ⟨G,m,o,g,t,h,s,j,l⟩;refine⟨G,m,_,g,t,h,s,λd v f n q e i g3 rd =>?_,l⟩;obtain⟨k,rfl,u,w⟩:=z5N q;refine⟨k,rd,?_⟩
 cases k with
 | true=>exact iteT ⟨f,m,o,g,i,h.same e.1,u rfl,j.same e g3,l.same g3⟩
 | false=>exact iteF (j _ _ f n (w rfl) e i g3 (by rw[RD]))
def zmG (p:QX X E a x)(r:QX X E (.BoolOp .Or (b::rest) pos) y):QX X E (.BoolOp .Or (a::b::rest) pos) (.or x y):=QE.imp (zmR p r) <| by
 rintro z H Q ⟨G,m,o,g,t,h,s,j,l⟩;refine⟨G,m,_,g,t,h,s,λd v f n q e i g3 rd =>?_,l⟩;obtain⟨k,rfl,u,w⟩:=z5N q;refine⟨k,rd,?_⟩
 cases k with
 | true=>exact iteT (j _ _ f n (u rfl) e i g3 (by rw[RD]))
 | false=>exact iteF ⟨f,m,o,g,i,h.same e.1,w rfl,j.same e g3,l.same g3⟩
def zeG (b:QXT X E a x):QXW X E (.BoolOp .And [a] pos) x:=zhs b
def zhq (b:QXT X E a x):QXW X E (.BoolOp .Or [a] pos) x:=zk2 b
def zhr (t:QXT X E a x)(u:QXW X E (.BoolOp .And (b::rest) pos) y):QXW X E (.BoolOp .And (a::b::rest) pos) (.and x y):=QW.imp (zk3 t u) <| by
 rintro M H Q ⟨G,n,s,h,z,i,w,l,m⟩;refine⟨G,n,_,h,z,i,w,λd g p q f j g3 =>?_,m⟩;obtain⟨k,rfl,I,J⟩:=z5N q;refine⟨k,rfl,?_⟩
 cases k with
 | true=>exact iteT ⟨g,n,s,h,j,i.same f.1,I rfl,λd o r q A C F=>l d o r q (f.trans g3 A) C (z02 g3 F),m.same g3⟩
 | false=>
  obtain⟨K,e,L⟩:=l _ g p (J rfl) f j g3
  simp_all
def zk1 (t:QXT X E a x)(u:QXW X E (.BoolOp .Or (b::rest) pos) y):QXW X E (.BoolOp .Or (a::b::rest) pos) (.or x y):=QW.imp (zmN t u) <| by
 rintro M H Q ⟨G,n,s,h,z,i,w,l,m⟩;refine⟨G,n,_,h,z,i,w,λd g p q f j g3 =>?_,m⟩;obtain⟨k,rfl,I,J⟩:=z5N q;refine⟨k,rfl,?_⟩
 cases k with
 | false=>exact iteF ⟨g,n,s,h,j,i.same f.1,J rfl,λd o r q A C F=>l d o r q (f.trans g3 A) C (z02 g3 F),m.same g3⟩
 | true=>
  obtain⟨K,e,L⟩:=l _ g p (I rfl) f j g3
  simp_all
def zhp:QXA X E [] []:=QA.imp z6U <| by rintro j H Q ⟨G,i,e,f,d,g,b,a,h⟩;exact a [] [] G H b Gr.refl d Same.refl' RDs.nil
def zeD (r:QX X E e x)(a:QXA X E es xs)(b:autoParam (sE e es X) jA1):QXA X E (e::es) (x::xs):=QA.imp (z4d r a b) <| by
 rintro C H Q ⟨G,l,z,f,b,g,a,s,i⟩;refine⟨G,l,_,f,b,g,a,λd v m y q h p g3 rd =>?_,i⟩;refine⟨m,l,_,f,p,g.same h.1,q,λA vs n o w j t u rds =>?_,i.same g3⟩;exact s _ _ n o w (h.trans g3 j) t (z02 g3 u) (RDs.cons (rd.same j.1) rds)
def spP (K:W.Frag)(mg:WmP)(F:Fn):Sp:=λvs H Q E=>∃G d a b,Same G H/\RDs K mg G d vs/\F.run d a b/\Kt K mg G H a Q/\Kx mg H b E
def zmI {k:Nat}{ps:List Str}(C:Cal X.prog X.w X.K X.mg X.base CX k f ps (spP X.K X.mg F))(g:Room k X.A)(a:z4U CX X E)(r:QXA X E (e::es) xs)(t:autoParam (Gl X f) jA1)
  (b:autoParam (dB f) jB1) (s:autoParam (sE e es X) jA1) (d:autoParam (bT pos es X) jA1):QX X E (.Call (.Name f pp) (e::es) [] pos) (.op F xs):=
 QE.imp (zmU C g a r t b s d) <| by
  rintro z H Q ⟨G,y,l,h,x,m,g,u,a⟩;refine⟨G,y,_,h,x,m,g,λn vs i j q o p g3 rds =>?_,a⟩;show spP X.K _ F _ j Q E;rw[vW];exact⟨i,n,l,h,p,rds,q,u.same o g3,a.same g3⟩
def zmJ {f:Str}{id:String}(g:z0D X (.builtin id) r)(o:LkN X.K X.mg F r)(j:Gl X f)(l:X.mg f=none)(n:bootBuiltins f=some (.builtin id))(d:QXA X E (e::es) xs)(m:autoParam (f≠"__name__") jB1)(a:autoParam (dB f) jB1)
  (i:autoParam (sE e es X) jA1) (b:autoParam (bT pos es X) jA1):QX X E (.Call (.Name f pp) (e::es) [] pos) (.op F xs):=
 QE.imp (z4w g j l n d m a i b) λ_ _ _ h=>txN o h
def zjX {f:Str}{id:String}(g:z0D X (.type id) r)(o:LkN X.K X.mg F r)(j:Gl X f)(l:X.mg f=none)(n:bootBuiltins f=some (.type id))(d:QXA X E (e::es) xs)(m:autoParam (f≠"__name__") jB1)(a:autoParam (dB f) jB1)
  (i:autoParam (sE e es X) jA1) (b:autoParam (bT pos es X) jA1):QX X E (.Call (.Name f pp) (e::es) [] pos) (.op F xs):=
 QE.imp (z3z g j l n d m a i b) λ_ _ _ h=>txN o h
end
def z5h (K:W.Frag)(mg:WmP)(G H:Hp)(a:Addr):D->Prop
 | .lst f=>∃d,H a=some (.lst d)/\RDs K mg G f d
 | .dct e vs=>∃d,RDs K mg G vs d/\((∃b,H a=some (.dK b)/\e=b.map (λp=>kD p.1)/\d=b.map (·.2))\/∃b,H a=some (.dT b)/\b≠[]/\e=b.map (λp =>.tup (p.1.map kD))/\d=b.map (·.2))
 | _=>False
structure AbS (K:W.Frag)(mg:WmP)(H0 G0 G:Hp)(ρ:Pu.Env)(σ:L2.St)(H:Hp):Prop where
 len:σ.length=ρ.length
 s0:Same H0 H
 g0:Same G0 G
 g:Same G H
 nw:∀a o,G a=some o->(∃u,G0 a=some u)\/H0 a=none
 sh:∀(i:Nat) d,ρ[i]? = some (B.s d)->∃v,σ[i]? = some (some v)/\RD K mg G d v
 ow:∀(i:Nat) d,ρ[i]? = some (B.o d)->∃a,σ[i]? = some (some (V.ref a))/\G a=none/\H0 a=none/\z5h K mg G H a d
 ne:∀(i j:Nat) d d' a,i≠j->ρ[i]? = some (B.o d)->ρ[j]? = some (B.o d')->σ[i]? = some (some (V.ref a))->σ[j]? = some (some (V.ref a))->False
open Classical in
def plus (G H:Hp)(O:Addr->Prop):Hp:=λa=>if O a then H a else G a
open Classical in
def minus (G:Hp)(O:Addr->Prop):Hp:=λa=>if O a then none else G a
section
variable {K:W.Frag}{mg:WmP}{H0 G0 G G' H H' H1:Hp}{ρ:Pu.Env}{σ:L2.St}{O:Addr->Prop}
def z3A (g:Same G H):Same (plus G H O) H:=λa o e=>by
 unfold plus at e
 split at e
 .exact e
 .exact g a o e
def z2B (h:∀a,O a->G a=none):Same G (plus G H O):=λa o e=>by
 unfold plus
 grind
def zcv (h:O a):plus G H O a=H a:=by unfold plus;rw[if_pos h]
def z2Q:Same (minus G O) G:=λa o e=>by
 unfold minus at e
 grind
def z5F (h:O a):minus G O a=none:=by unfold minus;rw[if_pos h]
def z8w (h:¬ O a):minus G O a=G a:=by unfold minus;rw[if_neg h]
def z3k (g:Same G G')(h:∀a,O a->G a=none):Same G (minus G' O):=λa o e=>by
 by_cases z:O a
 .grind
 .rw[z8w z];exact g a o e
theorem z5h.same {a:Addr}{d:D}(h:z5h K mg G H a d)(g:Same G G')(k:∀o,H a=some o->H1 a=some o):z5h K mg G' H1 a d:=by
 cases d with
 | lst j=>
  obtain⟨i,e,f⟩:=h;exact⟨i,k _ e,f.same g⟩
 | dct l vs=>
  obtain⟨i,e,f⟩:=h;refine⟨i,e.same g,?_⟩
  rcases f with ⟨b,q,r⟩ | ⟨b,q,r⟩
  .exact .inl ⟨b,k _ q,r⟩
  .exact .inr ⟨b,k _ q,r⟩
 | _=>exact h.elim
theorem z5h.some {a:Addr}{d:D}(h:z5h K mg G H a d):∃o,H a=some o:=by
 cases d with
 | lst i=>obtain⟨g,e,f⟩:=h;exact⟨_,e⟩
 | dct j vs=>
  obtain⟨g,e,f⟩:=h
  rcases f with ⟨b,q,r⟩ | ⟨b,q,r⟩ <;> exact⟨_,q⟩
 | _=>exact h.elim
def z5h.rd {a:Addr}{d:D}(h:z5h K mg G H a d)(g:Same G G')(e:G' a=H a):RD K mg G' d (.ref a):=by
 cases d with
 | lst l=>
  obtain⟨j,f,i⟩:=h;exact⟨a,j,rfl,SqL.of (e.trans f),i.same g⟩
 | dct m vs=>
  obtain⟨j,f,i⟩:=h;refine⟨a,j,rfl,f.same g,?_⟩
  rcases i with ⟨b,q,r⟩ | ⟨b,q,r⟩
  .exact .inl ⟨b,.inl (e.trans q),r⟩
  .exact .inr ⟨b,e.trans q,r⟩
 | _=>exact h.elim
def OK1 (G:Hp)(O:Addr->Prop)(e d:Prop):Prop:=∀a,O a->G a=none\/((∃f,G a=some (.lst f))/\e)\/(((∃b,G a=some (.dK b))\/∃b,G a=some (.dT b))/\d)
def z2b {o u:HO}(d:OK1 G O bL bD)(h:G a=some o)(e:∀xs,o = .lst xs->¬ bL)(f:∀k,o = .dK k->¬ bD)(g:∀k,o = .dT k->¬ bD):minus G O a=some o:=by
 by_cases z:O a
 .rcases d a z with q | ⟨⟨xs,q⟩,b⟩ | ⟨⟨k,q⟩ | ⟨k,q⟩,b⟩
  .grind
  .grind
  .grind
  grind
 .rw[z8w z];exact h
mutual
theorem RD.minus {bL bD:Prop}(f:OK1 G O bL bD):∀(d:D) {v:V},(bL->noL d=true)->(bD->noD d=true)->RD K mg G d v->RD K mg (Pu.minus G O) d v
 | .non,_,_,_,h=>by simpa[RD] using h
 | .bl _,_,_,_,h=>by simpa[RD] using h
 | .int _,_,_,_,h=>by simpa[RD] using h
 | .str _,_,_,_,h=>by simpa[RD] using h
 | .fn _,_,_,_,h=>by rw[RD] at h ⊢;exact h
 | .exc _,_,_,_,h=>by
  rw[RD] at h ⊢;obtain⟨A,C,g,e,j⟩:=h;exact⟨A,C,g,z2b (u :=.lst []) f e (λ_ z=>by cases z) (λ_ z=>by cases z) (λ_ z=>by cases z),j⟩
 | .ptr _,_,_,_,h=>by rw[RD] at h ⊢;exact h
 | .fz _ vs,_,m,l,h=>by
  rw[RD] at h ⊢;obtain⟨a,n,g,e,o,i,q,r⟩:=h;exact⟨a,n,g,RDs.minus f vs (λb=>by have:=m b;rw[noL] at this;cases this) (λb=>by have:=l b;rw[noD] at this;cases this) e,o,i,z2b (u :=.lst []) f q (λ_ z=>by cases z) (λ_ z=>by cases z) (λ_ z=>by cases z),r⟩
 | .ins _ _ x,_,m,l,h=>by
  rw[RD] at h ⊢;obtain⟨p,C,y,n,g,e,j,w⟩:=h;exact⟨p,C,y,n,g,z2b (u :=.lst []) f e (λ_ z=>by cases z) (λ_ z=>by cases z) (λ_ z=>by cases z),j,RDs.minus f x (λb=>by have:=m b;rw[noL] at this;cases this) (λb=>by have:=l b;rw[noD] at this;cases this) w⟩
 | .tup t,_,m,l,h=>by
  rw[RD] at h ⊢;obtain⟨a,n,g,e,j⟩:=h;refine⟨a,n,g,?_,RDs.minus f t (λb=>by have:=m b;rwa [noL] at this) (λb=>by have:=l b;rwa [noD] at this) j⟩
  rcases e with (e | ⟨o,e⟩) | e
  .exact .inl (.inl (z2b (u :=.lst []) f e (λ_ z=>by cases z) (λ_ z=>by cases z) (λ_ z=>by cases z)))
  .exact .inl (.inr ⟨o,z2b (u :=.lst []) f e (λ_ z=>by cases z) (λ_ z=>by cases z) (λ_ z=>by cases z)⟩)
  .exact .inr e
 | .lst t,_,m,l,h=>by
  rw[RD] at h ⊢;obtain⟨a,n,g,e,j⟩:=h;have s:¬ bL:=λb=>by have:=m b;rw[noL] at this;cases this
  refine⟨a,n,g,?_,RDs.minus f t (λb=>(s b).elim) (λb=>by have:=l b;rwa [noD] at this) j⟩
  rcases e with (e | ⟨o,e⟩) | e
  .exact .inl (.inl (z2b (u :=.lst []) f e (λ_ _=>s) (λ_ z=>by cases z) (λ_ z=>by cases z)))
  .exact .inl (.inr ⟨o,z2b (u :=.lst []) f e (λ_ z=>by cases z) (λ_ z=>by cases z) (λ_ z=>by cases z)⟩)
  .exact .inr e
 | .dct E vs,_,m,l,h=>by
  rw[RD] at h ⊢;obtain⟨a,n,g,j,w⟩:=h;have s:¬ bD:=λb=>by have:=l b;rw[noD] at this;cases this
  refine⟨a,n,g,RDs.minus f vs (λb=>by have:=m b;rwa [noL] at this) (λb=>(s b).elim) j,?_⟩
  rcases w with ⟨i,q,r⟩ | ⟨i,q,r⟩
  .exact .inl ⟨i,q.imp (λq=>z2b (u :=.lst []) f q (λ_ z=>by cases z) (λ_ _=>s) (λ_ _=>s)) λ⟨o,q⟩=>⟨o,z2b (u :=.lst []) f q (λ_ z=>by cases z) (λ_ z=>by cases z) (λ_ z=>by cases z)⟩,r⟩
  .exact .inr ⟨i,z2b (u :=.lst []) f q (λ_ z=>by cases z) (λ_ _=>s) (λ_ _=>s),r⟩
theorem RDs.minus {e a:Prop}(f:OK1 G O e a):∀(ds:List D) {xs:List V},(e->noLs ds=true)->(a->noDs ds=true)->RDs K mg G ds xs->RDs K mg (Pu.minus G O) ds xs
 | [],_,_,_,h=>by simpa[RDs] using h
 | d::ds,_,i,g,h=>by
  rw[RDs] at h ⊢;obtain⟨x,r,j,l,m⟩:=h;exact⟨x,r,j,RD.minus f d (λb=>by have:=i b;rw[noLs,vX] at this;exact this.1) (λb=>by have:=g b;rw[noDs,vX] at this;exact this.1) l,
   RDs.minus f ds (λb=>by have:=i b;rw[noLs,vX] at this;exact this.2) (λb=>by have:=g b;rw[noDs,vX] at this;exact this.2) m⟩
end
def z3K (b:Pu.Env)(e:L2.St)(a:Addr):Prop:=∃(j:Nat) (d:D),b[j]? = some (B.o d)/\e[j]? = some (some (V.ref a))
def AbS.free (h:AbS K mg H0 G0 G ρ σ H):∀a,z3K ρ σ a->G a=none:=by
 rintro a ⟨j,d,e,q⟩;obtain⟨b,g,f,_⟩:=h.ow j d e
 grind
def AbS.owned0 (h:AbS K mg H0 G0 G ρ σ H):∀a,z3K ρ σ a->H0 a=none:=by
 rintro a ⟨j,d,e,q⟩;obtain⟨b,i,g,f,_⟩:=h.ow j d e
 grind
def AbS.nw1 (h:AbS K mg H0 G0 G ρ σ H)(g:Gr (plus G H (z3K ρ σ)) H G1):∀a o,G1 a=some o->(∃u,G0 a=some u)\/H0 a=none:=λa o e=>by
 rcases g.2 a o e with ⟨u,q⟩ | q
 .by_cases z:z3K ρ σ a
  .exact .inr (h.owned0 a z)
  .unfold plus at q;rw[if_neg z] at q;exact h.nw a u q
 .refine .inr ?_
  cases z:H0 a with
  | none=>rfl
  | some w=>rw[h.s0 a w z] at q;cases q
def AbS.nw2 (h:AbS K mg H0 G0 G ρ σ H)(g:Gr G H G1):∀a o,G1 a=some o->(∃u,G0 a=some u)\/H0 a=none:=λa o e=>by
 rcases g.2 a o e with ⟨u,q⟩ | q
 .exact h.nw a u q
 .refine .inr ?_
  cases z:H0 a with
  | none=>rfl
  | some w=>rw[h.s0 a w z] at q;cases q
def AbS.abe (h:AbS K mg H0 G0 G ρ σ H):AbE K mg (plus G H (z3K ρ σ)) ρ σ:=λi d e=>by
 rw[Env.get_eq] at e
 cases q:ρ[i]? with
 | none=>simp_all
 | some b=>
  rw[q] at e
  cases b with
  | n=>cases e
  | s j=>
   cases e
   obtain⟨v,f,g⟩:=h.sh i d q;exact⟨v,f,g.same (z2B h.free)⟩
  | o j=>
   cases e
   obtain⟨a,f,g,m,l⟩:=h.ow i d q;exact⟨.ref a,f,l.rd (z2B h.free) (zcv ⟨i,d,q,f⟩)⟩
theorem AbS.vis (h:AbS K mg H0 G0 G ρ σ H):AbE K mg G (vis ρ) σ:=λi d e=>by
 rw[Env.get_eq] at e;unfold Pu.vis at e;rw[wO] at e
 cases q:ρ[i]? with
 | none=>simp_all
 | some b=>
  rw[q] at e
  cases b with
  | n=>cases e
  | s a=>
   cases e
   exact h.sh i d q
  | o a=>cases e
theorem Safe.get {d:D}:∀{a:Pu.Env}{j:Nat}{b:B},Safe d a->a[j]? = some b->zjo d b
 | [],_,_,_,e=>by simp at e
 | c::r,0,b,h,e=>by simp at e;subst e;exact h.1
 | c::r,j+1,b,h,e=>Safe.get h.2 (by simpa using e)
def zgt {d:D}{I:Nat->Prop}(h:AbS K mg H0 G0 G ρ σ H)(A:Same G1 H1)(g3:Same H H1):
  OK1 G1 (λa=>∃(j:Nat) (d:D),I j/\ρ[j]? = some (B.o d)/\σ[j]? = some (some (V.ref a))) (∃(j:Nat) (l:List D),I j/\ρ[j]? = some (B.o (.lst l))) (∃(j:Nat) (k v:List D),I j/\ρ[j]? = some (B.o (.dct k v))):=by
 rintro a ⟨j,n,i,e,q⟩;obtain⟨b,u,E,C,m⟩:=h.ow j n e;rw[q] at u;cases u
 cases y:G1 a with
 | none=>exact .inl rfl
 | some o=>
  have g:=A a o y
  cases n with
  | lst x=>
   obtain⟨w,p,s⟩:=m;rw[g3 a _ p] at g
   cases g
   exact .inr (.inl ⟨⟨w,rfl⟩,j,x,i,e⟩)
  | dct t vs=>
   obtain⟨w,p,s⟩:=m
   rcases s with ⟨f,z,r⟩ | ⟨f,z,r⟩
   .rw[g3 a _ z] at g
    cases g
    exact .inr (.inr ⟨.inl ⟨f,rfl⟩,j,t,vs,i,e⟩)
   .rw[g3 a _ z] at g
    cases g
    exact .inr (.inr ⟨.inr ⟨f,rfl⟩,j,t,vs,i,e⟩)
  | _=>exact m.elim
def z6O {d:D}{v:V}{i:Nat}(h:AbS K mg H0 G0 G ρ σ H)(g:Same G1 H1)(g3:Same H H1)(f:Safe d (ρ.set i .n))(rd:RD K mg G1 d v):
  RD K mg (Pu.minus G1 (λa=>∃(j:Nat) (d:D),j≠i/\ρ[j]? = some (B.o d)/\σ[j]? = some (some (V.ref a)))) d v:=by
 refine RD.minus (zgt (d:=d) h g g3) d (λ⟨j,l,b,e⟩ =>?_) (λ⟨j,k,v,b,e⟩ =>?_) rd
 .exact Safe.get f (by rw[wF (vP b)];exact e)
 .exact Safe.get f (by rw[wF (vP b)];exact e)
def z9h {d:D}{v:V}(h:AbS K mg H0 G0 G ρ σ H)(f:Same G1 H1)(g3:Same H H1)(b:Safe d ρ)(rd:RD K mg G1 d v):
  RD K mg (Pu.minus G1 (λa=>∃(j:Nat) (d:D),True/\ρ[j]? = some (B.o d)/\σ[j]? = some (some (V.ref a)))) d v:=by
 refine RD.minus (zgt (d:=d) h f g3) d (λ⟨j,l,g,e⟩ =>?_) (λ⟨j,k,v,g,e⟩ =>?_) rd
 .exact Safe.get b e
 .exact Safe.get b e
def AbS.put {l:Hp}{i:Nat}{d:D}{v:V}(h:AbS K mg H0 G0 G ρ σ H)(nw:∀a o,l a=some o->(∃u,G0 a=some u)\/H0 a=none)(n:Same G l)(z:Same l H1)(g3:Same H H1)(E:∀j d' a,j≠i->ρ[j]? = some (B.o d')->σ[j]? = some (some (V.ref a))->l a=none)(rd:RD K mg l d v):
  AbS K mg H0 G0 l (ρ.set i (.s d)) (σ.set i (some v)) H1 where
 len:=by simp[h.len]
 s0:=z02 h.s0 g3
 g0:=z02 h.g0 n
 g:=z
 nw:=nw
 sh:=λj e q=>by
  by_cases b:j=i
  .subst b;have f:j < ρ.length:=by
    have:=(wt.mp q).1;simpa using this
   rw[wL f] at q
   cases q
   exact⟨v,by rw[wL (by rw[h.len];exact f)],rd⟩
  .rw[wF (vP b)] at q;obtain⟨w,m,t⟩:=h.sh j e q;exact⟨w,by rw[wF (vP b)];exact m,t.same n⟩
 ow:=λj e q=>by
  by_cases b:j=i
  .subst b;have f:j < ρ.length:=by
    have:=(wt.mp q).1;simpa using this
   rw[wL f] at q
   cases q
  .rw[wF (vP b)] at q;obtain⟨a,m,t,A,C⟩:=h.ow j e q;exact⟨a,by rw[wF (vP b)];exact m,E j e a b q m,A,C.same n (g3 a)⟩
 ne:=λj k e y a p q r s x=>by
  have f:∀{j:Nat}{e:D},(ρ.set i (.s d))[j]? = some (B.o e)->j≠i:=λ{j e} q b=>by
   subst b;have f:j < ρ.length:=by
    have:=(wt.mp q).1;simpa using this
   rw[wL f] at q
   cases q
  have b:=f q;have F:=f r;rw[wF (vP b)] at q s;rw[wF (vP F)] at r x;exact h.ne j k e y a p q r s x
def AbS.own {l:Hp}{i:Nat}{d:D}{a:Addr}(h:AbS K mg H0 G0 G ρ σ H)(nw:∀a o,l a=some o->(∃u,G0 a=some u)\/H0 a=none)(A:Same G l)(O:Same l H1)(g3:Same H H1)(R:∀j d' a,j≠i->ρ[j]? = some (B.o d')->σ[j]? = some (some (V.ref a))->l a=none)(L:H a=none)(Q:l a=none)(T:z5h K mg l H1 a d):
  AbS K mg H0 G0 l (ρ.set i (.o d)) (σ.set i (some (.ref a))) H1 where
 len:=by simp[h.len]
 s0:=z02 h.s0 g3
 g0:=z02 h.g0 A
 g:=O
 nw:=nw
 sh:=λj e q=>by
  by_cases f:j=i
  .subst f;have p:j < ρ.length:=by
    have:=(wt.mp q).1;simpa using this
   rw[wL p] at q
   cases q
  .rw[wF (vP f)] at q;obtain⟨w,m,C⟩:=h.sh j e q;exact⟨w,by rw[wF (vP f)];exact m,C.same A⟩
 ow:=λj e q=>by
  by_cases f:j=i
  .subst f;have p:j < ρ.length:=by
    have:=(wt.mp q).1;simpa using this
   rw[wL p] at q
   cases q
   refine⟨a,by rw[wL (by rw[h.len];exact p)],Q,?_,T⟩;exact z1c h.s0 L
  .rw[wF (vP f)] at q;obtain⟨b,m,C,J,E⟩:=h.ow j e q;exact⟨b,by rw[wF (vP f)];exact m,R j e b f q m,J,E.same A (g3 b)⟩
 ne:=λj k e N b r q F s I=>by
  have n:∀{j:Nat}{e:D},j≠i->(ρ.set i (.o d))[j]? = some (B.o e)->(σ.set i (some (.ref a)))[j]? = some (some (V.ref b))->ρ[j]? = some (B.o e)/\σ[j]? = some (some (V.ref b)):=λ{j e} f q s=>by
   rw[wF (vP f)] at q s;exact⟨q,s⟩
  have new:∀{j:Nat}{e:D},j=i->(ρ.set i (.o d))[j]? = some (B.o e)->(σ.set i (some (.ref a)))[j]? = some (some (V.ref b))->b=a:=λ{j e} f q s=>by
   subst f;have p:j < σ.length:=by
    have:=(wt.mp s).1;simpa using this
   rw[wL p] at s
   cases s;rfl
  have none:∀{j:Nat}{e:D},ρ[j]? = some (B.o e)->σ[j]? = some (some (V.ref b))->b≠a:=λ{j e} q s z=>by
   obtain⟨X,m,C,J,E⟩:=h.ow j e q;rw[s] at m;cases m;obtain⟨o,M⟩:=E.some;rw[z,L] at M;cases M
  by_cases f:j=i
  .have S:=new f q s;have t:k≠i:=λz=>r (f.trans z.symm);obtain⟨x,y⟩:=n t F I;exact none x y S
  .obtain⟨x,y⟩:=n f q s
   by_cases t:k=i
   .exact none x y (new t F I)
   .obtain⟨U,W⟩:=n t F I;exact h.ne j k e N b r x U y W
def AbS.wr {g:Hp}{i:Nat}{d d':D}{a:Addr}{o:HO}(h:AbS K mg H0 G0 G ρ σ H)(S:∀a o,g a=some o->(∃u,G0 a=some u)\/H0 a=none)(A:Same G g)(M:Same g H1)(g3:Same H H1)(C:∀(j:Nat) d' a,ρ[j]? = some (B.o d')->σ[j]? = some (some (V.ref a))->g a=none)(l:ρ[i]? = some (B.o d))(r:σ[i]? = some (some (V.ref a)))
  (Q:z5h K mg g (upd H1 a o) a d'):AbS K mg H0 G0 g (ρ.set i (.o d')) σ (upd H1 a o):=by
 obtain⟨Y,I,Z,m,R⟩:=h.ow i d l;rw[r] at I;cases I;have L:i < ρ.length:=(wt.mp l).1;refine⟨by simp[h.len],λb u e =>?_,z02 h.g0 A,λb u e =>?_,S,λj e q =>?_,λj e q =>?_,λj k e F b E q T s X =>?_⟩
 .have p:b≠a:=λz=>by rw[z,m] at e;cases e
  rw[z08 p];exact g3 b u (h.s0 b u e)
 .have p:b≠a:=λz=>by rw[z,C i d a l r] at e;cases e
  rw[z08 p];exact M b u e
 .by_cases f:j=i
  .subst f;rw[wL L] at q;cases q
  .rw[wF (vP f)] at q;obtain⟨w,n,J⟩:=h.sh j e q;exact⟨w,n,J.same A⟩
 .by_cases f:j=i
  .subst f;rw[wL L] at q;cases q;exact⟨a,r,C j d a l r,m,Q⟩
  .rw[wF (vP f)] at q;obtain⟨b,n,J,N,O⟩:=h.ow j e q;have p:b≠a:=λz=>by subst z;exact h.ne j i e d b f q l n r
   exact⟨b,n,C j e b q n,N,O.same A (λu e=>by rw[z08 p];exact g3 b u e)⟩
 .have t:∀{j:Nat}{e:D},(ρ.set i (.o d'))[j]? = some (B.o e)->∃F,ρ[j]? = some (B.o F):=λ{j e} q=>by
   by_cases f:j=i
   .subst f;exact⟨d,l⟩
   .rw[wF (vP f)] at q;exact⟨e,q⟩
  obtain⟨x,U⟩:=t q;obtain⟨y,W⟩:=t T;exact h.ne j k x y b E U W s X
def AbS.dem1 (h:AbS K mg H0 G0 G ρ σ H)(j:Nat):∃G',AbS K mg H0 G0 G' (ρ.set j (demB ((ρ[j]?).getD .n))) σ H/\Same G G':=by
 cases q:ρ[j]? with
 | none=>
  have:ρ.set j (demB (none.getD .n))=ρ:=by
   apply List.set_eq_of_length_le;exact List.getElem?_eq_none_iff.mp q
  rw[this];exact⟨G,h,Same.refl'⟩
 | some b=>
  have t:j < ρ.length:=(wt.mp q).1;have same:∀m,b=m->demB m=m->∃G',AbS K mg H0 G0 G' (ρ.set j (demB ((some b).getD .n))) σ H/\Same G G':=λm e u=>by
   subst e;have:ρ.set j (demB ((some b).getD .n))=ρ:=by
    show ρ.set j (demB b)=ρ;rw[u];apply List.ext_getElem?;intro k
    by_cases f:k=j
    .subst f;rw[wL t,q]
    .rw[wF (vP f)]
   rw[this];exact⟨G,h,Same.refl'⟩
  cases b with
  | n=>exact same .n rfl rfl
  | s d=>exact same (.s d) rfl rfl
  | o d=>
   obtain⟨a,E,F,x,L⟩:=h.ow j d q;show ∃G',AbS K mg H0 G0 G' (ρ.set j (.s d)) σ H/\Same G G';have lp:Same G (plus G H (· = a)):=z2B (λb z=>by rw[z];exact F);refine⟨plus G H (· = a),⟨by simp[h.len],h.s0,z02 h.g0 lp,z3A h.g,λb o e=>(by
     by_cases r:b=a
     .exact .inr (by rw[r];exact x)
     .unfold plus at e;rw[if_neg r] at e;exact h.nw b o e),λk e z =>?_,λk e z =>?_,λk l e u b C z N s M =>?_⟩,lp⟩
   .by_cases f:k=j
    .subst f;rw[wL t] at z;cases z;exact⟨.ref a,E,L.rd lp (zcv rfl)⟩
    .rw[wF (vP f)] at z;obtain⟨w,p,A⟩:=h.sh k e z;exact⟨w,p,A.same lp⟩
   .by_cases f:k=j
    .subst f;rw[wL t] at z;cases z
    .rw[wF (vP f)] at z;obtain⟨b,p,A,I,J⟩:=h.ow k e z;have r:b≠a:=λy=>by subst y;exact h.ne k j e d b f z q p E
     refine⟨b,p,?_,I,J.same lp (λ_ e=>e)⟩;unfold plus;rw[if_neg r];exact A
   .have i:∀{k:Nat}{e:D},(ρ.set j (.s d))[k]? = some (B.o e)->ρ[k]? = some (B.o e):=λ{k e} z=>by
     by_cases f:k=j
     .subst f;rw[wL t] at z;cases z
     .rw[wF (vP f)] at z;exact z
    exact h.ne k l e u b C (i z) (i N) s M
theorem AbS.dem (b:List Nat):∀{G:Hp}{a:Pu.Env},AbS K mg H0 G0 G a σ H->∃G',AbS K mg H0 G0 G' (dem b a) σ H/\Same G G':=by
 induction b with
 | nil=>intro G a h;exact⟨G,h,Same.refl'⟩
 | cons j b l=>
  intro G a h;obtain⟨m,g,e⟩:=h.dem1 j;obtain⟨d,i,f⟩:=l g;exact⟨d,i,z02 e f⟩
end
def Kn (K:W.Frag)(mg:WmP)(g f G:Hp)(h:Pu.Env->Prop)(N:L2.St->Hp->Prop):Prop:=∀a b e d,h a->AbS K mg g f d a b e->Same G d->N b e
def Kr (K:W.Frag)(mg:WmP)(e f:Hp)(g:DK)(R:VK):Prop:=∀d v a b,g d->Gr f e a->Same a b->Same e b->RD K mg a d v->R v b
def ts (K:W.Frag)(mg:WmP)(E:XK)(t:Sm):TS:=λD h H=>∃a b G g d e f,AbS K mg a b G g h H/\t.run g d e f/\Kn K mg a b G d D.nx/\Kr K mg a b e D.rt/\Kx mg a f E
def Kn.same {K:W.Frag}{mg:WmP}{j f G i:Hp}{l:Pu.Env->Prop}{N:L2.St->Hp->Prop}(h:Kn K mg j f G l N)(g:Same G i):Kn K mg j f i l N:=λd e n m a b c=>h d e n m a b (z02 g c)
abbrev QZ (X:Cx)(E:XK)(st:Stmt)(t:Sm):Prop:=QS X st (ts X.K X.mg E t)
abbrev QZs (X:Cx)(E:XK)(st:List Stmt)(t:Sm):Prop:=QSs X st (ts X.K X.mg E t)
section
variable {X:Cx}{E:XK}{st:Stmt}{rest body la lb:List Stmt}{t u:Sm}{e a b c:Expr}{x y z:Ex}{pos:Pos}
def zjL:QZs X E [] .skip:=QSs.imp zhx <| by rintro D f H ⟨h,g,G,e,i,j,l,a,d,b,m,n⟩;exact b e f H G d a Same.refl'
def zgj (h:QZ X E st t):QZs X E [st] t:=zhw h
def zcm (h:QZ X E st t)(p:QZs X E rest u):QZs X E (st::rest) (.seq t u):=QSs.imp (zeI h p) λD z H ⟨i,f,G,w,j,b,d,o,s,r,l,m⟩=>
 ⟨i,f,G,w,λa=>u.run a j b d,b,d,o,s,λa x y n q e g=>⟨i,f,n,a,j,b,d,e,q,r.same g,l,m⟩,l,m⟩
def ze6 {K:W.Frag}{mg:WmP}{h i G H:Hp}{a:Pu.Env}{f:L2.St}{b:DK}{d:XP}{Q:VK}(e:AbS K mg h i G a f H)(l:x.run a b d)(m:Kx mg h d E)(j:Kt K mg (plus G H (z3K a f)) H b Q):tx K mg E x f H Q:=
 ⟨plus G H _,a,b,d,z3A e.g,e.abe,l,j,m.same e.s0⟩
def AbS.back {K:W.Frag}{mg:WmP}{p n G h H m:Hp}{f:Pu.Env}{g:L2.St}(b:AbS K mg p n G f g H)(q:Gr (plus G H (z3K f g)) H h)(t:Same h m)(g3:Same H m):AbS K mg p n (minus h (z3K f g)) f g m/\Same G (minus h (z3K f g)):=by
 have s:=b.free;have l  := z3k (z02 (z2B s) q.1) s;exact⟨⟨b.len,z02 b.s0 g3,z02 b.g0 l,z02 z2Q t,λa o e=>b.nw1 q a o (z2Q a o e),λi d e=>by
   obtain⟨v,j,r⟩:=b.sh i d e;exact⟨v,j,r.same l⟩,λi d e=>by
   obtain⟨a,j,r,u,w⟩:=b.ow i d e;exact⟨a,j,z5F ⟨i,d,e,j⟩,u,w.same l (g3 a)⟩,b.ne⟩,l⟩
def zj0 {K:W.Frag}{mg:WmP}{i m G H:Hp}{h:Pu.Env}{l:L2.St}{A B:Prop}{n:XP}{Q:Bool->Hp->Prop}(j:AbS K mg i m G h l H)(w:x.run h (λd=>tst d A B) n)(y:Kx mg i n E)
  (t:A->∀e a,AbS K mg i m a h l e->Same G a->Q true e) (u:B->∀e a,AbS K mg i m a h l e->Same G a->Q false e):tt K mg E x l H Q:=by
 refine⟨plus G H _,h,_,n,z3A j.g,j.abe,w,λd F o q r s g3 =>?_,y.same j.s0⟩;obtain⟨b,rfl,z,C⟩:=z5N q;refine⟨b,rfl,?_⟩;obtain⟨f,p⟩:=j.back r s g3
 cases b with
 | true=>exact t (z rfl) o _ f p
 | false=>exact u (C rfl) o _ f p
def zmD (w:QXT X E c z)(r:QZs X E la t)(s:QZs X E lb u):QZ X E (.If c la lb pos) (.ifs z t u):=QS.imp (zmO w r s) <| by
 rintro D y H ⟨f,e,G,n,h,i,j,p,x,m,l,d⟩;refine zj0 p x d (λq o b a g =>?_) (λq o b a g =>?_)
 .exact iteT ⟨f,e,b,n,h,i,j,a,q,m.same g,l,d⟩
 .exact iteF ⟨f,e,b,n,h,i,j,a,q,m.same g,l,d⟩
def zjH (j:QX X E e x):QZ X E (.Return (some e) pos) (.ret x):=QS.imp (zk7 j) λD w H ⟨o,n,G,u,p,r,s,a,l,t,i,m⟩=>
 ze6 a l m λd v f g q b h g3 rd=>i d v f g q ⟨z02 a.g0 (z02 (z2B a.free) b.1),a.nw1 b⟩ h (z02 a.s0 g3) rd
def z5I (i:Nat)(b:Pu.Env)(e:L2.St)(a:Addr):Prop:=∃(j:Nat) (d:D),j≠i/\b[j]? = some (B.o d)/\e[j]? = some (some (V.ref a))
def zgk (h:QS X (.Assign [tg] e pos) (tAsg (tx X.K X.mg E x) (z30 i))):QZ X E (.Assign [tg] e pos) (.set i x):=QS.imp h λD C H ⟨J,F,G,A,L,M,N,b,y,w,O,z⟩=>
 ze6 b y z λd v I m q f g g3 rd=>by
  have t:∀a,z5I i A C a->G a=none:=λa ⟨j,d,_,p,r⟩=>b.free a ⟨j,d,p,r⟩;have l  := z3k (z02 (z2B b.free) f.1) t;exact w _ _ m _ q.2 (b.put (λa o e=>b.nw1 f a o (z2Q a o e)) l (z02 z2Q g) g3 (λj n a u e s=>z5F ⟨j,n,u,e,s⟩) (z6O b g g3 q.1 rd)) l
def zho (h:QS X (.Assign [tg] e pos) (tAsg (tx X.K X.mg E x) (z30 i))):QZ X E (.Assign [tg] e pos) (.setx js i x):=QS.imp h <| by
 rintro D σ H ⟨O,N,G,Z,Q,R,t,m,J,I,U,M⟩;obtain⟨n,f,C⟩:=m.dem js;refine⟨n,vis _,_,t,f.g,f.vis,J,λd v p r q l F g3 rd =>?_,M.same m.s0⟩;exact I _ _ r _ q (f.put (f.nw2 l) l.1 F g3 (λj y a W e s=>by
  obtain⟨b,A,S,T,L⟩:=f.ow j y e;rw[s] at A;cases z:p a with
  | none=>rfl
  | some o=>
   obtain⟨u,Y⟩:=L.some
   rcases l.2 a o z with ⟨w,q⟩ | q
   .grind
   grind) rd) (z02 C l.1)
def Kf (K:W.Frag)(mg:WmP)(G H:Hp)(f:DK)(Q:VK):Prop:=∀d a b e,f d->Gr G H b->Same b e->Same H e->H a=none->b a=none->z5h K mg b e a d->Q (.ref a) e
def tf (K:W.Frag)(mg:WmP)(E:XK)(e:Ex):TE:=λf H Q=>∃G d a b,Same G H/\AbE K mg G d f/\e.run d a b/\Kf K mg G H a Q/\Kx mg H b E
abbrev QF (X:Cx)(E:XK)(e:Expr)(x:Ex):Prop:=QE X e (tf X.K X.mg E x)
def Kt.kf {K:W.Frag}{mg:WmP}{G H:Hp}{g:DK}{Q:VK}(h:Kt K mg G H g Q):Kf K mg G H g Q:=λd a s m q i n g3 r p l=>by
 obtain⟨o,j⟩:=l.some;have lp  := z0o p o;refine h d _ _ m q ⟨z02 i.1 lp,λb u e =>?_⟩ (λb u e =>?_) g3 (l.rd lp (by rw[z0c];exact j.symm))
 .by_cases f:b=a
  .subst f;exact .inr r
  .rw[z08 f] at e;exact i.2 b u e
 .by_cases f:b=a
  .subst f;rw[z0c] at e;rw[j];exact e
  .rw[z08 f] at e;exact n b u e
def QF.qx (h:QF X E e x):QX X E e x:=QE.imp h λm H Q ⟨G,l,a,b,i,d,g,f,j⟩=>⟨G,l,a,b,i,d,g,f.kf,j⟩
def zjK (h:QS X (.Assign [tg] e pos) (tAsg (tf X.K X.mg E x) (z30 i))):QZ X E (.Assign [tg] e pos) (.own i x):=QS.imp h <| by
 rintro D t H ⟨H0,G0,G,p,N0,R0,M,b,U,T,hR,W⟩;refine⟨plus G H (z3K p t),p,_,M,z3A b.g,b.abe,U,λd a u L q A C g3 Q ga I =>?_,W.same b.s0⟩;have R:∀a,z5I i p t a->G a=none:=λa ⟨j,d,_,f,m⟩=>b.free a ⟨j,d,f,m⟩;have J  := z3k (z02 (z2B b.free) A.1) R;have z04:∀l xs,(∀x∈l,Safe x (p.set i .n))->RDs X.K X.mg u l xs->RDs X.K X.mg (minus u (z5I i p t)) l xs:=by
  intro l
  induction l with
  | nil=>intro xs _ h;exact h
  | cons y l Z=>
   intro xs F h;obtain⟨v,r,f,m,O⟩:=h;exact⟨v,r,f,z6O b C g3 (F y wB) m,Z r (λz Y=>F z (wo _ Y)) O⟩
 have na:minus u (z5I i p t) a=none:=by
  unfold minus
  simp_all
 refine T _ _ L _ q.2 (b.own (λa o e=>b.nw1 A a o (z2Q a o e)) J (z02 z2Q C) g3 (λj N a S e s=>z5F ⟨j,N,S,e,s⟩) Q na ?_) J;have w:=q.1
 cases d with
 | lst l=>
  obtain⟨xs,f,m⟩:=I;exact⟨xs,f,z04 l xs w m⟩
 | dct ks vs=>
  obtain⟨xs,f,m⟩:=I;exact⟨xs,z04 vs xs w f,m⟩
 | _=>exact w.elim
end
section
variable {X:Cx}{E:XK}{st:Stmt}{rest body la lb:List Stmt}{t u:Sm}{e a b c tg iter:Expr}{x y z:Ex}{pos:Pos}
def zaj (h:onL o Q):∃l,o=some l/\Q l:=by
 cases o with
 | none=>exact h.elim
 | some l=>exact⟨l,rfl,h⟩
def zez (R:PassesOwn (model X.prog X.w) X.A X.env X.xe)(O:QXT X E c z)(N:QZs X E body t):QZ X E (.While c body [] pos) (.wh z t):=QS.imp (zeJ R O N) <| by
 rintro D Y H ⟨o,j,G,T,p,h,i,J,⟨n,S⟩,Q,M,I⟩;refine⟨λm b f=>∃d a,AbS X.K _ o j d a b f/\Same G d/\wh z t p h i m a,⟨n,G,T,J,Same.refl',S⟩,?_⟩;rintro m x W ⟨U,g,s,C,F⟩
 cases m with
 | zero=>exact F.elim
 | succ m=>
  refine zj0 s F I (λq y l e u =>?_) (λq y l e u =>?_)
  .refine iteT ⟨λb f=>∃d a,AbS X.K _ o j d a b f/\Same G d/\wh z t p h i m a,λb f w=>⟨m,uX _,w⟩,?_⟩;exact⟨o,j,l,g,wh z t p h i m,h,i,e,q,λa b f d w r L=>⟨d,a,r,z02 C (z02 u L),w⟩,M,I⟩
  .exact iteF (Q g x y l q e (z02 C u))
def Walk (K:W.Frag)(mg:WmP)(G:Hp)(l:List D)(J:It):Prop:=∀i a H,Same G a->Same a H->
 (∀d,l[i]? = some d->J.go i H/\∀v e,J.yld i H v e->Same H e/\∃b,Gr a H b/\Same b e/\RD K mg b d v)/\(l.length<=i->J.stop i H)
def ti (K:W.Frag)(mg:WmP)(E:XK)(e:Ex):TI:=λi H R=>∃G h f g,Same G H/\AbE K mg G h i/\e.run h f g/\(∀d,f d->∃l,z04 d=some l)/\(∀d a b,f d->Gr G H a->Same a b->Same H b->∀l J,z04 d=some l->Walk K mg a l J->R J b)/\Kx mg H g E
abbrev QXI (X:Cx)(E:XK)(tg e:Expr)(x:Ex):Prop:=QI X tg e (ti X.K X.mg E x)
def tgt (K:W.Frag):Tg->TG
 | .nm i=>z30 i
 | .tp is=>gTup K is.length (is.foldr (λi r=>zfB (z30 i) r) gNil)
theorem z6g {K:W.Frag}:∀(is:List Nat) vs a H Q,is.length=vs.length->Q ((is.zip vs).foldl (λa p=>a.set p.1 (some p.2)) a) H->(is.foldr (λi r=>zfB (z30 i) r) gNil) vs a H Q
 | [],[],_,_,_,_,q=>⟨rfl,q⟩
 | [],_::_,_,_,_,h,_=>by simp at h
 | _::_,[],_,_,_,h,_=>by simp at h
 | i::is,v::vs,a,H,Q,h,q=>⟨v,vs,rfl,z6g (K:=K) is vs _ H Q (by simpa using h) q⟩
theorem AbS.putAll {K:W.Frag}{mg:WmP}{o n H:Hp}:∀is ds vs {G:Hp}{l:Pu.Env}{f:L2.St},is.length=ds.length->RDs K mg G ds vs->AbS K mg o n G l f H->
  AbS K mg o n G (z0m is ds l) ((is.zip vs).foldl (λf p=>f.set p.1 (some p.2)) f) H
 | [],[],vs,G,l,f,_,h,b=>by exact b
 | [],_::_,_,_,_,_,h,_,_=>by simp at h
 | _::_,[],_,_,_,_,h,_,_=>by simp at h
 | i::is,d::ds,vs,G,l,f,h,r,b=>by
  obtain⟨v,m,rfl,t,u⟩:=r;exact AbS.putAll is ds m (by simpa using h) u (b.put b.nw Same.refl' b.g Same.refl' (λj q a w e s=>b.free a ⟨j,q,e,s⟩) t)
def zh4 {K:W.Frag}{mg:WmP}{t r G H:Hp}{x:Pu.Env}{q:L2.St}{o:Tg}{d:D}{v:V}{u:Pu.Env->Prop}{N:L2.St->Hp->Prop}(b:AbS K mg t r G x q H)(rd:RD K mg G d v)(f:o.put d x u)(w:∀h l,u h->AbS K mg t r G h l H->N l H):tgt K o v q H N:=by
 cases o with
 | nm i=>exact w _ _ f (b.put b.nw Same.refl' b.g Same.refl' (λj y a C e s=>b.free a ⟨j,y,e,s⟩) rd)
 | tp is=>
  cases d with
  | tup z=>
   obtain⟨n,f⟩:=f;obtain⟨a,p,rfl,A,m⟩:=rd;exact⟨a,p,rfl,z0L b.g A,by rw[m.len,n],z6g (K:=K) is p q H N (by rw[m.len,n]) (w _ _ f (b.putAll is z p n m))⟩
  | _=>exact f.elim
def AbS.over {K:W.Frag}{mg:WmP}{n m G h H j:Hp}{t:Pu.Env}{x:L2.St}(b:AbS K mg n m G t x H)(f:Gr G H h)(A:Same h j)(s:Same H j):AbS K mg n m h t x j where
 len:=b.len
 s0:=z02 b.s0 s
 g0:=z02 b.g0 f.1
 g:=A
 nw:=b.nw2 f
 sh:=λi d e=>by
  obtain⟨v,l,p⟩:=b.sh i d e;exact⟨v,l,p.same f.1⟩
 ow:=λi d e=>by
  obtain⟨a,l,p,y,r⟩:=b.ow i d e;refine⟨a,l,?_,y,r.same f.1 (s a)⟩
  cases z:h a with
  | none=>rfl
  | some o=>
   obtain⟨u,C⟩:=r.some
   rcases f.2 a o z with ⟨w,q⟩ | q
   .grind
   grind
 ne:=b.ne
def z6i {K:W.Frag}{mg:WmP}{h o G H:Hp}{R:Pu.Env}{f:L2.St}{l:List D}{J:It}{F:Tg}{A:Pu.Env->Prop}{r:DK}{s:XP}{p:Ends}(ab:AbS K mg h o G R f H)(hw:Walk K mg G l J)(hr:forL F t A r s l R)
  (hn:Kn K mg h o G A p.nx) (hR:Kr K mg h o r p.rt) (hx:Kx mg h s E):
  ∃W:Nat->Nat->L2.St->Hp->Prop,(∃m,W 0 m f H)/\∀i m f H,W i m f H->
   (J.stop i H/\p.nx f H)\/(J.go i H/\∃N,(∀a b,N a b->∃m',m'<m/\W (i+1) m' a b)/\∀x b,J.yld i H x b->tgt K F x f b λX I=>ts K mg E t { p with nx:=N,ct:=N,bk:=p.nx } X I):=by
 refine⟨λi m f H=>Aa3 (m=l.length - i) (i<=l.length) (∃q d,AbS K mg h o q d f H/\Same G q/\forL F t A r s (l.drop i) d),⟨l.length,by simp,vH _,G,R,ab,Same.refl',by simpa using hr⟩,?_⟩;rintro i m U Y ⟨rfl,hi,q,d,j,Q,C⟩;obtain⟨w1,w2⟩:=hw i q Y Q j.g
 by_cases n:i<l.length
 .have e:l[i]? = some l[i]:=by simp[n]
  obtain⟨go,yl⟩:=w1 _ e;rw[uK n] at C;refine .inr ⟨go,λa b=>∃z u,AbS K mg h o z u a b/\Same G z/\forL F t A r s _ u,λa b w=>⟨l.length - (i+1),by omega,rfl,n,w⟩,λv I y =>?_⟩;obtain⟨s2,z,Z,k2,rd⟩:=yl v I y;have M:=j.over Z k2 s2;refine zh4 M rd C λT a0 hb O =>?_;exact⟨h,o,z,T,_,r,s,O,hb,λS a b G' w L g'=>⟨G',S,L,z02 Q (z02 Z.1 g'),w⟩,hR,hx⟩
 .have e:i=l.length:=by omega
  subst e;rw[List.drop_length] at C;exact .inl ⟨w2 (wu _),hn d U Y q C j Q⟩
def zjM (F:PassesOwn (model X.prog X.w) X.A X.env X.xe)(s:X.calm=true)(y:QXI X E tg iter x)(u:QG X tg (tgt X.K g))(r:QZs X E body t)(L:autoParam (fI iter X) jC1):
  QZ X E (.For tg iter body [] pos) (.for_ js g x t):=QS.imp (zgm F s y u r L) <| by
 rintro D W H ⟨Q,N,G,U,S,T,j,b,I,C,p,f⟩;obtain⟨i,a,n⟩:=b.dem js;refine⟨i,vis _,_,j,a.g,a.vis,I,λd q=>(zaj q).imp λ_ z=>z.1,λd O R q e o g3 l J m M =>?_,f.same b.s0⟩;have h  := q;rw[m] at h;exact z6i (a.over e o g3) M h (C.same (z02 n e.1)) p f
def z3L {K:W.Frag}{mg:WmP}{G:Hp}{b:Int}{n:Nat}:Walk K mg G ((List.range n).map λ(k:Nat)=>D.int (b+k)) (Itr b n):=λi f H m j=>by
 refine⟨λd e =>?_,λa=>(show n<=i by simpa using a)⟩;obtain⟨h,g⟩:=wt.mp e;have a  := by simpa using h
 refine⟨a,λv l y =>?_⟩;obtain⟨rfl,rfl⟩:=y;refine⟨Same.refl',f,Gr.refl,j,?_⟩;rw[<- g];simp[List.getElem_map,List.getElem_range];rw[RD]
def z5p:Fn:=⟨λa Q _=>onR a λl=>Q (.lst l),λa Q b X d m _ q=>zai (λ_ q=>m _ q) q⟩
def z0I {K:W.Frag}{mg:WmP}{G:Hp}{i:Int}{v:V}(h:RD K mg G (.int i) v):v = .int i:=by exact h
def rds1 {K:W.Frag}{mg:WmP}{G:Hp}{d:D}{vs:List V}(h:RDs K mg G [d] vs):∃v,vs=[v]/\RD K mg G d v:=by
 obtain⟨x,r,rfl,a,b⟩:=h;subst b;exact⟨x,rfl,a⟩
def rds2 {K:W.Frag}{mg:WmP}{G:Hp}{d e:D}{vs:List V}(h:RDs K mg G [d,e] vs):∃v w,vs=[v,w]/\RD K mg G d v/\RD K mg G e w:=by
 obtain⟨x,r,rfl,a,b⟩:=h;obtain⟨y,rfl,f⟩:=rds1 b;exact⟨x,y,rfl,a,f⟩
def zah {K:W.Frag}{mg:WmP}{G:Hp}{ds:List D}{vs:List V}{a:List D->Prop}(rds:RDs K mg G ds vs)(h:onR ds a):
  (∃j,vs=[.int j] /\ -(2 ^ 62)<=j/\j<2 ^ 62/\a ((List.range j.toNat).map λ(k:Nat)=>D.int (0+k)))\/∃i j,vs=[.int i,.int j]/\(-(2 ^ 62)<=i/\i<2 ^ 62 /\ -(2 ^ 62)<=j/\j<2 ^ 62)/\a ((List.range (j - i).toNat).map λ(k:Nat)=>D.int (i+k)):=by
 unfold onR at h
 split at h
 .obtain⟨v,rfl,r1⟩:=rds1 rds;refine .inl ⟨_,by rw[z0I r1],h.1.1,h.1.2,?_⟩;simpa using h.2
 .obtain⟨v,w,rfl,r1,r2⟩:=rds2 rds;exact .inr ⟨_,_,by rw[z0I r1,z0I r2],⟨h.1.1.1,h.1.1.2,h.1.2.1,h.1.2.2⟩,h.2⟩
 .exact h.elim
def ze9 {K:W.Frag}{mg:WmP}{es:List Ex}{r:L2.St}{H:Hp}{R:It->Hp->Prop}(h:ti K mg E (.op z5p es) r H R):txa K mg E es r H λvs H1=>(∃j,vs=[.int j] /\ -(2 ^ 62)<=j/\j<2 ^ 62/\R (Itr 0 j.toNat) H1)\/∃i j,vs=[.int i,.int j]/\(-(2 ^ 62)<=i/\i<2 ^ 62 /\ -(2 ^ 62)<=j/\j<2 ^ 62)/\R (Itr i (j - i).toNat) H1:=by
 obtain⟨G,y,g,m,w,s,u,_,p,x⟩:=h;refine⟨G,y,λa=>z5p.run a g m,m,w,s,u,λa vs f H1 q n o g3 rds =>?_,x⟩
 rcases zah rds (show onR a (λl=>g _) from q) with ⟨j,e,b,t,d⟩ | ⟨i,j,e,b,d⟩
 .exact .inl ⟨j,e,b,t,p _ f H1 d n o g3 _ _ rfl z3L⟩
 .exact .inr ⟨i,j,e,b,p _ f H1 d n o g3 _ _ rfl z3L⟩
def zbH {K:W.Frag}{mg:WmP}{es:List Ex}{n:Nat}{g:L2.St}{H:Hp}{Q Q':List V->Hp->Prop}(s:es.length=n)(m:∀vs a,vs.length=n->Q vs a->Q' vs a)(h:txa K mg E es g H Q):txa K mg E es g H Q':=by
 obtain⟨G,f,j,X0,u,l,t,r,w⟩:=h;have len:∀es Q,runs es f Q X0->runs es f (λb=>b.length=es.length/\Q b) X0:=by
  intro es
  induction es with
  | nil=>intro Q h;exact⟨rfl,h⟩
  | cons e es x=>
   intro Q h;exact e.mono f _ _ X0 X0 (λd q=>z3y es f _ _ X0 X0 (λb q=>⟨by simp[q.1],q.2⟩) (λ_ z=>z) (x _ q)) (λ_ z=>z) h
 exact⟨G,f,_,X0,u,l,len es j t,λb vs i a q o p g3 rds=>m vs a (by rw[rds.len,q.1,s]) (r b vs i a q.2 o p g3 rds),w⟩
def zb6 {p:Pos}(d:Gl X "range")(f:X.mg "range"=none)(b:QXA X E [a] [x])(g:autoParam (starEach [a] X.env=[(false,eval a X.env)]) jA1):QXI X E tg (.Call (.Name "range" p) [a] [] pos) (.op z5p [x]):=QI.imp (z8d d f b g) λn H R h=>
 zbH rfl (λvs l m q=>by
  rcases q with q | ⟨i,j,e,_⟩
  .exact q
  simp_all) (ze9 h)
def zhm {g:Tg}{es:List Ex}{y:TI}(N:PassesOwn (model X.prog X.w) X.A X.env X.xe)(L:X.calm=true)(M:QG X tg (tgt X.K g))(J:QZs X E body t)
  (m:∀d H R,(txa X.K X.mg E es d H λvs f=>(∃j,vs=[.int j] /\ -(2 ^ 62)<=j/\j<2 ^ 62/\R (Itr 0 j.toNat) f)\/∃i j,vs=[.int i,.int j]/\(-(2 ^ 62)<=i/\i<2 ^ 62 /\ -(2 ^ 62)<=j/\j<2 ^ 62)/\R (Itr i (j - i).toNat) f)->y d H R) (l:QI X tg iter y)
  (Q:autoParam (fI iter X) jC1):
  QZ X E (.For tg iter body [] pos) (.forr es g t):=QS.imp (zgm N L l M J Q) <| by
 rintro T d H ⟨Y,U,G,S,Z,R0,z,b,O,s,r,n⟩;refine m d H _ ⟨plus G H _,S,λp=>onR p _,z,z3A b.g,b.abe,O,λp vs W f q C F g3 rds =>?_,n.same b.s0⟩;obtain⟨a,u⟩:=b.back C F g3
 rcases zah rds q with ⟨j,e,h,I,o⟩ | ⟨i,j,e,h,o⟩
 .exact .inl ⟨j,e,h,I,z6i a z3L o (s.same u) r n⟩
 .exact .inr ⟨i,j,e,h,z6i a z3L o (s.same u) r n⟩
def zeC {g:Tg}{p b:Pos}(s:PassesOwn (model X.prog X.w) X.A X.env X.xe)(n:X.calm=true)(d:Gl X "range")(r:X.mg "range"=none)(l:QXA X E [a] [x])(o:QG X tg (tgt X.K g))(m:QZs X E body t)(f:autoParam (starEach [a] X.env=[(false,eval a X.env)]) jA1)
  (u:autoParam (∀x,foldedSetIterable (.Call (.Name "range" p) [a] [] b) X.env x=pure x) jC1):QZ X E (.For tg (.Call (.Name "range" p) [a] [] b) body [] pos) (.forr [x] g t):=
 zhm s n o m (λC H R h=>zbH rfl (λvs y z q=>by
  rcases q with q | ⟨i,j,e,_⟩
  .exact q
  simp_all) h) (z8d d r l f) u
def iAny (K:W.Frag)(tl:TE):TI:=λe H R=>tl e H λx b=>(∃a,x = .ref a/\(∃d,SqL K b a d)/\R (Itl K a) b)\/(∃a,x = .ref a/\(∃d,SqT K b a d)/\R (Itt K a) b)\/∃y,x = .str y/\R (Its y) b
def zka {tl:TE}(G:QE X l tl):QI X tg l (iAny X.K tl):=by
 constructor
 intro g s S H R I h;refine thn (G.p g s S H _ I h) λv d O =>?_;obtain⟨x,j,f,r1,L⟩:=O;have n:∀b∈[d.heap.objs.size],FpOk X g j b:=λb F=>by
  have e:b=d.heap.objs.size:=by simpa using F
  subst e;exact f.fpOk (wu _) (f.hok.fresh (wu _))
 rcases L with ⟨a,e,⟨N,u⟩,q⟩ | ⟨a,e,⟨N,u⟩,q⟩ | ⟨y,rfl,q⟩
 .subst e
  cases r1
  obtain⟨m,M,p,J⟩:=f.list u;refine wpAny_pyIter_list p.isList ?_;exact⟨d.heap.objs.size,[d.heap.objs.size],_,_,j,rfl,f.kept (t':=d.toks) λb o e=>wf _ e,zbJ a _,⟨_,wq _ rfl,rfl,rfl⟩,n,q⟩
 .subst e
  cases r1
  obtain⟨m,M,p,J⟩:=f.tuple u;refine jd (show d.heap.IsTuple a m.toArray from p) ?_;exact⟨d.heap.objs.size,[d.heap.objs.size],_,_,j,rfl,f.kept (t':=d.toks) λb o e=>wf _ e,zaS a _,⟨_,wq _ rfl,rfl,rfl⟩,n,q⟩
 .obtain⟨t,rfl⟩:=r1
  cases z:y.cps.all (· < 128)
  .exact wpAny_pyIter_wide z ⟨d.heap.objs.size,[d.heap.objs.size],_,_,j,rfl,f.kept (t':=d.toks) λb o e=>wf _ e,za1 y t _ (by decide) (λC r=>Walks.strWide r _ y t) (λA i s Q E w h=>wpAny_pyIter_striter_wide w h),⟨vH _,_,wq _ rfl,rfl,rfl⟩,n,q⟩
  .exact wpAny_pyIter_ascii z ⟨d.heap.objs.size,[d.heap.objs.size],_,_,j,rfl,f.kept (t':=d.toks) λb o e=>wf _ e,za1 y t _ (by decide) (λC r=>Walks.strAscii r _ y t) (λA i s Q E w h=>wpAny_pyIter_striter_ascii w h),⟨vH _,_,wq _ rfl,rfl,rfl⟩,n,q⟩
def zbF {K:W.Frag}{mg:WmP}{G:Hp}{a:Addr}{xs:List V}{l:List D}(h:SqL K G a xs)(r:RDs K mg G l xs):Walk K mg G l (Itl K a):=λi m H g j=>by
 have b:=z1l (z02 g j) h;refine⟨λd e =>?_,λn=>⟨xs,b,by rw[r.len];exact n⟩⟩;obtain⟨v,f,o⟩:=r.get e;refine⟨⟨xs,v,b,f⟩,λq p y =>?_⟩;obtain⟨rfl,y⟩:=y;have:=y xs b;rw[f] at this
 cases this
 exact⟨Same.refl',m,Gr.refl,j,o.same g⟩
def zdZ {K:W.Frag}{mg:WmP}{G:Hp}{a:Addr}{xs:List V}{l:List D}(h:SqT K G a xs)(r:RDs K mg G l xs):Walk K mg G l (Itt K a):=λi m H g j=>by
 have b:=z0L (z02 g j) h;refine⟨λd e =>?_,λn=>⟨xs,b,by rw[r.len];exact n⟩⟩;obtain⟨v,f,o⟩:=r.get e;refine⟨⟨xs,v,b,f⟩,λq p y =>?_⟩;obtain⟨rfl,y⟩:=y;have:=y xs b;rw[f] at this
 cases this
 exact⟨Same.refl',m,Gr.refl,j,o.same g⟩
def ze0 {K:W.Frag}{mg:WmP}{G:Hp}{y:Str}:Walk K mg G (y.cps.toList.map λc =>.str ⟨#[c]⟩) (Its y):=λi b H m g=>by
 refine⟨λd e =>?_,λa=>(show y.cps.size<=i by simpa using a)⟩;rw[wO] at e
 cases q:y.cps.toList[i]? with
 | none=>simp_all
 | some c=>
  rw[q] at e
  cases e
  have a  := by
   have:=(wt.mp q).1;omega
  refine⟨a,λv j h =>?_⟩;obtain⟨rfl,f,l,rfl⟩:=h;have:f=c:=by
   simp_all
  subst this;exact⟨Same.refl',b,Gr.refl,g,by rw[RD]⟩
def qi_x (h:QX X E iter x):QXI X E tg iter x:=QI.imp (zka h) <| by
 rintro C H R ⟨G,A,p,r,u,s,t,z,n,w⟩;refine⟨G,A,p,r,u,s,t,λd v g i q j b g3 rd =>?_,w⟩
 cases d with
 | lst l=>
  obtain⟨a,o,rfl,f,m⟩:=rd;exact .inl ⟨a,rfl,⟨o,z1l b f⟩,n _ g i q j b g3 l _ rfl (zbF f m)⟩
 | tup l=>
  obtain⟨a,o,rfl,f,m⟩:=rd;exact .inr (.inl ⟨a,rfl,⟨o,z0L b f⟩,n _ g i q j b g3 l _ rfl (zdZ f m)⟩)
 | str y=>
  subst rd;exact .inr (.inr ⟨y,rfl,n _ g i q j b g3 _ _ rfl ze0⟩)
 | _=>
  obtain⟨l,e⟩:=z _ q
  cases e
end
section
variable {K:W.Frag}{mg:WmP}{H0 G0 G G1 H H1:Hp}{ρ:Pu.Env}{σ:L2.St}{i:Nat}
set_option tactic.hygienic true in
def z3B {a:List D->Prop}(h:ownL ρ i a):∃l,ρ[i]? = some (B.o (.lst l))/\a l:=by
 unfold ownL at h
 split at h
 .rename_i l e;exact⟨l,e,h⟩
 .exact h.elim
def zf6:(λa=>∃(j:Nat) (d:D),True/\ρ[j]? = some (B.o d)/\σ[j]? = some (some (V.ref a)))=z3K ρ σ:=by
 funext a
 exact propext ⟨λ⟨j,d,_,h⟩=>⟨j,d,h⟩,λ⟨j,d,h⟩=>⟨j,d,trivial,h⟩⟩
def z3R {v:V}(h:AbS K mg H0 G0 G ρ σ H)(a:Same G1 H1)(g3:Same H H1)(b:Safe d ρ)(rd:RD K mg G1 d v):RD K mg (minus G1 (z3K ρ σ)) d v:=by
 have:=z9h h a g3 b rd;rw[zf6] at this;exact this
def zeh (h:AbS K mg H0 G0 G ρ σ H)(b:Same G1 H1)(g3:Same H H1):∀{xs:List V},(∀x∈l,Safe x ρ)->RDs K mg G1 l xs->RDs K mg (minus G1 (z3K ρ σ)) l xs:=by
 induction l with
 | nil=>intro xs _ h;exact h
 | cons y l j=>
  intro xs a g;obtain⟨v,r,d,e,f⟩:=g;exact⟨v,r,d,z3R h b g3 (a y wB) e,j (λz i=>a z (wo _ i)) f⟩
def AbS.wrB (b:AbS K mg H0 G0 G ρ σ H)(d:Gr (plus G H (z3K ρ σ)) H G1)(h:Same G1 H1)(g3:Same H H1)(m:ρ[i]? = some (B.o (.lst l)))(p:σ[i]? = some (some (V.ref a)))(n:RDs K mg (minus G1 (z3K ρ σ)) l' ys):
  AbS K mg H0 G0 (minus G1 (z3K ρ σ)) (ρ.set i (.o (.lst l'))) σ (upd H1 a (.lst ys))/\Same G (minus G1 (z3K ρ σ)):=by
 have f  := z3k (z02 (z2B b.free) d.1) b.free;exact⟨b.wr (λa o e=>b.nw1 d a o (z2Q a o e)) f (z02 z2Q h) g3 (λj g a e s=>z5F ⟨j,g,e,s⟩) m p ⟨ys,z0c,n⟩,f⟩
end
section
variable {X:Cx}{E:XK}{st:Stmt}{t:Sm}{e o tg:Expr}{x y z:Ex}{pos cpos apos:Pos}{i j:Nat}
def zjO (S:QE X o (tVar i))(Q:QXA X E [e] [x])
  (T:autoParam (swapsWith (.Call (.Attribute o "append" apos) [e] [] cpos) none pos.line X.env=pure false) jA1)
  (h:autoParam (aB o "append" X) jA1)
  (m:autoParam (aG cpos [e] X) jA1)
  (j:autoParam (aL apos cpos) jA1) (u:autoParam (sE e [] X) jA1) (b:autoParam (bT cpos [] X) jA1):
  QZ X E (.Expr (.Call (.Attribute o "append" apos) [e] [] cpos) pos) (.app i x):=
 QS.imp (z9n (zhF uY PySem.F.slot_list_append PySem.F.type_list_append z6G S Q h m j u b) T) <| by
  rintro De Z H ⟨H0,G0,G,p,M,R0,r,f,t,R,hR,U⟩;obtain⟨l,I,t⟩:=z3B t;obtain⟨a,K,ga,h0,L,J,n⟩:=f.ow i _ I;refine⟨.ref a,K,.inl ⟨rfl,L,SqL.of J⟩,?_⟩;refine⟨plus G H _,p,λy=>∃d,y=[d]/\l.length<sizeLine/\Safe d p/\M (p.set i (.o (.lst (l++[d])))),r,z3A f.g,f.abe,x.mono p _ _ r r (λd q=>⟨d,rfl,q⟩) (λ_ z=>z) t,?_,U.same f.s0⟩;rintro y vs G1 H1 ⟨d,rfl,w,Y,O⟩ A C g3 rds;obtain⟨v,rfl,rd⟩:=rds1 rds;refine⟨a,L,v,rfl,rfl,g3 _ _ J,by rw[n.len];exact w,?_⟩;have W  := z3k (z02 (z2B f.free) A.1) f.free;obtain⟨s,N⟩:=f.wrB A C g3 I K ((n.same W).app (RDs.cons (z3R f C g3 Y rd) RDs.nil));exact R _ Z _ _ O s N
def zjN (Q:QE X o (tVar i))(N:QF X E e x)
  (R:autoParam (swapsWith (.Call (.Attribute o "extend" apos) [e] [] cpos) none pos.line X.env=pure false) jA1)
  (j:autoParam (aB o "extend" X) jA1)
  (p:autoParam (aG cpos [e] X) jA1)
  (n:autoParam (aL apos cpos) jA1) (s:autoParam (sE e [] X) jA1) (f:autoParam (bT cpos [] X) jA1):
  QZ X E (.Expr (.Call (.Attribute o "extend" apos) [e] [] cpos) pos) (.ext i x):=by
 refine QS.imp (z9n (zhF uY PySem.F.slot_list_extend PySem.F.type_list_extend zcV Q (z4d N z6U s) j p n s f) R) λDe σ H z9 =>?_;obtain⟨H0,G0,G,ρ,N0,R0,L,h,y,O,hR,S⟩:=z9;obtain⟨l,C,y⟩:=z3B y;obtain⟨a,J,ga,h0,K,I,r⟩:=h.ow i _ C;refine⟨.ref a,J,.inl ⟨rfl,K,SqL.of I⟩,?_⟩;refine⟨plus G H _,ρ,_,L,z3A h.g,h.abe,y,λd b G1 H1 q z A g3 hb gb w =>?_,S.same h.s0⟩
 cases d with
 | lst m=>
  obtain⟨zs,T,t⟩:=w;obtain⟨W,Y,Z⟩:=q;refine⟨a,b,K,zs,rfl,rfl,g3 _ _ I,T,by rw[r.len,t.len];exact W,?_⟩;have U  := z3k (z02 (z2B h.free) z.1) h.free;obtain⟨u,M⟩:=h.wrB z A g3 C J ((r.same U).app (zeh h A g3 Y t));exact O _ σ _ _ Z u M
 | _=>exact q.elim
def RDs.last {K:W.Frag}{mg:WmP}{G:Hp}{l:List D}{xs:List V}(h:RDs K mg G l xs):RDs K mg G l.dropLast xs.dropLast:=by
 rw[List.dropLast_eq_take,List.dropLast_eq_take,h.len];exact h.take _
set_option tactic.hygienic true in
def z8g {l:List D}{a:List D->D->Prop}(h:popL l a):∃d,l[l.length - 1]? = some d/\a l.dropLast d:=by
 unfold popL at h
 split at h
 .rename_i d e;exact⟨d,e,h⟩
 .exact h.elim
def zg0 {K:W.Frag}{mg:WmP}{m h G H:Hp}{d:Pu.Env}{f:L2.St}{l l':List D}{a:Addr}{ys:List V}(b:AbS K mg m h G d f H)(p:d[i]? = some (B.o (.lst l)))(r:f[i]? = some (some (V.ref a)))(q:RDs K mg G l' ys):AbS K mg m h G (d.set i (.o (.lst l'))) f (upd H a (.lst ys)):=
 b.wr b.nw Same.refl' b.g Same.refl' (λj n a e s=>b.free a ⟨j,n,e,s⟩) p r ⟨ys,z0c,q⟩
def zjJ (t:QE X o (tVar i))(u:autoParam (swapsWith (.Call (.Attribute o "pop" apos) [] [] cpos) none pos.line X.env=pure false) jA1)(b:autoParam (aB o "pop" X) jA1)(e:autoParam (aL apos cpos) jA1):
  QZ X E (.Expr (.Call (.Attribute o "pop" apos) [] [] cpos) pos) (.pop i):=
 QS.imp (z9n (zgn uY PySem.F.slot_list_pop PySem.F.type_list_pop zgA t b e) u) <| by
  rintro y x H ⟨A,z,G,Q,C,I,J,h,g,s,M,N⟩;obtain⟨l,j,g⟩:=z3B g;obtain⟨d,r,q⟩:=z8g g;obtain⟨a,n,K,L,p,m,f⟩:=h.ow i _ j;refine⟨.ref a,n,.inl ⟨rfl,p,SqL.of m⟩,?_⟩;obtain⟨v,w,O⟩:=f.get r;exact⟨a,p,v,rfl,rfl,m,by rw[f.len];exact w,s _ x _ G q (zg0 h j n f.last) Same.refl'⟩
def zeA (I:QE X o (tVar i))(h:∀{w:TE},QE X (.Call (.Attribute o "pop" apos) [] [] cpos) w->QS X (.Assign [tg] (.Call (.Attribute o "pop" apos) [] [] cpos) pos) (tAsg w (z30 j)))(f:autoParam (aB o "pop" X) jA1)(m:autoParam (aL apos cpos) jA1):
  QZ X E (.Assign [tg] (.Call (.Attribute o "pop" apos) [] [] cpos) pos) (.popTo j i):=
 QS.imp (h (zgn uY PySem.F.slot_list_pop PySem.F.type_list_pop zgA I f m)) <| by
  rintro L σ H ⟨N,M,G,Z,O,Q,R,q,p,C,U,Y⟩;obtain⟨l,r,p⟩:=z3B p;obtain⟨d,A,z⟩:=z8g p;obtain⟨a,u,S,T,x,t,n⟩:=q.ow i _ r;refine⟨.ref a,u,.inl ⟨rfl,x,SqL.of t⟩,?_⟩;obtain⟨v,J,K⟩:=n.get A;refine⟨a,x,v,rfl,rfl,t,by rw[n.len];exact J,?_⟩;have b:=zg0 q r u n.last;exact C _ _ _ G z (b.put b.nw Same.refl' b.g Same.refl' (λj y a W e s=>b.free a ⟨j,y,e,s⟩) K) Same.refl'
def zav (h:isI d Kk):∃k,d = .int k/\Kk k:=by
 cases d with
 | int k=>exact⟨k,rfl,h⟩
 | _=>exact h.elim
def zfa {o:Option Nat}{a:Nat->Prop}(h:onN o a):∃k,o=some k/\a k:=by
 cases o with
 | none=>exact h.elim
 | some k=>exact⟨k,rfl,h⟩
def zjI {k:Expr}(Z:QE X o (tVar i))(W:QX X E k y)(U:QX X E e x)(h:∀{L:TE}{g:TG},QE X e L->QG X (.Subscript o k p2) g->QS X (.Assign [.Subscript o k p2] e pos) (tAsg L g))
  (T:autoParam (∀v,assign (.Subscript o k p2) X.env v=(do
   let n <- holding [v] (eval o X.env)
   let t <- holding [v,n] (eval k X.env)
   standAt p2
   holding [v,n,t] (setItem n t v)
   release [v,n,t] [])) jC1):QZ X E (.Assign [.Subscript o k p2] e pos) (.put i y x):=
 QS.imp (h U ⟨zkC Z.p W.p zef T⟩) <| by
  rintro De σ H ⟨H0,G0,G,M,N0,R0,w,b,s,Y,hR,C⟩;obtain⟨l,A,s⟩:=z3B s;obtain⟨a,K,ga,h0,xs,hw,m⟩:=b.ow i _ A;refine⟨plus G H _,M,_,w,z3A b.g,b.abe,s,λd v N H1 q z R g3 rd =>?_,C.same b.s0⟩;obtain⟨sf,q⟩:=q;refine⟨.ref a,K,?_⟩;refine⟨N,M,_,w,R,b.abe.same z.1,q,λkd kv G2 H2 u I J k3 rk =>?_,C.same (z02 b.s0 g3)⟩;obtain⟨kk,rfl,u⟩:=zav u;obtain⟨F,O,S⟩:=zfa u;have j  := z.trans g3 I;have f  := z02 g3 k3;have lm  := z3k (z02 (z2B b.free) j.1) b.free;refine⟨a,xs,kk,F,rfl,z0I rk,f _ _ hw,by rw[m.len];exact O,?_⟩;obtain⟨r,Q⟩:=b.wrB j J f A K (RDs.set (z3R b J f sf (rd.same I.1)) F (m.same lm));exact Y _ σ _ _ S r Q
end
section
variable {P:Program}{w:World}{K:W.Frag}{mg:WmP}{base:Heap}{N:List Str}{qual:Str}{f:Addr}
def zec {vs:List V}(w:Same G H)(r:RDs K mg G ds vs)(u:ds.length=np)(t:N.length=nn):AbS K mg H G G (ds.map B.s++List.replicate (nn - np) .n) (L2.z4X N vs) H:=by
 have q:∀(i:Nat) b,(ds.map B.s++List.replicate (nn - np) .n)[i]? = some b->(∃d,b = .s d/\ds[i]? = some d)\/b = .n:=λi b e=>by
  by_cases g:i<ds.length
  .rw[wH (by simpa using g),wO] at e;rw[wn g] at e ⊢
   cases e
   exact .inl ⟨_,rfl,rfl⟩
  .rw[wX (by simpa using g)] at e;have:=wt.mp e;obtain⟨p,h⟩:=this;simp at h;exact .inr h.symm
 refine⟨?_,Same.refl',Same.refl',w,λa o e =>.inl ⟨o,e⟩,λi d e =>?_,λi d e =>?_,λi j d l a _ e =>?_⟩
 .unfold L2.z4X;rw[wC,wC,wd,wd,uO,uO,r.len,u,t]
 .rcases q i _ e with ⟨l,f,m⟩ | f
  .cases f
   obtain⟨v,p,h⟩:=r.get m;refine⟨v,?_,h⟩;unfold L2.z4X;have g:i<vs.length:=(wt.mp p).1;rw[wH (by simpa using g),wO,p]
   rfl
  .cases f
 .rcases q i _ e with ⟨l,f,m⟩ | f <;> cases f
 .rcases q i _ e with ⟨l,f,m⟩ | f <;> cases f
def fnN {st:Stmt}{ps:List Str}{k p o:Nat}(F:Fun K x qual st f fd)(S:z5i N ps (z0g st))(I:ps.length=p)(z:N.length=o)
  (C:∀d A a s H E,Room k (A.deeper (envOfC qual (z0g st) s.heap.objs.size f d))->QZs ((cxOf (CXe P w) P w K mg base N qual (z0g st) f d A a s H E).wish λ_ _=>False) E0 (z1Y st) b):
  FnOk P w K mg base (CXe P w) (k+1) f fd ps (spP K mg (Fn.mkN p o b)):=by
 refine F.okN S (λvs H Q E ⟨G,y,i,u,n,rds,⟨l,m⟩,j,J⟩=>by rw[rds.len,l,I]) λd A a s H vs Q E e ⟨G,y,i,u,n,rds,⟨l,m⟩,j,J⟩=>⟨_,C d A _ s H E e,?_⟩
 refine⟨H,G,G,_,λ_=>i _,i,λ_=>False,zec n rds l z,m,λL M t r q h _ =>?_,j,Kx.no⟩;exact j _ _ r t q ⟨h.g0,h.nw⟩ h.g h.s0 (by rw[RD])
end
def Tg.slots:Tg->List Nat
 | .nm i=>[i]
 | .tp is=>is
section
variable {K:W.Frag}{mg:WmP}{G G1 H H1:Hp}{ρ:Pu.Env}{σ:L2.St}
def AbE.put {i:Nat}{d:D}{v:V}(h:AbE K mg G ρ σ)(l:i < σ.length)(r:RD K mg G d v):AbE K mg G (ρ.set i (.s d)) (σ.set i (some v)):=λj e q=>by
 rw[Env.get_eq] at q
 by_cases a:j=i
 .subst a
  cases z:(ρ.set j (.s d))[j]? with
  | none=>simp_all
  | some b=>
   have m  := by
    have:=(wt.mp z).1;simpa using this
   rw[wL m] at q
   cases q
   exact⟨v,by rw[wL l],r⟩
 .rw[wF (vP a), <- Env.get_eq] at q;obtain⟨w,f,g⟩:=h j e q;exact⟨w,by rw[wF (vP a)];exact f,g⟩
def AbE.keep {i:Nat}{v:V}(h:AbE K mg G ρ σ)(f:ρ.get i=none):AbE K mg G ρ (σ.set i (some v)):=λj e q=>by
 have d:j≠i:=λz=>by grind
 obtain⟨w,a,b⟩:=h j e q;exact⟨w,by rw[wF (vP d)];exact a,b⟩
theorem AbE.putAll:∀is ds vs {b:Pu.Env}{a:L2.St},is.length=ds.length->RDs K mg G ds vs->(∀i∈is,i < a.length)->(∀i∈is,base.get i=none)->AbE K mg G b a->AbE K mg G base a->
  AbE K mg G (z0m is ds b) ((is.zip vs).foldl (λa p=>a.set p.1 (some p.2)) a)/\AbE K mg G base ((is.zip vs).foldl (λa p=>a.set p.1 (some p.2)) a)/\((is.zip vs).foldl (λa p=>a.set p.1 (some p.2)) a).length=a.length
 | [],[],vs,b,a,_,h,_,_,e,f=>by exact⟨e,f,rfl⟩
 | [],_::_,_,_,_,h,_,_,_,_,_=>by simp at h
 | _::_,[],_,_,_,h,_,_,_,_,_=>by simp at h
 | i::is,d::ds,vs,b,a,h,r,t,m,e,f=>by
  obtain⟨v,g,rfl,q,s⟩:=r;obtain⟨n,o,u⟩:=AbE.putAll is ds g (by simpa using h) s (λj l=>by simp_all) (λj l=>m j (wo _ l)) (e.put (t i wB) q) (f.keep (m i wB));exact⟨n,o,by simp_all⟩
def zea {v:V}(l:AbE K mg G ρ σ)(g:Same G H)(rd:RD K mg G d v)(p:∀i∈tg.slots,i < σ.length)(o:∀i∈tg.slots,ρ.get i=none)(h:tg.put d ρ N0)
  (q:∀j b,N0 j->AbE K mg G j b->AbE K mg G ρ b->b.length=σ.length->N b H):tgt K tg v σ H N:=by
 cases tg with
 | nm i=>
  have m:=p i (by simp[Tg.slots]);have f:=o i (by simp[Tg.slots]);exact q _ _ h (l.put m rd) (l.keep f) (by simp)
 | tp is=>
  cases d with
  | tup u=>
   obtain⟨e,h⟩:=h;obtain⟨a,n,rfl,m,f⟩:=rd;obtain⟨r,s,t⟩:=AbE.putAll is u n e f p o l l;exact⟨a,n,rfl,z0L g m,by rw[f.len,e],z6g (K:=K) is n σ H N (by rw[f.len,e]) (q _ _ h r s t)⟩
  | _=>exact h.elim
def zbz (h:AbE K mg G ρ σ):AbE K mg G (z1r nt js ρ) (List.replicate nt none++js.map λj=>(σ[j]?).getD none):=λi d e=>by
 rw[Env.get_eq] at e;unfold z1r at e
 by_cases f:i<nt
 .rw[wH (by simpa using f),ju,if_pos f] at e
  cases e
 .rw[wX (by simpa using f),uO,wO] at e;rw[wX (by simpa using f),wO]
  cases q:js[i - nt]? with
  | none=>simp_all
  | some j=>
   rw[q] at e;have a:((ρ[j]?).getD .n).get=some d:=e;have g:ρ.get j=some d:=by
    rw[Env.get_eq]
    cases z:ρ[j]? with
    | none=>rw[z] at a;cases a
    | some b=>rw[z] at a;exact a
   obtain⟨v,l,m⟩:=h j d g
   simp_all
def z8T (a:i<nt):(z1r nt js ρ).get i=none:=by
 rw[Env.get_eq];unfold z1r;rw[wH (by simpa using a),ju,if_pos a]
 rfl
def TcOk (K:W.Frag)(mg:WmP)(c:Option Ex)(a:TT):Prop:=match c with
 | none=>a=z5R
 | some c=>a=tt K mg E0 c
def zfo {c:Option Ex}(M:∀i∈tg.slots,i<nt)(ab:AbE K mg G ρ σ)(g:Same G H)(hw:Walk K mg G l J)(hsz:l.length<sizeLine)
  (hr:z4R (z5f tg c elt (z1r nt js ρ)) l Q0)
  (L:TcOk K mg c tc)
  (hk:∀a ys p z t,Q0 a->Gr G H z->Same z t->Same H t->RDs K mg z a ys->t p=none->Q (.ref p) (upd t p (.lst ys))):
  LcG J (tgt K tg) tc (tx K mg E0 elt) Q (List.replicate nt none++js.map λj=>(σ[j]?).getD none) H:=by
 refine⟨λi m ys S H'=>m=l.length - i/\i<=l.length/\ys.length<=i/\S.length=nt+js.length/\∃f a,Gr G H f/\Same f H'/\Same H H'/\RDs K mg f a ys/\AbE K mg f (z1r nt js ρ) S/\z4R (z5f tg c elt (z1r nt js ρ)) (l.drop i) λr=>Q0 (a++r),
  ⟨l.length,by simp,vH _,by simp,by simp,G,[],Gr.refl,g,Same.refl',RDs.nil,zbz ab,by simpa using hr⟩,?_⟩
 rintro i m ys a2 H1 ⟨rfl,hi,a1,u,G1,a,T,g2,g3,rds,Z,U⟩;refine⟨by lia,?_⟩;obtain⟨w1,w2⟩:=hw i G1 H1 T.1 g2
 by_cases n:i<l.length
 .have e:l[i]? = some l[i]:=by simp[n]
  obtain⟨go,yl⟩:=w1 _ e;rw[uK n] at U;have h:z5f tg c elt (z1r nt js ρ) l[i] (λo=>z4R (z5f tg c elt (z1r nt js ρ)) (l.drop (i+1)) λr=>Q0 (a++(o.toList++r))):=U;unfold z5f at h;refine .inr ⟨go,λv t y =>?_⟩;obtain⟨X,z,N,k2,rd⟩:=yl v t y;refine zea (Z.same N.1) k2 rd (λj hj=>by rw[u];have:=M j hj;lia) (λj hj=>z8T (M j hj)) h λw x hb E F I =>?_;have el:∀{A C:Hp},Gr z t A->Same A C->Same t C->(elt.run w (λd=>z4R (z5f tg c elt (z1r nt js ρ)) (l.drop (i+1)) λr=>Q0 (a++((some d).toList++r))) λ_=>False)->
    tx K mg E0 elt x C λy Y=>∃m',m'<l.length - i/\m'=l.length - (i+1)/\i+1<=l.length/\(ys++[y]).length<=i+1/\x.length=nt+js.length/\∃f R,Gr G H f/\Same f Y/\Same H Y/\RDs K mg f R (ys++[y])/\AbE K mg f (z1r nt js ρ) x/\z4R (z5f tg c elt (z1r nt js ρ)) (l.drop (i+1)) λr=>Q0 (R++r):=λ{A C} s W O he=>by
   refine⟨A,w,_,λ_=>False,W,E.same s.1,he,λd v' G4 Y q n1 n2 n3 a0 =>?_,Kx.no⟩;refine⟨l.length - (i+1),by lia,rfl,n,by simp;lia,by rw[I,u],G4,a++[d],T.trans g3 (N.trans X (s.trans O n1)),n2,z02 g3 (z02 X (z02 O n3)),((rds.same (z02 N.1 (z02 s.1 n1.1))).app (RDs.cons a0 RDs.nil)),F.same (z02 s.1 n1.1),?_⟩;refine z41 z5e _ _ _ (λr q =>?_) q;simpa using q
  cases c with
  | none=>
   have:tc=z5R:=L;subst this;unfold z5R;dsimp only;rw[if_pos rfl];exact el Gr.refl k2 Same.refl' hb
  | some c=>
   have:tc=tt K mg E0 c:=L;subst this;refine⟨z,w,_,λ_=>False,k2,E,hb,λd A C q s W O =>?_,Kx.no⟩;obtain⟨b,rfl,q1,q2⟩:=z5N q;refine⟨b,rfl,?_⟩
   cases b with
   | true=>exact iteT (el s W O (q1 rfl))
   | false=>
    refine iteF ⟨l.length - (i+1),by lia,rfl,n,by lia,by rw[I,u],A,a,T.trans g3 (N.trans X s),W,z02 g3 (z02 X O),rds.same (z02 N.1 s.1),F.same s.1,?_⟩;refine z41 z5e _ _ _ (λr q =>?_) (q2 rfl);simpa using q
 .have e:i=l.length:=by lia
  subst e;rw[List.drop_length] at U;refine .inl ⟨w2 (wu _),λp hp=>hk a ys p G1 H1 ?_ T g2 g3 rds hp⟩;have h:Q0 (a++[]):=U;simpa using h
def zbQ {c:Option Ex}(e:∀i∈tg.slots,i<nt)(b:TcOk K mg c tc)(h:tf K mg E (.comp nt js tg src c elt) σ H Q):tLcG (ti K mg E src) (tgt K tg) tc (tx K mg E0 elt) nt js σ H Q:=by
 obtain⟨G,R,U,u,I,g,F,y,M⟩:=h;refine⟨G,R,_,u,I,g,F,λd q=>(zaj q).imp λ_ z=>z.1,λd S T q j x g3 l J w L =>?_,M⟩;have f  := q;rw[w] at f;refine zfo e (g.same j.1) x L f.1 f.2 b λW O p r t C N n o rds a =>?_;have m:∀{A:Hp},Same A t->A p=none:=λs=>z1c s a;refine y _ p r _ C (j.trans g3 N) (z02 n (z0o a _)) (z02 g3 (z02 o (z0o a _))) (m (z02 g3 o)) (m n) ⟨O,z0c,rds⟩
end
section
variable {X:Cx}{E:XK}{elt iter target:Expr}{ct:Option Expr}{pos spos py:Pos}{scope:Scope}{N':List Str}{nt:Nat}{js:List Nat}{tg:Tg}{src x:Ex}{c:Option Ex}{y:Str}{iy:Nat}
def CtOk (X:Cx)(a:Scope)(b:List Str)(ct:Option Expr)(c:Option Ex):Prop:=match ct,c with
 | none,none=>True
 | some e,some x=>∀C s H d,QXT (X.compG a b C s H d) E0 e x
 | _,_=>False
def CtQ (X:Cx)(a:Scope)(d:List Str)(ct:Option Expr)(b:TT):Prop:=match ct with
      | none=>b=z5R
      | some c=>∀C s H e,QT (X.compG a d C s H e) c b
def zaL (h:CtOk X scope N' ct c):∃tc,CtQ X scope N' ct tc/\TcOk X.K X.mg c tc:=by
 cases ct with
 | none=>
  cases c with
  | none=>exact⟨z5R,rfl,rfl⟩
  | some c=>exact h.elim
 | some e=>
  cases c with
  | none=>exact h.elim
  | some c=>exact⟨tt X.K _ E0 c,h,rfl⟩
def zcp (j:X.calm=true)(b:QXI X E target iter src)(n:scope.kind = .function)(e:z4h X N' nt js scope)(d:tg.slots.all (· < nt)=true)
  (m:∀C s H a,QG (X.compG scope N' C s H a) target (tgt X.K tg)) (p:CtOk X scope N' ct c)
  (l:∀C s H a,QX (X.compG scope N' C s H a) E0 elt x) (o:autoParam (fI iter X) jC1):QF X E (.ListComp elt [⟨target,iter,ct.toList,0⟩] scope pos) (.comp nt js tg src c x):=by
 obtain⟨q,f,g⟩:=zaL p;exact QE.imp (zkl j b n e m f l o) λr H Q h=>zbQ (λi b=>uw (jU.mp d i b)) g h
def zco (n:X.N.Nodup)(d:X.N[iy]? = some y)(e:X.env.scope.names.lookup y=some .local)(o:X.calm=true)(b:QXI X E target iter src)(r:scope.kind = .function)(j:z4h X N' nt js scope)(g:tg.slots.all (· < nt)=true)
  (q:∀C s H a,QG (X.compG scope N' C s H a) target (tgt X.K tg)) (u:CtOk X scope N' ct c)
  (p:∀C s H a,QX (X.compG scope N' C s H a) E0 elt x) (f:autoParam (swapsWith (.ListComp elt [⟨target,iter,ct.toList,0⟩] scope pos) (some (.Name y py)) spos.line X.env=pure true) jA1) (t:autoParam (fI iter X) jC1):
  QS X (.Assign [.Name y py] (.ListComp elt [⟨target,iter,ct.toList,0⟩] scope pos) spos) (tAsg (tf X.K X.mg E (.comp nt js tg src c x)) (z30 iy)):=by
 obtain⟨w,l,m⟩:=zaL u;exact QS.imp (zk8 n d e o b r j q l p f t) λD z H h=>zbQ (λi b=>uw (jU.mp g i b)) m h
def zeb {K:W.Frag}{mg:WmP}{a:L2.St}{H:Hp}{Q:VK}(h:tx K mg E x a H Q):tf K mg E x a H Q:=by
 obtain⟨G,l,b,d,i,e,g,f,j⟩:=h;exact⟨G,l,b,d,i,e,g,f.kf,j⟩
def QS.sh {st:Stmt}(h:QS X st (tAsg (tf X.K X.mg E x) (z30 iy))):QS X st (tAsg (tx X.K X.mg E x) (z30 iy)):=QS.imp h λD a H h=>zeb h
def zkc {a:Pos}(b:X.N.Nodup)(d:X.N[i]? = some z)(e:X.env.scope.names.lookup z=some .local):QG X (.Name z a) (tgt X.K (.nm i)):=zkd b d e
def pTup:Fn:=⟨λa Q _=>a.length<=sizeLine/\Q (.tup a),λa Q b X d m _ q=>⟨q.1,m _ q.2⟩⟩
def pLst:Fn:=⟨λa Q _=>a.length<=sizeLine/\Q (.lst a),λa Q b X d m _ q=>⟨q.1,m _ q.2⟩⟩
def zjP {m}(h:QXA X E es xs):QX X E (.Tuple es m pos) (.op pTup xs):=QE.imp (⟨zkD h.p⟩) <| by
 rintro u H Q ⟨G,n,s,d,j,e,i,g,l⟩;refine⟨G,n,_,d,j,e,i,λt vs o r q f a g3 rds=>⟨by rw[rds.len];exact q.1,λp b =>?_⟩,l⟩;refine(g.same f g3).new a b q.2 ?_;exact⟨p,vs,rfl,SqT.of z0c,rds.same (z0o (z1c a b) _)⟩
def zke (h:QXA X E es xs):QF X E (.List es pos) (.op pLst xs):=QE.imp (zkk h) <| by
 rintro t H Q ⟨G,n,r,e,l,f,j,i,m⟩;refine⟨G,n,_,e,l,f,j,λs vs d o q g b g3 rds=>⟨by rw[rds.len];exact q.1,λp a =>?_⟩,m⟩;exact i _ p d _ q.2 g (z02 b (z0o a _)) (z02 g3 (z0o a _)) (z1c g3 a) (z1c b a) ⟨vs,z0c,rds⟩
end
def fn2 (g:D->D->DK->Prop)(m:∀a b Q Q',(∀d,Q d->Q' d)->g a b Q->g a b Q'):Fn:=⟨λe Q _=>match e with
 | [a,b]=>g a b Q
 | _=>False,λe Q Q' X h f _ q=>by
 match e,q with
 | [a,b],q=>exact m a b Q Q' f q
 | [],q=>exact q.elim
 | [_],q=>exact q.elim
 | _::_::_::_,q=>exact q.elim⟩
def fn1 (g:D->DK->Prop)(m:∀a Q Q',(∀d,Q d->Q' d)->g a Q->g a Q'):Fn:=⟨λb Q _=>match b with
 | [a]=>g a Q
 | _=>False,λb Q Q' X f e _ q=>by
 match b,q with
 | [a],q=>exact m a Q Q' e q
 | [],q=>exact q.elim
 | _::_::_,q=>exact q.elim⟩
def zag (m:∀d,Q d->Q' d)(h:onV o Q):onV o Q':=by
 cases o with
 | none=>exact h
 | some d=>exact m _ h
def zaf (h:onV o Q):∃d,o=some d/\Q d:=by
 cases o with
 | none=>exact h.elim
 | some d=>exact⟨d,rfl,h⟩
def gAdd (a b:D)(Q:DK):Prop:=match a,b with
 | .int i,.int j=>Q (.int (i+j))
 | .str x,.str y=>x.length+y.length<=sizeLine/\Q (.str (x++y))
 | .lst l,.lst m=>l.length+m.length<=sizeLine/\Q (.lst (l++m))
 | .tup l,.tup m=>l.length+m.length<=sizeLine/\Q (.tup (l++m))
 | _,_=>False
def zdr (a b:D)(Q Q':DK)(m:∀d,Q d->Q' d)(h:gAdd a b Q):gAdd a b Q':=by
 unfold gAdd at h ⊢
 split at h
 .exact m _ h
 .simp_all
 .simp_all
 .simp_all
 omega
def pAdd:Fn:=fn2 gAdd zdr
def gI (g:Int->Int->DK->Prop)(a b:D)(Q:DK):Prop:=match a,b with
 | .int i,.int j=>g i j Q
 | _,_=>False
def ziy (e:∀i j Q Q',(∀d,Q d->Q' d)->g i j Q->g i j Q')(a b:D)(Q Q':DK)(m:∀d,Q d->Q' d)(h:gI g a b Q):gI g a b Q':=by
 unfold gI at h ⊢
 split at h
 .exact e _ _ _ _ m h
 omega
def fnI (g:Int->Int->DK->Prop)(a:∀i j Q Q',(∀d,Q d->Q' d)->g i j Q->g i j Q'):Fn:=fn2 (gI g) (ziy a)
def pSub:Fn:=fnI (λi j Q=>Q (.int (i - j))) λ_ _ _ _ m h=>m _ h
def z23:Fn:=fnI (λi j Q=>zmh i j/\Q (.int (i.fdiv j))) λ_ _ _ _ m h=>⟨h.1,m _ h.2⟩
def pMod:Fn:=fnI (λi j Q=>j≠0/\Q (.int (i.fmod j))) λ_ _ _ _ m h=>⟨h.1,m _ h.2⟩
def pPow:Fn:=fnI (λi j Q=>CPow i j/\Q (.int (i ^ j.toNat))) λ_ _ _ _ m h=>⟨h.1,m _ h.2⟩
def gNeg (a:D)(Q:DK):Prop:=match a with
 | .int i=>Q (.int (-i))
 | _=>False
def pNeg:Fn:=fn1 gNeg λa Q b m h=>by
 unfold gNeg at h ⊢
 split at h
 .exact m _ h
 .exact h.elim
section
variable {X:Cx}{K:W.Frag}{mg:WmP}
def r2 (K:W.Frag)(mg:WmP)(F:Fn):R2:=λf g H Q=>∃G b d a e,Same G H/\RD K mg G b f/\RD K mg G d g/\F.run [b,d] a e/\Kt K mg G H a Q
def r1 (K:W.Frag)(mg:WmP)(F:Fn):V->Hp->VK->Prop:=λv H Q=>∃G d a b,Same G H/\RD K mg G d v/\F.run [d] a b/\Kt K mg G H a Q
def rN (K:W.Frag)(mg:WmP)(F:Fn):List V->Hp->VK->Prop:=λvs H Q=>∃G b a d,Same G H/\RDs K mg G b vs/\F.run b a d/\Kt K mg G H a Q
def lk2:Lk2 K mg F (r2 K mg F):=λG H h i j l f g Q a b c d e=>⟨G,h,i,f,g,a,b,c,d,e⟩
def lk1:Lk1 K mg F (r1 K mg F):=λG H d v e f Q a b c d=>⟨G,_,e,f,a,b,c,d⟩
def lkN:LkN K mg F (rN K mg F):=λG H d v e f Q a b c d=>⟨G,_,e,f,a,b,c,d⟩
def zfQ {E:WvP}{s:Shared}{t b:Addr}{ws:List Value}{Q:WvP}(x:IsTup s.heap t ([]).toArray)(q:IsTup s.heap b ws.toArray)(h:Q (.ref b) s):wpAny (model prog w) A (binaryOp .Add (.ref t) (.ref b)) Q E s:=by
 obtain⟨⟨o,p,l,sl⟩,m,r,n,u⟩:=id x;obtain⟨⟨j,e,d,i⟩,a,f,y,g⟩:=id q;subst r u f g;exact concat_meets ⟨_,m,rfl⟩ ⟨_,a,rfl⟩ noFill_tuple_add seq_tuple_add PySem.F.slot_tuple_add PySem.F.entry_tuple_add (PySem.F.args_tuple_add_2 _ _)
   (tuple_addW0 t b _ _ n y p e sl i (by simp)) ⟨m,a,h⟩
def zf9:OpR X (binaryOp .Add) (λx y H Q=>∃a b ys,x = .ref a/\y = .ref b/\SqT X.K H a []/\SqT X.K H b ys/\Q (.ref b) H):=by
 intro e s o H x y v u Q I m n h;obtain⟨a,b,ys,rfl,rfl,f,g,q⟩:=h
 cases m
 cases n
 obtain⟨i,r1,j,_⟩:=I.tuple f;obtain⟨d,r2,l,_⟩:=I.tuple g
 cases r1
 exact zfQ j l ⟨.ref b,H,I,rfl,q⟩
def zmC (K:W.Frag):R2:=λx y H Q=>∃l b a d,x = .ref l/\y = .ref b/\SqL K H l a/\SqL K H b d/\a.length+d.length<=sizeLine/\∀p,H p=none->Q (.ref p) (upd H p (.lst (a++d)))
def zi3:OpR X (binaryOp .Add) (zmC X.K):=by
 intro w s σ H x y v u Q I N O h;obtain⟨l,b,U,Z,rfl,rfl,G,E,R,q⟩:=h
 cases N
 cases O
 obtain⟨d,r,⟨⟨z,A,p,sl⟩,n,e,J,_,L⟩,W⟩:=I.list G;obtain⟨a,r2,⟨⟨o,g,f,m⟩,M,t,i,_,j⟩,Y⟩:=I.list E;subst J L i j;have S:=r.length;have T:=r2.length;have C:d.toArray++a.toArray=(d++a).toArray:=by simp
 refine concat_meets ⟨_,e,rfl⟩ ⟨_,t,rfl⟩ noFill_list_add seq_list_add PySem.F.slot_list_add PySem.F.entry_list_add (PySem.F.args_list_add_2 _ _) (list_addW l b _ _ n M A g sl m (by grind)) ⟨e,t,?_⟩;rw[C];exact⟨.ref _,_,I.lnew (r.append r2) (by simp_all),rfl,q _ I.fresh⟩
def z1I {G:Hp}{l:List D}{v:V}(h:RD K mg G (.tup l) v):∃a xs,v = .ref a/\SqT K G a xs/\RDs K mg G l xs:=by exact h
def z1V {G:Hp}{l:List D}{v:V}(h:RD K mg G (.lst l) v):∃a xs,v = .ref a/\SqL K G a xs/\RDs K mg G l xs:=by exact h
def z3s {v:V}(h:RD K mg G (.str x) v):v = .str x:=by exact h
def z7k {v:V}(h:RD K mg G (.bl x) v):v = .bl x:=by exact h
def z6T {v:V}(h:RD K mg G .non v):v = .non:=by exact h
def RD.newT (r:RDs K mg G l xs)(g:Same G H)(a:H p=none):RD K mg (upd G p (.tup xs)) (.tup l) (.ref p):=by
 exact⟨p,xs,rfl,SqT.of z0c,r.same (z0o (z1c g a) _)⟩
def RD.newL (r:RDs K mg G l xs)(g:Same G H)(a:H p=none):RD K mg (upd G p (.lst xs)) (.lst l) (.ref p):=by
 exact⟨p,xs,rfl,SqL.of z0c,r.same (z0o (z1c g a) _)⟩
def RD.ofT (h:SqT K G a xs)(r:RDs K mg G l xs):RD K mg G (.tup l) (.ref a):=by exact⟨a,xs,rfl,h,r⟩
def RD.ofL (h:SqL K G a xs)(r:RDs K mg G l xs):RD K mg G (.lst l) (.ref a):=by exact⟨a,xs,rfl,h,r⟩
def RD.int' {G:Hp}{i:Int}:RD K mg G (.int i) (.int i):=by rw[RD]
def RD.bl' {G:Hp}{i:Bool}:RD K mg G (.bl i) (.bl i):=by rw[RD]
def RD.str':RD K mg G (.str i) (.str i):=by rw[RD]
def RDs.ne_nil (r:RDs K mg G l xs):xs=[]↔l=[]:=by
 have:=r.len
 constructor
 .rintro rfl;exact uA.mp this.symm
 .rintro rfl;simp_all
def zld:OpR X (binaryOp .Add) (r2 X.K X.mg pAdd):=by
 rintro f s n H x y v u Q I j l ⟨G,A,C,Q0,F,g,o,q,E,h⟩;have d:gAdd A C Q0:=E;unfold gAdd at d
 split at d
 .exact zl5 f s n H x y v u Q I j l ⟨_,_,z0I o,z0I q,h.now g d RD.int'⟩
 .exact zbb f s n H x y v u Q I j l ⟨_,_,z3s o,z3s q,d.1,h.now g d.2 RD.str'⟩
 .obtain⟨a,t,rfl,r,r1⟩:=z1V o;obtain⟨b,w,rfl,m,r2⟩:=z1V q;exact zi3 f s n H _ _ v u Q I j l ⟨a,b,t,w,rfl,rfl,z1l g r,z1l g m,by rw[r1.len,r2.len];exact d.1,λp i=>h.new g i d.2 (RD.newL (r1.app r2) g i)⟩
 .obtain⟨a,t,rfl,r,r1⟩:=z1I o;obtain⟨b,w,rfl,m,r2⟩:=z1I q
  by_cases z:t=[]
  .subst z;have e:=r1.ne_nil.mp rfl;subst e;exact zf9 f s n H _ _ v u Q I j l ⟨a,b,w,rfl,rfl,z0L g r,z0L g m,h.now g d.2 (RD.ofT m r2)⟩
  .refine zi2 f s n H _ _ v u Q I j l ⟨a,b,t,w,rfl,rfl,z0L g r,z0L g m,z,by rw[r1.len,r2.len];exact d.1,λe =>?_,λe p i=>h.new g i d.2 (RD.newT (r1.app r2) g i)⟩;have e:=r2.ne_nil.mp e;refine h.now g d.2 ?_
   simp_all
 .exact d.elim
def z6h (h:gI g a b Q):∃i j,a = .int i/\b = .int j/\g i j Q:=by
 unfold gI at h
 split at h
 .exact⟨_,_,rfl,rfl,h⟩
 .exact h.elim
def zff {f:Value->Value->Sem Value}{C:Int->Int->Prop}{a:Int->Int->Int}{n}(h:OpR X f (rI C λi j =>.int (a i j))):OpR X f (r2 X.K X.mg (fnI (λi j Q=>C i j/\Q (.int (a i j))) n)):=h.imp <| by
 rintro x y H Q ⟨G,d,e,b,r,g,l,m,p,o⟩;obtain⟨i,j,rfl,rfl,c,q⟩:=z6h (show gI (λi j Q=>C i j/\Q _) d e b from p);exact⟨i,j,z0I l,z0I m,c,o.now g q RD.int'⟩
def zl9:OpR X (binaryOp .Sub) (r2 X.K X.mg pSub):=zkY.imp <| by
 rintro x y H Q ⟨G,b,d,a,m,g,e,f,l,h⟩;obtain⟨i,j,rfl,rfl,q⟩:=z6h (show gI (λi j Q=>Q _) b d a from l);exact⟨i,j,z0I e,z0I f,h.now g q RD.int'⟩
def zi5:OpR X (binaryOp .FloorDiv) (r2 X.K X.mg z23):=zff zf8
def zlc:OpR X (binaryOp .Mod) (r2 X.K X.mg pMod):=zff zi1
def zla:OpR X (binaryOp .Pow) (r2 X.K X.mg pPow):=zff zkZ
def zkX:UnR X (unaryOp .USub) (r1 X.K X.mg pNeg):=by
 rintro b s j H x v Q I i ⟨G,d,Q0,l,g,e,h,f⟩;have a:gNeg d Q0:=h;unfold gNeg at a
 split at a
 .exact ziX _ s j H x v Q I i ⟨_,z0I e,f.now g a RD.int'⟩
 .exact a.elim
def z0b:Fn:=fnI (λi j Q=>ziR i j/\Q (.int (i*j))) λ_ _ _ _ m h=>⟨h.1,m _ h.2⟩
def zlb:OpR X (binaryOp .Mult) (r2 X.K X.mg z0b):=zff zi0
end
end Pu
namespace HT
open PySem PyProof.Rows
section
open PySem.SeqAt
open PySem.AutoSeq1 (wpAny_loadPart')
open PySem.MeetsSeq PySem.MeetsSeq2 PySem.MeetsSeq3
def zev (A:Around)(s:Shared)(a:Int)(t:Tok)(c:Int)(u:Tok)(prog:Program)(w:World)(E:WvP)(Q:WvP)(h:Q (.bool (decide (c<a))) s):
  wpAny (model prog w) A (richCompare .Gt (.int a t) (.int c u)) Q E s:=
 (PyProof.Rows.gt_int h)
def z78 (l b:Addr)(z04 f:Array Value)(n n2:Nat)(dd Q:Option Addr)(sl W:Array (Option Value))(ns L:List Int)(X:IntsAre z04.toList ns)(Y:IntsAre f.toList L):
  Meets (Builtin.«tuple.__gt__» ⟨[.ref l,.ref b],[]⟩)
   (λ_ R s=>s.heap.get? l=some { cls :=.type "tuple",dict:=dd,data :=.seq z04 n,slots:=sl }/\s.heap.get? b=some { cls :=.type "tuple",dict:=Q,data :=.seq f n2,slots:=W }/\
    R (.ok (.ret (.bool (z0H L ns)))) s):=
 .of_wp λC w A R s h=>by
  obtain⟨K,g,d,N,M⟩:=s;obtain⟨hl,hb,h⟩:=h;have f2:=AutoSeq1.sub_tuple_tuple;have z1:z04.size=ns.length:=by rw[<- X.length];simp
  have z2:f.size=L.length:=by rw[<- Y.length];simp
  wp_walk using jn hl,jn hb,jA _ (λE b U=>Aa3 (b.1=none) (U=⟨K,g,d,N,M⟩) (∃(vs O:List Value) (m j:List Int),E=vs.zip O/\
   IntsAre vs m/\IntsAre O j/\m.length+f.size=j.length+z04.size/\R (.ok (.ret (.bool (z0H j m)))) ⟨K,g,d,N,M⟩)) _
  case turn=>
   rintro⟨y,x⟩ E b U ⟨F,rfl,vs,O,m,j,p,H,o,i,r⟩
   cases H with
   | nil=>rw[List.zip_nil_left] at p;cases p
   | cons a t I=>
    cases o with
    | nil=>rw[List.zip_nil_right] at p;cases p
    | cons c u J=>
     rw[uy] at p
     injection p with T G
     injection T with hy hx
     subst hy hx;rw[z13] at r;simp only[wU] at i;obtain⟨e,he,z⟩:=zaF A.in1 ⟨K,g,d,N,M⟩ a t c u;refine wc (he C w _ _ ?_)
     cases e with
     | true=>
      rw[if_pos (z.mp rfl).symm] at r
      wp_walk
      exact⟨rfl,rfl,_,_,_,_,G,I,J,by omega,r⟩
     | false=>
      rw[if_neg (λq=>absurd (z.mpr (Eq.symm q)) vd)] at r;have S:=zev A.in1 ⟨K,g,d,N,M⟩ a t c u C w
      wp_walk using S
      exact⟨_,rfl,by simpa using r⟩
  case fin=>
   rintro⟨b1,b2⟩ U ⟨F,rfl,vs,O,m,j,p,H,o,i,r⟩;simp only at F;subst F;have Z:z0H j m=decide (f.size<z04.size):=by
    cases H with
    | nil=>
     cases o with
     | nil=>
      simp only[uc] at i;rw[z3j];exact(vB (by omega)).symm
     | cons c u hw=>
      simp only[uc,wU] at i;rw[z47];exact(vB (by omega)).symm
    | cons a t Z=>
     cases o with
     | nil=>
      simp only[uc,wU] at i;rw[z46];exact(v4 (by omega)).symm
     | cons c u hw=>
      rw[uy] at p
      cases p
   rw[Z] at r
   wp_walk
   exact⟨_,rfl,by simpa[Builtin.Tuple.tupleCompareSizes] using r⟩
  case h=>
   exact⟨rfl,rfl,z04.toList,f.toList,ns,L,rfl,X,Y,by omega,h⟩
end
section
variable {prog:Program}{w:World}{A:Around}{E:WvP}{s:Shared}
def z70 {z04 a:Array Value}(G:IsTup s.heap l z04)(t:IsTup s.heap b a)(z:IntsAre z04.toList ns)(C:IntsAre a.toList ms)
  (H:A.units<cLine) (h:Q (.bool (z0H ms ns)) s):wpAny (model prog w) A (compareOp .Gt (.ref l) (.ref b)) Q E s:=by
 obtain⟨⟨q,r,o,sl⟩,p,u,n,y⟩:=id G;obtain⟨⟨m,f,e,j⟩,d,g,I,i⟩:=id t;subst u y g i;exact richCompare_meets_room (op :=.Gt) ⟨_,p,rfl⟩ ⟨_,d,rfl⟩ PySem.F.slot_tuple_gt PySem.F.entry_tuple_gt (PySem.F.args_tuple_gt_2 _ _) (z78 l b _ _ n I r f sl j ns ms z C)
  ⟨p,d,⟨(λx=>nomatch x),h⟩⟩ H
end
end HT
namespace Pu
open PySem PySem.Spec PyProof.Rows L2
noncomputable def ints? : List D->Option (List Int)
 | []=>some []
 | .int i::r=>match ints? r with
  | some l=>some (i::l)
  | none=>none
 | _::_=>none
theorem z3H:∀{l:List D}{ns:List Int},ints? l=some ns->l=ns.map D.int
 | [],ns,h=>by
  have  := by simpa[ints?] using h.symm
  subst this;rfl
 | .int i::r,ns,h=>by
  unfold ints? at h
  cases q:ints? r with
  | none=>simp_all
  | some l=>
   rw[q] at h
   cases h
   rw[z3H q];rfl
 | .non::_,_,h=>by simp[ints?] at h
 | .bl _::_,_,h=>by simp[ints?] at h
 | .str _::_,_,h=>by simp[ints?] at h
 | .tup _::_,_,h=>by simp[ints?] at h
 | .lst _::_,_,h=>by simp[ints?] at h
 | .dct _ _::_,_,h=>by simp[ints?] at h
 | .fn _::_,_,h=>by simp[ints?] at h
 | .exc _::_,_,h=>by simp[ints?] at h
 | .ptr _::_,_,h=>by simp[ints?] at h
 | .fz _ _::_,_,h=>by simp[ints?] at h
 | .ins _ _ _::_,_,h=>by simp[ints?] at h
def zax (ns:List Int):ints? (ns.map D.int)=some ns:=by
 induction ns with
 | nil=>rfl
 | cons n ns a=>rw[wA,ints?, a]
def onI (o:Option (List Int))(Q:List Int->Prop):Prop:=match o with
 | some l=>Q l
 | none=>False
def z5E (m:∀d,Q d->Q' d)(h:onI o Q):onI o Q':=by
 cases o with
 | none=>exact h
 | some d=>exact m _ h
def z5D (h:onI o Q):∃d,o=some d/\Q d:=by
 cases o with
 | none=>exact h.elim
 | some d=>exact⟨d,rfl,h⟩
def gCmp (f:Int->Int->Bool)(t:List Int->List Int->Bool)(a b:D)(Q:DK):Prop:=match a,b with
 | .int i,.int j=>Q (.bl (f i j))
 | .tup l,.tup m=>onI (ints? l) λe=>onI (ints? m) λd=>Q (.bl (t e d))
 | _,_=>False
def z8H {t:List Int->List Int->Bool}(a b:D)(Q Q':DK)(m:∀d,Q d->Q' d)(h:gCmp f t a b Q):gCmp f t a b Q':=by
 unfold gCmp at h ⊢
 split at h
 .exact m _ h
 .exact z5E (λ_ h=>z5E (λ_ h=>m _ h) h) h
 grind
def pLt:Fn:=fn2 (gCmp (λi j=>decide (i<j)) λb a=>HT.z0H b a) z8H
def pGt:Fn:=fn2 (gCmp (λi j=>decide (j<i)) λb a=>HT.z0H a b) z8H
def pLe:Fn:=fnI (λi j Q=>Q (.bl (decide (i<=j)))) λ_ _ _ _ m h=>m _ h
section
variable {X:Cx}{K:W.Frag}{mg:WmP}
theorem z3V:∀(ns:List Int) {xs:List V},RDs K mg G (ns.map D.int) xs->xs=ns.map V.int
 | [],xs,h=>by subst h;rfl
 | n::ns,xs,h=>by
  obtain⟨x,r,rfl,a,b⟩:=h;rw[z0I a,z3V ns b];rfl
theorem z5G:∀(ns:List Int),RDs K mg G (ns.map D.int) (ns.map V.int)
 | []=>RDs.nil
 | n::ns=>RDs.cons RD.int' (z5G ns)
def zl8 {op:CmpOp}{t:List Int->List Int->Bool}{J}(F:OpR X (compareOp op) (rI0 λi j =>.bl (f i j)))(M:OpR X (compareOp op) (λx y H Q=>∃a b ns e,x = .ref a/\y = .ref b/\SqT X.K H a (ns.map V.int)/\SqT X.K H b (e.map V.int)/\Q (.bl (t ns e)) H)):
  OpR X (compareOp op) (r2 X.K X.mg (fn2 (gCmp f t) J)):=by
 rintro n s w H x y v u Q I o p ⟨G,z,A,Q0,N,g,h,l,L,m⟩;have d:gCmp f t z A Q0:=L;unfold gCmp at d
 split at d
 .exact F _ s w H x y v u Q I o p ⟨_,_,z0I h,z0I l,m.now g d RD.bl'⟩
 .obtain⟨ns,C,d⟩:=z5D d;obtain⟨e,E,d⟩:=z5D d;obtain⟨a,O,rfl,q,r1⟩:=z1I h;obtain⟨b,R,rfl,r,r2⟩:=z1I l;rw[z3H C] at r1;rw[z3H E] at r2;rw[z3V ns r1] at q;rw[z3V e r2] at r;exact M _ s w H _ _ v u Q I o p ⟨a,b,ns,e,rfl,rfl,z0L g q,z0L g r,m.now g d RD.bl'⟩
 .exact d.elim
def znc (a:X.A.units+64<cLine):OpR X (compareOp .Lt) (r2 X.K X.mg pLt):=zl8 zn6 (zl1 (by omega))
def zl3 (j:X.A.units<cLine):OpR X (compareOp .Gt) (λx y H Q=>∃a b ns d,x = .ref a/\y = .ref b/\SqT X.K H a (ns.map V.int)/\SqT X.K H b (d.map V.int)/\Q (.bl (HT.z0H d ns)) H):=by
 intro f s r H x y v u Q I o p h;obtain⟨a,b,ns,d,rfl,rfl,g,i,q⟩:=h
 cases o
 cases p
 obtain⟨l,r1,m,_⟩:=I.tuple g;obtain⟨e,r2,n,_⟩:=I.tuple i;exact HT.z70 m n (z3Y r1) (z3Y r2) j ⟨.bl _,H,I,rfl,q⟩
def zng (a:X.A.units+64<cLine):OpR X (compareOp .Gt) (r2 X.K X.mg pGt):=zl8 zn8 (zl3 (by omega))
def znd (_:X.A.units+64<cLine):OpR X (compareOp .LtE) (r2 X.K X.mg pLe):=zn7.imp <| by
 rintro x y H Q ⟨G,b,d,a,m,g,e,f,l,h⟩;obtain⟨i,j,rfl,rfl,q⟩:=z6h (show gI (λi j Q=>Q _) b d a from l);exact⟨i,j,z0I e,z0I f,h.now g q RD.bl'⟩
def pGeI:Fn:=fnI (λi j Q=>Q (.bl (decide (j<=i)))) λ_ _ _ _ m h=>m _ h
def znh:OpR X (compareOp .GtE) (r2 X.K X.mg pGeI):=zn9.imp <| by
 rintro x y H Q ⟨G,b,d,a,m,g,e,f,l,h⟩;obtain⟨i,j,rfl,rfl,q⟩:=z6h (show gI (λi j Q=>Q _) b d a from l);exact⟨i,j,z0I e,z0I f,h.now g q RD.bl'⟩
end
mutual
def py:D->PyData
 | .non =>.none
 | .bl b =>.bool b
 | .int i =>.int i
 | .str x =>.str x
 | .tup l =>.tuple (pys l)
 | .lst l =>.list (pys l)
 | _ =>.none
def pys:List D->List PyData
 | []=>[]
 | d::a=>py d::pys a
end
def Da:Nat->D->Prop
 | _,.non=>True
 | _,.bl _=>True
 | _,.int _=>True
 | _,.str x=>PyData.strOk x=true
 | 0,.tup _=>False
 | n+1,.tup l=>∀d∈l,Da n d
 | 0,.lst _=>False
 | n+1,.lst l=>∀d∈l,Da n d
 | _,.dct _ _=>False
 | _,.fn _=>False
 | _,.exc _=>False
 | _,.ptr _=>False
 | _,.fz _ _=>False
 | _,.ins _ _ _=>False
section
variable {X:Cx}{K:W.Frag}{mg:WmP}
theorem Da.tup {n:Nat}{l:List D}:Da (n+1) (.tup l)↔∀d∈l,Da n d:=by rw[Da]
theorem Da.lst {n:Nat}{l:List D}:Da (n+1) (.lst l)↔∀d∈l,Da n d:=by rw[Da]
theorem Da.int {n:Nat}{i:Int}:Da n (.int i):=by cases n <;> (trivial)
theorem Da.str {n:Nat}{x:Str}:Da n (.str x)↔PyData.strOk x=true:=by cases n <;> rw[Da]
def Da.canLay:∀n d,Da n d->(py d).canLay0=true/\(py d).depth<=n:=by
 intro n
 induction n with
 | zero=>
  intro d h
  cases d with
  | non=>exact⟨rfl,wu _⟩
  | bl _=>exact⟨rfl,wu _⟩
  | int _=>exact⟨rfl,wu _⟩
  | str x=>exact⟨by exact Da.str.mp h,by rw[py,PyData.depth];exact wu _⟩
  | _=>rw[Da] at h;exact h.elim
 | succ n o=>
  have all:∀l:List D,(∀d∈l,Da n d)->PyData.canLayAll0 (pys l)=true/\PyData.depthAll (pys l)<=n:=by
   intro l
   induction l with
   | nil=>intro _;exact⟨rfl,vH _⟩
   | cons d l e=>
    intro h;obtain⟨f,g⟩:=o d (h d wB);obtain⟨i,j⟩:=e λx m=>h x (wo _ m);rw[pys,PyData.canLayAll0,PyData.depthAll,f,i];exact⟨rfl,Nat.max_le.mpr ⟨g,j⟩⟩
  intro d h
  cases d with
  | non=>exact⟨rfl,vH _⟩
  | bl _=>exact⟨rfl,vH _⟩
  | int _=>exact⟨rfl,vH _⟩
  | str x=>exact⟨by exact Da.str.mp h,by rw[py,PyData.depth];exact vH _⟩
  | tup l=>
   obtain⟨a,b⟩:=all l (Da.tup.mp h);exact⟨by rw[py,PyData.canLay0];exact a,by rw[py,PyData.depth];omega⟩
  | lst l=>
   obtain⟨a,b⟩:=all l (Da.lst.mp h);exact⟨by rw[py,PyData.canLay0];exact a,by rw[py,PyData.depth];omega⟩
  | _=>rw[Da] at h;exact h.elim
theorem Da.shaped (h:Da n d)(e:n<=64):PySem.SeqAt.shaped (py d)=true:=by
 obtain⟨a,b⟩:=Da.canLay n d h;unfold PySem.SeqAt.shaped;rw[a,v4 (wP b e)]
 rfl
def Da.rp:∀n d {v:V},Da n d->RD K mg G d v->Rp K G (py d) v:=by
 intro n
 induction n with
 | zero=>
  intro d v h r
  cases d with
  | non=>rw[py,Rp];exact z6T r
  | bl _=>rw[py,Rp];exact z7k r
  | int _=>rw[py,Rp];exact z0I r
  | str x=>rw[py,Rp];exact z3s r
  | _=>rw[Da] at h;exact h.elim
 | succ n i=>
  have all:∀l {xs:List V},(∀d∈l,Da n d)->RDs K mg G l xs->RpL K G (pys l) xs:=by
   intro l
   induction l with
   | nil=>intro xs _ r;rw[RDs] at r;subst r;rw[pys,RpL]
   | cons d l f=>
    intro xs h r;obtain⟨x,j,rfl,r1,r2⟩:=r;exact⟨x,j,rfl,i d (h d wB) r1,f (λx g=>h x (wo _ g)) r2⟩
  intro d v h r
  cases d with
  | non=>rw[py,Rp];exact z6T r
  | bl _=>rw[py,Rp];exact z7k r
  | int _=>rw[py,Rp];exact z0I r
  | str x=>rw[py,Rp];exact z3s r
  | tup l=>
   obtain⟨a,xs,rfl,b,e⟩:=z1I r;rw[py,Rp];exact⟨a,xs,rfl,b,all l (Da.tup.mp h) e⟩
  | lst l=>
   obtain⟨a,xs,rfl,b,e⟩:=z1V r;rw[py,Rp];exact⟨a,xs,rfl,b,all l (Da.lst.mp h) e⟩
  | _=>rw[Da] at h;exact h.elim
end
def deq (a b:D):Bool:=PyData.eqv (py a) (py b)
def gEq (neg:Bool)(a b:D)(Q:DK):Prop:=match a,b with
 | .int i,.int j=>Q (.bl (if neg then !decide (i=j) else decide (i=j)))
 | .str x,.str y=>Q (.bl (if neg then !decide (x=y) else decide (x=y)))
 | .bl x,.bl y=>Q (.bl (if neg then !decide (x=y) else decide (x=y)))
 | a,b=>Da 60 a/\Da 60 b/\Q (.bl (if neg then !deq a b else deq a b))
def z7I {neg:Bool}(a b:D)(Q Q':DK)(m:∀d,Q d->Q' d)(h:gEq neg a b Q):gEq neg a b Q':=by
 unfold gEq at h ⊢
 split at h
 .exact m _ h
 .exact m _ h
 .exact m _ h
 simp_all
def pEq:Fn:=fn2 (gEq false) z7I
def pNe:Fn:=fn2 (gEq true) z7I
section
variable {X:Cx}{K:W.Frag}{mg:WmP}
def z9O [Decidable p][Decidable q](h:p↔q):decide p=decide q:=by simp_all
def zgu {op:CmpOp}{neg:Bool}(l:OpR X (compareOp op) (λx y H Q=>scal x y=true/\Q (.bl (if neg then !decide (x=y) else decide (x=y))) H))(t:OpR X (compareOp op) (rEqD X.K neg)):OpR X (compareOp op) (r2 X.K X.mg (fn2 (gEq neg) z7I)):=by
 rintro o s j H x y v u Q I f i ⟨G,p,r,Q0,z,g,r1,r2,w,e⟩;have a:gEq neg p r Q0:=w;unfold gEq at a
 split at a
 .have b:=z0I r1;have d:=z0I r2;subst b;subst d;refine l _ s j H _ _ v u Q I f i ⟨rfl,?_⟩;rw[z9O (⟨λh=>V.int.inj h,λh=>congrArg V.int h⟩)];exact e.now g a RD.bl'
 .have b:=z3s r1;have d:=z3s r2;subst b;subst d;refine l _ s j H _ _ v u Q I f i ⟨rfl,?_⟩;rw[z9O (⟨λh=>V.str.inj h,λh=>congrArg V.str h⟩)];exact e.now g a RD.bl'
 .have b:=z7k r1;have d:=z7k r2;subst b;subst d;refine l _ s j H _ _ v u Q I f i ⟨rfl,?_⟩;rw[z9O (⟨λh=>V.bl.inj h,λh=>congrArg V.bl h⟩)];exact e.now g a RD.bl'
 .obtain⟨m,n,q⟩:=a;exact t _ s j H x y v u Q I f i ⟨_,_,(Da.rp 60 _ m r1).same g,(Da.rp 60 _ n r2).same g,m.shaped (by decide),n.shaped (by decide),e.now g q RD.bl'⟩
def zni (a:X.A.units+64<cLine):OpR X (compareOp .Eq) (r2 X.K X.mg pEq):=zgu (zna.imp λ_ _ _ _ h=>h) (zl4 a)
def znb (a:X.A.units+64<cLine):OpR X (compareOp .NotEq) (r2 X.K X.mg pNe):=zgu (zn5.imp λ_ _ _ _ h=>h) (zl0 a)
def isN:D->Bool
 | .non=>true
 | _=>false
def gIs (neg:Bool)(a b:D)(Q:DK):Prop:=match b with
 | .non=>Q (.bl (if neg then !isN a else isN a))
 | _=>False
def zaz {neg:Bool}(a b:D)(Q Q':DK)(m:∀d,Q d->Q' d)(h:gIs neg a b Q):gIs neg a b Q':=by
 unfold gIs at h ⊢
 split at h
 .exact m _ h
 omega
def pIs:Fn:=fn2 (gIs false) zaz
def z6X:Fn:=fn2 (gIs true) zaz
def zgi {v:V}(r:RD K mg G d v):decide (v = .non)=isN d:=by
 cases d with
 | non=>rw[z6T r];rfl
 | bl b=>rw[z7k r];rfl
 | int b=>rw[z0I r];rfl
 | str b=>rw[z3s r];rfl
 | tup l=>obtain⟨a,e,rfl,_⟩:=z1I r;rfl
 | lst l=>obtain⟨a,e,rfl,_⟩:=z1V r;rfl
 | dct k v=>obtain⟨a,e,rfl,_⟩:=r;rfl
 | fn n=>obtain⟨a,rfl,_⟩:=r;rfl
 | exc n=>obtain⟨a,e,rfl,_⟩:=r;rfl
 | ptr a=>subst r;rfl
 | fz k v=>obtain⟨a,e,rfl,_⟩:=r;rfl
 | ins n fs f=>obtain⟨p,C,g,e,rfl,_⟩:=r;rfl
def zne:OpR X (compareOp .Is) (r2 X.K X.mg pIs):=zl2.imp <| by
 rintro x y H Q ⟨G,b,d,Q0,h,g,r1,r2,f,e⟩;have a:gIs _ b d Q0:=f;unfold gIs at a
 split at a
 .exact⟨z6T r2,by rw[zgi r1];exact e.now g a RD.bl'⟩
 .exact a.elim
def zfg:OpR X (compareOp .IsNot) (r2 X.K X.mg z6X):=zhZ.imp <| by
 rintro x y H Q ⟨G,b,d,Q0,h,g,r1,r2,f,e⟩;have a:gIs _ b d Q0:=f;unfold gIs at a
 split at a
 .exact⟨z6T r2,by rw[zgi r1];exact e.now g a RD.bl'⟩
 .exact a.elim
def z1o {g:D->DK->Prop}{m}{ds:List D}{Q:DK}{b:XP}(h:(fn1 g m).run ds Q b):∃d,ds=[d]/\g d Q:=by
 match ds,h with
 | [a],h=>exact⟨a,rfl,h⟩
 | [],h=>exact h.elim
 | _::_::_,h=>exact h.elim
def zfD {m}(h:(fn2 g m).run ds Q Xp):∃d e,ds=[d,e]/\g d e Q:=by
 match ds,h with
 | [a,b],h=>exact⟨a,b,rfl,h⟩
 | [],h=>exact h.elim
 | [_],h=>exact h.elim
 | _::_::_::_,h=>exact h.elim
def gLen (d:D)(Q:DK):Prop:=match d with
 | .lst l=>Q (.int l.length)
 | .tup l=>Q (.int l.length)
 | .str x=>x.length<=sizeLine/\Q (.int x.length)
 | _=>False
def pLen:Fn:=fn1 gLen λd Q a m h=>by
 unfold gLen at h ⊢
 split at h
 .exact m _ h
 .exact m _ h
 .exact⟨h.1,m _ h.2⟩
 .exact h.elim
def zm3:z0D X (.builtin "len") (rN X.K X.mg pLen):=(z0D.or z8Y z8X).imp <| by
 rintro vs H Q ⟨G,o,m,n,g,rds,l,i⟩;obtain⟨d,rfl,b⟩:=z1o l;obtain⟨v,rfl,rd⟩:=rds1 rds;unfold gLen at b
 split at b
 .obtain⟨a,j,rfl,f,h⟩:=z1V rd;exact .inl ⟨a,j,rfl,.inl (z1l g f),by rw[h.len];exact i.now g b RD.int'⟩
 .obtain⟨a,j,rfl,f,h⟩:=z1I rd;exact .inl ⟨a,j,rfl,.inr (z0L g f),by rw[h.len];exact i.now g b RD.int'⟩
 .have e:=z3s rd;subst e;exact .inr ⟨_,rfl,b.1,i.now g b.2 RD.int'⟩
 .exact b.elim
def gAbs (d:D)(Q:DK):Prop:=match d with
 | .int i=>Q (.int (if i<0 then -i else i))
 | _=>False
def pAbs:Fn:=fn1 gAbs λd Q a m h=>by
 unfold gAbs at h ⊢
 split at h
 .exact m _ h
 .exact h.elim
def zm6:z0D X (.builtin "abs") (rN X.K X.mg pAbs):=zfT.imp <| by
 rintro vs H Q ⟨G,j,h,i,g,rds,f,b⟩;obtain⟨d,rfl,a⟩:=z1o f;obtain⟨v,rfl,rd⟩:=rds1 rds;unfold gAbs at a
 split at a
 .have e:=z0I rd;subst e;exact⟨_,rfl,b.now g a RD.int'⟩
 .exact a.elim
def gInt (d:D)(Q:DK):Prop:=match d with
 | .int i=>Q (.int i)
 | .bl b=>Q (.int (if b then 1 else 0))
 | .str x=>∃n,PySem.intText? x=some n/\x.length<=640/\Q (.int n)
 | _=>False
def pInt:Fn:=fn1 gInt λd Q f m h=>by
 unfold gInt at h ⊢
 split at h
 .exact m _ h
 .exact m _ h
 .obtain⟨n,a,b,e⟩:=h;exact⟨n,a,b,m _ e⟩
 .exact h.elim
def zgV:z0D X (.type "int") (rN X.K X.mg pInt):=(z0D.or zdQ zdP).imp <| by
 rintro vs H Q ⟨G,o,l,m,g,rds,j,b⟩;obtain⟨d,rfl,a⟩:=z1o j;obtain⟨v,rfl,rd⟩:=rds1 rds;unfold gInt at a
 split at a
 .have e:=z0I rd;subst e;exact .inl (.inl ⟨_,rfl,b.now g a RD.int'⟩)
 .have e:=z7k rd;subst e;exact .inl (.inr ⟨_,rfl,b.now g a RD.int'⟩)
 .have e:=z3s rd;subst e;obtain⟨n,f,h,i⟩:=a;exact .inr ⟨_,n,rfl,f,h,b.now g i RD.int'⟩
 .exact a.elim
def zdn (d:D)(Q:DK):Prop:=match d with
 | .lst l=>Q (.tup l)
 | .tup l=>Q (.tup l)
 | _=>False
def z1J:Fn:=fn1 zdn λd Q a m h=>by
 unfold zdn at h ⊢
 split at h
 .exact m _ h
 .exact m _ h
 .exact h.elim
def zaK:z0D X (.type "tuple") (rN X.K X.mg z1J):=z7Q.imp <| by
 rintro vs H Q ⟨G,o,m,n,g,rds,l,i⟩;obtain⟨d,rfl,b⟩:=z1o l;obtain⟨v,rfl,rd⟩:=rds1 rds;unfold zdn at b
 split at b
 .obtain⟨a,h,rfl,e,f⟩:=z1V rd;exact⟨a,h,rfl,.inl ⟨z1l g e,λp j=>i.new g j b (RD.newT f g j)⟩⟩
 .obtain⟨a,h,rfl,e,f⟩:=z1I rd;exact⟨a,h,rfl,.inr ⟨z0L g e,i.now g b (RD.ofT e f)⟩⟩
 .exact b.elim
def zdq (d:D)(Q:DK):Prop:=match d with
 | .lst l=>Q (.lst l)
 | .tup l=>Q (.lst l)
 | _=>False
def zcG:Fn:=fn1 zdq λd Q a m h=>by
 unfold zdq at h ⊢
 split at h
 .exact m _ h
 .exact m _ h
 .exact h.elim
def rNf (K:W.Frag)(mg:WmP)(F:Fn):List V->Hp->VK->Prop:=λvs H Q=>∃G b a d,Same G H/\RDs K mg G b vs/\F.run b a d/\Kf K mg G H a Q
def Kf.same {G b H e:Hp}{f:DK}{Q:VK}(h:Kf K mg G H f Q)(g:Gr G H b)(k:Same H e):Kf K mg b e f Q:=λd a i j q l m g3 o n p=>h d a i j q (g.trans k l) m (z02 k g3) (z1c k o) n p
def Kf.newL (h:Kf K mg G H Q0 Q)(g:Same G H)(a:H p=none)(q:Q0 (.lst l))(r:RDs K mg G l xs):Q (.ref p) (upd H p (.lst xs)):=
 h _ p G _ q Gr.refl (z02 g (z0o a _)) (z0o a _) a (z1c g a) ⟨xs,z0c,r⟩
def tfN (h:tf K mg E (.op F es) σ H Q):tCB (rNf K mg F) (txa K mg E es) σ H Q:=by
 obtain⟨G,p,d,a,n,f,m,l,o⟩:=h;exact⟨G,p,λb=>F.run b d a,a,n,f,m,λb vs e q j g i g3 rd=>⟨e,b,d,a,i,rd,j,l.same g g3⟩,o⟩
def zkf {a:Pos}{f:Str}{id:String}(i:z0D X (.type id) (rNf X.K X.mg F))(l:Gl X f)(m:X.mg f=none)(o:bootBuiltins f=some (.type id))(g:QXA X E (e::es) xs)(n:autoParam (f≠"__name__") jB1)(b:autoParam (dB f) jB1)
  (j:autoParam (sE e es X) jA1) (d:autoParam (bT a es X) jA1):QF X E (.Call (.Name f pp) (e::es) [] a) (.op F xs):=
 QE.imp (z3z i l m o g n b j d) λ_ _ _ h=>tfN h
def zmP {a:Pos}{f:Str}{id:String}(i:z0D X (.builtin id) (rNf X.K X.mg F))(l:Gl X f)(m:X.mg f=none)(o:bootBuiltins f=some (.builtin id))(g:QXA X E (e::es) xs)(n:autoParam (f≠"__name__") jB1)(b:autoParam (dB f) jB1)
  (j:autoParam (sE e es X) jA1) (d:autoParam (bT a es X) jA1):QF X E (.Call (.Name f pp) (e::es) [] a) (.op F xs):=
 QE.imp (z4w i l m o g n b j d) λ_ _ _ h=>tfN h
def zdG:z0D X (.type "list") (rNf X.K X.mg zcG):=z8W.imp <| by
 rintro vs H Q ⟨G,o,m,n,g,rds,l,j⟩;obtain⟨d,rfl,b⟩:=z1o l;obtain⟨v,rfl,rd⟩:=rds1 rds;unfold zdq at b
 split at b
 .obtain⟨a,i,rfl,e,f⟩:=z1V rd;exact⟨a,i,rfl,.inl (z1l g e),λp h=>j.newL g h b f⟩
 .obtain⟨a,i,rfl,e,f⟩:=z1I rd;exact⟨a,i,rfl,.inr (z0L g e),λp h=>j.newL g h b f⟩
 .exact b.elim
def zdp (d:D)(Q:DK):Prop:=match d with
 | .lst l=>onI (ints? l) λa=>a≠[]/\∀m,m∈a->(∀x∈a,x<=m)->Q (.int m)
 | _=>False
def zbu (d:D)(Q Q':DK)(m:∀d,Q d->Q' d)(h:zdp d Q):zdp d Q':=by
 unfold zdp at h ⊢
 split at h
 .exact z5E (λ_ q=>⟨q.1,λx a b=>m _ (q.2 x a b)⟩) h
 grind
def gSum (d:D)(Q:DK):Prop:=match d with
 | .lst l=>onI (ints? l) λa=>Q (.int a.sum)
 | _=>False
def pSum:Fn:=fn1 gSum λd Q a m h=>by
 unfold gSum at h ⊢
 split at h
 .exact z5E (λ_ q=>m _ q) h
 .exact h.elim
def zm2 (j:X.calm=true):z0D X (.builtin "sum") (rN X.K X.mg pSum):=(zdK j).imp <| by
 rintro vs H Q ⟨G,p,n,o,g,rds,m,l⟩;obtain⟨d,rfl,b⟩:=z1o m;obtain⟨v,rfl,rd⟩:=rds1 rds;unfold gSum at b
 split at b
 .obtain⟨i,e,q⟩:=z5D b;obtain⟨a,r,rfl,f,h⟩:=z1V rd;rw[z3H e] at h;rw[z3V i h] at f;exact⟨a,i,rfl,z1l g f,l.now g q RD.int'⟩
 .exact b.elim
def gIx (a b:D)(Q:DK):Prop:=match a,b with
 | .lst l,.int i=>onV (atI l i) Q
 | .tup l,.int i=>onV (atI l i) Q
 | .str x,.int i=>x.length<=sizeLine/\∃c,atI x.cps.toList i=some c/\Q (.str ⟨#[c]⟩)
 | _,_=>False
def zfz (a b:D)(Q Q':DK)(m:∀d,Q d->Q' d)(h:gIx a b Q):gIx a b Q':=by
 unfold gIx at h ⊢
 split at h
 .exact zag m h
 .exact zag m h
 .obtain⟨e,c,f,g⟩:=h;exact⟨e,c,f,m _ g⟩
 grind
def pIx:Fn:=fn2 gIx zfz
def IxR.imp {r r':R2}(h:IxR X r)(i:∀x y H Q,r' x y H Q->r x y H Q):IxR X r':=λb a d s j H x y v u Q I f g q e=>h _ _ _ s j H x y v u Q I f g (i x y H Q q) e
def ix_p:IxR X (r2 X.K X.mg pIx):=IxR.imp zlO <| by
 rintro x y H Q ⟨G,n,o,Q0,s,g,r1,r2,r,j⟩;have b:gIx n o Q0:=r;unfold gIx at b
 split at b
 .obtain⟨d,e,q⟩:=zaf b;obtain⟨a,m,rfl,f,h⟩:=z1V r1;obtain⟨v,i,l⟩:=h.at e;exact .inl ⟨a,m,_,v,rfl,z0I r2,z1l g f,i,j.now g q l⟩
 .obtain⟨d,e,q⟩:=zaf b;obtain⟨a,m,rfl,f,h⟩:=z1I r1;obtain⟨v,i,l⟩:=h.at e;exact .inr (.inl ⟨a,m,_,v,rfl,z0I r2,z0L g f,i,j.now g q l⟩)
 .obtain⟨f,c,h,p⟩:=b;exact .inr (.inr ⟨_,_,c,z3s r1,z0I r2,f,h,j.now g p RD.str'⟩)
 .exact b.elim
def zmH {d:Pos}(e:QX X E a x)(f:QX X E b y)(g:z9W b):QX X E (.Subscript a b d) (.op pIx [x,y]):=QE.imp (zmT ix_p e f g) λ_ _ _ h=>tx2 lk2 h
end
end Pu
namespace HT
open PySem PyProof.Rows
section
variable {prog:Program}{w:World}{A:Around}{E:WvP}{s:Shared}
def zbK {t sl:Addr}{z04:Array Value}{r u vs:Value}(d:IsTup s.heap t z04)(p:s.heap.IsSliceOf sl r u vs)
  (n:∀{A:Around}{E:WvP}{Q:Int × Int × Nat->Shared->Prop},Q R s->wpAny (model prog w) A (Builtin.Slice.sliceApplied (.ref sl) (pure z04.size)) Q E s) (hsz:R.2.2<=sizeLine)
  (e:(R.1 == 0 && R.2.1 == 1 && R.2.2 == z04.size)=true->Q (.ref t) s)
  (l:¬ (R.1 == 0 && R.2.1 == 1 && R.2.2 == z04.size)=true->Q (.ref s.heap.objs.size) { s with heap:=s.heap.push { cls :=.type "tuple",data :=.seq ((List.range R.2.2).filterMap λ(k:Nat)=>z04[(R.1+k*R.2.1).toNat]?).toArray } }):
  wpAny (model prog w) A (getItem (.ref t) (.ref sl)) Q E s:=by
 obtain⟨q,i,g,o⟩:=id p;have f:s.TypeIs (.ref sl) "slice":=⟨q,i,g⟩
 have a:sizeOk (.seq ((List.range R.2.2).filterMap λ(k:Nat)=>z04[(R.1+k*R.2.1).toNat]?).toArray):=by
  show ((List.range R.2.2).filterMap λ(k:Nat)=>z04[(R.1+k*R.2.1).toNat]?).toArray.size<=sizeLine;rw[vq];refine wP (List.length_filterMap_le _ _) ?_;rw[v6];exact hsz
 unfold getItem
 try with_reducible refine ua ?_
 first | refine wc (wj ?_) | skip
 refine wc (wpAny_sequenceKey d.typeIs (by decide) ?_);refine wc (vU (name:=Str.ofString "__getitem__") d.typeIs vS
  (ue vS d.typeIs entry_tuple_getitem ?_ (args_tuple_getitem _ _)))
 show wpAny _ _ (Builtin.Tuple.tupleItemsOf (.ref t) >>= _) _ _ s;refine wc (tupleItemsOf_ d ?_);refine wc (jZ f ?_);rw[if_pos (by decide)];refine wc (n ?_);obtain⟨r1,r2,j⟩:=R;show wpAny _ _ (if (r1 == 0 && r2 == 1 && j == z04.size)=true then _ else _) _ _ s
 by_cases b:(r1 == 0 && r2 == 1 && j == z04.size)=true
 .rw[if_pos b];refine wc (m:=Builtin.Tuple.tupleIsExact (.ref t)) ?_;refine wc (jZ d.typeIs (wj ?_));rw[if_pos (by decide)]
  first
   | exact wc (wj (wj ⟨_,rfl,wj (e b)⟩))
   | exact wc (wpAny_rule (wj ⟨_,rfl,wj (e b)⟩))
   | exact wc (wpAny_rule (wc (wj (wj ⟨_,rfl,wj (e b)⟩))))
   | exact wj ⟨_,rfl,wj (e b)⟩
 .rw[if_neg b];have h:=l b
  first
   | exact wc (m:=Builtin.Tuple.tupleExact _) (vj (wj ⟨_,rfl,wj h⟩) a)
   | exact wc (m:=Builtin.Tuple.tupleExact _) (vj (wc (wj (wj ⟨_,rfl,wj h⟩))) a)
   | exact wc (wc (m:=Builtin.Tuple.tupleExact _) (vj (wj (wj ⟨_,rfl,wj h⟩)) a))
   | exact wc (wc (m:=Builtin.Tuple.tupleExact _) (vj (wj ⟨_,rfl,wj h⟩) a))
end
end HT
namespace Pu
open PySem PySem.Spec PyProof.Rows L2
def part (o:Option Ex)(a:Pu.Env)(K:Option Int->Prop)(X:XP):Prop:=match o with
 | none=>K none
 | some e=>e.run a (λd=>isI d λi=>K (some i)) X
def z8m {K a:Option Int->Prop}(m:∀i,K i->a i)(b:∀x,X x->X' x)(h:part o ρ K X):part o ρ a X':=by
 cases o with
 | none=>exact m _ h
 | some e=>exact e.mono ρ _ _ X X' (λd q=>zaw (λi q=>m _ q) q) b h
def cutD (l:List D)(a b:Option Int):List D:=(l.drop (HT.sIx l.length 0 a)).take (HT.sIx l.length l.length b - HT.sIx l.length 0 a)
def slcD (d:D)(b a:Option Int)(Q:DK):Prop:=match d with
 | .lst l=>Q (.lst (cutD l b a))
 | .tup l=>Q (.tup (cutD l b a))
 | .str x=>x.length<=sizeLine/\Q (.str (Txt.slice x b a))
 | _=>False
def zbY {b a:Option Int}(m:∀d,Q d->Q' d)(h:slcD d b a Q):slcD d b a Q':=by
 unfold slcD at h ⊢
 split at h
 .exact m _ h
 .exact m _ h
 .simp_all
 omega
def Ex.sl (e:Ex)(h g:Option Ex):Ex:=⟨λa Q X=>e.run a (λd=>part h a (λl=>part g a (λu=>slcD d l u Q) X) X) X,λa Q i X f m b q=>e.mono a _ _ X f (λd q=>z8m (λl q=>z8m (λu q=>zbY m q) b q) b q) b q⟩
def rSlP (K:W.Frag)(mg:WmP):V->Option Int->Option Int->Hp->VK->Prop:=λx e b H Q=>∃G d a,Same G H/\RD K mg G d x/\slcD d e b a/\Kt K mg G H a Q
section
variable {X:Cx}{K:W.Frag}{mg:WmP}{E:XK}
def zed:SlR X (λx i d H Q=>∃a xs,x = .ref a/\SqT X.K H a xs/\(HT.sIx xs.length 0 i=0/\HT.sIx xs.length xs.length d=xs.length)/\Q (.ref a) H):=by
 intro j s w H x v t u i d sl Q I n f pl m h;obtain⟨a,xs,rfl,l,o,q⟩:=h
 cases n
 obtain⟨b,r,g,p⟩:=I.tuple l;have e:b.toArray.size=xs.length:=by exact r.length.symm
 refine⟨"tuple",_,vS.lookup,g.typeIs,?_⟩;refine HT.zbK g f (λh=>HT.z3r f pl m h) ?_ (λ_=>⟨.ref a,H,I,rfl,q⟩) (λz =>?_)
 .simp_all
 simp_all
def zby {b a:Option Int}(h:HT.sIx xs.length 0 b=0/\HT.sIx xs.length xs.length a=xs.length):cutD xs b a=xs:=by
 unfold cutD
 simp_all
def sl_p:SlR X (rSlP X.K X.mg):=((zh6.or (zjk.or zed)).or zjl).imp <| by
 rintro x n m H Q ⟨G,d,o,g,rd,b,j⟩;unfold slcD at b
 split at b
 .obtain⟨a,e,rfl,h,i⟩:=z1V rd;exact .inl (.inl ⟨a,e,rfl,z1l g h,λp f=>j.new g f b (RD.newL (i.cut n m) g f)⟩)
 .obtain⟨a,e,rfl,h,i⟩:=z1I rd
  by_cases l:HT.sIx e.length 0 n=0/\HT.sIx e.length e.length m=e.length
  .refine .inl (.inr (.inr ⟨a,e,rfl,z0L g h,l,j.now g b ?_⟩));rw[i.len] at l;rw[zby l];omega
  .exact .inl (.inr (.inl ⟨a,e,rfl,z0L g h,l,λp f=>j.new g f b (RD.newT (i.cut n m) g f)⟩))
 .exact .inr ⟨_,z3s rd,b.1,j.now g b.2 RD.str'⟩
 .exact b.elim
def zaU (K:W.Frag)(mg:WmP)(E:XK)(o:Option Ex):TO:=λg H Q=>∃G f d e,Same G H/\AbE K mg G f g/\part o f d e/\(∀i b a,d i->Gr G H b->Same b a->Same H a->Q i a)/\Kx mg H e E
def QO.imp {e:Option Expr}{t t':TO}(h:QO X e t)(i:∀a H Q,t' a H Q->t a H Q):QO X e t':=⟨λb s a H Q I q=>h.p _ s a H Q I (i a H Q q)⟩
def zhz:QO X none (zaU X.K X.mg E none):=QO.imp zhB <| by rintro j H Q ⟨G,i,e,f,d,g,b,a,h⟩;exact a _ G H b Gr.refl d Same.refl'
def zhy (h:QX X E e x):QO X (some e) (zaU X.K X.mg E (some x)):=QO.imp (zhA h) <| by
 rintro t H Q ⟨G,r,s,f,o,g,n,m,p⟩;refine⟨G,r,_,f,o,g,n,λd v a b q j l g3 rd =>?_,p⟩;obtain⟨i,rfl,q⟩:=zav q;exact⟨i,z0I rd,m _ a b q j l g3⟩
def zmi {o n:Option Ex}(h:tx K mg E (.sl e o n) σ H Q):tSl (rSlP K mg) (tx K mg E e) (zaU K mg E o) (zaU K mg E n) σ H Q:=by
 obtain⟨G,m,w,a,A,b,z,y,g⟩:=h;refine⟨G,m,_,a,A,b,z,λd v r J q f x g3 rd =>?_,g⟩;refine⟨r,m,_,a,x,b.same f.1,q,λl s L q i C j =>?_,g.same g3⟩;refine⟨s,m,_,a,C,b.same (z02 f.1 i.1),q,λu t M q p F I =>?_,g.same (z02 g3 j)⟩;exact⟨t,d,w,F,rd.same (z02 i.1 p.1),q,y.same (f.trans g3 (i.trans j p)) (z02 g3 (z02 j I))⟩
def zmF {d b:Option Expr}{j a:Pos}(f:QX X E e x)(g:QO X d (zaU X.K X.mg E l))(i:QO X b (zaU X.K X.mg E u)):QX X E (.Subscript e (.Slice d b none j) a) (.sl x l u):=QE.imp (zeR sl_p f g i) λ_ _ _ h=>zmi h
noncomputable def isiD (T:String):D->Option Bool
 | .int _=>some (T == "int")
 | .bl _=>some (T == "int" || T == "bool")
 | .str _=>some (T == "str")
 | .tup _=>some (T == "tuple")
 | .lst _=>some (T == "list")
 | .non=>some false
 | _=>none
def onB (o:Option Bool)(Q:Bool->Prop):Prop:=match o with
 | some b=>Q b
 | none=>False
def zfd (m:∀b,Q b->Q' b)(h:onB o Q):onB o Q':=by
 cases o with
 | none=>exact h
 | some b=>exact m _ h
def zfc (h:onB o Q):∃b,o=some b/\Q b:=by
 cases o with
 | none=>exact h.elim
 | some b=>exact⟨b,rfl,h⟩
def pIsi (T:String):Fn:=fn1 (λd Q=>onB (isiD T d) λb=>Q (.bl b)) λd Q a m h=>zfd (λb q=>m _ q) h
def zfq:List String:=["int","bool","str","tuple","list"]
def zin (a:T∈zfq):W.kitOne K (.type "int") (.type T)=some (T == "int")/\W.kitOne K (.type "bool") (.type T)=some (T == "int" || T == "bool")/\W.kitOne K (.type "str") (.type T)=some (T == "str")/\
  W.kitOne K (.type "tuple") (.type T)=some (T == "tuple")/\W.kitOne K (.type "list") (.type T)=some (T == "list")/\W.kitOne K (.type "NoneType") (.type T)=some false:=by
 unfold zfq at a;simp[wm,wE,vO] at a
 rcases a with rfl | rfl | rfl | rfl | rfl <;> exact⟨rfl,rfl,rfl,rfl,rfl,rfl⟩
def zmz (K:W.Frag)(mg:WmP)(T:String):List V->Hp->VK->Prop:=λvs H Q=>∃v G d a,vs=[v,.ty T]/\Same G H/\RD K mg G d v/\(onB (isiD T d) λb=>a (.bl b))/\Kt K mg G H a Q
def zm4 (E:T∈zfq):z0D X (.builtin "isinstance") (zmz X.K X.mg T):=by
 rintro j s Z H vs us Q I L ⟨v,G,d,Q0,e,g,rd,J,F⟩;subst e;obtain⟨b,f,q⟩:=zfc J;obtain⟨u,w,rfl,h,y⟩:=ziW L
 cases (show w=Value.type T from y)
 obtain⟨M,N,O,R,S,U⟩:=zin (K:=X.K) E;have fin:∀A,EP X j Z Q (.bool b) { s with toks:=A }:=λA=>⟨.bl b,H,I.tok A,rfl,F.now g q RD.bl'⟩
 cases d with
 | int i=>
  have e:=z0I rd;subst e;rw[show isiD T (.int i)=some (T == "int") from rfl] at f;exact z4K I h (.int i) (M.trans f) fin
 | bl i=>
  have e:=z7k rd;subst e;exact z4K I h (.bl i) (N.trans f) fin
 | str i=>
  have e:=z3s rd;subst e;rw[show isiD T (.str i)=some (T == "str") from rfl] at f;exact z4K I h (.str i) (O.trans f) fin
 | non=>
  have e:=z6T rd;subst e;rw[show isiD T .non=some false from rfl] at f;exact z4K I h .non (U.trans f) fin
 | tup l=>
  obtain⟨a,Y,rfl,m,C⟩:=z1I rd
  cases h
  rw[show isiD T (.tup l)=some (T == "tuple") from rfl] at f;obtain⟨x,r,⟨o,t,p,_⟩,_⟩:=I.tuple (z0L g m);exact vV W.kitx_tuple I.kIn ⟨o,t,p⟩ (R.trans f) (λz=>nomatch z) fin
 | lst l=>
  obtain⟨a,Y,rfl,m,C⟩:=z1V rd
  cases h
  rw[show isiD T (.lst l)=some (T == "list") from rfl] at f;obtain⟨x,r,⟨o,n,t,p,_⟩,_⟩:=I.list (z1l g m);exact vV W.kitx_list I.kIn ⟨o,t,p⟩ (S.trans f) (λz=>nomatch z) fin
 | _=>cases f
def zjU {e t:Expr}{J b:Pos}(p:T∈zfq)(s:Gl X "isinstance")(w:X.mg "isinstance"=none)(r:QX X E e x)(C:QE X t (tC (.ty T)))
  (a:autoParam (starEach [e,t] X.env=(false,eval e X.env)::starEach [t] X.env) jA1) (h:autoParam (sE t [] X) jA1) (g:autoParam ((backTo b (starEach [t] X.env)).any (·.1)=false) jA1)
  (F:autoParam (bootBuiltins "isinstance"=some (.builtin "isinstance")) jA1) (y:autoParam (("isinstance":Str)≠"__name__") jB1) (f:autoParam ((("isinstance":Str) == ("__debug__"))=false) jB1):QX X E (.Call (.Name "isinstance" J) [e,t] [] b) (.op (pIsi T) [x]):=
 QE.imp (z4w (zm4 p) s w F (z4d r (z4d C z6U h) a) y f a g) <| by
  rintro M H Q ⟨G,K,j,l,A,m,z,u,I⟩;refine⟨G,K,_,l,A,m,z,λd v i L q n o g3 rd =>?_,I⟩;exact⟨v,i,d,j,rfl,o,rd,q,u.same n g3⟩
def zf5:Fn:=fn1 zdp zbu
def ziK (l:X.calm=true):z0D X (.builtin "max") (rN X.K X.mg zf5):=(zdO l).imp <| by
 rintro vs H Q ⟨G,u,s,t,g,rds,p,n⟩;obtain⟨d,rfl,b⟩:=z1o p;obtain⟨v,rfl,rd⟩:=rds1 rds;unfold zdp at b
 split at b
 .obtain⟨j,e,f,q⟩:=z5D b;obtain⟨a,w,rfl,h,i⟩:=z1V rd;rw[z3H e] at i;rw[z3V j i] at h;exact⟨a,j,rfl,z1l g h,f,λm o r=>n.now g (q m o r) RD.int'⟩
 .exact b.elim
def zfC {b}(h:(fnI g b).run ds Q Xp):∃i j,ds=[.int i,.int j]/\g i j Q:=by
 obtain⟨d,e,rfl,a⟩:=zfD h;obtain⟨i,j,rfl,rfl,q⟩:=z6h a;exact⟨i,j,rfl,q⟩
def zba:Fn:=fnI (λi j Q=>Q (.int (if j<i then j else i))) λ_ _ _ _ m h=>m _ h
def ziI (a:X.calm=true):z0D X (.builtin "min") (rN X.K X.mg zba):=(zdM a).imp <| by
 rintro vs H Q ⟨G,h,e,f,g,rds,d,b⟩;obtain⟨i,j,rfl,q⟩:=zfC d;obtain⟨v,w,rfl,r1,r2⟩:=rds2 rds;exact⟨i,j,by rw[z0I r1,z0I r2],b.now g q RD.int'⟩
end
structure Nm (sc:Scope)(x:Str):Prop where
 loc:Loc sc x
 hd:dB x
 hcd:(x == ("__classdict__"))=false
def Nm.vis {sc:Scope}(h:Nm sc x):Vis sc x:=h.loc.elim .inl λz =>.inr (.inl z)
section
variable {CX:CXT}{P:Program}{w:World}{K:W.Frag}{mg:WmP}{base:Heap}{N:List Str}{qual:Str}{sc:Scope}{f:Addr}{cdv:Value}{A:Around}{outer:List PySem.Env}{s:Shared}{H:Hp}{E:XK}{xe:WvP}{x:Str}{pos pos2:Pos}{e:Expr}{te:TE}
def vg (i:Nat)(h:Nm sc x)(a:autoParam (N[i]? = some x) jA1):QE ((cxOf CX P w K mg base N qual sc f cdv A outer s H E).wish xe) (.Name x pos) (tVar i):=⟨zgq a h.vis h.hd h.hcd⟩
def ng (i:Nat)(b:N.Nodup)(h:Nm sc x)(a:autoParam (N[i]? = some x) jA1):QG ((cxOf CX P w K mg base N qual sc f cdv A outer s H E).wish xe) (.Name x pos) (z30 i):=⟨zcC b a h.loc (.inl rfl)⟩
def ag (i:Nat)(g:N.Nodup)(h:Nm sc x)(b:QE ((cxOf CX P w K mg base N qual sc f cdv A outer s H E).wish xe) e te)(a:autoParam (N[i]? = some x) jA1)(d:autoParam (swapsWith e (some (.Name x pos2)) pos.line ((cxOf CX P w K mg base N qual sc f cdv A outer s H E).wish xe).env=pure false) jA1):QS ((cxOf CX P w K mg base N qual sc f cdv A outer s H E).wish xe) (.Assign [.Name x pos2] e pos) (tAsg te (z30 i)):=⟨zku g a h.loc b.p d (.inl rfl)⟩
end
def spL (K:W.Frag):Sp:=λvs H Q _=>∃(a:Addr) (b:List Int),vs=[.ref a]/\SqL K H a (b.map V.int)/\b.length<=63/\∀d,Q (.bl true) d
def zlF {P:Program}{w:World}{K:W.Frag}{mg:WmP}{b:Heap}{CX:CXT}{k:Nat}{f:Addr}{g:FuncData}{ps:List Str}{F:Fn}(h:∀ns:List Int,ns.length<=63->F.run [.lst (ns.map .int)] (λd=>d = .bl true) (λ_=>False))(ok:FnOk P w K mg b CX k f g ps (spP K mg F)):FnOk P w K mg b CX k f g ps (spL K):=
 ok.imp λvs H Q E ⟨a,ns,e,j,l,q⟩=>⟨H,[.lst _],_,_,Same.refl',by rw[e];exact RDs.cons (RD.ofL j (z5G ns)) RDs.nil,h ns l,λd v m i e n o g3 rd=>by
  subst e;rw[z7k rd];exact q i,Kx.no⟩
end Pu
namespace Pu
open PySem L2
open Builtin.Int (intBits)
section
variable {ρ:Pu.Env}{Q:DK}{X:XP}{N:Pu.Env->Prop}{a b c e:Ex}{s t:Sm}{F:Fn}{d:D}{i j:Nat}
def zal (q:Q d):onV (some d) Q:=q
def e_c (q:Q d):(Ex.c d).run ρ Q X:=q
def e_v (q:onV (ρ.get i) Q):(Ex.v i).run ρ Q X:=q
def zfH (q:a.run ρ (λx=>F.run [x] Q X) X):(Ex.op F [a]).run ρ Q X:=q
def zlT (q:a.run ρ (λx=>b.run ρ (λy=>F.run [x,y] Q X) X) X):(Ex.op F [a,b]).run ρ Q X:=q
def znH (q:a.run ρ (λx=>b.run ρ (λy=>c.run ρ (λz=>F.run [x,y,z] Q X) X) X) X):(Ex.op F [a,b,c]).run ρ Q X:=q
def znG (q:a.run ρ (λx=>b.run ρ (λy=>c.run ρ (λz=>e.run ρ (λu=>F.run [x,y,z,u] Q X) X) X) X) X):(Ex.op F [a,b,c,e]).run ρ Q X:=q
def znF (q:runs es ρ (λds=>F.run ds Q X) X):(Ex.op F es).run ρ Q X:=q
def zjz {Q:List D->Prop}(q:Q []):runs [] ρ Q X:=q
def zhj {Q:List D->Prop}(q:a.run ρ (λd=>runs es ρ (λds=>Q (d::ds)) X) X):runs (a::es) ρ Q X:=q
def znJ (q:a.run ρ (λd=>tst d (b.run ρ Q X) (Q (.bl false))) X):(Ex.and a b).run ρ Q X:=q
def e_or (q:a.run ρ (λd=>tst d (Q (.bl true)) (b.run ρ Q X)) X):(Ex.or a b).run ρ Q X:=q
def notD (d:D)(Q:DK):Prop:=match d with
 | .bl b=>Q (.bl (!b))
 | _=>False
def znI (q:a.run ρ (λd=>notD d Q) X):(Ex.not a).run ρ Q X:=q
def n_bl {k:Bool}(q:Q (.bl (!k))):notD (.bl k) Q:=q
def zgN (q:src.run ρ (λd=>onL (z04 d) λl=>l.length<sizeLine/\z4R (z5f tg ct elt (z1r nt js ρ)) l λr=>Q (.lst r)) X):(Ex.comp nt js tg src ct elt).run ρ Q X:=q
def znA (q:K l):onL (z04 (.lst l)) K:=q
def znz (q:K l):onL (z04 (.tup l)) K:=q
def e_sl {e b:Option Ex}(q:a.run ρ (λd=>part e ρ (λl=>part b ρ (λu=>slcD d l u Q) X) X) X):(Ex.sl a e b).run ρ Q X:=q
def zkR (q:K none):part none ρ K X:=q
def zkQ (q:a.run ρ (λd=>isI d λi=>K (some i)) X):part (some a) ρ K X:=q
def zlP {k:Int}(q:K k):isI (.int k) K:=q
def znQ {b a:Option Int}(q:Q (.lst (cutD l b a))):slcD (.lst l) b a Q:=q
def znP {b a:Option Int}(q:Q (.tup (cutD l b a))):slcD (.tup l) b a Q:=q
def z2z {A B:Prop}(h:A):tst (.bl true) A B:=⟨λ_=>h,(λz=>by cases z)⟩
def z4V {A B:Prop}(h:B):tst (.bl false) A B:=⟨(λz=>by cases z),λ_=>h⟩
def z0s {d:D}{a:Pu.Env}{B:Prop}(h:Safe d a)(q:B):Safe d a/\B:=⟨h,q⟩
def z22 {d:D}{a:Pu.Env}{B:Prop}(h:zfY d a)(q:B):zfY d a/\B:=⟨h,q⟩
def z0K {p:Prop}[Decidable p]{A B:Prop}(h:p->A)(a:¬ p->B):tst (.bl (decide p)) A B:=⟨λe=>h (uw e),λe=>a (of_decide_eq_false e)⟩
def z2H {p:Prop}[Decidable p]{A B:Prop}(a:p)(h:A):tst (.bl (decide p)) A B:=z0K (λ_=>h) λn=>(n a).elim
def t_no {p:Prop}[Decidable p]{A B:Prop}(a:¬ p)(h:B):tst (.bl (decide p)) A B:=z0K (λy=>(a y).elim) λ_=>h
def z1p {k:Bool}{A B:Prop}(h:tst (.bl k) B A):tst (.bl (!k)) A B:=by
 cases k
 .exact z2z (h.2 rfl)
 .exact z4V (h.1 rfl)
def z2X {k:Bool}{A B:Prop}(e:k=true)(h:A):tst (.bl k) A B:=by rw[e];exact z2z h
def z5P {k:Bool}{A B:Prop}(e:k=false)(h:B):tst (.bl k) A B:=by rw[e];exact z4V h
def zg8 (q:N ρ):Sm.skip.run ρ N Q X:=q
def z4Z (q:s.run ρ (λa=>t.run a N Q X) Q X):(Sm.seq s t).run ρ N Q X:=q
def zmm (q:a.run ρ (λd=>Safe d (ρ.set i .n)/\N (ρ.set i (.s d))) X):(Sm.set i a).run ρ N Q X:=q
def zel (q:a.run ρ (λd=>zfY d (ρ.set i .n)/\N (ρ.set i (.o d))) X):(Sm.own i a).run ρ N Q X:=q
def zjq (q:a.run (vis (dem js ρ)) (λd=>N ((dem js ρ).set i (.s d))) X):(Sm.setx js i a).run ρ N Q X:=q
def s_if (q:c.run ρ (λd=>tst d (s.run ρ N Q X) (t.run ρ N Q X)) X):(Sm.ifs c s t).run ρ N Q X:=q
def zmn (q:a.run ρ Q X):(Sm.ret a).run ρ N Q X:=q
def zmq (q:a.run (vis (dem js ρ)) (λd=>onL (z04 d) λl=>forL tg s N Q X l (dem js ρ)) X):(Sm.for_ js tg a s).run ρ N Q X:=q
def zhh (q:a.run ρ (λd=>onR [d] λl=>forL tg s N Q X l ρ) X):(Sm.forr [a] tg s).run ρ N Q X:=q
def z5x {l:List D}(h:ownL ρ i λl=>a.run ρ (λd=>l.length<sizeLine/\Safe d ρ/\N (ρ.set i (.o (.lst (l++[d]))))) X):(Sm.app i a).run ρ N Q X:=h
def zmo (h:ownL ρ i λl=>popL l λl' _=>N (ρ.set i (.o (.lst l')))):(Sm.pop i).run ρ N Q X:=h
def zhb (h:ownL ρ i λl=>popL l λl' d=>N ((ρ.set i (.o (.lst l'))).set j (.s d))):(Sm.popTo j i).run ρ N Q X:=h
def zmr (h:ownL ρ i λl=>a.run ρ (λd=>isLs d λm=>l.length+m.length<=sizeLine/\(∀x∈m,Safe x ρ)/\N (ρ.set i (.o (.lst (l++m))))) X):(Sm.ext i a).run ρ N Q X:=h
def zha (h:ownL ρ i λl=>a.run ρ (λd=>Safe d ρ/\b.run ρ (λe=>isI e λz=>onN (ixN l.length z) λj=>N (ρ.set i (.o (.lst (l.set j d))))) X) X):(Sm.put i b a).run ρ N Q X:=h
def zmu (h:ds.length=np)(q:s.run (ds.map B.s++List.replicate (nn - np) .n) (λ_=>Q .non) Q (λ_=>False)):(Fn.mkN np nn s).run ds Q X:=⟨h,q⟩
def zmv (h:ds.length=np)(q:s.run (ds.map B.s++List.replicate (nn - np) .n) (λ_=>Q .non) Q X):(Fn.mk' np nn s).run ds Q X:=⟨h,q⟩
def Sm.cut (W:Pu.Env->Prop)(h:s.run ρ W Q X)(k:∀a,W a->t.run a N Q X):(Sm.seq s t).run ρ N Q X:=s.mono ρ W _ Q Q X X k (λ_ z=>z) (λ_ z=>z) h
def zj8 (W:Pu.Env->Prop)(h:tst d (s.run ρ W Q X) (t.run ρ W Q X))(k:∀a,W a->N a):tst d (s.run ρ N Q X) (t.run ρ N Q X):=z2I (s.mono ρ W N Q Q X X k (λ_ z=>z) (λ_ z=>z)) (t.mono ρ W N Q Q X X k (λ_ z=>z) (λ_ z=>z)) h
def nI (a:Pu.Env)(i:Nat):Int:=match a.get i with
 | some (.int s)=>s
 | _=>0
def nL (a:Pu.Env)(i:Nat):Nat:=match a.get i with
 | some (.lst k)=>k.length
 | _=>0
def z0n {j:Type}{f:j->D}{i:Tg}{l:List j}(I:List j->Pu.Env->Prop)(m:I [] ρ)(o:∀a x r ρ,l=a++x::r->I a ρ->i.put (f x) ρ λd=>s.run d (λb=>I (a++[x]) b) Q X)(n:∀ρ,I l ρ->N ρ):forL i s N Q X (l.map f) ρ:=by
 have g:∀r a ρ,l=a++r->I a ρ->forL i s N Q X (r.map f) ρ:=by
  intro r
  induction r with
  | nil=>
   intro a ρ e h;rw[vW] at e;subst e;exact n ρ h
  | cons x r p=>
   intro a ρ e h;exact Tg.put_mono (λd q=>s.mono d _ _ Q Q X X (λb q=>p _ _ (by rw[e];simp) q) (λ_ z=>z) (λ_ z=>z) q) (o a x r ρ e h)
 exact g l [] ρ rfl m
def z5K (I:Pu.Env->Prop)(e:Pu.Env->Nat)(f:I ρ)(h:∀ρ,I ρ->c.run ρ (λd=>tst d (s.run ρ (λa=>I a/\e a < e ρ) Q X) (N ρ)) X):(Sm.wh c s).run ρ N Q X:=by
 have b:∀n ρ,I ρ->e ρ < n->wh c s N Q X n ρ:=by
  intro n
  induction n with
  | zero=>simp_all
  | succ n i=>
   intro ρ g j;exact c.mono ρ _ _ X X (λd q=>z2I (s.mono ρ _ _ Q Q X X (λa q=>i a q.1 (by lia)) (λ_ z=>z) (λ_ z=>z)) (λz=>z) q) (λ_ z=>z) (h ρ g)
 exact⟨e ρ+1,b _ ρ f (uX _)⟩
theorem z17 {a:Type}{f g:a->D}{G:D->(Option D->Prop)->Prop}{M:List D->Prop}:∀{l:List a},(∀x∈l,∀K:Option D->Prop,K (some (g x))->G (f x) K)->M (l.map g)->z4R G (l.map f) M
 | [],_,q=>q
 | x::r,h,q=>h x wB _ (z17 (λy b=>h y (wo _ b)) q)
theorem z2V {b:Type}{f g:b->D}{p:b->Bool}{G:D->(Option D->Prop)->Prop}{M:List D->Prop}:∀{l:List b},(∀x∈l,∀K:Option D->Prop,(p x=true->K (some (g x)))->(p x=false->K none)->G (f x) K)->M ((l.filter p).map g)->z4R G (l.map f) M
 | [],_,q=>q
 | x::r,h,q=>by
  refine h x wB _ (λe =>?_) (λe =>?_)
  .refine z2V (λy a=>h y (wo _ a)) ?_
   simp_all
  .refine z2V (λy a=>h y (wo _ a)) ?_
   simp_all
theorem z4Q {b d:Type}{f:b->D}{g:d->D}{P:b->d->Prop}{G:D->(Option D->Prop)->Prop}:∀{l:List b}{M:List D->Prop},(∀x∈l,∀K:Option D->Prop,(∀y,P x y->K (some (g y)))->G (f x) K)->(∀ys:List d,ys.length=l.length->(∀y∈ys,∃x∈l,P x y)->M (ys.map g))->z4R G (l.map f) M
 | [],_,_,q=>q [] rfl (λ_ z=>by simp at z)
 | x::r,M,h,q=>h x wB _ λy i=>z4Q (λz a=>h z (wo _ a)) λys e j=>q (y::ys) (by simp[e]) λz a=>by
  rcases wm.mp a with rfl | a
  .exact⟨x,wB,i⟩
  simp_all
def znN {k:Nat}(q:elt.run (ρ.set k (.s x)) (λd=>K (some d)) (λ_=>False)):z5f (.nm k) none elt ρ x K:=q
def zm1 {k:Nat}(q:c.run (ρ.set k (.s x)) (λb=>tst b (elt.run (ρ.set k (.s x)) (λd=>K (some d)) (λ_=>False)) (K none)) (λ_=>False)):z5f (.nm k) (some c) elt ρ x K:=q
variable {m n:Int}
def znt (q:Q (.int (m+n))):pAdd.run [.int m,.int n] Q X:=q
def znl (q:Q (.int (m - n))):pSub.run [.int m,.int n] Q X:=q
def znp (h:ziR m n)(q:Q (.int (m*n))):z0b.run [.int m,.int n] Q X:=⟨h,q⟩
def znm (q:Q (.int (-m))):pNeg.run [.int m] Q X:=q
def zgw (h:0<n)(a:Bt 9000 n)(q:Q (.int (m / n))):z23.run [.int m,.int n] Q X:=⟨⟨by lia,a⟩,by rw[Int.fdiv_eq_ediv_of_nonneg m (by lia)];exact q⟩
def zli (h:0<n)(q:Q (.int (m % n))):pMod.run [.int m,.int n] Q X:=⟨by lia,by rw[Int.fmod_eq_emod_of_nonneg m (by lia)];exact q⟩
def zlh (h:CPow m n)(q:Q (.int (m ^ n.toNat))):pPow.run [.int m,.int n] Q X:=⟨h,q⟩
def o_lt (q:Q (.bl (decide (m<n)))):pLt.run [.int m,.int n] Q X:=q
def o_le (q:Q (.bl (decide (m<=n)))):pLe.run [.int m,.int n] Q X:=q
def o_gt (q:Q (.bl (decide (n<m)))):pGt.run [.int m,.int n] Q X:=q
def o_ge (q:Q (.bl (decide (n<=m)))):pGeI.run [.int m,.int n] Q X:=q
def o_eq (q:Q (.bl (decide (m=n)))):pEq.run [.int m,.int n] Q X:=q
def o_ne (q:Q (.bl (!decide (m=n)))):pNe.run [.int m,.int n] Q X:=q
def zib (a:Da 60 (.tup l))(b:Da 60 (.tup r))(q:Q (.bl (deq (.tup l) (.tup r)))):pEq.run [.tup l,.tup r] Q X:=⟨a,b,q⟩
def zfh (a:Da 60 (.tup l))(b:Da 60 (.tup r))(q:Q (.bl (!deq (.tup l) (.tup r)))):pNe.run [.tup l,.tup r] Q X:=⟨a,b,q⟩
def o_is (q:Q (.bl (isN d))):pIs.run [d,.non] Q X:=q
def zi8 (q:Q (.bl (!isN d))):z6X.run [d,.non] Q X:=q
def zlm (q:Q (.int l.length)):pLen.run [.lst l] Q X:=q
def zll (q:Q (.int l.length)):pLen.run [.tup l] Q X:=q
def zns (q:onV (atI l m) Q):pIx.run [.lst l,.int m] Q X:=q
def znr (q:onV (atI l m) Q):pIx.run [.tup l,.int m] Q X:=q
def znj (h:ds.length<=sizeLine)(q:Q (.tup ds)):pTup.run ds Q X:=⟨h,q⟩
def znq (h:ds.length<=sizeLine)(q:Q (.lst ds)):pLst.run ds Q X:=⟨h,q⟩
def zlg (q:Q (.tup l)):z1J.run [.lst l] Q X:=q
def zlk (q:Q (.lst l)):zcG.run [.tup l] Q X:=q
def znu (q:Q (.int (if m<0 then -m else m))):pAbs.run [.int m] Q X:=q
def zlq {k:Bool}(q:Q (.int (if k then 1 else 0))):pInt.run [.bl k] Q X:=q
def zlp (q:Q (.bl (T == "int"))):(pIsi T).run [.int m] Q X:=q
def zln (q:Q (.bl (T == "tuple"))):(pIsi T).run [.tup l] Q X:=q
def zlo (q:Q (.bl (T == "str"))):(pIsi T).run [.str x] Q X:=q
def zgv (a:ns≠[])(q:∀k,k∈ns->(∀x∈ns,x<=k)->Q (.int k)):zf5.run [.lst (ns.map D.int)] Q X:=by
 show onI _ _;rw[zax];exact⟨a,q⟩
def zlj (q:Q (.int (if n<m then n else m))):zba.run [.int m,.int n] Q X:=q
def znk {ns:List Int}(q:Q (.int ns.sum)):pSum.run [.lst (ns.map D.int)] Q X:=by
 show onI _ _;rw[zax];exact q
def zcQ (h:l.length+r.length<=sizeLine)(q:Q (.lst (l++r))):pAdd.run [.lst l,.lst r] Q X:=⟨h,q⟩
def zam (h:l.length+r.length<=sizeLine)(q:Q (.tup (l++r))):pAdd.run [.tup l,.tup r] Q X:=⟨h,q⟩
end
theorem Safe.of_noL {d:D}(a:noL d=true)(b:noD d=true):∀e:Pu.Env,Safe d e
 | []=>trivial
 | .n::r=>⟨trivial,Safe.of_noL a b r⟩
 | .s _::r=>⟨trivial,Safe.of_noL a b r⟩
 | .o x::r=>⟨by cases x <;> first | exact a | exact b | trivial,Safe.of_noL a b r⟩
def z0O {a:Pu.Env}{i:Nat}{l:List D}{K:List D->Prop}(h:a[i]? = some (B.o (.lst l)))(q:K l):ownL a i K:=by unfold ownL;rw[h];exact q
def z60 {k:Int}{K:List D->Prop}(h : -(2 ^ 62)<=k)(a:k<2 ^ 62)(q:K ((List.range k.toNat).map λ(j:Nat)=>D.int j)):onR [.int k] K:=⟨⟨h,a⟩,q⟩
def z0P {l:List D}{k:Int}{d:D}{Q:DK}(e:atI l k=some d)(q:Q d):onV (atI l k) Q:=by rw[e];exact q
noncomputable abbrev vec (p:Int × Int):D :=.tup [.int p.1,.int p.2]
theorem z4H:∀{l:List D},(∀d∈l,noL d=true)->noLs l=true
 | [],_=>rfl
 | d::r,h=>by rw[noLs,h d wB,z4H λx a=>h x (wo _ a)];rfl
theorem z4I:∀{l:List D},(∀d∈l,noD d=true)->noDs l=true
 | [],_=>rfl
 | d::r,h=>by rw[noDs,h d wB,z4I λx a=>h x (wo _ a)];rfl
abbrev vecs (l:List (Int × Int)):D :=.tup (l.map vec)
def z1m (l:List (Int × Int)):noL (vecs l)=true:=by
 refine z4H λd a =>?_;obtain⟨p,_,rfl⟩:=we.mp a
 rfl
def z1n (l:List (Int × Int)):noD (vecs l)=true:=by
 refine z4I λd a =>?_;obtain⟨p,_,rfl⟩:=we.mp a
 rfl
def z0G {a:Type}{f:a->D}{l:List a}{k:Int}{x:a}(h:atI l k=some x):atI (l.map f) k=some (f x):=by
 unfold atI at h ⊢
 cases q:ixN l.length k with
 | none=>simp_all
 | some j=>
  simp_all
def menu {ns:List Int}{k:Int}{Q:DK}(a:0<=k)(b:k<ns.length)(q:∀v∈ns,Q (.int v)):onV (atI (ns.map D.int) k) Q:=by
 obtain⟨v,d,e⟩:=z5s a b;rw[z0G e];exact q v d
def z2E {d:Type}(f:d->D)(l:List d)(a b:Option Int):cutD (l.map f) a b=((l.drop (HT.sIx l.length 0 a)).take (HT.sIx l.length l.length b - HT.sIx l.length 0 a)).map f:=by
 unfold cutD
 simp_all
def z2C (p r:Int × Int):deq (vec p) (vec r)=decide (p=r):=by
 obtain⟨a,b⟩:=p;obtain⟨c,d⟩:=r;show PyData.eqv (.tuple [.int a,.int b]) (.tuple [.int c,.int d])=decide _;rw[eqv2,decide_eq_decide,Prod.mk.injEq]
theorem Da.vec (p:Int × Int){n:Nat}:Da (n+1) (vec p):=Da.tup.mpr λd a=>by
 simp[wm,wE,vO] at a
 rcases a with rfl | rfl <;> exact Da.int
end Pu
namespace Geo
abbrev P:=Int × Int
def Qa (a b c:P):Int:=(b.1 - a.1)*(c.2 - a.2) - (b.2 - a.2)*(c.1 - a.1)
def Lx (a b:P):Prop:=a.1<b.1\/(a.1=b.1/\a.2<b.2)
instance (a b:P):Decidable (Lx a b):=inferInstanceAs (Decidable (_\/_))
def Lx.irr:¬ Lx a a:=by unfold Lx;lia
def Lx.tr {a b c:P}(h:Lx a b)(q:Lx b c):Lx a c:=by unfold Lx at *;lia
def Lx.asym (h:Lx a b):¬ Lx b a:=by unfold Lx at *;lia
def Lx.tri (a b:P):Lx a b\/a=b\/Lx b a:=by
 obtain⟨d,e⟩:=a;obtain⟨f,g⟩:=b;unfold Lx
 grind
def Lx.ne {a b:P}(h:Lx a b):a≠b:=λz=>by subst z;exact Lx.irr h
def z8v (d:¬ Lx a b)(e:¬ Lx b a):a=b:=by
 rcases Lx.tri a b with h | h | h
 .exact absurd h d
 .exact h
 simp_all
def z4t {k m:Int}(h:0<k)(q:0<=m*k):0<=m:=by
 rcases(show m<0\/0<=m by lia) with z | z
 .have:=Int.mul_neg_of_neg_of_pos z h;lia
 .exact z
def zjm {k m:Int}(h:0<k)(q:0<m*k):0<m:=by
 rcases(show m<=0\/0<m by lia) with z | z
 .have:=vG z (wz h);lia
 .exact z
def zh1 {u1 u2 w1 w2 z1 z2:Int}(a:0<w1\/w1=0/\0<w2)(m:0<u1\/u1=0/\0<=u2)(b:0<z1\/z1=0/\0<=z2)(g:0<=u1*w2 - u2*w1)(h:0<=w1*z2 - w2*z1):0<=u1*z2 - u2*z1:=by
 rcases a with a | ⟨a,d⟩
 .refine z4t a ?_;have e:(u1*z2 - u2*z1)*w1=(u1*w2 - u2*w1)*z1+(w1*z2 - w2*z1)*u1:=by grind
  have j:=wN g (show 0<=z1 by lia);have l:=wN h (show 0<=u1 by lia);lia
 .subst a;have i:z1=0:=by
   rcases b with b | b
   .have:=wW d b;lia
   .exact b.1
  have f:0<=z2:=by lia
  subst i;have:=wN (show 0<=u1 by lia) f;lia
def zmj {u1 u2 w1 w2 z1 z2:Int}(a:0<w1\/w1=0/\0<w2)(d:0<u1\/u1=0/\0<u2)(b:0<z1\/z1=0/\0<z2)(h:0<u1*w2 - u2*w1)(i:0<w1*z2 - w2*z1):0<u1*z2 - u2*z1:=by
 rcases a with a | ⟨a,g⟩
 .refine zjm a ?_;have e:(u1*z2 - u2*z1)*w1=(u1*w2 - u2*w1)*z1+(w1*z2 - w2*z1)*u1:=by grind
  rcases d with d | ⟨d,f⟩
  .have j:=wN (wz h) (show 0<=z1 by lia);have l:=wW i d;lia
  .have:=wW f a;lia
 .subst a
  rcases b with b | ⟨b,_⟩
  .have:=wW g b;lia
  .subst b;lia
def pops (v:P):List P->List P
 | b::a::r=>if Qa a b v<=0 then pops v (a::r) else b::a::r
 | s=>s
def z6J (S:P->Prop):List P->Prop
 | b::a::r=>(∀p,S p->0<=Qa a b p)/\Lx a b/\z6J S (a::r)
 | _=>True
def Conv:List P->Prop
 | c::b::a::r=>0<Qa a b c/\Conv (b::a::r)
 | _=>True
def z6J.tail (h:z6J S (b::r)):z6J S r:=by
 cases r with
 | nil=>trivial
 | cons a r=>exact h.2.2
def Conv.tail (h:Conv (b::r)):Conv r:=by
 match r,h with
 | [],_=>trivial
 | [_],_=>trivial
 | _::_::_,h=>exact h.2
theorem z8N {v:P}:∀{r:List P}{b a:P},z6J S (b::a::r)->Conv (b::a::r)->Lx b v->0<Qa a b v->z6J (λp=>p=v\/S p) (b::a::r)
 | [],b,a,e,g,j,h=>⟨λp f=>by
   rcases f with rfl | f
   .exact wz h
   .exact e.1 p f,e.2.1,trivial⟩
 | c::r,b,a,e,g,j,h=>by
  have i:=e.2.2.2.1;have d:=e.2.1;have m:0<Qa c a v:=by
   have l:0<Qa c a b:=g.1;have:=zmj (u1:=a.1 - c.1) (u2:=a.2 - c.2) (w1:=b.1 - a.1) (w2:=b.2 - a.2) (z1:=v.1 - b.1) (z2:=v.2 - b.2) (by unfold Lx at d;lia) (by unfold Lx at i;lia) (by unfold Lx at j;lia)
    (by unfold Qa at l;grind) (by unfold Qa at h;grind)
   unfold Qa at l ⊢
   grind
  exact⟨λp f=>by
   rcases f with rfl | f
   .exact wz h
   .exact e.1 p f,d,z8N e.2.2 g.2 (d.tr j) m⟩
theorem zct {v:P}(w:∀p,S p->Lx p v):∀{r:List P}{b:P},(∀x∈b::r,S x)->z6J S (b::r)->Conv (b::r)->(∀p,S p->¬ Lx p b->0<=Qa b v p)->(∀z,(b::r).getLast? = some z->∀p,S p->¬ Lx p z)->
  ∃d l,pops v (b::r)=d::l/\(d::l) <:+ (b::r)/\(∀p,S p->0<=Qa d v p)/\z6J (λp=>p=v\/S p) (d::l)/\Conv (v::d::l)
 | [],b,s,j,m,t,q=>⟨b,[],rfl,List.suffix_refl _,λp i=>t p i (q b rfl p i),trivial,trivial⟩
 | a::r,b,s,j,m,t,q=>by
  have f:=j.2.1;have g:=w b (s b (by simp))
  by_cases h:Qa a b v<=0
  .have e:pops v (b::a::r)=pops v (a::r):=by rw[pops,if_pos h]
   obtain⟨d,l,y,A,C,E,F⟩:=zct w (r:=r) (b:=a) (λx G=>s x (wo _ G)) j.tail m.tail (λp i n=>by
    have u:=j.1 p i;have:=zh1 (u1:=v.1 - a.1) (u2:=v.2 - a.2) (w1:=b.1 - a.1) (w2:=b.2 - a.2) (z1:=p.1 - a.1) (z2:=p.2 - a.2) (by unfold Lx at f;lia) (by have:=f.tr g;unfold Lx at this;lia) (by unfold Lx at n;lia)
     (by unfold Qa at h;grind) (by unfold Qa at u;grind)
    unfold Qa
    grind) (λz H=>q z (by rw[jx];exact H))
   exact⟨d,l,e.trans y,A.trans (List.suffix_cons _ _),C,E,F⟩
  .have o:0<Qa a b v:=by lia
   have e:pops v (b::a::r)=b::a::r:=by rw[pops,if_neg h]
   refine⟨b,a::r,e,List.suffix_refl _,λp i =>?_,z8N j m g o,⟨o,m⟩⟩
   by_cases n:Lx p b
   .have u:=j.1 p i;have:=zh1 (u1:=b.1 - p.1) (u2:=b.2 - p.2) (w1:=b.1 - a.1) (w2:=b.2 - a.2) (z1:=v.1 - b.1) (z2:=v.2 - b.2) (by unfold Lx at f;lia) (by unfold Lx at n;lia) (by unfold Lx at g;lia)
     (by unfold Qa at u;grind) (by unfold Qa at o;grind)
    unfold Qa
    grind
   .exact t p i n
structure Ok (S:P->Prop)(s:List P):Prop where
 sub:∀x∈s,S x
 desc:s.Pairwise λx y=>Lx y x
 top:∃b r,s=b::r/\∀p,S p->¬ Lx b p
 bot:∃z,s.getLast? = some z/\∀p,S p->¬ Lx p z
 edges:z6J S s
 conv:Conv s
def z5V {s t:List P}(h:(b::t) <:+ s):s.getLast? = (b::t).getLast? := by
 obtain⟨u,rfl⟩:=h;rw[List.getLast?_append]
 rfl
def Ok.push {S:P->Prop}{s:List P}{v:P}(o:Ok S s)(i:∀p,S p->Lx p v):Ok (λp=>p=v\/S p) (v::pops v s):=by
 obtain⟨b,r,rfl,h⟩:=o.top;obtain⟨z,m,f⟩:=o.bot;obtain⟨n,A,q,l,t,u,w⟩:=zct i o.sub o.edges o.conv (λp a y=>by
  have:p=b:=z8v y (h p a);subst this;unfold Qa
  grind) (λC j=>by rw[m] at j;injection j with e;subst e;exact f)
 have d:∀x∈n::A,S x:=λx g=>o.sub x (l.subset g);rw[q];refine⟨λx g =>?_,?_,⟨v,_,rfl,λp a =>?_⟩,⟨z,?_,λp a =>?_⟩,⟨λp a =>?_,i n (d n (by simp)),u⟩,w⟩
 .rcases wm.mp g with rfl | g
  .exact .inl rfl
  .exact .inr (d x g)
 .exact w6.mpr ⟨λx g=>i x (d x g),o.desc.sublist l.sublist⟩
 .rcases a with rfl | a
  .exact Lx.irr
  .exact(i p a).asym
 .rw[jx, <- z5V l];exact m
 .rcases a with rfl | a
  .exact(i z (by rw[z5V l] at m;exact d z (List.mem_of_getLast? m))).asym
  .exact f p a
 .rcases a with rfl | a
  .unfold Qa;grind
  .exact t p a
def z2F (l:List P):List P:=l.foldl (λs v=>v::pops v s) []
def Ok.one (v:P):Ok (λp=>p=v) [v]:=⟨by simp,by simp,⟨v,[],rfl,λp a=>by subst a;exact Lx.irr⟩,⟨v,rfl,λp a=>by subst a;exact Lx.irr⟩,trivial,trivial⟩
def Ok.congr {S a:P->Prop}{s:List P}(o:Ok S s)(h:∀p,S p↔a p):Ok a s:=by
 have e  := funext λp=>propext (h p);subst e;exact o
theorem zaN:∀(l:List P) (S:P->Prop) (s:List P),Ok S s->(∀x∈l,∀p,S p->Lx p x)->l.Pairwise Lx->Ok (λp=>S p\/p∈l) (l.foldl (λs v=>v::pops v s) s)
 | [],S,s,o,_,_=>o.congr (by simp)
 | v::l,S,s,o,h,a=>by
  obtain⟨d,e⟩:=w6.mp a;have:=zaN l _ _ (o.push (h v (by simp))) (λx b p a=>by
   rcases a with rfl | a
   .exact d x b
   .exact h x (by simp[b]) p a) e
  refine this.congr λp =>?_;simp[wm]
  constructor
  .rintro((h | h) | h)
   .exact .inr (.inl h)
   .exact .inl h
   simp_all
  .rintro(h | h | h)
   .simp_all
   .exact .inl (.inl h)
   .exact .inr h
def z8U (e:l≠[])(a:l.Pairwise Lx):Ok (· ∈ l) (z2F l):=by
 match l,e with
 | v::l,_=>
  obtain⟨b,d⟩:=w6.mp a;have:=zaN l _ [v] (Ok.one v) (λx f p a=>by subst a;exact b x f) d;exact this.congr λp=>by simp
def ng (p:P):P:=(-p.1,-p.2)
def z4J (p:P):ng (ng p)=p:=by unfold ng;simp
def zfN (a b c:P):Qa (ng a) (ng b) (ng c)=Qa a b c:=by unfold Qa ng;grind
def zbp:Lx (ng a) (ng b)↔Lx b a:=by unfold Lx ng;simp;lia
theorem zcu (v:P):∀s:List P,pops (ng v) (s.map ng)=(pops v s).map ng
 | []=>rfl
 | [_]=>rfl
 | b::a::r=>by
  show (if Qa _ _ _<=0 then pops _ ((a::r).map ng) else _)=_;rw[zfN,zcu v _,pops]
  by_cases h:Qa a b v<=0
  .simp_all
  .rw[if_neg h,if_neg h];rfl
theorem zds:∀(l s:List P),(l.map ng).foldl (λs v=>v::pops v s) (s.map ng)=(l.foldl (λs v=>v::pops v s) s).map ng
 | [],_=>rfl
 | v::l,s=>by
  show (l.map ng).foldl _ (ng v::pops _ _)=_;rw[zcu];exact zds l (v::pops v s)
def zdI (l:List P):z2F (l.map ng)=(z2F l).map ng:=zds l []
def dot (a b p:P):Int:=(p.1 - a.1)*(b.1 - a.1)+(p.2 - a.2)*(b.2 - a.2)
structure Edge (S:P->Prop)(a b:P):Prop where
 sa:S a
 sb:S b
 ne:a≠b
 left:∀p,S p->0<=Qa a b p
 btw:∀p,S p->Qa a b p=0->0<=dot a b p/\0<=dot b a p
theorem Edge.ng (e:Edge (λp=>S (Geo.ng p)) a b):Edge S (Geo.ng a) (Geo.ng b):=by
 refine⟨e.sa,e.sb,λz=>e.ne (by have:=congrArg Geo.ng z;rwa [z4J,z4J] at this),λp d =>?_,λp d h =>?_⟩
 .have:=e.left _ (by rw[z4J];exact d);rw[<- zfN,z4J] at this;exact this
 .have:=e.btw _ (by rw[z4J];exact d) (by rw[<- zfN,z4J];exact h);unfold dot Geo.ng at*
  grind
def ziF (a b c:P):Qa a c b = -Qa a b c:=by unfold Qa;grind
def z0j (x:Int):0<=x*x:=by
 rcases(show x<=0\/0<=x by lia) with h | h
 .exact vZ h h
 .exact wN h h
def z4a {x y:Int}(h:x*x+y*y=0):x=0/\y=0:=by
 have d:=z0j x;have e:=z0j y;have a:x*x=0:=by omega
 have b:y*y=0:=by omega
 constructor
 .rcases wK.mp a with z | z <;> exact z
 .rcases wK.mp b with z | z <;> exact z
def Edge.det {a b c:P}(e:Edge S a b)(f:Edge S a c):b=c:=by
 have h1:=e.left c f.sb;have h2:=f.left b e.sb;have N:=ziF a b c;have q:Qa a b c=0:=by lia
 have r:Qa a c b=0:=by lia
 have u:=e.btw c f.sb q;have w:=f.btw b e.sb r;have a0:=e.ne;have a3:=f.ne;obtain⟨m,n⟩:=a;obtain⟨d,g⟩:=b;obtain⟨i,j⟩:=c;unfold Qa at q;unfold dot at u w;simp only[ne_eq,Prod.mk.injEq] at*;obtain⟨a4,s⟩:=u;obtain⟨a5,l⟩:=w;have U:(d - i)*(d - i)+(g - j)*(g - j)=0:=by
  generalize O:d - m=u1 at*;generalize Q:g - n=u2 at*;generalize R:i - m=w1 at*;generalize T:j - n=w2 at*;have y:d - i=u1 - w1:=by lia
  have G:g - j=u2 - w2:=by lia
  have H:i - d=w1 - u1:=by lia
  have I:j - g=w2 - u2:=by lia
  have J:m - d = -u1:=by lia
  have K:n - g = -u2:=by lia
  have L:m - i = -w1:=by lia
  have M:n - j = -w2:=by lia
  rw[y,G] at l ⊢;rw[H,I,J,K] at s;rw[L,M] at l;have A:0<=(u1*u1+u2*u2) - (u1*w1+u2*w2):=by grind
  have B:0<=(w1*w1+w2*w2) - (u1*w1+u2*w2):=by grind
  have C:(u1*u1+u2*u2)*(w1*w1+w2*w2)=(u1*w1+u2*w2)*(u1*w1+u2*w2):=by
   have:(u1*u1+u2*u2)*(w1*w1+w2*w2)=(u1*w1+u2*w2)*(u1*w1+u2*w2)+(u1*w2 - u2*w1)*(u1*w2 - u2*w1):=by grind
   rw[this,q];lia
  have D:0<=u1*w1+u2*w2:=by grind
  have PX:0<u1*u1+u2*u2:=by
   have W:=z0j u1;have n2:=z0j u2
   rcases(show u1*u1+u2*u2=0\/0<u1*u1+u2*u2 by lia) with z | z
   .have:=z4a z;lia
   .exact z
  have PY:0<w1*w1+w2*w2:=by
   have W:=z0j w1;have n2:=z0j w2
   rcases(show w1*w1+w2*w2=0\/0<w1*w1+w2*w2 by lia) with z | z
   .have:=z4a z;lia
   .exact z
  have E:(u1 - w1)*(u1 - w1)+(u2 - w2)*(u2 - w2)=((u1*u1+u2*u2) - (u1*w1+u2*w2))+((w1*w1+w2*w2) - (u1*w1+u2*w2)):=by grind
  rw[E];generalize u1*u1+u2*u2=X at*;generalize w1*w1+w2*w2=Y at*;generalize u1*w1+u2*w2=Z at*;have F:(X - Z)*Y+Z*(Y - Z)=0:=by grind
  have G1:=wN A (show 0<=Y by lia);have G2:=wN D B;have x:(X - Z)*Y=0:=by omega
  have t:Z*(Y - Z)=0:=by omega
  rcases wK.mp x with h | h
  .rcases wK.mp t with o | o
   .have:X*Y=0:=by rw[C,o];rfl
    rcases wK.mp this with p | p <;> lia
   .lia
  .rcases wK.mp t with o | o <;> lia
 have:=z4a U;lia
def Path (R:P->P->Prop):List P->Prop
 | a::b::r=>R a b/\Path R (b::r)
 | _=>True
theorem Path.join {t:List P}:∀{A:List P},Path R (A++[M])->Path R (M::t)->Path R (A++M::t)
 | [],_,h=>h
 | [a],h,q=>⟨h.1,q⟩
 | a::b::A,h,q=>⟨h.1,Path.join (A:=b::A) h.2 q⟩
def Path.snoc (h:Path R (A++[a]))(q:R a b):Path R (A++[a,b]):=Path.join h ⟨q,trivial⟩
theorem Path.rev:∀{l:List P},Path (λx y=>R y x) l->Path R l.reverse
 | [],_=>trivial
 | [_],_=>trivial
 | a::b::r,h=>by
  have:=Path.rev h.2;rw[uH] at this ⊢;rw[uH];rw[vI];exact Path.snoc this h.1
theorem Path.imp {R R':P->P->Prop}(i:∀a b,R a b->R' a b):∀{l:List P},Path R l->Path R' l
 | [],_=>trivial
 | [_],_=>trivial
 | _::_::_,h=>⟨i _ _ h.1,Path.imp i h.2⟩
theorem Path.map {R:P->P->Prop}{f:P->P}:∀{l:List P},Path (λa b=>R (f a) (f b)) l->Path R (l.map f)
 | [],_=>trivial
 | [_],_=>trivial
 | _::b::r,h=>⟨h.1,Path.map h.2⟩
def zgz (h:Lx a b)(q:¬ Lx b p)(z:Qa a b p=0):0<=dot b a p:=by
 unfold Lx at h q;unfold Qa at z;unfold dot;have e:(p.1 - b.1)*(a.1 - b.1)+(p.2 - b.2)*(a.2 - b.2)=(b.1 - a.1)*(b.1 - p.1)+(b.2 - a.2)*(b.2 - p.2):=by grind
 rw[e];have u:(b.1 - a.1)*(b.2 - p.2)=(b.2 - a.2)*(b.1 - p.1):=by grind
 generalize m:b.1 - a.1=d at*;generalize n:b.2 - a.2=f at*;generalize o:b.1 - p.1=i at*;generalize r:b.2 - p.2=j at*
 rcases(show 0<d\/d=0/\0<f by lia) with g | ⟨g,l⟩
 .refine z4t g ?_;have:(d*i+f*j)*d=i*(d*d+f*f):=by grind
  rw[this];have s:=z0j d;have t:=z0j f;exact wN (by lia) (by lia)
 .subst g;have:f*i=0:=by lia
  rcases wK.mp this with z | z
  .lia
  .subst z;have:=wN (wz l) (show 0<=j by lia);lia
def zif (h:Lx a b)(q:¬ Lx p a)(z:Qa a b p=0):0<=dot a b p:=by
 have:=zgz (zbp.mpr h) (λy=>q (zbp.mp y)) (by rw[zfN];unfold Qa at *;grind);unfold dot ng at*;dsimp only at this
 grind
def zcT {a b c p:P}(h:0<Qa a b c)(q:0<=Qa b c p)(z:Qa a b p=0):0<=dot b a p:=by
 unfold Qa at h q z;unfold dot;have l:(p.1 - b.1)*(a.1 - b.1)+(p.2 - b.2)*(a.2 - b.2) = -((p.1 - b.1)*(b.1 - a.1)+(p.2 - b.2)*(b.2 - a.2)):=by grind
 rw[l];have m:0<(b.1 - a.1)*(c.2 - b.2) - (b.2 - a.2)*(c.1 - b.1):=by grind
 have n:(b.1 - a.1)*(p.2 - b.2) - (b.2 - a.2)*(p.1 - b.1)=0:=by grind
 generalize b.1 - a.1=d at*;generalize b.2 - a.2=e at*;generalize c.1 - b.1=f at*;generalize c.2 - b.2=g at*;generalize p.1 - b.1=i at*;generalize p.2 - b.2=j at*;refine z4t m ?_;have : -(i*d+j*e)*(d*g - e*f)=(f*j - g*i)*(d*d+e*e) - (d*j - e*i)*(f*d+g*e):=by grind
 rw[this,n,je,Int.sub_zero];have o:=z0j d;have r:=z0j e;exact wN q (by lia)
def zaq (h:0<Qa y a b)(q:0<=Qa y a p)(z:Qa a b p=0):0<=dot a b p:=by
 unfold Qa at h q z;unfold dot;have l:0<(a.1 - y.1)*(b.2 - a.2) - (a.2 - y.2)*(b.1 - a.1):=by grind
 have m:0<=(a.1 - y.1)*(p.2 - a.2) - (a.2 - y.2)*(p.1 - a.1):=by grind
 generalize b.1 - a.1=d at*;generalize b.2 - a.2=e at*;generalize a.1 - y.1=f at*;generalize a.2 - y.2=g at*;generalize p.1 - a.1=i at*;generalize p.2 - a.2=j at*;refine z4t l ?_;have:(i*d+j*e)*(f*e - g*d)=(f*j - g*i)*(d*d+e*e) - (d*j - e*i)*(f*d+g*e):=by grind
 rw[this,z,je,Int.sub_zero];have n:=z0j d;have o:=z0j e;exact wN m (by lia)
theorem z73:∀{r:List P}{b a:P},(∀x∈b::a::r,S x)->z6J S (b::a::r)->Conv (b::a::r)->(∀z,(b::a::r).getLast? = some z->∀p,S p->¬ Lx p z)->(∀p,S p->Qa a b p=0->0<=dot b a p)->Path (λx y=>Edge S y x) (b::a::r)
 | [],b,a,f,d,g,h,i=>⟨⟨f a (by simp),f b (by simp),d.2.1.ne,d.1,λp e z=>⟨zif d.2.1 (h a rfl p e) z,i p e z⟩⟩,trivial⟩
 | y::r,b,a,f,d,g,h,i=>by
  refine⟨⟨f a (by simp),f b (by simp),d.2.1.ne,d.1,λp e z=>⟨zaq g.1 (d.2.2.1 p e) z,i p e z⟩⟩,?_⟩;exact z73 (λx j=>f x (wo _ j)) d.2.2 g.2 (λz l=>h z (by simp_all)) λp e z=>zcT g.1 (d.1 p e) z
def Ok.path (o:Ok S s):Path (Edge S) s.reverse:=by
 refine Path.rev ?_;obtain⟨b,r,rfl,h⟩:=o.top;obtain⟨z,i,f⟩:=o.bot
 cases r with
 | nil=>trivial
 | cons a r=>exact z73 o.sub o.edges o.conv (λj d=>by rw[i] at d;injection d with e;subst e;exact f) λp g z=>zgz o.edges.2.1 (h p g) z
def hull (l:List P):List P:=if l.length<=1 then l else (z2F l).reverse.dropLast++(z2F l.reverse).reverse.dropLast
structure z03 (S:P->Prop)(h:List P):Prop where
 ex:∃m t,h=m::t/\S m/\(∀p,S p->¬ Lx p m)/\m ∉ t/\((t=[]/\∀p,S p->p=m)\/(t≠[]/\Path (Edge S) (m::t++[m])))
theorem z48 (det:∀a b c,R a b->R a c->b=c):∀{t t':List P}{a:P},m ∉ t->m ∉ t'->Path R (a::t++[m])->Path R (a::t'++[m])->t=t'
 | [],[],_,_,_,_,_=>rfl
 | [],b::t',a,_,h,p,q=>by
  have  := det a b m q.1 p.1
  simp_all
 | b::t,[],a,h,_,p,q=>by
  have  := det a b m p.1 q.1
  simp_all
 | b::t,c::t',a,h,d,p,q=>by
  have e  := det a b c p.1 q.1;subst e;rw[z48 det (λz=>h (by simp[z])) (λz=>d (by simp[z])) p.2 q.2]
def z03.unique {S:P->Prop}{h h':List P}(x:z03 S h)(y:z03 S h'):h=h':=by
 obtain⟨m,t,rfl,E,z,C,e⟩:=x.ex;obtain⟨A,F,rfl,n,j,l,o⟩:=y.ex;have r  := z8v (j m E) (z A n);subst r;have one:∀{u:List P},u≠[]->Path (Edge S) (m::u++[m])->(∀p,S p->p=m)->False:=λ{u} w i f=>by
  match u,w with
  | b::u,_=>
   have e  := i.1;exact e.ne (f b e.sb).symm
 rcases e with ⟨rfl,f⟩ | ⟨s,i⟩
 .rcases o with ⟨rfl,_⟩ | ⟨g,d⟩
  .rfl
  .exact(one g d f).elim
 .rcases o with ⟨rfl,f⟩ | ⟨g,d⟩
  .exact(one s i f).elim
  .rw[z48 (R:=Edge S) (λa b c p q=>Edge.det p q) C l i d]
def z3t (h:s.getLast? = some z):s.dropLast++[z]=s:=by
 have a:s≠[]:=λe=>by simp_all
 have e  := by
  rw[List.getLast?_eq_some_getLast a] at h;exact w5 h
 rw[<- e];exact List.dropLast_concat_getLast a
def ziY {l:List P}(b:2<=l.length)(a:l.Pairwise Lx):∃x y,x∈l/\y∈l/\Lx x y:=by
 match l,b,a with
 | x::y::r,_,a=>exact⟨x,y,by simp,by simp,(w6.mp a).1 y (by simp)⟩
def z6Z {l:List P}(O:2<=l.length)(w:l.Pairwise Lx):∃m M A B,hull l=m::A++M::B/\m∈l/\M∈l/\Lx m M/\(∀p∈l,¬ Lx p m)/\(∀p∈l,¬ Lx M p)/\
  (m::A++[M]).Pairwise Lx/\(M::B++[m]).Pairwise (λx y=>Lx y x)/\Path (Edge (· ∈ l)) (m::A++[M])/\Path (Edge (· ∈ l)) (M::B++[m]):=by
 have F:l≠[]:=λz=>by rw[z] at O;simp at O
 have E:=z8U F w;have Q:(l.reverse.map ng).Pairwise Lx:=by
  rw[wZ,List.pairwise_reverse];exact w.imp λh=>zbp.mpr h
 have s:=z8U (l:=l.reverse.map ng) (by simpa using F) Q;rw[zdI] at s;have d:∀p,p∈l.reverse.map ng↔ng p∈l:=λp=>by
  simp only[we,List.mem_reverse]
  constructor
  .rintro⟨q,Z,rfl⟩;rw[z4J];exact Z
  .intro h;exact⟨ng p,h,z4J p⟩
 obtain⟨M,r1,U,G⟩:=E.top;obtain⟨m,t,i⟩:=E.bot;obtain⟨g,r2,J,t2⟩:=s.top;obtain⟨C,u,I⟩:=s.bot;have T:M∈l:=E.sub M (by rw[U];simp);have S:m∈l:=E.sub m (List.mem_of_getLast? t);have H:ng g∈l:=(d g).mp (s.sub g (by rw[J];simp));have R:ng C∈l:=(d C).mp (s.sub C (List.mem_of_getLast? u));have j:ng g=m:=by
  refine z8v (i _ H) λz =>?_;have:=t2 (ng m) ((d _).mpr (by rw[z4J];exact S));exact this (by rw[<- z4J g];exact zbp.mpr z)
 have o:ng C=M:=by
  refine z8v (λz =>?_) (G _ R);have:=I (ng M) ((d _).mpr (by rw[z4J];exact T));exact this (by rw[<- z4J C];exact zbp.mpr z)
 have n:Lx m M:=by
  rcases Lx.tri m M with h | h | h
  .exact h
  .exfalso
   subst h;have all:∀p∈l,p=m:=λp w=>z8v (i p w) (G p w);obtain⟨x,y,hx,hy,this⟩:=ziY O w;rw[all x hx,all y hy] at this;exact Lx.irr this
  .exact absurd h (G m S)
 have there:∃A,(z2F l).reverse=m::A++[M]:=by
  rw[U] at t ⊢
  cases r1 with
  | nil=>simp at t;exact absurd (t ▸ n) Lx.irr
  | cons c r=>
   rw[jx] at t;refine⟨(c::r).dropLast.reverse,?_⟩;rw[uH, <- z3t t];simp
 obtain⟨A,K⟩:=there;have N:z2F l.reverse=(g::r2).map ng:=by
  have:((z2F l.reverse).map ng).map ng=(g::r2).map ng:=by rw[J]
  rw[wM] at this;simpa[Function.comp_def,z4J] using this
 have back:∃B,(z2F l.reverse).reverse=M::B++[m]:=by
  rw[J] at u;rw[N]
  cases r2 with
  | nil=>
   simp at u;rw[u] at j;rw[j] at o;exact absurd (o ▸ n) Lx.irr
  | cons c r=>
   rw[jx] at u;refine⟨((c::r).dropLast.map ng).reverse,?_⟩;have:(c::r)=(c::r).dropLast++[C]:=(z3t u).symm;rw[wA,uH,j,this,wD];simp[o]
 obtain⟨B,L⟩:=back;refine⟨m,M,A,B,?_,S,T,n,i,G,?_,?_,?_,?_⟩
 .unfold hull;rw[if_neg (by lia),K,L,List.dropLast_concat,List.dropLast_concat]
 .rw[<- K,List.pairwise_reverse];exact E.desc
 .rw[<- L,List.pairwise_reverse];have q:=s.desc;rw[wZ] at q;exact q.imp λh=>zbp.mp h
 .rw[<- K];exact E.path
 .rw[<- L];have q:=s.path;rw[<- List.map_reverse] at q;have Y:Path (λa b=>Edge (· ∈ l) (ng a) (ng b)) ((z2F l.reverse).map ng).reverse:=by
   rw[<- List.map_reverse];refine Path.imp (λa b e =>?_) q;refine Edge.ng ?_;have X:(λp=>ng p∈l)=(λp=>p∈l.reverse.map ng):=funext λp=>propext (d p).symm;rw[X];exact e
  have W:=Path.map (f:=ng) Y;rw[List.map_reverse,wM] at W;simpa[Function.comp_def,z4J] using W
def ziv (h:l≠[])(b:l.Pairwise Lx):z03 (· ∈ l) (hull l):=by
 by_cases f:l.length<=1
 .match l,h,f with
  | [x],_,_=>exact⟨x,[],rfl,by simp,λp b=>by rw[wg.mp b];exact Lx.irr,by simp,.inl ⟨rfl,λp b=>wg.mp b⟩⟩
 .obtain⟨m,M,A,B,e,i,q,g,a,d,j,r,n,o⟩:=z6Z (by lia) b;refine⟨m,A++M::B,e,i,a,λz =>?_,.inr ⟨by simp,?_⟩⟩
  .rcases wG.mp z with z | z
   .exact Lx.irr ((w6.mp j).1 m (by simp[z]))
   grind
  .have:m::(A++M::B)++[m]=(m::A)++M::(B++[m]):=by simp
   rw[this];exact Path.join n o
end Geo
open Geo
namespace Lcg
def orb (x:Nat):Nat->Nat
 | 0=>x
 | n+1=>orb x n*5+1
theorem z9o (x m:Nat):∀n,orb x (m+n)=orb (orb x m) n
 | 0=>rfl
 | n+1=>congrArg (· * 5+1) (z9o x m n)
theorem zcI:∀k:Nat,∃c d,∀y,orb y (2 ^ k)=y+2 ^ k*(2*d+1+4*c*y)
 | 0=>⟨1,0,λy=>by show y*5+1=_;lia⟩
 | k+1=>by
  obtain⟨c,d,h⟩:=zcI k;exact⟨c+2*c*c*2 ^ k,d+(2*d+1)*c*2 ^ k,λy=>by
   rw[Nat.pow_succ,Nat.mul_two,z9o,h,h]
   grind⟩
theorem zcJ (x e:Nat):∀k,∃n,n<2 ^ k/\orb x n % 2 ^ k=e % 2 ^ k
 | 0=>⟨0,by decide,by lia⟩
 | k+1=>by
  obtain⟨n,h,g⟩:=zcJ x e k;obtain⟨c,d,t⟩:=zcI k;simp[Nat.pow_succ,Nat.mod_mul]
  by_cases q:orb x n / 2 ^ k % 2=e / 2 ^ k % 2
  .exact⟨n,by lia,by rw[g,q]⟩
  .refine⟨n+2 ^ k,by lia,?_⟩;rw[z9o,t,Nat.add_mul_mod_self_left,Nat.add_mul_div_left _ _ (Nat.two_pow_pos k)]
   congr 2
   lia
end Lcg
namespace Tab
open PySem PySem.SetTable
theorem z7S (xs:Array Nat)(j:Nat)(m:∀a b,a<b->b<xs.size->xs.getD a 0<xs.getD b 0):∀fuel d hi,hi<=xs.size->hi - d<=fuel->d<=hi->(∀i,i<d->xs.getD i 0<j)->(∀i,hi<=i->i<xs.size->j<=xs.getD i 0)->
  below.go xs j fuel d hi<=xs.size/\(∀i,i<below.go xs j fuel d hi->xs.getD i 0<j)/\(∀i,below.go xs j fuel d hi<=i->i<xs.size->j<=xs.getD i 0)
 | 0,d,hi,g,r,s,h,l=>by
  have:d=hi:=by lia
  subst this;exact⟨g,h,l⟩
 | fuel+1,d,hi,g,r,s,h,l=>by
  rw[below.go]
  by_cases f:d<hi
  .rw[if_pos f];have q:(d+hi) / 2<xs.size:=by lia
   have e:xs.getD ((d+hi) / 2) j=xs.getD ((d+hi) / 2) 0:=by simp[Array.getD,q]
   dsimp only;rw[e]
   by_cases p:xs.getD ((d+hi) / 2) 0<j
   .rw[if_pos p];refine z7S xs j m fuel _ hi g (by lia) (by lia) (λi n =>?_) l
    rcases wR i ((d+hi) / 2) with z | z
    .have:=m i _ z q;lia
    .have:i=(d+hi) / 2:=by lia
     subst this;exact p
   .rw[if_neg p];refine z7S xs j m fuel d _ (by lia) (by lia) (by lia) h (λi n o =>?_)
    rcases wR ((d+hi) / 2) i with z | z
    .have:=m _ i z o;lia
    .have:i=(d+hi) / 2:=by lia
     subst this;lia
  .rw[if_neg f];have:d=hi:=by lia
   subst this;exact⟨g,h,l⟩
abbrev Rise (xs:Array Nat):Prop:=∀a b,a<b->b<xs.size->xs.getD a 0<xs.getD b 0
def z5g {xs:Array Nat}(b:Rise xs)(j:Nat):below xs j<=xs.size/\(∀i,i<below xs j->xs.getD i 0<j)/\(∀i,below xs j<=i->i<xs.size->j<=xs.getD i 0):=
 z7S xs j b _ 0 _ (wu _) (by lia) (vH _) (λ_ h=>absurd h (jI _)) (λi a d=>absurd a (by lia))
def zix {xs:Array Nat}{i j:Nat}(h:xs[i]? = some j):i<xs.size/\xs.getD i 0=j:=by
 obtain⟨a,e⟩:=Array.getElem?_eq_some_iff.mp h
 simp_all
def znZ {xs:Array Nat}{i:Nat}(h:i<xs.size):xs[i]? = some (xs.getD i 0):=by simp_all
def zfU {xs:Array Nat}(a:Rise xs){i j:Nat}(h:xs[i]? = some j):below xs j=i:=by
 obtain⟨g,b,d⟩:=z5g a j;obtain⟨f,e⟩:=zix h
 rcases uI (below xs j) i with z | z | z
 .have:=d _ (wu _) (by lia);have:=a _ _ z f;lia
 .exact z
 .have:=b i z;lia
def z81 {t:SetTable}(a:Rise t.place){i j:Nat}(h:t.place[i]? = some j):t.slot j = .live i:=by
 unfold SetTable.slot;rw[zfU a h]
 simp_all
def zaX {t:SetTable}(a:t.dummies = #[]){j:Nat}(h:∀i:Nat,t.place[i]? ≠ some j):t.slot j = .empty:=by
 unfold SetTable.slot;have b:(t.place[below t.place j]? == some j)=false:=by
  simp_all
 have d:has t.dummies j=false:=by rw[a];rfl
 simp_all
noncomputable def adv (mask:Nat)(p:Probe):Probe:=
 if p.more > 0 then { p with j:=p.j+1,more:=p.more - 1 } else
 { p with j:=(leap mask p.i p.perturb).1,more:=runEnd mask (leap mask p.i p.perturb).1 - (leap mask p.i p.perturb).1,i:=(leap mask p.i p.perturb).1,perturb:=(leap mask p.i p.perturb).2 }
def advs (mask:Nat)(p:Probe):Nat->Probe
 | 0=>p
 | n+1=>adv mask (advs mask p n)
theorem z2W (mask:Nat)(p:Probe)(m:Nat):∀n,advs mask p (m+n)=advs mask (advs mask p m) n
 | 0=>rfl
 | n+1=>congrArg _ (z2W _ p m n)
def z4T (mask:Nat)(p:Probe)(n:Nat):advs mask p (n+1)=advs mask (adv mask p) n:=by
 rw[Nat.add_comm,z2W]
 rfl
def z95 (mask:Nat)(p:Probe):(adv mask p).dummy=p.dummy:=by
 unfold adv;split <;> rfl
theorem z76 (mask:Nat)(p:Probe):∀n,(advs mask p n).dummy=p.dummy
 | 0=>rfl
 | n+1=>by rw[advs,z95,z76 _ p n]
theorem z7U (mask:Nat):∀p n,n<=p.more->advs mask p n={ p with j:=p.j+n,more:=p.more - n }
 | p,0,_=>rfl
 | p,n+1,h=>by
  rw[advs,z7U _ p n (by lia)];unfold adv
  grind
def z7h (mask i:Nat):runEnd mask i - i<=9:=by unfold runEnd;split <;> lia
def lp (mask:Nat)(i q:Nat):Nat->Nat × Nat
 | 0=>(i,q)
 | c+1=>leap mask (lp mask i q c).1 (lp mask i q c).2
theorem zd2 (mask:Nat)(i q:Nat):∀c,lp mask i q (c+1)=lp mask (leap mask i q).1 (leap mask i q).2 c
 | 0=>rfl
 | c+1=>by
  show leap _ _ _=_;rw[zd2 _ i q c]
  rfl
def z3W (mask:Nat)(p:Probe):advs mask p (p.more+1)={ p with j:=(leap mask p.i p.perturb).1,more:=runEnd mask (leap mask p.i p.perturb).1 - (leap mask p.i p.perturb).1,i:=(leap mask p.i p.perturb).1,perturb:=(leap mask p.i p.perturb).2 }:=by
 rw[advs,z7U _ p _ (wu _)];unfold adv
 grind
theorem runs (mask:Nat):∀c p,p.more<=9->∃s,s<=10*(c+1)/\(advs mask p s).j=(lp mask p.i p.perturb (c+1)).1/\(advs mask p s).i=(lp mask p.i p.perturb (c+1)).1/\(advs mask p s).perturb=(lp mask p.i p.perturb (c+1)).2/\(advs mask p s).more<=9
 | 0,p,h=>⟨p.more+1,by lia,by rw[z3W];rfl,by rw[z3W];rfl,by rw[z3W];rfl,by rw[z3W];exact z7h _ _⟩
 | c+1,p,h=>by
  obtain⟨s,d,e,a,b,f⟩:=runs mask c p h;refine⟨s+((advs mask p s).more+1),by lia,?_⟩;rw[z2W,z3W];refine⟨?_,?_,?_,z7h _ _⟩
  .rw[a,b];rfl
  .rw[a,b];rfl
  .rw[a,b];rfl
theorem z5b (mask i q:Nat):∀c,(lp mask i q c).2=q / 32 ^ c
 | 0=>by simp[lp]
 | c+1=>by
  show (lp _ i q c).2 / 32=_;rw[z5b _ i q c,Nat.div_div_eq_div_mul,Nat.pow_succ]
theorem zgD {mask i q:Nat}(a:q=0):∀c:Nat,(lp mask i q c).1 % (mask+1)=Lcg.orb i c % (mask+1)
 | 0=>rfl
 | c+1=>by
  show ((lp _ i q c).1*5+1+(lp _ i q c).2 / 32) % (mask+1) % _=(_*5+1) % _;rw[z5b,a,Nat.zero_div,Nat.add_zero,Nat.mod_mod,Nat.add_mod,Nat.mul_mod, <- a,zgD a c, <- Nat.mul_mod, <- Nat.add_mod]
theorem zgE (mask i q m:Nat):∀n,lp mask i q (m+n)=lp mask (lp mask i q m).1 (lp mask i q m).2 n
 | 0=>rfl
 | n+1=>by
  show leap _ (lp _ i q (m+n)).1 (lp _ i q (m+n)).2=_;rw[zgE _ i q m n]
  rfl
def zgd {k mask i q e:Nat}(f:mask+1=2 ^ k)(j:q<2 ^ 64)(m:e<=mask):∃c,c<=13+mask/\13<=c/\(lp mask i q c).1=e:=by
 have b:(lp mask i q 13).2=0:=by
  rw[z5b];exact Nat.div_eq_of_lt (wI j (by decide))
 obtain⟨d,l,h⟩:=Lcg.zcJ _ e k;refine⟨13+d,by lia,by lia,?_⟩;have g := @zgD mask (lp mask i q 13).1 _ b d;rw[f,h, <- f, <- zgE,Nat.add_comm,wV (a:=e) (by lia)] at g;rw[Nat.add_comm, <- g];exact(wV (jo _ (by lia))).symm
def zbX {k mask e:Nat}(g:mask+1=2 ^ k)(i:p.perturb<2 ^ 64)(h:p.more<=9)(f:e<=mask):∃s,s<10*turns mask/\(advs mask p s).j=e:=by
 obtain⟨c,m,n,d⟩:=zgd g i f;obtain⟨a,rfl⟩:∃a,c=a+1:=⟨c - 1,by lia⟩
 obtain⟨s,l,b,_⟩:=runs _ a p h;exact⟨s,by unfold turns;lia,b.trans d⟩
def zmd {mask:Nat}(a:p.perturb<2 ^ 64)(b:p.more<=9):(adv mask p).perturb<2 ^ 64/\(adv mask p).more<=9:=by
 unfold adv
 split
 .exact⟨a,by lia⟩
 .exact⟨Nat.lt_of_le_of_lt (Nat.div_le_self _ _) a,z7h _ _⟩
theorem z9V {mask:Nat}(b:p.perturb<2 ^ 64)(a:p.more<=9):∀n,(advs mask p n).perturb<2 ^ 64/\(advs mask p n).more<=9
 | 0=>⟨b,a⟩
 | n+1=>zmd (z9V b a n).1 (z9V b a n).2
def z4q (t:SetTable)(h:Int):(t.probeStart h).perturb<2 ^ 64/\(t.probeStart h).more<=9:=by
 refine⟨?_,z7h _ _⟩;show (h % (2 ^ 64)).toNat<2 ^ 64
 grind
theorem zac {t:SetTable}(n:t.dummies = #[])(u:Rise t.place)(a:Nat->Int)(h:Int):∀fuel p,(∃s,s<fuel/\∀i:Nat,t.place[i]? ≠ some (advs t.mask p s).j)->
  ∃s,(∀m,m<s->∃i,t.place[i]? = some (advs t.mask p m).j/\a i≠h)/\
   (((∀i:Nat,t.place[i]? ≠ some (advs t.mask p s).j)/\probe.go t a h fuel p=some (.empty (advs t.mask p s).j p.dummy))\/
    ∃i,t.place[i]? = some (advs t.mask p s).j/\a i=h/\probe.go t a h fuel p=some (.candidate (advs t.mask p s).j i (advs t.mask p (s+1))))
 | 0,p,⟨s,w,_⟩=>absurd w (jI _)
 | fuel+1,p,⟨s,w,f⟩=>by
  by_cases o:∃i:Nat,t.place[i]? = some p.j
  .obtain⟨i,d⟩:=o;have l:probe.go t a h (fuel+1) p=if a i == h then some (.candidate p.j i (t.advance p)) else probe.go t a h fuel (t.advance p):=by
    rw[probe.go,z81 u d]
   by_cases b:a i=h
   .refine⟨0,λm e=>absurd e (jI _),.inr ⟨i,d,b,?_⟩⟩;rw[l,if_pos (by simpa using b)]
    rfl
   .have A:s≠0:=λz=>by subst z;exact f i d
    obtain⟨g,rfl⟩:∃g,s=g+1:=⟨s - 1,by lia⟩
    rw[z4T] at f;obtain⟨r,x,y⟩:=zac n u a h fuel (adv t.mask p) ⟨g,by lia,f⟩;refine⟨r+1,λm e =>?_,?_⟩
    .cases m with
     | zero=>exact⟨i,d,b⟩
     | succ m=>rw[z4T];exact x m (by lia)
    .rw[l,if_neg (by simpa using b),z4T,z4T, <- z95 t.mask p];exact y
  .have q:∀i:Nat,t.place[i]? ≠ some p.j:=λi z=>o ⟨i,z⟩;refine⟨0,λm e=>absurd e (jI _),.inl ⟨q,?_⟩⟩;rw[probe.go,zaX n q]
   rfl
theorem z3i:∀{l l':List Nat},l.Nodup->(∀x∈l,x∈l')->l.length<=l'.length
 | [],_,_,_=>vH _
 | a::l,l',h,f=>by
  obtain⟨d,e⟩:=vR.mp h;have:=z3i e λx b=>(List.mem_erase_of_ne (λ(z:x=a)=>d (z ▸ b))).mpr (f x (by simp[b]))
  grind
theorem z4y:∀{l l':List Nat},l.Nodup->l'.Nodup->(∀x,x∈l↔x∈l')->l.Perm l'
 | [],l',_,_,h=>by
  cases l' with
  | nil=>rfl
  | cons b l'=>exact absurd ((h b).mpr (by simp)) (by simp)
 | a::l,l',d,e,h=>by
  obtain⟨i,g⟩:=vR.mp d;have f  := (h a).mp (by simp);have p:=z4y g (e.erase a) λx=>by
   grind
  exact(List.Perm.cons a p).trans (List.perm_cons_erase f).symm
variable {α:Type}
abbrev Rw (α:Type):=Nat × Int × α
def zbD (mask:Nat)(occ:Nat->Prop)(h:Int)(j:Nat):Prop:=∃n,(advs mask (probeStart { mask:=mask,place := #[],dummies := #[],finger:=0,led:=true,moves:=0,plain:=true } h) n).j=j/\∀m,m<n->occ (advs mask (probeStart { mask:=mask,place := #[],dummies := #[],finger:=0,led:=true,moves:=0,plain:=true } h) m).j
abbrev st0 (mask:Nat)(h:Int):Probe:=probeStart { mask:=mask,place := #[],dummies := #[],finger:=0,led:=true,moves:=0,plain:=true } h
def zbD.mono {mask:Nat}{occ b:Nat->Prop}{h:Int}{j:Nat}(x:zbD mask occ h j)(i:∀a,occ a->b a):zbD mask b h j:=by
 obtain⟨n,d,e⟩:=x;exact⟨n,d,λm f=>i _ (e m f)⟩
structure TabW (t:SetTable)(es:Array (Int × α))(L:List (Rw α)):Prop where
 place:t.place=(L.map (·.1)).toArray
 es:es=(L.map (·.2)).toArray
 rise:L.Pairwise λa b=>a.1<b.1
 le:∀r∈L,r.1<=t.mask
 dum:t.dummies = #[]
 pow:∃k,3<=k/\t.mask+1=2 ^ k
 reach:∀r∈L,zbD t.mask (λj=>∃r'∈L,r'.1=j) r.2.1 r.1
def TabW.occ {t:SetTable}{es:Array (Int × α)}{L:List (Rw α)}(w:TabW t es L){j:Nat}:(∃i:Nat,t.place[i]? = some j)↔∃r∈L,r.1=j:=by
 rw[w.place]
 constructor
 .rintro⟨i,h⟩;have b:(L.map (·.1))[i]? = some j:=by simpa using h
  obtain⟨r,a,e⟩:=we.mp (wv b);exact⟨r,a,e⟩
 .rintro⟨r,a,rfl⟩;obtain⟨i,d,e⟩:=ve.mp a;exact⟨i,by simp[d,e]⟩
def TabW.riseP {t:SetTable}{es:Array (Int × α)}{L:List (Rw α)}(w:TabW t es L):Rise t.place:=by
 rw[w.place];intro a b e f;have d  := by simpa using f
 have:=vk.mp w.rise a b (by lia) d e;simpa[show a<L.length by lia,d] using this
theorem TabW.size {t:SetTable}{es:Array (Int × α)}{L:List (Rw α)}(w:TabW t es L):t.place.size=L.length/\es.size=L.length/\t.fill=L.length:=by
 refine⟨by rw[w.place];simp,by rw[w.es];simp,?_⟩;unfold fill;rw[w.place,w.dum];simp
def TabW.nodup {t:SetTable}{es:Array (Int × α)}{L:List (Rw α)}(w:TabW t es L):(L.map (·.1)).Nodup:=by
 rw[List.nodup_iff_pairwise_ne,wZ];exact w.rise.imp λh=>wJ h
def TabW.room {t:SetTable}{es:Array (Int × α)}{L:List (Rw α)}(w:TabW t es L)(h:L.length<=t.mask):∃e,e<=t.mask/\¬ ∃r∈L,r.1=e:=by
 refine v7 λa =>?_;have all  := λe b=>v7 λz=>a ⟨e,b,z⟩;have:=z3i (l:=List.range (t.mask+1)) (l':=L.map (·.1)) List.nodup_range λx d=>by
  grind
 simp at this;lia
theorem TabW.probe {t:SetTable}{es:Array (Int × α)}{L:List (Rw α)}(w:TabW t es L)(b:L.length<=t.mask)(a:Nat->Int)(h:Int)(n:Nat):
  ∃s,(∀m,n<=m->m<n+s->∃i,t.place[i]? = some (advs t.mask (st0 t.mask h) m).j/\a i≠h)/\
   (((∀i:Nat,t.place[i]? ≠ some (advs t.mask (st0 t.mask h) (n+s)).j)/\t.probe a h (advs t.mask (st0 t.mask h) n)=some (.empty (advs t.mask (st0 t.mask h) (n+s)).j none))\/
    ∃i,t.place[i]? = some (advs t.mask (st0 t.mask h) (n+s)).j/\a i=h/\t.probe a h (advs t.mask (st0 t.mask h) n)=some (.candidate (advs t.mask (st0 t.mask h) (n+s)).j i (advs t.mask (st0 t.mask h) (n+s+1)))):=by
 obtain⟨e,q,f⟩:=w.room b;obtain⟨k,_,r⟩:=w.pow;have ok:=z9V (mask:=t.mask) (z4q t h).1 (z4q t h).2 n;obtain⟨y,g,o⟩:=zbX (p:=advs _ (st0 t.mask h) n) r ok.1 ok.2 q;obtain⟨s,A,l⟩:=zac w.dum w.riseP a h _ _ ⟨y,g,λi z=>by
  rw[o] at z;exact f (w.occ.mp ⟨i,z⟩)⟩
 refine⟨s,λm u x =>?_,?_⟩
 .obtain⟨d,rfl⟩:∃d,m=n+d:=⟨m - n,by lia⟩
  rw[z2W]
  simp_all
 .rw[Nat.add_assoc,z2W,z2W];rw[z76] at l;exact l
def TabW.soon {t:SetTable}{es:Array (Int × α)}{L:List (Rw α)}(w:TabW t es L)(a:L.length<=t.mask)(h:Int):∃N,N<10*turns t.mask/\¬ ∃r∈L,r.1=(advs t.mask (st0 t.mask h) N).j:=by
 obtain⟨e,g,b⟩:=w.room a;obtain⟨k,_,i⟩:=w.pow;obtain⟨l,d,f⟩:=zbX (p:=st0 _ h) i (z4q t h).1 (z4q t h).2 g;exact⟨l,d,by rw[f];exact b⟩
def ins (L:List (Rw α))(p:Nat)(r:Rw α):List (Rw α):=L.take p++r::L.drop p
def z7B {L:List (Rw α)}{p:Nat}{r x:Rw α}:x∈ins L p r↔x=r\/x∈L:=by
 unfold ins;rw[wG,wm]
 constructor
 .grind
 .rintro(h | h)
  .exact .inr (.inl h)
  .rw[<- jf p L,wG] at h
   rcases h with h | h
   .exact .inl h
   simp_all
def z4L {a:Type}(l:List a){p:Nat}(x:a):insertAt l.toArray p x=(l.take p++x::l.drop p).toArray:=by
 unfold insertAt;simp;exact uE (by simp)
theorem TabW.put {t:SetTable}{es:Array (Int × α)}{L:List (Rw α)}(w:TabW t es L){h:Int}{x:α}{n:Nat}(u:∀m,m<n->∃r∈L,r.1=(advs t.mask (st0 t.mask h) m).j)(s:¬ ∃r∈L,r.1=(advs t.mask (st0 t.mask h) n).j)(C:(advs t.mask (st0 t.mask h) n).j<=t.mask):
  TabW (t.put (advs t.mask (st0 t.mask h) n).j).1 (insertAt es (t.put (advs t.mask (st0 t.mask h) n).j).2 (h,x)) (ins L (t.put (advs t.mask (st0 t.mask h) n).j).2 ((advs t.mask (st0 t.mask h) n).j,h,x)):=by
 generalize K:(advs t.mask (st0 t.mask h) n).j=j at*;obtain⟨G,H,I⟩:=z5g w.riseP j;have N:(t.put j).2=below t.place j:=rfl;rw[N];generalize Q:below t.place j=p at*;have O:p<=L.length:=by rw[<- w.size.1];exact G
 have o:∀i g,t.place.getD i 0=(L[i]).1:=λi g=>by rw[w.place];simp[Array.getD,g]
 have R:∀r∈L.take p,r.1<j:=λr f=>by
  obtain⟨i,g,rfl⟩:=ve.mp f;have d:i<p/\i<L.length:=by simp at g;lia
  have:=H i d.1;rw[o i d.2] at this;simpa using this
 have g:∀r∈L.drop p,j<r.1:=λr f=>by
  obtain⟨i,g,rfl⟩:=ve.mp f;have d:p+i<L.length:=by simp at g;lia
  have J:=I (p+i) (by lia) (by rw[w.size.1];exact d);rw[o _ d] at J;have S:(L[p+i]).1≠j:=λz=>s ⟨L[p+i],u9 d,z⟩;simp only[List.getElem_drop];lia
 have q:(t.put j).1.dummies = #[]:=by
  show (if has t.dummies j then eraseAt t.dummies (below t.dummies j) else t.dummies) = #[];rw[w.dum];simp[has]
 refine⟨?_,?_,?_,λr f =>?_,q,w.pow,λr f =>?_⟩
 .show insertAt t.place (below t.place j) j=_;rw[Q,w.place,z4L];unfold ins;rw[wD,wA,List.map_take,List.map_drop]
 .rw[w.es,z4L];unfold ins;rw[wD,wA,List.map_take,List.map_drop]
 .unfold ins;rw[v9];have y:=w.rise;rw[<- jf p L,v9] at y;refine⟨y.1,w6.mpr ⟨λr f=>g r f,y.2.1⟩,λa F b A =>?_⟩
  rcases wm.mp A with rfl | A
  .exact R a F
  .exact y.2.2 a F b A
 .show r.1<=t.mask
  rcases z7B.mp f with rfl | f
  .exact C
  .exact w.le r f
 .show zbD t.mask _ r.2.1 r.1
  rcases z7B.mp f with rfl | f
  .exact⟨n,K,λm M=>by
    obtain⟨E,l,e⟩:=u m M;exact⟨E,z7B.mpr (.inr l),e⟩⟩
  .exact(w.reach r f).mono λa ⟨E,l,e⟩=>⟨E,z7B.mpr (.inr l),e⟩
theorem j_le {mask:Nat}:∀n {p:Probe},p.j+p.more<=mask->(advs mask p n).j+(advs mask p n).more<=mask
 | 0,_,h=>h
 | n+1,p,h=>by
  have b:=j_le n h;show (adv _ _).j+(adv _ _).more<=mask;unfold adv
  split
  .lia
  .have a:(leap _ (advs mask p n).i (advs mask p n).perturb).1<=mask:=Nat.le_of_lt_succ (jo _ (Nat.succ_pos _));unfold runEnd
   split <;> lia
def zbW (mask:Nat)(h:Int)(n:Nat):(advs mask (st0 mask h) n).j<=mask:=by
 have:(st0 mask h).j+(st0 mask h).more<=mask:=by
  show bits h % (mask+1)+(runEnd mask _ - bits h % (mask+1))<=mask;have a:bits h % (mask+1)<=mask:=Nat.le_of_lt_succ (jo _ (Nat.succ_pos _));generalize bits h % (mask+1)=x at a;unfold runEnd
  split <;> lia
 have:=j_le n this;lia
variable {α:Type}
def rp (mask i q:Nat):Probe:={ j:=i,more:=runEnd mask i - i,i:=i,perturb:=q,dummy:=none }
def zjj (mask:Nat)(h:Int):st0 mask h=rp mask (bits h % (mask+1)) (bits h):=rfl
def zcj (mask i q:Nat):advs mask (rp mask i q) (runEnd mask i - i+1)=rp mask (leap mask i q).1 (leap mask i q).2:=z3W _ _
def zeq (mask i q:Nat)(h:m<=runEnd mask i - i):(advs mask (rp mask i q) m).j=i+m:=by rw[z7U _ _ m h];rfl
def zjy (mask i:Nat):i<=runEnd mask i:=by unfold runEnd;split <;> lia
theorem z8I {mask:Nat}:∀fuel i q,(∃c,c<fuel/\(owner.getD (lp mask i q c).1 (some 0)).isNone=true)->
  ∃s,layClean.free mask owner fuel i q=some (advs mask (rp mask i q) s).j/\(owner.getD (advs mask (rp mask i q) s).j (some 0)).isNone=true/\∀m,m<s->(owner.getD (advs mask (rp mask i q) m).j (some 0)).isNone=false
 | 0,i,q,⟨c,l,_⟩=>absurd l (jI _)
 | fuel+1,i,q,⟨c,l,h⟩=>by
  rw[layClean.free];have r:=zjy mask i
  cases n:(List.range (runEnd mask i+1 - i)).find? λk=>(owner.getD (i+k) (some 0)).isNone with
  | some k=>
   obtain⟨b,e,g⟩:=List.find?_range_eq_some.mp n;have t:k<runEnd mask i+1 - i:=by simpa using e
   dsimp only;refine⟨k,by rw[zeq mask i q (by lia)],by rw[zeq mask i q (by lia)];exact b,λm o =>?_⟩;rw[zeq mask i q (by lia)];have:=g m o;simpa using this
  | none=>
   have u:=List.find?_range_eq_none.mp n;have all:∀k,k<=runEnd mask i - i->(owner.getD (i+k) (some 0)).isNone=false:=λk t=>by
    have:=u k (by lia);simpa using this
   have p:c≠0:=λz=>by
    subst z;have:=all 0 (vH _);rw[Nat.add_zero] at this;have a:(owner.getD i (some 0)).isNone=true:=h;rw[this] at a
    cases a
   obtain⟨f,rfl⟩:∃f,c=f+1:=⟨c - 1,by lia⟩
   rw[zd2] at h;obtain⟨s,b,e,g⟩:=z8I fuel _ _ ⟨f,by lia,h⟩;rw[<- zcj, <- z2W] at b e;dsimp only;refine⟨runEnd mask i - i+1+s,b,e,λm o =>?_⟩
   rcases wR m (runEnd mask i - i+1) with z | z
   .rw[zeq mask i q (by lia)];exact all m (by lia)
   .obtain⟨d,rfl⟩:∃d,m=runEnd mask i - i+1+d:=⟨m - (runEnd mask i - i+1),by lia⟩
    rw[z2W,zcj];exact g d (by lia)
structure Own (mask:Nat)(hs:List Int)(owner:Array (Option Nat))(pos:List Nat):Prop where
 size:owner.size=mask+1
 len:pos.length=hs.length
 le:∀j∈pos,j<=mask
 nd:pos.Nodup
 own:∀j,j<=mask->∀k,owner.getD j (some 0)=some k↔pos[k]? = some j
 reach:∀(k:Nat) h j,hs[k]? = some h->pos[k]? = some j->zbD mask (· ∈ pos) h j
def Own.free {mask:Nat}{b:List Int}{owner:Array (Option Nat)}{pos:List Nat}(o:Own mask b owner pos){j:Nat}(a:j<=mask):(owner.getD j (some 0)).isNone=true↔j ∉ pos:=by
 constructor
 .intro h z;obtain⟨k,d,e⟩:=ve.mp z;have:=(o.own j a k).mpr (by simp_all)
  simp_all
 .intro h
  cases e:owner.getD j _ with
  | none=>rfl
  | some k=>exact absurd (wv ((o.own j a k).mp e)) h
def Own.add {mask k:Nat}{g:List Int}{owner:Array (Option Nat)}{pos:List Nat}(o:Own mask g owner pos)(F:mask+1=2 ^ k)(I:g.length<=mask)(h:Int):
  ∃j,layClean.free mask owner (turns mask) (bits h % (mask+1)) (bits h)=some j/\Own mask (g++[h]) (owner.setIfInBounds j (some g.length)) (pos++[j]):=by
 have C:∃e,e<=mask/\e ∉ pos:=by
  refine v7 λH =>?_;have:=z3i (l:=List.range (mask+1)) (l':=pos) List.nodup_range λx t=>v7 λz=>H ⟨x,by have:=vK.mp t;lia,z⟩;rw[v6,o.len] at this;lia
 obtain⟨e,N,G⟩:=C;have W:bits h<2 ^ 64:=(z4q { mask:=mask,place := #[],dummies := #[],finger:=0,led:=true,moves:=0,plain:=true } h).1;obtain⟨c,c1,c2,O⟩:=zgd (i:=bits h % (mask+1)) (q:=bits h) F W N;obtain⟨s,K,L,M⟩:=z8I (mask:=mask) (owner:=owner) (turns mask) (bits h % (mask+1)) (bits h) ⟨c,by unfold turns;lia,by rw[O];exact(o.free N).mpr G⟩;rw[<- zjj] at K L M;have p:=zbW mask h s;refine⟨_,K,?_⟩;generalize S:(advs mask (st0 mask h) s).j=j at*;have r:j ∉ pos:=(o.free p).mp L;refine⟨by rw[Array.size_setIfInBounds];exact o.size,by rw[wC,wC,o.len];rfl,λx t =>?_,?_,λx t n =>?_,λn J Y u y =>?_⟩
 .rcases wG.mp t with z | z
  .exact o.le x z
  .rw[wg.mp z];exact p
 .rw[List.nodup_append];exact⟨o.nd,by simp,λa A b R z=>r (by rw[wg.mp R] at z;exact z ▸ A)⟩
 .have X:x<owner.size:=by rw[o.size];lia
  have Q:(owner.setIfInBounds j (some g.length)).getD x (some 0)=if j=x then some g.length else owner.getD x (some 0):=by
   have E:j<owner.size:=by rw[o.size];lia
   rw[u4,u4,Array.getElem?_setIfInBounds]
   by_cases d:j=x
   .subst d;rw[if_pos rfl,if_pos E,if_pos rfl];rfl
   .rw[if_neg d,if_neg d]
  rw[Q]
  by_cases d:j=x
  .subst d;rw[if_pos rfl]
   constructor
   .intro z;have:g.length=n:=w5 z;rw[<- this, <- o.len,wX (wu _)];simp
   .intro z
    rcases wR n pos.length with f | f
    .rw[wH f] at z;exact absurd (wv z) r
    .rw[wX f] at z;have U:n - pos.length=0:=by
      rcases Nat.eq_zero_or_pos (n - pos.length) with w | w
      .exact w
      .rw[uQ (by show 1<=_;lia)] at z;cases z
     rw[<- o.len]
     congr 1
     lia
  .rw[if_neg d,o.own x t n]
   constructor
   .intro z;obtain⟨T,_⟩:=wt.mp z;rw[wH T];exact z
   .intro z
    rcases wR n pos.length with f | f
    .rw[wH f] at z;exact z
    .rw[wX f] at z;exact absurd (wg.mp (wv z)).symm d
 .rcases wR n pos.length with f | f
  .rw[wH f] at y;rw[wH (by rw[<- o.len];exact f)] at u;exact(o.reach n J Y u y).mono λa A=>vE _ A
  .rw[wX f] at y;rw[wX (by rw[<- o.len];exact f)] at u;have Z:=wg.mp (wv u);have z2:=wg.mp (wv y);subst Z z2;refine⟨s,S,λm F=>vE _ ?_⟩;have:=M m F;refine v7 λz =>?_;rw[(o.free (zbW mask J m)).mpr z] at this
   cases this
theorem z6b {mask k:Nat}(i:mask+1=2 ^ k):∀d done owner b,Own mask done owner b->done.length+d.length<=mask+1->
  ∃a f,(d.foldl (init:=some (owner,done.length)) λg h=>do
   let (owner,k) <- g
   let j <- layClean.free mask owner (turns mask) (bits h % (mask+1)) (bits h)
   pure (owner.setIfInBounds j (some k),k+1))=some (a,done.length+d.length)/\Own mask (done++d) a f
 | [],done,owner,b,o,_=>⟨owner,b,rfl,by simp_all⟩
 | h::d,done,owner,b,o,m=>by
  simp[wU] at m;obtain⟨j,e,n⟩:=o.add i (by lia) h;obtain⟨q,ps,l,p⟩:=z6b i d _ _ _ n (by simp;lia);refine⟨q,ps,?_,by simpa using p⟩;rw[List.foldl_cons];have:(do
   let (owner,k) <- some (owner,done.length)
   let j <- layClean.free mask owner (turns mask) (bits h % (mask+1)) (bits h)
   pure (owner.setIfInBounds j (some k),k+1))=some (owner.setIfInBounds j (some done.length),(done++[h]).length):=by
   simp[e]
  rw[this,l];simp;lia
def own0 (mask:Nat):Own mask [] (Array.replicate (mask+1) none) []:=by
 refine⟨by simp,rfl,by simp,by simp,λj a k =>?_,λk h j e _=>by simp at e⟩;have:(Array.replicate (mask+1) none).getD j (some 0)=none:=by simp[Array.getD,show j<mask+1 by lia]
 rw[this];simp
def zim {mask k finger moves:Nat}{led plain:Bool}(R:mask+1=2 ^ k)(Z:3<=k){es:Array (Int × α)}(hl:es.size<=mask+1):
  ∃t' d W,laid mask finger moves led plain (es.map (·.1))=some (t',d)/\t'.mask=mask/\t'.finger=finger/\t'.moves=moves/\t'.led=led/\t'.plain=plain/\(d.filterMap (es[·]?)).size=es.size/\TabW t' (d.filterMap (es[·]?)) W/\(d.filterMap (es[·]?)).toList.Perm es.toList:=by
 obtain⟨owner,s,e,o⟩:=z6b R (es.map (·.1)).toList [] _ _ (own0 mask) (by simpa using hl);simp only[List.nil_append,uc,Nat.zero_add] at e o;have G:layClean mask (es.map (·.1))=some owner:=by
  unfold layClean;rw[<- Array.foldl_toList,e]
  rfl
 have hn:(es.map (·.1)).toList.length=es.size:=by simp
 have a0:s.length=es.size:=by rw[o.len,hn]
 generalize f:((List.range (mask+1)).filterMap λj=>(owner.getD j none).map (j, ·))=live;have Q:∀j,j<=mask->owner.getD j none=owner.getD j (some 0):=λj F=>by
  have:j<owner.size:=by rw[o.size];lia
  simp[Array.getD,this]
 have g:∀j n,(j,n)∈live↔s[n]? = some j:=λj n=>by
  rw[<- f,uU]
  constructor
  .rintro⟨x,q,e⟩;have u:x<=mask:=by have:=vK.mp q;lia
   rw[Q x u] at e;obtain⟨y,hy,L⟩:=ul.mp e
   cases L
   exact(o.own j u n).mp hy
  .intro h;have F:j<=mask:=o.le j (wv h);refine⟨j,vK.mpr (by lia),?_⟩;rw[Q j F,(o.own j F n).mpr h]
   rfl
 have m:live.Pairwise λa b=>a.1<b.1:=by
  rw[<- f];have p:(List.range (mask+1)).Pairwise (· < ·):=List.pairwise_lt_range;generalize List.range (mask+1)=U at p
  induction U with
  | nil=>simp
  | cons x U K=>
   obtain⟨p1,S⟩:=w6.mp p;rw[uF]
   cases q:(owner.getD x none).map (x, ·) with
   | none=>exact K S
   | some y=>
    obtain⟨z,_,rfl⟩:=ul.mp q;refine w6.mpr ⟨λb E =>?_,K S⟩;obtain⟨x',u,X⟩:=uU.mp E;obtain⟨z',_,rfl⟩:=ul.mp X;exact p1 x' u
 have O:(live.map (·.2)).Nodup:=by
  rw[List.nodup_iff_pairwise_ne,wZ];refine List.Pairwise.imp_of_mem ?_ m;intro a b t E Y z;have p:=(g a.1 a.2).mp t;have C:=(g b.1 b.2).mp E;rw[<- z,p] at C;have:a.1=b.1:=w5 C;lia
 have perm:(live.map (·.2)).Perm (List.range es.size):=by
  refine z4y O List.nodup_range λn =>?_;rw[vK]
  constructor
  .intro h;obtain⟨a,t,rfl⟩:=we.mp h;obtain⟨M,_⟩:=wt.mp ((g a.1 a.2).mp t);lia
  .intro h;refine we.mpr ⟨(s[n]'(by lia),n),(g _ _).mpr (wn (by lia)),rfl⟩
 have J:(List.range es.size).filterMap (es[·]?)=es.toList:=by
  have:∀(l:List (Int × α)),(List.range l.length).filterMap (l[·]?)=l:=λl=>by
   have A:(List.range l.length).map (l[·]?)=l.map some:=by
    apply List.ext_getElem
    .simp
    .intro i p C;simp at p;simp[p]
   have L:(List.range l.length).filterMap (l[·]?)=((List.range l.length).map (l[·]?)).filterMap id:=by rw[List.filterMap_map];rfl
   rw[L,A,List.filterMap_map];simp
  have h:=this es.toList;simpa using h
 have T:(((live.map (·.2)).toArray).filterMap (es[·]?)).toList.Perm es.toList:=by
  have:=perm.filterMap (es[·]?);rw[J] at this;simpa using this
 refine⟨{ mask,place:=(live.map (·.1)).toArray,dummies := #[],finger,led,moves,plain },(live.map (·.2)).toArray,live.filterMap λa=>(es[a.2]?).map λx=>(a.1,x),?_,rfl,rfl,rfl,rfl,rfl,?_,?_,T⟩
 .unfold laid;rw[G];simp only[Option.bind_eq_bind,Option.bind_some];rw[f]
  rfl
 .have:=T.length_eq;simpa using this
 ·-- each live row has an element
  have has:∀a∈live,∃x,es[a.2]? = some x:=λa t=>by
   obtain⟨M,_⟩:=wt.mp ((g a.1 a.2).mp t);exact⟨es[a.2]'(by lia),uL (by lia)⟩
  have A:∀(l:List (Nat × Nat)),(∀a∈l,∃x,es[a.2]? = some x)->(l.filterMap λa=>(es[a.2]?).map λx=>(a.1,x)).map (·.1)=l.map (·.1)/\(l.filterMap λa=>(es[a.2]?).map λx=>(a.1,x)).map (·.2)=(l.map (·.2)).filterMap (es[·]?):=λl=>by
   induction l with
   | nil=>intro _;exact⟨rfl,rfl⟩
   | cons a l K=>
    intro h;obtain⟨x,q⟩:=h a (by simp);obtain⟨i1,i2⟩:=K λb E=>h b (by simp[E]);refine⟨?_,?_⟩
    .rw[uF,q];simp only[Option.map_some,wA];rw[i1]
    .rw[uF,q];simp only[Option.map_some,wA,uF,q];rw[i2]
  have w:∀r:Rw α,r∈(live.filterMap λa=>(es[a.2]?).map λx=>(a.1,x))->∃n,s[n]? = some r.1/\es[n]? = some r.2:=λr I=>by
   obtain⟨a,t,e⟩:=uU.mp I;obtain⟨x,q,rfl⟩:=ul.mp e;exact⟨a.2,(g a.1 a.2).mp t,q⟩
  have occ:∀j,j∈s->∃r'∈(live.filterMap λa=>(es[a.2]?).map λx=>(a.1,x)),r'.1=j:=λj F=>by
   obtain⟨n,N,e⟩:=ve.mp F;have H:(j,n)∈live:=(g j n).mpr (by rw[wn N,e]);obtain⟨x,q⟩:=has _ H;exact⟨(j,x),uU.mpr ⟨(j,n),H,by rw[show es[(j,n).2]? = some x from q];rfl⟩,rfl⟩
  refine⟨by rw[(A live has).1],?_,?_,λr I =>?_,rfl,⟨k,Z,R⟩,λr I =>?_⟩
  .rw[(A live has).2];apply Array.ext';simp
  .have:((live.filterMap λa=>(es[a.2]?).map λx=>(a.1,x)).map (·.1)).Pairwise (· < ·):=by
    rw[(A live has).1,wZ];exact m
   rw[wZ] at this;exact this
  .obtain⟨n,p,_⟩:=w r I;exact o.le r.1 (wv p)
  .obtain⟨n,p,C⟩:=w r I;exact(o.reach n r.2.1 r.1 (by simp[C]) p).mono λa t=>occ a t
open PyProof.Rows
section
variable {prog:Program}{w:World}{A:Around}{E:WvP}{s:Shared}
abbrev TK (prog:Program)(w:World)(h:Heap)(k:List Int)(a:Addr):Prop:=IsTupleKey (intKind prog w) h k a
def z9A {v:Value}(h:carriedByValue v=true):ofAClassStatement n v=pure false:=by
 cases v with
 | ref a=>simp[carriedByValue] at h
 | _=>first | rfl | (unfold ofAClassStatement;rfl) | rfl
def z2y (g:TK prog w s.heap ks a)(h:Q false s):wpAny (model prog w) A (ofAClassStatement 8 (.ref a)) Q E s:=by
 have j:=g.typeIs;obtain⟨o,z04,n,p,_,l,m⟩:=g;unfold ofAClassStatement;refine wc (jZ j ?_);refine wc (wj ?_);refine wc (v8 p l ?_);refine wc ?_;rw[<- Array.forIn_toList];refine jA _ (λd r f=>Aa3 (r.1=none) (f=s) (∀v∈d,carriedByValue v=true)) _ ?_ ?_ _ _ ⟨rfl,rfl,m.byValue⟩
 .rintro v d r f ⟨i,rfl,b⟩;rw[z9A (b v wB)];exact wj ⟨rfl,rfl,λu e=>b u (wo _ e)⟩
 .rintro⟨r1,r2⟩ f ⟨i,rfl,_⟩;subst i;exact wj h
def zbt {k:Int}{v:Value}(h:(intKind prog w).is k v=true):hashByValue n v=pure true:=by
 obtain⟨t,rfl⟩:=Value.isInt_shape h
 cases n <;> rfl
def z4j (e:TK prog w s.heap ks a)(h:Q true s):wpAny (model prog w) A (hashByValue 8 (.ref a)) Q E s:=by
 have j:=e.typeIs;obtain⟨o,z04,n,t,_,m,p⟩:=e;refine wc (wpAny_specialOf j F.slot_tuple_hash.lookup ?_);refine wc (v8 t m ?_);refine wc ?_;rw[<- Array.forIn_toList];refine jA _ (λb r d=>Aa3 (r.1=none) (d=s) (∃l,ItemsAre (intKind _ w) l b)) _ ?_ ?_ _ _ ⟨rfl,rfl,ks,p⟩
 .rintro v b r d ⟨f,rfl,l,q⟩
  cases q with
  | cons g i=>
   rw[zbt g];exact wj ⟨rfl,rfl,_,i⟩
 .rintro⟨r1,r2⟩ d ⟨f,rfl,_⟩;subst f;exact wj h
def zaR {ks:List Int}{a:Addr}{d:List Value}{Q:Bool->Shared->Prop}(n:TK prog w s.heap ks a)(i:∀y∈d,∃b k,y = .ref b/\TK prog w s.heap k b)(h:Q false s):wpAny (model prog w) A (searchCouldBeSeen (.ref a) d) Q E s:=by
 unfold searchCouldBeSeen;refine wc ?_;refine jA _ (λf r l=>Aa3 (r.1=none) (l=s) (∀y∈f,∃b k,y = .ref b/\TK prog w s.heap k b)) _ ?_ ?_ _ _ ⟨rfl,rfl,i⟩
 .rintro y f r l ⟨g,rfl,e⟩;obtain⟨b,k,rfl,m⟩:=e y wB;dsimp only
  split
  .exact wj ⟨rfl,rfl,λu j=>e u (wo _ j)⟩
  .refine wc (wpAny_eqIsQuiet_tuple n ?_);simp only[Bool.not_true,vz,jv];refine wc (wpAny_eqIsQuiet_tuple m ?_);simp only[Bool.not_true,vz,jv];refine wc (z2y n ?_);simp only[vz,jv];refine wc (z2y m ?_);simp only[vz,jv];exact wj ⟨rfl,rfl,λu j=>e u (wo _ j)⟩
 .rintro⟨r1,r2⟩ l ⟨g,rfl,_⟩;simp only at g;subst g;exact wj h
structure z96 (prog:Program)(w:World)(h:Heap)(a:Addr)(L:List (Rw Value))(o:Obj)(es:Array (Int × Value))(ep:Nat)(t:SetTable):Prop where
 get:h.get? a=some o
 ex:o.ExactSet
 data:o.data = .set es ep t
 tab:TabW t es L
 room:L.length<=t.mask
 small:t.mask<=8191
 plain:t.plain=true
 led:t.led = !w.params.followText "set-order"
 key:∀r∈L,∃b k,r.2.2 = .ref b/\TK prog w h k b/\r.2.1=tupleKeyHash (intKind prog w) k
theorem z96.fits {t:SetTable}(x:z96 prog w h a L o es ep t):t.fits es.size=true:=by
 unfold SetTable.fits;rw[x.tab.size.1,x.tab.size.2.1,x.tab.size.2.2];simp[x.room]
def z96.odd {t:SetTable}(x:z96 prog w h a L o es ep t):t.gaveWay=false:=by
 unfold SetTable.gaveWay;obtain⟨k,b,e⟩:=x.tab.pow
 grind
def zge {t:SetTable}(w:TabW t es L){i j:Nat}(h:t.place[i]? = some j):∃r,L[i]? = some r/\r.1=j/\es[i]? = some r.2:=by
 have a:(L.map (·.1))[i]? = some j:=by rw[w.place] at h;simpa using h
 rw[wO] at a;obtain⟨r,b,e⟩:=ul.mp a;refine⟨r,b,e,?_⟩;rw[w.es];simp[b]
def z7V {t:SetTable}(x:z96 prog w s.heap a L o es ep t)(hu:A.units<cLine)(hk:TK prog w s.heap kx b)
  (hN:¬ ∃r∈L,r.1=(advs t.mask (st0 t.mask (tupleKeyHash (intKind prog w) kx)) N).j)
  (M:(∃r∈L,∃c,r.2.2 = .ref c/\TK prog w s.heap kx c)->Q (.there none) s)
  (W:∀n,(∀m,m<n->∃r∈L,r.1=(advs t.mask (st0 t.mask (tupleKeyHash (intKind prog w) kx)) m).j/\∀c,r.2.2 = .ref c->¬ TK prog w s.heap kx c)->(¬ ∃r∈L,r.1=(advs t.mask (st0 t.mask (tupleKeyHash (intKind prog w) kx)) n).j)->Q (.free (advs t.mask (st0 t.mask (tupleKeyHash (intKind prog w) kx)) n).j false) s):
  ∀g n q,q.getD (t.probeStart (tupleKeyHash (intKind prog w) kx))=advs t.mask (st0 t.mask (tupleKeyHash (intKind prog w) kx)) n->N<g+n->
   (∀m,m<n->∃r∈L,r.1=(advs t.mask (st0 t.mask (tupleKeyHash (intKind prog w) kx)) m).j/\∀c,r.2.2 = .ref c->¬ TK prog w s.heap kx c)->
   wpAny (model prog w) A (setSearchFrom a (.ref b) (tupleKeyHash (intKind prog w) kx) true g q) Q E s:=by
 intro g
 induction g with
 | zero=>
  intro n q hs hl H;obtain⟨r,K,e,_⟩:=H N (by lia);exact absurd ⟨r,K,e⟩ hN
 | succ g ih=>
  intro n q hs hl H;generalize hh:tupleKeyHash (intKind prog w) kx=C at*;unfold setSearchFrom;refine wc (vT x.get x.data x.fits ?_);dsimp only;rw[x.odd];simp only[vz,jv]
  try refine wc (wj ?_)
  rw[hs];obtain⟨f,hf⟩:∃f:Nat->Int,f=λi=>(es[i]?.map (·.1)).getD 0:=⟨_,rfl⟩
  show wpAny (model prog w) A (match t.probe (λi=>(es[i]?.map (·.1)).getD 0) C (advs t.mask (st0 t.mask C) n) with
   | some a7=>_
   | _=>_) Q E s
  rw[<- hf];have other:∀r∈L,r.2.1≠C->∀c,r.2.2 = .ref c->¬ TK prog w s.heap kx c:=λr K J c e z=>by
   obtain⟨b',k,O,X,eh⟩:=x.key r K;rw[O] at e
   cases e
   rw[X.inj z] at eh;exact J (eh.trans hh)
  obtain⟨d,h1,h2⟩:=x.tab.probe x.room f C n;have G:∀m,m<n+d->∃r∈L,r.1=(advs t.mask (st0 t.mask C) m).j/\∀c,r.2.2 = .ref c->¬ TK prog w s.heap kx c:=λm hm=>by
   rcases wR m n with z | z
   .exact H m z
   .obtain⟨i,Z,J⟩:=h1 m z hm;obtain⟨r,K,e1,e2⟩:=zge x.tab Z;have F:r∈L:=wv K;refine⟨r,F,e1,other r F ?_⟩;rw[hf] at J;simpa[e2] using J
  rcases h2 with ⟨a0,e⟩ | ⟨i,Z,a3,e⟩
  .rw[e];dsimp only;exact wj (W (n+d) G <| by
    rintro⟨r,K,O⟩;obtain⟨i,Z⟩:=x.tab.occ.mpr ⟨r,K,O⟩;exact a0 i Z)
  .rw[e];dsimp only;obtain⟨r,K,e1,e2⟩:=zge x.tab Z;have F:r∈L:=wv K;obtain⟨c,k,ec,hc,a2⟩:=x.key r F;have T:wpAny (model prog w) A (match es[i]? with
             | some (_,y)=>do
              let l <- holding [y] (eqBool y (Value.ref b))
              let U <- setState a
              if (true && l)=true then pure (SetFound.there none)
               else
                match U.2.snd.sameMemory t.moves t.mask with
                | some same=>
                 match if same=true then U.2.snd.slot (advs t.mask (st0 t.mask C) (n+d)).j else Slot.empty with
                 | Slot.live S=>
                  match U.fst[S]? with
                  | some (_,y')=>do
                   let u <- isSame y' y
                   let h <- pure (if u=true then some S else none)
                   match h with
                    | none=>do
                     rule "set.search.anew"
                     setSearchFrom a (Value.ref b) C true g none
                    | some S=>if l=true then pure (SetFound.there (some S)) else setSearchFrom a (Value.ref b) C true g (some (advs t.mask (st0 t.mask C) (n+d+1)))
                  | none=>do
                   let h <- pure none
                   match h with
                    | none=>do
                     rule "set.search.anew"
                     setSearchFrom a (Value.ref b) C true g none
                    | some S=>if l=true then pure (SetFound.there (some S)) else setSearchFrom a (Value.ref b) C true g (some (advs t.mask (st0 t.mask C) (n+d+1)))
                 | _=>do
                  let h <- pure none
                  match h with
                   | none=>do
                    rule "set.search.anew"
                    setSearchFrom a (Value.ref b) C true g none
                   | some S=>if l=true then pure (SetFound.there (some S)) else setSearchFrom a (Value.ref b) C true g (some (advs t.mask (st0 t.mask C) (n+d+1)))
                | _=>unsupported "set.changed-during-lookup:is-the-new-block-at-the-old-address"
             | _=>unsupported "internal:set-entry") Q E s:=by
    rw[e2, <- Prod.eta r.2];dsimp only;rw[ec];refine wc (ua (wpAny_eqBool_tuple hu hc hk ?_));refine wc (vT x.get x.data x.fits ?_);dsimp only
    by_cases I:k=kx
    .rw[v4 I];simp only[Bool.and_self,jX];exact wj (M ⟨r,F,c,ec,I ▸ hc⟩)
    .rw[vB I];simp only[Bool.and_false,vz,jv];have a6:t.sameMemory t.moves t.mask=some true:=by unfold SetTable.sameMemory;simp
     rw[a6];dsimp only;rw[if_pos rfl,z81 x.tab.riseP Z];dsimp only;rw[e2, <- Prod.eta r.2];dsimp only;rw[ec];refine wc (wpAny_isSame_ref_self ?_);refine wc (wj ?_);simp only[jX];refine ih (n+d+1) _ rfl (by lia) λm hm =>?_
     rcases wR m (n+d) with z | z
     .exact G m z
     .have:m=n+d:=by lia
      subst this;exact⟨r,F,e1,λc' O z=>by
       rw[ec] at O
       cases O
       exact I (hc.inj z)⟩
   by_cases R:t.led=true
   .rw[R];simp only[Bool.not_true,vz,jv];exact T
   .have Y:t.led=false:=by simpa using R
    rw[Y];simp only[Bool.not_false,jX];refine wc (zaR hk (λy hy =>?_) ?_)
    .obtain⟨p,hp,rfl⟩:=we.mp hy;have a1:p∈es:=by
      have:=Array.mem_toList_iff.mp hp;exact(Array.mem_filter.mp this).1
     have a4:p∈L.map (·.2):=by rw[x.tab.es] at a1;simpa using a1
     obtain⟨r',a5,rfl⟩:=we.mp a4;obtain⟨b',k',O,X,_⟩:=x.key r' a5;exact⟨b',k',O,X⟩
    .simp only[vz,jv];exact T
end
theorem z5m (n:Nat):∀fuel j,n<2 ^ (j+fuel)->∃k,sizeAbove.go n fuel (2 ^ j)=2 ^ k/\j<=k/\n<2 ^ k/\(k=j\/2 ^ k<=2*n)
 | 0,j,h=>⟨j,rfl,wu _,h,.inl rfl⟩
 | fuel+1,j,h=>by
  rw[sizeAbove.go]
  by_cases b:2 ^ j<=n
  .rw[if_pos b];obtain⟨k,d,f,e,a⟩:=z5m n _ _ (by rw[show j+1+fuel=j+(fuel+1) by lia];exact h);refine⟨k,d,by lia,e,.inr ?_⟩
   rcases a with a | a
   .grind
   .exact a
  .rw[if_neg b];exact⟨j,rfl,wu _,by lia,.inl rfl⟩
def z6t (h:n<2 ^ 60):∃k,sizeAbove n=2 ^ k/\3<=k/\n<2 ^ k/\(k=3\/2 ^ k<=2*n):=z5m n 64 3 (wI h (by decide))
section
variable {prog:Program}{w:World}{A:Around}{E:WvP}{s:Shared}
def TK.stay {h g:Heap}{k:List Int}{a b:Addr}{o:Obj}{es ep t}(x:TK prog w h k b)(q:h.get? a=some o)(p:o.data = .set es ep t)(l:Heap.SameBut a h g):TK prog w g k b:=by
 obtain⟨m,z04,n,f,i,d,j⟩:=x;have e:b≠a:=by
  grind
 exact⟨m,z04,n,(l.2 b e).trans f,i,d,j⟩
structure zdX (prog:Program)(w:World)(h:Heap)(a:Addr)(L:List (Rw Value)):Prop where
 ex:∃o es ep t,z96 prog w h a L o es ep t/\L.length*5<t.mask*3
def z7Z {h:Heap}{o:Obj}{ep:Nat}{t:SetTable}(e:h.get? a=some o)(d:o.data = .set es ep t)(b:Array (Int × Value))(t':SetTable):
  (h.update a (Obj.putSet b t')).get? a=some { o with data :=.set b (ep+1) t' }:=by
 have:=vJ (Obj.putSet b t') e (by rw[putSet_of b t' d];rfl);rw[putSet_of b t' d] at this;exact this
def z5u {a b:Addr}{S:List Int}{L:List (Rw Value)}(x:zdX prog w s.heap a L)(hu:A.units<cLine)(hk:TK prog w s.heap S b)(c9:L.length<2047){Q:Bool->Shared->Prop}
  (Z:(∃r∈L,∃c,r.2.2 = .ref c/\TK prog w s.heap S c)->∀tk,Q false { s with toks:=tk })
  (b6:(¬ ∃r∈L,∃c,r.2.2 = .ref c/\TK prog w s.heap S c)->∀H tk L',Heap.SameBut a s.heap H->zdX prog w H a L'->(L'.map (·.2)).Perm ((tupleKeyHash (intKind prog w) S,.ref b)::L.map (·.2))->Q true { s with heap:=H,toks:=tk }):
  wpAny (model prog w) A (setAdd a (.ref b)) Q E s:=by
 obtain⟨o,es,ep,t,y,c3⟩:=x.ex;unfold setAdd;refine ua (wc (wpAny_pyHash_tuple hu hk ?_));generalize Y:({ s with toks:=s.toks+(S.length+1) })=T;have d:z96 prog w T.heap a L o es ep t:=by rw[<- Y];exact y
 have a7:TK prog w T.heap S b:=by rw[<- Y];exact hk
 unfold setAddHashed;refine ua ?_;show wpAny _ _ (setAddHashedIn a (.ref b) _ (99999+1)) _ _ _;unfold setAddHashedIn;refine wc (vT d.get d.data d.fits ?_);dsimp only;have c2:byScan (Value.ref b) es=false:=by unfold byScan;simp[Value.scannable]
 rw[c2];simp only[vz,jv];obtain⟨N,hN,c1⟩:=d.tab.soon d.room (tupleKeyHash (intKind prog w) S);have a9:t.mask<=8191:=d.small;refine wc ?_;unfold setSearch;refine z7V (s:=T) d hu a7 c1 ?_ ?_ 100000 0 none rfl (by unfold turns at hN;lia) (λm hm=>absurd hm (jI _))
 .intro b3;dsimp only;refine wj ?_;rw[<- Y] at b3 ⊢;exact Z b3 _
 .intro n a3 J;dsimp only;refine wc (vT d.get d.data d.fits ?_);dsimp only;have a0:¬ ∃r∈L,∃c,r.2.2 = .ref c/\TK prog w T.heap S c:=by
   rintro⟨r,C,c,ec,hc⟩;obtain⟨U,k',e',l,eh⟩:=d.key r C;rw[ec] at e'
   cases e'
   have ek:=l.inj hc;subst ek;obtain⟨m,e1,e2⟩:=d.tab.reach r C;rw[eh] at e1 e2
   rcases uI m n with z | z | z
   .obtain⟨r',M,e3,e4⟩:=a3 m z;have:r'=r:=by
     have nd:=d.tab.nodup;have e5:r'.1=r.1:=e3.trans e1;obtain⟨i,hi,ei⟩:=ve.mp M;obtain⟨j,hj,ej⟩:=ve.mp C;have c5:i=j:=by
      rcases uI i j with q | q | q
      .have:=vk.mp d.tab.rise i j hi hj q;rw[ei,ej] at this;lia
      .exact q
      .have:=vk.mp d.tab.rise j i hj hi q;rw[ei,ej] at this;lia
     subst c5;exact ei.symm.trans ej
    subst this;exact e4 c ec hc
   .subst z;exact J ⟨r,C,e1.symm⟩
   .obtain⟨r',M,e3⟩:=e2 n z;exact J ⟨r',M,e3⟩
  generalize hh:tupleKeyHash (intKind prog w) S=I at*;generalize hj:(advs t.mask (st0 t.mask I) n).j=j at*;have c6:j<=t.mask:=by rw[<- hj];exact zbW t.mask I n
  have G:TabW (t.put j).1 (insertAt es (t.put j).2 (I,Value.ref b)) (ins L (t.put j).2 (j,I,Value.ref b)):=by
   have:=d.tab.put (x:=Value.ref b) (h:=I) (n:=n) (λm hm=>by
    obtain⟨r,C,e,_⟩:=a3 m hm;exact⟨r,C,e⟩) (by rw[hj];exact J) (by rw[hj];exact c6)
   rw[hj] at this;exact this
  have X:(ins L (t.put j).2 (j,I,Value.ref b)).length=L.length+1:=by
   unfold ins;rw[wC,wU,vA,jB];lia
  have b5:(t.put j).1.mask=t.mask:=rfl;have b0:(t.put j).1.plain=true:=d.plain;have p:((ins L (t.put j).2 (j,I,Value.ref b)).map (·.2)).Perm ((I,Value.ref b)::L.map (·.2)):=by
   unfold ins;rw[wD,wA];refine jV.trans ?_;refine List.Perm.cons _ ?_;rw[<- wD,jf]
  generalize b2:(t.put j).1=t2 at*;generalize d3:ins L (t.put j).2 (j,I,Value.ref b)=L2 at*;generalize d1:insertAt es (t.put j).2 (I,Value.ref b)=f at*;have d0:t.put j=(t2,(t.put j).2):=by rw[<- b2]
  rw[b0];simp only[jX];refine wc (z4j a7 ?_);simp only[jX];have O:f.size=L.length+1:=by rw[G.size.2.1,X]
  refine wc (wpAny_storeSet_of d.get d.data ?_ (by rw[O];exact fits_of_scanBound (by unfold scanBound;lia)));have g2:=z7Z d.get d.data f t2;have b1:=uJ T.heap a (Obj.putSet f t2);have K:t2.led=t.led:=by rw[<- b2];rfl
  have a5:∀H,Heap.SameBut a T.heap H->∀r:Int × Value,r∈(I,Value.ref b)::L.map (·.2)->Ee2 λU k=>r.2 = .ref U/\TK prog w H k U/\r.1=tupleKeyHash (intKind prog w) k:=λH sb r C=>by
   rcases wm.mp C with rfl | C
   .exact⟨b,S,rfl,a7.stay d.get d.data sb,hh.symm⟩
   .obtain⟨r',M,rfl⟩:=we.mp C;obtain⟨U,k',e',l,eh⟩:=d.key r' M;exact⟨U,k',e',l.stay d.get d.data sb,eh⟩
  have fin:∀H L',Heap.SameBut a T.heap H->zdX prog w H a L'->(L'.map (·.2)).Perm ((I,.ref b)::L.map (·.2))->Q true { T with heap:=H }:=λH L' sb ok pm=>by
   rw[<- Y] at sb a0 ⊢;exact b6 a0 H _ L' sb ok pm
  have h7:7<=t.mask:=by
   obtain⟨k,a8,e⟩:=d.tab.pow;have:2 ^ 3<=2 ^ k:=jR (by decide) a8;lia
  have g:z96 prog w (T.heap.update a (Obj.putSet f t2)) a L2 { o with data :=.set f (ep+1) t2 } f (ep+1) t2:=by
   refine⟨g2,d.ex,rfl,G,?_,?_,b0,?_,λr C =>?_⟩
   .rw[X,b5];lia
   .rw[b5];exact a9
   .rw[K];exact d.led
   .obtain⟨U,k',e',l,eh⟩:=a5 _ b1 r.2 (p.mem_iff.mp (we.mpr ⟨r,C,rfl⟩));exact⟨U,k',e',l,eh⟩
  have a6:t2.fill=L.length+1:=by rw[G.size.2.2,X]
  by_cases b7:t2.tooFull=true
  .rw[b7];simp only[Bool.not_false,Bool.and_self,jX];obtain⟨k,a1,a8,d4,c7⟩:=z6t (n:=SetTable.grown (es.size+1)) (by
    have:es.size=L.length:=d.tab.size.2.1;unfold SetTable.grown;rw[this,if_neg (by lia)];exact wI (show (L.length+1)*4<8192 by lia) (by decide))
   have c4:SetTable.grown (es.size+1)=(L.length+1)*4:=by
    have:es.size=L.length:=d.tab.size.2.1;unfold SetTable.grown;rw[this,if_neg (by lia)]
   have d5:2 ^ k<=8192:=by
    rcases c7 with z | z
    .subst z;decide
    .rw[c4] at z
     rcases wR k 14 with y | y
     .exact jR (by decide) (show k<=13 by lia)
     .have:=jR (show 0<2 by decide) y;have:(2) ^ 14=16384:=by decide
      lia
   have a2:2 ^ k - 1+1=2 ^ k:=Nat.sub_add_cancel (Nat.one_le_two_pow);obtain⟨t3,u,L3,hl,m1,m2,m3,m4,m5,m6,R,b8⟩:=zim (es:=f) (mask:=2 ^ k - 1) (finger:=t2.finger) (moves:=t2.movedTo (2 ^ k - 1)) (led:=t2.led) (plain:=t2.plain) a2 a8 (by rw[O,a2];lia);unfold setRelay;refine wc (wc (vT g.get g.data g.fits ?_));dsimp only;rw[a1];rw[if_neg (show ¬ 2 ^ k > sizeLine by rw[sizeLine_eq];lia)]
   try refine wc (wj ?_)
   have c8:t2.relaid (f.map (·.1)) (SetTable.grown (es.size+1))=some (t3,u):=by
    unfold SetTable.relaid;rw[a1];exact hl
   rw[c8];refine wc ?_;show wpAny _ _ (if (((u.filterMap (f[·]?)).size != f.size)=true) then _ else _) _ _ _;rw[if_neg (by rw[m6];simp)];refine wj ?_;dsimp only;generalize d2:u.filterMap (f[·]?)=W at*;have a4:W.size=L.length+1:=by rw[m6,O]
   have b4:L3.length=L.length+1:=by rw[<- R.size.2.1,a4]
   refine wpAny_storeSet_of g.get g.data ?_ (by rw[a4];exact fits_of_scanBound (by unfold scanBound;lia));have g3:=z7Z g.get g.data W t3;have b9:=b1.trans (uJ (T.heap.update a (Obj.putSet f t2)) a (Obj.putSet W t3));have e3:W.toList=L3.map (·.2):=by rw[R.es]
   have c0:f.toList=L2.map (·.2):=by rw[G.es]
   have pm:(L3.map (·.2)).Perm ((I,Value.ref b)::L.map (·.2)):=by
    rw[e3,c0] at b8;exact b8.trans p
   refine wj (fin _ L3 b9 ⟨_,_,_,_,⟨g3,d.ex,rfl,R,?_,?_,m5.trans b0,?_,λr C =>?_⟩,?_⟩ pm)
   .rw[b4,m1];lia
   .rw[m1];lia
   .rw[m4,K];exact d.led
   .obtain⟨U,k',e',l,eh⟩:=a5 _ b9 r.2 (pm.mem_iff.mp (we.mpr ⟨r,C,rfl⟩));exact⟨U,k',e',l,eh⟩
   .rw[b4,m1];lia
  .have F:t2.tooFull=false:=by simpa using b7
   rw[F];simp only[Bool.and_false,vz,jv];refine wj (fin _ L2 b1 ⟨_,_,_,_,g,?_⟩ p);unfold SetTable.tooFull at F;rw[a6] at F;rw[X];have:=of_decide_eq_false F;lia
end
inductive Two {α β:Type}(R:α->β->Prop):List α->List β->Prop
 | nil:Two R [] []
 | cons {a b l m}:R a b->Two R l m->Two R (a::l) (b::m)
def Two.imp {d e:Type}{R R':d->e->Prop}(i:∀a b,R a b->R' a b){l:List d}{m:List e}(h:Two R l m):Two R' l m:=by
 induction h with
 | nil=>exact .nil
 | cons h _ f=>exact .cons (i _ _ h) f
def Two.perm {o q:Type}{R:o->q->Prop}{l l':List o}(p:l.Perm l'):∀{m:List q},Two R l m->∃m',m.Perm m'/\Two R l' m':=by
 induction p with
 | nil=>intro m h;exact⟨m,List.Perm.refl _,h⟩
 | cons x _ t=>
  intro m h
  cases h with
  | cons d e=>
   obtain⟨m',j,a⟩:=t e;exact⟨_::m',j.cons _,.cons d a⟩
 | swap x y l=>
  intro m h
  cases h with
  | cons d e=>
   cases e with
   | cons r s=>exact⟨_,List.Perm.swap _ _ _,.cons r (.cons d s)⟩
 | trans _ _ f g=>
  intro m h;obtain⟨m',j,a⟩:=f h;obtain⟨i,n,b⟩:=g a;exact⟨i,j.trans n,b⟩
def Two.mem_left {e f:Type}{R:e->f->Prop}{l:List e}{m:List f}(h:Two R l m){a:e}(d:a∈l):∃b∈m,R a b:=by
 induction h with
 | nil=>simp at d
 | cons h _ g=>
  rcases wm.mp d with rfl | d
  .simp_all
  simp_all
def Two.mem_right {f e:Type}{R:f->e->Prop}{l:List f}{m:List e}(h:Two R l m){b:e}(d:b∈m):∃a∈l,R a b:=by
 induction h with
 | nil=>simp at d
 | cons h _ g=>
  rcases wm.mp d with rfl | d
  .simp_all
  simp_all
section
variable {prog:Program}{w:World}
def IsK (prog:Program)(w:World)(M:Value->Prop)(h:Heap)(v:Value)(k:List Int):Prop:=M v/\∃b,v = .ref b/\TK prog w h k b
structure SetK (prog:Program)(w:World)(M:Value->Prop)(h:Heap)(a:Addr)(kl:List (List Int)):Prop where
 ex:∃L,zdX prog w h a L/\Two (IsK prog w M h) (L.map (·.2.2)) kl
 nd:kl.Nodup
def SetK.len {M:Value->Prop}{h:Heap}{a:Addr}{b:List (List Int)}(x:SetK prog w M h a b):∃L,zdX prog w h a L/\Two (IsK prog w M h) (L.map (·.2.2)) b/\L.length=b.length:=by
 obtain⟨L,e,d⟩:=x.ex;refine⟨L,e,d,?_⟩;have:∀{l:List _}{m:List _},Two (IsK prog w M h) l m->l.length=m.length:=by
  intro l m t
  induction t with
  | nil=>rfl
  | cons _ _ f=>simp[f]
 have:=this d;simpa using this
def SetK.stay {M:Value->Prop}{h d:Heap}{a:Addr}{kl:List (List Int)}{wr:List Addr}(x:SetK prog w M h a kl)(k:∀b o,b ∉ wr->h.get? b=some o->d.get? b=some o)(l:a ∉ wr)(A:∀b∈wr,∀ks,¬ TK prog w h ks b):SetK prog w M d a kl:=by
 obtain⟨L,⟨o,i,g,t,y,s⟩,j⟩:=x.ex;have f:∀{ks:List Int}{b:Addr},TK _ w h ks b->TK _ w d ks b:=λ{ks b} z=>by
  have p  := λq=>A b q ks z;obtain⟨o,C,n,e,r⟩:=z;exact⟨o,C,n,k _ _ p e,r⟩
 refine⟨⟨L,⟨o,i,g,t,⟨k _ _ l y.get,y.ex,y.data,y.tab,y.room,y.small,y.plain,y.led,λr u =>?_⟩,s⟩,j.imp λa b ⟨m,c,e,z⟩=>⟨m,c,e,f z⟩⟩,x.nd⟩;obtain⟨b,ks,e,z,q⟩:=y.key r u;exact⟨b,ks,e,f z,q⟩
variable {A:Around}{R:Result->Shared->Prop}{I:Addr}{fp wr:List Addr}{G:Array GenState->Array GenState->Prop}{n:Nat}{P:Nat->Value->Prop}{St:Nat->Shared->Prop}
def z99 {M:Value->Prop}(W:WalksS prog w A.in1 I fp wr G n P St)(S:Addr)(Z:S ∉ fp)(hu:A.in1.units<cLine)(ks:Nat->List Int)(hn:n<=2040)(hw:∀i s,St i s->∀b∈wr,∀k,¬ TK prog w s.heap k b)(hM:∀j v,P j v->M v):
  ∀k i s kl,n - i=k->i<=n->St i s->(∀j v,P j v->∃b,v = .ref b/\TK prog w s.heap (ks j) b)->
   SetK prog w M s.heap S kl->kl.length<=i->(∀x,x∈kl↔∃j,j<i/\ks j=x)->
   (∀s' d,Moved (S::wr) G s s'->SetK prog w M s'.heap S d->d.length<=n->(∀x,x∈d↔∃j,j<n/\ks j=x)->R (.ok (.ret .none)) s')->
   codeAny (model prog w) A (.builtin "set.update.loop" ⟨[.ref S,.ref I],[]⟩) R s:=by
 have a0:S ∉ wr:=λh=>Z (W.sub _ h);have K:∀b∈wr,b∈S::wr:=λb hb=>wo _ hb;intro k
 induction k with
 | zero=>
  intro i s kl hk hi C hP hS hl hm hR;have a8:i=n:=by lia
  subst a8;refine uR F.entry_set_update_loop ?_;rw[ui jy _];show wpAny _ A.in1 (pyNext (.ref I) >>= _) _ _ s;refine wc (W.done s _ _ C λs' p =>?_);show wpAny _ A.in1 (ret Value.none) _ _ s';exact wj (hR s' kl (p.mono K) (hS.stay p.heap a0 (hw _ _ C)) hl hm)
 | succ k ih=>
  intro i s kl hk hi C hP hS hl hm hR;have O:i<n:=by lia
  refine uR F.entry_set_update_loop ?_;rw[ui jy _];show wpAny _ A.in1 (pyNext (.ref I) >>= _) _ _ s;refine wc (W.item i s _ _ O C λv s' X a3 p =>?_);have Y:=hS.stay p.heap a0 (hw _ _ C);have U:∀j v,P j v->∃b,v = .ref b/\TK prog w s'.heap (ks j) b:=λj u Q=>by
   obtain⟨b,e,z⟩:=hP j u Q;have hb:b ∉ wr:=λq=>hw _ _ C b q _ z;obtain⟨o,it,m,e',r⟩:=z;exact⟨b,e,o,it,m,p.heap _ _ hb e',r⟩
  obtain⟨b,rfl,a2⟩:=U i v X;show wpAny _ A.in1 (holding [Value.ref b] (setAdd S (.ref b)) >>= _) _ _ s';refine wc (ua ?_);obtain⟨L,hL,h2,b3⟩:=Y.len;have H:∀J N,s'.toks<=N->Heap.SameBut S s'.heap J->Aa3 (St (i+1) { s' with heap:=J,toks:=N }) (∀j v,P j v->∃b,v = .ref b/\TK prog w J (ks j) b) (∀f,Moved (S::wr) G { s' with heap:=J,toks:=N } f->Moved (S::wr) G s f):=λJ N E l=>by
   obtain⟨o,es,ep,t,y,_⟩:=hL.ex;refine⟨W.frame _ s' _ _ a3 E λc hc o' e =>?_,λj u Q =>?_,λf g =>?_⟩
   .rw[l.2 c (λz:c=S=>Z (by rw[<- z];exact hc))];exact e
   .obtain⟨c,e,z⟩:=U j u Q;exact⟨c,e,z.stay y.get y.data l⟩
   .refine Moved.trans W.gtrans ((p.mono K).then_heap E λc o' hc e =>?_) g;rw[l.2 c (λz:c=S=>hc (by rw[z];exact wB))];exact e
  refine wpAny_with_toks (wu s'.toks) ?_;refine z5u hL hu a2 (by lia) ?_ ?_
  .intro a7 N E;obtain⟨g1,g2,g3⟩:=H s'.heap N E (Heap.SameBut.refl _ _);refine wj ⟨uZ jy _,ih (i+1) _ kl (by lia) O g1 g2 Y (by lia) (λx =>?_) λf d g=>hR f d (g3 f g)⟩;rw[hm x]
   constructor
   .rintro⟨j,hj,e⟩;exact⟨j,by lia,e⟩
   .rintro⟨j,hj,e⟩
    rcases wR j i with z | z
    .exact⟨j,z,e⟩
    .have:j=i:=by lia
     subst this;obtain⟨r,hr,c,ec,hc⟩:=a7;obtain⟨y,hy,_,c',T,a6⟩:=h2.mem_left (we.mpr ⟨r,hr,rfl⟩);rw[ec] at T
     cases T
     have:=hc.inj a6;rw[<- e,this];exact(hm y).mp hy
  .intro a1 J N L' l b0 pm E;obtain⟨g1,g2,g3⟩:=H J N E l;obtain⟨o,es,ep,t,y,_⟩:=hL.ex;have t1:Two (IsK prog w M J) (Value.ref b::L.map (·.2.2)) (ks i::kl) :=.cons ⟨hM i _ X,b,rfl,a2.stay y.get y.data l⟩ (h2.imp λa k ⟨m,c,e,z⟩=>⟨m,c,e,z.stay y.get y.data l⟩);have b2:(Value.ref b::L.map (·.2.2)).Perm (L'.map (·.2.2)):=by
    have:=pm.symm.map (·.2);simpa[Function.comp_def] using this
   obtain⟨d,p',t'⟩:=t1.perm b2;have a9:ks i ∉ kl:=λz=>by
    obtain⟨a',a5,_,c,e,z'⟩:=h2.mem_right z;obtain⟨r,hr,rfl⟩:=we.mp a5;exact a1 ⟨r,hr,c,e,z'⟩
   have b1:d.Nodup:=p'.nodup_iff.mp (vR.mpr ⟨a9,hS.nd⟩);have b4:d.length=kl.length+1:=by rw[<- p'.length_eq];rfl
   refine wj ⟨uZ jy _,ih (i+1) _ d (by lia) O g1 g2 ⟨⟨L',b0,t'⟩,b1⟩ (by lia) (λx =>?_) λf a4 g=>hR f a4 (g3 f g)⟩;rw[<- p'.mem_iff,wm,hm x]
   constructor
   .rintro(e | ⟨j,hj,e⟩)
    .exact⟨i,by lia,e.symm⟩
    .exact⟨j,by lia,e⟩
   .rintro⟨j,hj,e⟩
    rcases wR j i with z | z
    .exact .inr ⟨j,z,e⟩
    .have:j=i:=by lia
     subst this;exact .inl e.symm
end
section
variable {prog:Program}{w:World}{A:Around}{E:WvP}{s:Shared}
def z7d:isSubtype (.type "tuple") (.type "set")=pure false:=by kernel_rfl
def z49:isSubtype (.type "tuple") (.type "frozenset")=pure false:=by rfl
abbrev led0 (w:World):Bool := !w.params.followText "set-order"
def z7O (a:Value)
  (h:Q₁ (.ref s.heap.objs.size) { s with heap:=s.heap.push { cls :=.type "set",dict:=none,data :=.set #[] 0 (.fresh 0 0 (led0 w)) } }):
  codeAny (model prog w) A (.call (.builtin "set.__new__") ⟨[.type "set",a],[]⟩) (wants Q₁ E) s:=by
 refine codeAny_of_tree ?_;refine wc (wpAny_of_eq (F.newCall_set_1 a) (wj ⟨uZ F.plain_set_new _,uR F.entry_set_new ?_⟩));rw[ui F.plain_set_new _];unfold Builtin.«set.__new__» Builtin.Frozenset.newClass;have b:=sub_set_self;obtain⟨e,g,d,i,f⟩:=s;dsimp only
 wp_walk
 refine jW (wj ?_);dsimp only;simp only[newObj];refine wc (wpAny_alloc (wj ?_));exact wj h
def zaZ (e:h.get? a=some { cls :=.type "set",dict:=none,data :=.set #[] 0 (.fresh 0 0 (led0 w)) }):SetK prog w M h a []:=by
 refine⟨⟨[],⟨_, #[],0,_,⟨e,⟨rfl,rfl,rfl⟩,rfl,⟨rfl,rfl,.nil,(λr b=>by simp at b),rfl,⟨3,wu _,rfl⟩,(λr b=>by simp at b)⟩,(by simp_all),(by show 7<=8191;decide),rfl,rfl,(λr b=>by simp at b)⟩,(by show 0*5<7*3;decide)⟩,.nil⟩,.nil⟩
def zlx {k:List Int}(x:∃o,h.get? b=some o/\o.cls = .type tn)(i:tn≠"tuple"):¬ TK prog w h k b:=by
 rintro⟨l,_,_,d,a,_⟩;obtain⟨j,g,e⟩:=x;rw[g] at d
 cases d
 rw[e] at a
 injection a with f
 exact i f
def z5r {z04:Array Value}(S:s.heap.get? l=some ol)(b9:isSubtype ol.cls (.type "set")=pure false)(b8:isSubtype ol.cls (.type "frozenset")=pure false)(c4:(ol.cls == .type "dict")=false)(a6:io.isFreed=false)
  (a7:∀{A':Around}{E':WvP}{s':Shared}{Q':WvP},s'.heap.get? l=some ol->Q' (.ref s'.heap.objs.size) { s' with heap:=s'.heap.push io }->wpAny (model prog w) A' (pyIter (.ref l)) Q' E' s')
  (b4:∀{A':Around}(I:Addr),A'.handled=none->l≠I->∃St,Walks prog w A' I [I,l] [I] z04.size (λi v=>z04[i]? = some v) St/\(∀h:Heap,h.get? I=some io->h.get? l=some ol->St 0 h)/\∀i h k,St i h->¬ TK prog w h k I)
  (hh:A.handled=none) (hu:A.units+8<cLine) (hi:Two (IsK prog w M s.heap) z04.toList ks) (X:z04.size<=2040)
  (h:∀(g:Heap) (tk:Nat) n,SetK prog w M g s.heap.objs.size n->n.length<=z04.size->(∀x,x∈n↔x∈ks)->
   (∀b o,b<s.heap.objs.size->s.heap.get? b=some o->g.get? b=some o)->Q (.ref s.heap.objs.size) { s with heap:=g,toks:=tk }):
  wpAny (model prog w) A (call (.type "set") [.ref l]) Q E s:=by
 obtain⟨c,tl,b7⟩:=jJ.mro;have b2:=jJ.made;have c0:=jJ.sub;refine wpAny_call (codeAny_of_tree ?_);show wpAny _ _ (callAny (.type "set") _) _ _ _;refine wj ⟨Code.quiet_builtin _ (by decide +kernel),uR F.entry_type_call ?_⟩;rw[Around.under_plain (weight_type_call_type "set" [.ref l] []) rfl];have h1:=jJ.notType;have h2:=jJ.canCreate;have c2:=F.typeCall_set_1 (.ref l)
 repeat (any_goals (first | assumption | wp_step))
 refine codeAny_mono (z7O (.ref l) (E:=E) (Q₁:=λT u=>T = .ref s.heap.objs.size/\u={ s with heap:=s.heap.push { cls :=.type "set",dict:=none,data :=.set #[] 0 (.fresh 0 0 (led0 w)) } }) ⟨rfl,rfl⟩) λr u hr =>?_
 cases r with
 | error e=>exact hr
 | ok fl=>
  cases fl with
  | ret T=>
   obtain⟨rfl,rfl⟩:=hr;generalize L:led0 w=a at*;have hS:(s.heap.push { cls :=.type "set",dict:=none,data :=.set #[] 0 (.fresh 0 0 a) }).get? s.heap.objs.size=some { cls :=.type "set",dict:=none,data :=.set #[] 0 (.fresh 0 0 a) }:=wq _ rfl;have hT:Shared.TypeIs { s with heap:=s.heap.push { cls :=.type "set",dict:=none,data :=.set #[] 0 (.fresh 0 0 a) } } (.ref s.heap.objs.size) "set":=⟨_,hS,rfl⟩
   have c3:=jJ.init.lookup;have c1:=jJ.init.bind (.ref s.heap.objs.size)
   repeat (any_goals (first | assumption | wp_step))
   refine codeAny_mono (codeAny_call_builtin (R:=wants (λr y=>r = .none/\Ee3 λg tk n=>y={ s with heap:=g,toks:=tk }/\SetK prog w M g s.heap.objs.size n/\n.length<=z04.size/\(∀x,x∈n↔x∈ks)/\
     (∀b o,b<s.heap.objs.size->s.heap.get? b=some o->g.get? b=some o)) E) jJ.init.plain F.entry_set_init (check_set_init_1 hT ?_)) λU y d =>?_
   .have q:=wf (show Obj from { cls :=.type "set",dict:=none,data :=.set #[] 0 (.fresh 0 0 a) }) S;unfold Builtin.«set.__init__» noKeywords Builtin.Frozenset.updateFrom;generalize a0:pyIter=PI
    wp_walk
    subst a0;apply a7 (by exact q);refine wc (wpAny_runValue ?_);have K:l<s.heap.objs.size:=ww S;have a5:A.in1.in1.in1.handled=none:=by simp[hh]
    have O:l≠(s.heap.push { cls :=.type "set",dict:=none,data :=.set #[] 0 (.fresh 0 0 a) }).objs.size:=by
     rw[v5];exact wJ (uf K)
    have a1:s.heap.objs.size ∉ [(s.heap.push { cls :=.type "set",dict:=none,data :=.set #[] 0 (.fresh 0 0 a) }).objs.size,l]:=by
     rw[v5];simp only[wm,wg,wE,vO,not_or];exact⟨wJ (uX _),jF K⟩
    have p:∀(i:Nat) v,z04[i]? = some v->M v/\∃b,v = .ref b/\TK prog w s.heap (ks.getD i []) b:=λi v G=>by
     have f:z04.toList[i]? = some v:=by simpa using G
     generalize z04.toList=il at hi f;clear G h
     induction hi generalizing i with
     | nil=>simp at f
     | cons h0 _ ih=>
      cases i with
      | zero=>
       simp at f;subst f;exact h0
      | succ i=>exact ih i (by simpa using f)
    have J:ks.length=z04.size:=by
     have:∀{l:List Value}{m:List (List Int)},Two (IsK prog w M s.heap) l m->l.length=m.length:=by
      intro l m t
      induction t with
      | nil=>rfl
      | cons _ _ ih=>simp[ih]
     have:=this hi;simpa using this.symm
    obtain⟨St,W,st0,hw⟩:=b4 (A':=A.in1.in1.in1) _ a5 O;refine z99 W.toS s.heap.objs.size a1 (by simp;lia) (λi=>ks.getD i []) X (λi s0 b3 b a2 k => ?hw) (λj v G=>(p j v G).1) (z04.size - 0) 0 _ [] (by lia) (vH _) (st0 _ (wq _ a6) (wf _ q)) (λj v G => ?hP) ?hS0 (vH _) (λx=>by simp) ?hR
    case hw=>
     rw[wg.mp a2];exact hw _ _ _ b3
    case hP=>
     obtain⟨_,b,e,o2,it,m,e2,r⟩:=p j v G;exact⟨b,e,o2,it,m,wf _ (wf _ e2),r⟩
    case hS0=>
     refine zaZ (h:=(s.heap.push { cls :=.type "set",dict:=none,data :=.set #[] 0 (.fresh 0 0 a) }).push _) ?_;rw[L];exact wf _ hS
    case hR=>
     intro s' n Z C b1 N;obtain⟨g,g',d',b6,b5⟩:=s';have eg:g'=s.gens:=Z.gens;have ed:d'=s.drawn:=Z.drawn;have eo:b5=s.os:=Z.os;subst eg;subst ed;subst eo;show wpAny _ _ _ _ _ _;refine wj ?_;show wpAny _ _ (ret Value.none) _ _ _;refine wj ⟨rfl,g,b6,n,rfl,C,b1,λx =>?_,λb o X e =>?_⟩
     .rw[N x]
      constructor
      .rintro⟨j,Y,e⟩;have H:j<ks.length:=by rw[J];exact Y
       rw[<- e];show ks.getD j []∈ks;rw[uh,wn H];exact u9 H
      .intro hx;obtain⟨j,Y,e⟩:=ve.mp hx;refine⟨j,by rw[<- J];exact Y,?_⟩;show ks.getD j []=x;rw[uh,wn Y];exact e
     .have a3:b≠s.heap.objs.size:=wJ X;have a4:b≠(s.heap.push { cls :=.type "set",dict:=none,data :=.set #[] 0 (.fresh 0 0 a) }).objs.size:=by
       rw[v5];exact wJ (uf X)
      exact Z.heap b o (by simp only[wm,wg,wE,vO,not_or];exact⟨a3,a4⟩) (wf _ (wf _ e))
   .cases U with
    | error e=>exact d
    | ok z=>
     cases z with
     | ret r=>
      obtain⟨rfl,g,tk,n,rfl,C,a9,b0,a8⟩:=d
      repeat (any_goals (first | assumption | wp_step))
      exact h _ _ _ C a9 b0 a8
     | _=>exact d.elim
  | _=>exact hr.elim
def z7R {M:Value->Prop}{l:Addr}{z04:Array Value}{ks:List (List Int)}{Q:WvP}
  (u:A.handled=none) (C:A.units+8<cLine) (z:s.heap.IsList l z04) (y:Two (IsK prog w M s.heap) z04.toList ks) (t:z04.size<=2040)
  (h:∀f tk i,SetK prog w M f s.heap.objs.size i->i.length<=z04.size->(∀x,x∈i↔x∈ks)->
   (∀b o,b<s.heap.objs.size->s.heap.get? b=some o->f.get? b=some o)->Q (.ref s.heap.objs.size) { s with heap:=f,toks:=tk }):
  wpAny (model prog w) A (call (.type "set") [.ref l]) Q E s:=by
 obtain⟨G,g,a,j,d⟩:=z;exact z5r g (by rw[a];exact F.sub_list_set) (by rw[a];exact F.sub_list_frozenset) (by rw[a];rfl) rfl (λe q=>wpAny_pyIter_list ⟨_,e,a,j,d⟩ q) (λI h n=>⟨_,Walks.list h I l n z04,λ_ p r=>⟨⟨_,p,rfl,rfl⟩,_,r,a,j,d⟩,λ_ _ _ m=>zlx (tn:="list_iterator") ⟨_,m.1.choose_spec.1,m.1.choose_spec.2.1⟩ (by decide)⟩) u C y t h
def z6I {M:Value->Prop}{l:Addr}{z04:Array Value}{ks:List (List Int)}{Q:WvP}
  (u:A.handled=none) (C:A.units+8<cLine) (z:s.heap.IsTuple l z04) (y:Two (IsK prog w M s.heap) z04.toList ks) (t:z04.size<=2040)
  (h:∀f tk i,SetK prog w M f s.heap.objs.size i->i.length<=z04.size->(∀x,x∈i↔x∈ks)->
   (∀b o,b<s.heap.objs.size->s.heap.get? b=some o->f.get? b=some o)->Q (.ref s.heap.objs.size) { s with heap:=f,toks:=tk }):
  wpAny (model prog w) A (call (.type "set") [.ref l]) Q E s:=by
 obtain⟨F,g,a,j,d⟩:=z;exact z5r g (by rw[a];exact z7d) (by rw[a];exact z49) (by rw[a];rfl) rfl (λe q=>jd ⟨_,e,a,j,d⟩ q) (λI h n=>⟨_,Walks.tuple h I l n z04,λ_ p r=>⟨⟨_,p,rfl,rfl⟩,_,r,a,j,d⟩,λ_ _ _ m=>zlx (tn:="tuple_iterator") ⟨_,m.1.choose_spec.1,m.1.choose_spec.2.1⟩ (by decide)⟩) u C y t h
end
end Tab
namespace Tim
open PySem PyProof.Rows PySem.W
def Rn (rk:Nat->Nat)(p:Array Nat)(i:Nat):Nat:=rk (p[i]?.getD 0)
def Up (rk:Nat->Nat)(p:Array Nat)(j:Nat):Prop:=∀a b,a<=b->b<j->Rn rk p a<=Rn rk p b
def Dn (rk:Nat->Nat)(p:Array Nat)(j:Nat):Prop:=∀a b,a<=b->b<j->Rn rk p b<=Rn rk p a
abbrev Ok (n:Nat)(p:Array Nat):Prop:=p.Perm (List.range n).toArray
section
variable {cmp:Nat->Nat->(Bool->Shared->Prop)->Shared->Prop}{s:Shared}{rk:Nat->Nat}{n:Nat}{p:Array Nat}{α:Type}
def z3D (h:Ok n p):p.size=n:=by rw[h.size_eq];simp
def zl6 (a:0<n)(h:Ok n p)(i:Nat):p[i]?.getD 0<n:=by
 rcases wR i _ with z | z
 .rw[uL z];have:=(Array.perm_iff_toList_perm.mp h).mem_iff.mp (Array.getElem_mem_toList z);simpa using this
 simp_all
def As (a:Nat->Nat->(Bool->Shared->Prop)->Shared->Prop)(rk:Nat->Nat)(n:Nat)(s:Shared):Prop:=∀i j C,i<n->j<n->C (decide (rk i<rk j)) s->a i j C s
def ask_ {k:Bool->KasT α}(A:As cmp rk n s)(a:0<n)(b:Ok n p)(h:Rn rk p i<Rn rk p j->(k true).kasWp cmp Q s)(d:Rn rk p j<=Rn rk p i->(k false).kasWp cmp Q s):(KasT.ask (p.getD i 0) (p.getD j 0) k).kasWp cmp Q s:=by
 rw[u4,u4];refine A _ _ _ (zl6 a b i) (zl6 a b j) ?_
 rcases wR _ _ with z | z
 .rw[show decide (rk _<rk _)=true from v4 z];exact h z
 .rw[show decide (rk _<rk _)=false from vB (Nat.not_lt.mpr z)];exact d z
theorem asc_ (A:As cmp rk n s)(g:0<n)(i:Ok n p):∀f m,1<=m->Up rk p m->(∀k,m<=k->k<=m+f->Up rk p k->k=m+f\/Rn rk p k<Rn rk p (k - 1)->Q k s)->(kas_asc p f m).kasWp cmp Q s
 | 0,m,e,d,q=>q m (by lia) (by lia) d (.inl rfl)
 | f+1,m,e,d,q=>by
  refine ask_ A g i (λh =>?_) λh =>?_
  .exact q m (by lia) (by lia) d (.inr h)
  .refine asc_ A g i f (m+1) (by lia) (λa b e j =>?_) λk e j l o=>q k (by lia) (by lia) l (o.imp (by lia) id)
   rcases wR b m with z | z
   .exact d a b e z
   .obtain rfl:b=m:=by lia
    rcases wR a b with w | w
    .exact wP (d a (b - 1) (by lia) (by lia)) h
    grind
def zgf (a:j<=p.size)(k:Nat):Rn rk (kas_rev p i j) k=if i<=k/\k<j then Rn rk p (i+j - 1 - k) else Rn rk p k:=by
 unfold Rn kas_rev;rw[getElem?_mirror_all a k]
 split <;> rfl
def z8p (h:Ok n p):Ok n (kas_rev p i j):=(mirror_perm _ _ _ _).trans h
def zhi (a:j<=p.size)(b:∀k,i<=k->k<j->Rn rk p k=Rn rk p (j - 1))(k:Nat):Rn rk (kas_rev p i j) k=Rn rk p k:=by
 rw[zgf a]
 grind
def z6n (d:1<=m)(h:Dn rk p m)(k:Rn rk p m<=Rn rk p (m - 1)):Dn rk p (m+1):=λa b x y=>by
 rcases wR b m with z | z
 .exact h a b x z
 .obtain rfl:b=m:=by lia
  rcases wR a b with w | w
  .exact wP k (h a _ (by lia) (by lia))
  .obtain rfl:a=b:=by lia
   simp_all
theorem zfM (A:As cmp rk n s)(C:0<n):∀f p m q,Ok n p->Dn rk p m->q<m->(∀i,m - (q+1)<=i->i<m->Rn rk p i=Rn rk p (m - 1))->m+f<=n->
  (∀o l t,Ok n o->Dn rk o l->t<l->m<=l->l<=m+f->(∀i,l - (t+1)<=i->i<l->Rn rk o i=Rn rk o (l - 1))->Q (o,l,t) s)->(kas_desc f p m q).kasWp cmp Q s
 | 0,p,m,q,r,u,F,w,I,h=>h p m q r u F (by lia) (by lia) w
 | f+1,p,m,q,r,u,F,w,I,h=>by
  refine ask_ A C r (λG =>?_) λG =>?_
  .rw[if_pos rfl];have eq:=zhi (rk:=rk) (p:=p) (i:=m - (q+1)) (j:=m) (by rw[z3D r];lia) w
   by_cases E:q > 0
   .rw[if_pos E];refine zfM A C f _ (m+1) 0 (z8p r) (z6n (by lia) (λa b x y=>by rw[eq,eq];exact u a b x y) (by rw[eq,eq];lia)) (by lia) (λi x y=>by rw[show i=m+1 - 1 by lia]) (by lia) λo l t a b c d e g=>h o l t a b c (by lia) (by lia) g
   .rw[if_neg E];exact zfM A C f p (m+1) 0 r (z6n (by lia) u (by lia)) (by lia) (λi x y=>by rw[show i=m+1 - 1 by lia]) (by lia) λo l t a b c d e g=>h o l t a b c (by lia) (by lia) g
  .rw[if_neg (by decide)];refine ask_ A C r (λH =>?_) λH =>?_
   .rw[if_pos rfl];exact h p m q r u F (by lia) (by lia) w
   .rw[if_neg (by decide)];refine zfM A C f p (m+1) (q+1) r (z6n (by lia) u (by lia)) (by lia) (λi x y =>?_) (by lia) λo l t a b c d e g=>h o l t a b c (by lia) (by lia) g
    rcases wR i m with z | z
    .rw[w i (by lia) z,show m+1 - 1=m by lia];lia
    .rw[show i=m+1 - 1 by lia]
def zj6 (A:As cmp rk n s)(o:0<n)(f:Ok n p)(h:1<=m)(l:m<=n)(j:Dn rk p m)(q:∀d g,Ok n g->1<=d->d<=n->Up rk g d->Q (d,g) s):(kas_tail3 m n p).kasWp cmp Q s:=by
 unfold kas_tail3;rw[j5];refine asc_ A o (z8p f) _ _ h (λa b x y =>?_) λk x y u _=>q k _ (z8p f) (by lia) (by lia) u;have e:=zgf (rk:=rk) (i:=0) (by rw[z3D f];exact l);rw[e,e,if_pos (by lia),if_pos (by lia)];exact j _ _ (by lia) (by lia)
def zkO (A:As cmp rk n s)(j:0<n)(t:Ok n p)(u:m<n)(r:Dn rk p (m+1))(q:∀f h,Ok n h->1<=f->f<=n->Up rk h f->Q (f,h) s):(kas_descPart m n p).kasWp cmp Q s:=by
 unfold kas_descPart;rw[j5];refine zfM A j _ p _ 0 t r (by lia) (λi x y=>by rw[show i=m+1 - 1 by lia]) (by lia) λh f w a b c d e g =>?_;dsimp only;have eq:=zhi (by rw[z3D a];lia) g
 split
 .exact zj6 A j (z8p a) (by lia) (by lia) (λx y l o=>by rw[eq,eq];exact b x y l o) q
 .exact zj6 A j a (by lia) (by lia) b q
def zm0 (A:As cmp rk n s)(o:0<n)(d:Ok n p)(q:∀r t,Ok n t->1<=r->r<=n->Up rk t r->Q (r,t) s):(kas_count n p).kasWp cmp Q s:=by
 unfold kas_count;rw[j5];refine asc_ A o d _ 1 (wu 1) (λa b x y=>by rw[show a=b by lia];exact wu _) λm l w f u =>?_
 by_cases e:m=n
 .rw[if_pos (by simpa using e)];exact q m p d l (by lia) f
 rw[if_neg (by simpa using e)];have lt:=u.resolve_left (by lia)
 by_cases g:m > 1
 .rw[if_pos g];refine ask_ A o d (λh =>?_) λh =>?_
  .rw[if_pos rfl];exact q m p d l (by lia) f
  .rw[if_neg (by decide)];have eq:=zhi (rk:=rk) (p:=p) (i:=0) (j:=m) (by rw[z3D d];lia) λk _ y=>Nat.le_antisymm (f k (m - 1) (by lia) (by lia)) (wP h (f 0 k (by lia) y));refine zkO A o (z8p d) (by lia) (z6n l (λa b x y =>?_) ?_) q
   .rw[eq,eq];exact wP (f b (m - 1) (by lia) (by lia)) (wP h (f 0 a (by lia) (by lia)))
   .rw[eq,eq];lia
 .rw[if_neg g];refine zkO A o d (by lia) (z6n l (λa b x y=>by rw[show a=b by lia];exact wu _) (by lia)) q
theorem zcx (A:As cmp rk n s)(e:0<n)(j:Ok n p){k:Nat}(q:∀l,l<=k->(∀i,i<l->Rn rk p i<=Rn rk p k)->(∀i,l<=i->i<k->Rn rk p k<=Rn rk p i)->Q l s):∀f l r,r - l<=f->l<=r->r<=k->Up rk p k->(∀i,i<l->Rn rk p i<=Rn rk p k)->(∀i,r<=i->i<k->Rn rk p k<=Rn rk p i)->(kas_place p k f l r).kasWp cmp Q s
 | 0,l,r,o,t,m,a,b,d=>q l (by lia) b λi x y=>d i (by lia) y
 | f+1,l,r,o,t,m,a,b,d=>by
  unfold kas_place
  by_cases g:l>=r
  .rw[if_pos g];exact q l (by lia) b λi x y=>d i (by lia) y
  .rw[if_neg g];refine ask_ A e j (λh =>?_) λh =>?_
   .rw[if_pos rfl];exact zcx A e j q f l _ (by lia) (by lia) (by lia) a b λi x y=>wP (uN h) (a _ i (by lia) y)
   .exact zcx A e j q f _ r (by lia) (by lia) m a (λi x=>wP (a i _ (by lia) (by lia)) h) d
theorem bin_ (A:As cmp rk n s)(r:0<n)(q:∀p,Ok n p->Up rk p n->Q p s):∀f p k,Ok n p->Up rk p k->k+f=n->(kas_bin f p k).kasWp cmp Q s
 | 0,p,k,g,d,e=>q p g (by rw[<- e];exact d)
 | f+1,p,k,g,d,e=>by
  unfold kas_bin;rw[j5];refine zcx A r g (λl C t u =>?_) k 0 k (by lia) (by lia) (wu _) d (λi x=>by lia) λi x y=>by lia
  refine bin_ A r q f _ (k+1) ((bubble_perm _ _ _).trans g) (λa b x y =>?_) (by lia);have j:=λi=>getElem?_bubble (xs:=p) (src:=k) (by rw[z3D g];lia) (k - l) (by lia) i;rw[show k - (k - l)=l by lia] at j;have o:∀i,i<l->Rn rk (bubble p k (k - l)) i=Rn rk p i:=λi z=>by unfold Rn;rw[j,if_neg (by lia),if_neg (by lia)]
  have m:Rn rk (bubble p k (k - l)) l=Rn rk p k:=by unfold Rn;rw[j,if_pos rfl]
  have h:∀i,l<i->i<=k->Rn rk (bubble p k (k - l)) i=Rn rk p (i - 1):=λi z w=>by unfold Rn;rw[j,if_neg (by lia),if_pos (by lia)]
  rcases uI a l with z | rfl | z
  .rw[o a z]
   rcases uI b l with w | rfl | w
   .rw[o b w];exact d a b x (by lia)
   .rw[m];exact t a z
   .rw[h b w (by lia)];exact d _ _ (by lia) (by lia)
  .rw[m]
   rcases wR a b with w | w
   .rw[h b w (by lia)];exact u _ (by lia) (by lia)
   .rw[show b=a by lia,m];exact wu _
  .rw[h a z (by lia),h b (by lia) (by lia)];exact d _ _ (by lia) (by lia)
def zml (A:As cmp rk n s)(a:0<n)(q:∀p,Ok n p->Up rk p n->Q p s):(kas_sort n).kasWp cmp Q s:=by
 unfold kas_sort;rw[j5];refine zm0 A a (Array.Perm.refl _) λm p b e f d =>?_;dsimp only
 split
 .exact bin_ A a q _ p _ b (by simp_all) (by lia)
 .obtain rfl:m=n:=by lia
  exact q p b d
end
open HT
theorem z69:∀k:List Int,z0H k k=false
 | []=>rfl
 | x::a=>by rw[z13,if_pos rfl];exact z69 a
theorem zar:∀{a b c:List Int},z0H a b=true->z0H b c=true->z0H a c=true
 | [],[],_,h,_=>by cases h
 | [],_::_,[],_,k=>by cases k
 | [],_::_,_::_,_,_=>rfl
 | _::_,[],_,h,_=>by cases h
 | _::_,_::_,[],_,k=>by cases k
 | x::f,y::g,z::i,h,k=>by
  rw[z13] at h k ⊢
  by_cases e:x=y
  .subst e
   by_cases d:x=z
   .subst d;rw[if_pos rfl] at h k ⊢;exact zar h k
   .rw[if_neg d] at k ⊢;exact k
  grind
theorem z9F:∀(a b:List Int),z0H a b=false->z0H b a=false->a=b
 | [],[],_,_=>rfl
 | [],_::_,h,_=>by cases h
 | _::_,[],_,k=>by cases k
 | x::d,y::f,h,k=>by
  rw[z13] at h k
  by_cases e:x=y
  .subst e;rw[if_pos rfl] at h k;rw[z9F d f h k]
  grind
def rkL (l:List (List Int))(k:List Int):Nat:=l.countP λq=>z0H q k
def z8R {d:Type}{p q:d->Bool}{l:List d}(h:∀x,p x=true->q x=true){a:d}(b:a∈l)(f:p a=false)(g:q a=true):l.countP p<l.countP q:=by
 induction l with
 | nil=>cases b
 | cons y l j=>
  rw[List.countP_cons,List.countP_cons];have e:l.countP p<=l.countP q:=List.countP_mono_left λx _ i=>h x i
  rcases wm.mp b with rfl | b
  .rw[f,g];simp;omega
  .have:=j b
   by_cases py:p y=true
   .simp_all
   .rw[if_neg py];split <;> omega
def zaa {l:List (List Int)}{a b:List Int}(g:a∈l)(h:b∈l):z0H a b=decide (rkL l a<rkL l b):=by
 cases q:z0H a b with
 | true=>
  symm
  apply v4;exact z8R (λx e=>zar e q) g (z69 a) q
 | false=>
  symm
  apply vB;intro d
  cases f:z0H b a with
  | true=>
   have:=z8R (p:=λx=>z0H x b) (λx e=>zar e f) h (z69 b) f;unfold rkL at d;omega
  | false=>
   rw[z9F a b q f] at d;omega
section
variable {prog:Program}{w:World}{A:Around}{E:WvP}{s:Shared}
theorem z6c {b fin:Bool}{Q:Bool->Shared->Prop}:∀{vs ws:List Value}{ns d:List Int} i,IntsAre vs ns->IntsAre ws d->fin=decide (ns.length<d.length)->Q (z0H ns d) s->KatLex prog w A b fin Q (vs.zip ws) i s
 | _,_,_,_,i,.nil,.nil,a,h=>by
  refine kat_nil ?_;rw[a];exact h
 | _,_,_,_,i,.nil,.cons m u r,a,h=>by
  refine kat_nil ?_;rw[a];rw[show decide (([]).length<(m::_).length)=true by simp];exact h
 | _,_,_,_,i,.cons n t r,.nil,a,h=>by
  refine kat_nil ?_;rw[a];rw[show decide ((n::_).length<([]).length)=false by simp];exact h
 | _,_,_,_,i,.cons n t r,.cons m u r2,a,h=>by
  refine kat_cons (wpAny_eqBool_int ?_);rw[z13] at h
  by_cases e:n=m
  .subst e;rw[if_pos rfl] at h;rw[show (n == n)=true by simp];exact kat_yes (z6c (i+1) r r2 (by rw[a];simp) h)
  .rw[if_neg e] at h;rw[show (n == m)=false by simpa using e];refine kat_no ?_
   cases f:(b && i == 0) with
   | true=>exact oneLt_int h
   | false=>exact kat_one _ _ (lt_int h)
def TI (h:Heap)(v:Value)(k:List Int):Prop:=∃a o z04 n,v = .ref a/\h.get? a=some o/\o.cls = .type "tuple"/\o.data = .seq z04 n/\IntsAre z04.toList k
def TI.keep {h d:Heap}{v:Value}{k:List Int}(x:TI h v k)(g:∀b o,h.get? b=some o->o.cls = .type "tuple"->d.get? b=some o):TI d v k:=by
 obtain⟨a,o,z04,n,e,i,f,j,l⟩:=x;exact⟨a,o,z04,n,e,g _ _ i f,f,j,l⟩
def AsV (prog:Program)(w:World)(A:Around)(s:Shared)(κ:SortKind)(vs:List Value)(rk:Value->Nat):Prop:=∀x∈vs,∀y∈vs,∀Q E,Q (decide (rk x<rk y)) s->wpAny (model prog w) A (keyLt' κ x y) Q E s
def zfX {vs:List Value}{key:Value->List Int}(a:∀v∈vs,TI s.heap v (key v))(b:Bool):AsV prog w A s (tuples' b) vs (λv=>rkL (vs.map key) (key v)):=by
 intro x f y g Q E h;rw[<- zaa (we.mpr ⟨_,f,rfl⟩) (we.mpr ⟨_,g,rfl⟩)] at h;obtain⟨p,G,u,C,l,n,r,i,d⟩:=a _ f;obtain⟨q,H,z,F,m,o,t,j,e⟩:=a _ g;rw[l,m];exact kat_lt n i o j (z6c 0 d e (by rw[<- IntsAre.length d, <- IntsAre.length e,uq,uq]) h)
theorem z6d {h:Heap}{key:Value->List Int}:∀{vs:List Value},(∀v∈vs,TI h v (key v)/\key v≠[])->∃fs,KatTups h vs fs/\fs.length=vs.length/\∀f∈fs,∃n t,f = .int n t
 | [],_=>⟨[],.nil,rfl,λ_ h=>by cases h⟩
 | v::vs,i=>by
  obtain⟨fs,u,w,y⟩:=z6d (λv s=>i v (wo _ s));obtain⟨⟨a,o,z04,n,e,j,l,m,b⟩,g⟩:=i v (wB ..);subst e;obtain⟨x,xs,ex⟩:Ee2 λx xs=>key (.ref a)=x::xs:=by
   cases q:key _ with
   | nil=>exact(g q).elim
   | cons x xs=>exact⟨x,xs,rfl⟩
  rw[ex] at b;generalize p:z04.toList=z at b
  cases b with
  | cons _ t r=>
   refine⟨.int x t::fs,.cons j l m ?_ u,by simp[w],λf d =>?_⟩
   .rw[<- uS,p];rfl
   .rcases wm.mp d with rfl | d
    .exact⟨_,_,rfl⟩
    .exact y f d
def zfr {vs:List Value}{key:Value->List Int}{Q:SortKind->Shared->Prop}(a:∀v∈vs,TI s.heap v (key v)/\key v≠[])(b:0<vs.length)(h:Q (tuples' true) s):wpAny (model prog w) A (keyKind' vs.toArray) Q E s:=by
 obtain⟨fs,e,g,f⟩:=z6d a;refine kat_kind (T :=.type "int") e (by omega) (λv d =>?_) rfl h;obtain⟨n,t,rfl⟩:=f v d;exact Looks.now
def zeS {a:Type}{R:a->a->Prop}{l:List a}(h:l.length<2):l.Pairwise R:=by
 match l,h with
 | [],_=>simp_all
 | [x],_=>exact List.pairwise_singleton _ _
def z5y (prog:Program)(w:World)(h:Heap)(vs:List Value)(rk:Value->Nat):Prop:=∀A s,(∀b o,h.get? b=some o->o.cls = .type "tuple"->s.heap.get? b=some o)->
 ∃a,AsV prog w A s a vs rk/\(1<vs.length->∀Q E,Q a s->wpAny (model prog w) A (keyKind' vs.toArray) Q E s)
def z5y.keep {h a:Heap}{vs:List Value}{rk:Value->Nat}(x:z5y prog w h vs rk)(k:∀b o,h.get? b=some o->a.get? b=some o):z5y prog w a vs rk:=λA s d=>x A s λb o e c=>d b o (k b o e) c
def z5y.tups {h:Heap}{vs:List Value}{key:Value->List Int}(b:∀v∈vs,TI h v (key v)/\key v≠[]):z5y prog w h vs (λv=>rkL (vs.map key) (key v)):=λA s k=>
 ⟨_,zfX (λv a=>(b v a).1.keep k) _,λd Q E q=>zfr (λv a=>⟨(b v a).1.keep k,(b v a).2⟩) (by omega) q⟩
def z8x {vs:List Value}{rk:Value->Nat}{n:Nat}{P:PySem.Fin->Shared->Prop}(z:s.heap.get? a=some (seqObj "list" vs.toArray n))(U:vs.length<=sizeLine)(M:vs.length<64)
  (Z:z5y prog w s.heap vs rk)
  (h:∀l:List Value,l.Perm vs->l.Pairwise (λx y=>rk x<=rk y)->P (.done (.ret .none)) { s with heap:=sortedHeap s.heap a vs l.toArray }):
  wpAny (model prog w) A (Builtin.«list.sort» ⟨[.ref a],[]⟩) P E s:=by
 rw[list_sort_plain];have g:a<s.heap.objs.size:=ww z;refine wc (listItems_at z rfl ?_);refine wc (listUpdate_at z rfl ?_ (by rw[vq];omega) (vH _));obtain⟨L,F⟩:∃L,(s.heap.update a (Obj.mapSeq λ_ => #[])).get? a=some (seqObj "list" #[] L):=⟨_,get?_update_seq z (λ_ => #[])⟩
 refine wc (seqEpoch_at F rfl ?_);refine wc (wpAny_newTuple ?_ (by show vs.length<=_;omega));refine wc (wpAny_newList ?_ (vH _));refine ua ?_;have d:(((s.heap.update a (Obj.mapSeq λ_ => #[])).push (seqObj "tuple" vs.toArray 0)).push (seqObj "list" #[] 0)).get? a=some (seqObj "list" #[] L):=by
  rw[jP _ _ _ (by rw[size_push',Heap.size_update];exact wJ (uf g)),jP _ _ _ (by rw[Heap.size_update];exact wJ g)];exact F
 have keep:∀b o,s.heap.get? b=some o->o.cls = .type "tuple"->(((s.heap.update a (Obj.mapSeq λ_ => #[])).push (seqObj "tuple" vs.toArray 0)).push (seqObj "list" #[] 0)).get? b=some o:=λb o J Y=>by
  have t:b<s.heap.objs.size:=ww J;have O:b≠a:=by
   rintro rfl;rw[z] at J
   cases J
   exact absurd (show Value.type "list"=Value.type "tuple" from Y) (by decide)
  rw[jP _ _ _ (by rw[size_push',Heap.size_update];exact wJ (uf t)),jP _ _ _ (by rw[Heap.size_update];exact wJ t),Heap.get?_update_ne _ _ _ _ O];exact J
 show wpAny (model prog w) A _ P E { s with heap:=((s.heap.update a (Obj.mapSeq λ_ => #[])).push (seqObj "tuple" vs.toArray 0)).push (seqObj "list" #[] 0) };dsimp only;have R:vs.toArray.size=vs.length:=by simp
 by_cases m:vs.toArray.size<2
 .rw[if_pos m,if_pos m];refine wc (wj ?_);rw[StateT.run_pure];refine wc (wj ?_);dsimp only;refine wc (seqEpoch_at d rfl ?_);have W:(arrOf (SortSt.mk' general' (vs.toArray.zip vs.toArray) #[] 7 none)).map (·.2)=vs.toArray:=by
   show (vs.toArray.zip vs.toArray).map (·.2)=_;apply Array.toList_inj.mp;simpa using List.map_snd_zip (l₁:=vs) (l₂:=vs) (wu _)
  rw[W];refine wc (listUpdate_at d rfl ?_ (vH _) (Nat.le_succ_of_le (by rw[R];exact U)));simp only[bne_self_eq_false,vz,jv];exact wj (h vs (List.Perm.refl _) (zeS (by omega)))
 .rw[if_neg m,if_neg m];obtain⟨κ,ka,kk⟩:=Z A { s with heap:=((s.heap.update a (Obj.mapSeq λ_ => #[])).push (seqObj "tuple" vs.toArray 0)).push (seqObj "list" #[] 0) } keep;refine wc (kk (by omega) _ _ ?_);have H:∀i,i<vs.length->vs.getD i Value.none∈vs:=λi r=>by rw[uh,wn r];exact u9 r
  refine wc (vQ (kat_run (ks:=vs) (vs:=vs) (κ:=κ) (Q:=λf I=>I=_/\Ee1 λp=>Aa4 (Ok vs.length p) (Up (λi=>rk (vs.getD i Value.none)) p vs.length) (arrOf f=p.map (kas_item (vs.toArray.zip vs.toArray))) (failedOf f=none)) (G:=λp I=>Aa3 (I=_) (Ok vs.length p) (Up (λi=>rk (vs.getD i Value.none)) p vs.length)) rfl (by omega) M (λp f I _ g K ⟨e,o,u⟩=>⟨e,p,o,u,g,K⟩) (zml (rk:=λi=>rk (vs.getD i Value.none)) (λi j C r T q=>ka _ (H i r) _ (H j T) C _ q) (by omega) λp o u=>⟨rfl,o,u⟩)) ?_ λ_ _ e=>e);rintro⟨⟨⟩,f⟩ I ⟨rfl,p,o,u,g,K⟩;dsimp only at g K ⊢;have X:=kat_snds (ks:=vs) (vs:=vs) rfl g;refine wc (seqEpoch_at d rfl ?_);rw[X];have S:p.toList.length=vs.length:=by rw[uq,z3D o]
  refine wc (listUpdate_at d rfl ?_ (vH _) (Nat.le_succ_of_le (by rw[vq,wd,S];exact U)));rw[K];simp only[bne_self_eq_false,vz,jv];refine wj (h _ ?_ ?_)
  .have:=(Array.perm_iff_toList_perm.mp o).map λi=>vs.getD i Value.none;refine this.trans ?_;rw[show (List.range vs.length).toArray.toList.map (λi=>vs.getD i Value.none)=vs from List.ext_getElem (by simp) λi h1 m=>by simp[m]]
  .rw[wZ,vk];intro i j r T N;have:=u i j (uN N) (by omega);unfold Rn at this;rw[uL (by rw[z3D o];omega),uL (by rw[z3D o];omega)] at this;simpa using this
def zmf (prog:Program)(w:World)(rk:Value->Nat)(Q:WvP)(vs:List Value)(d:Shared):Prop:=
 vs.length<64/\z5y prog w d.heap vs rk/\∀a:List Value,a.Perm vs->a.Pairwise (λx y=>rk x<=rk y)->
  ∀f,(∀b o,d.heap.get? b=some o->f.get? b=some o)->(∃e,f.get? d.heap.objs.size=some (seqObj "list" a.toArray e))->Q (.ref d.heap.objs.size) { d with heap:=f }
def z5W {v:Value}{Q:WvP}(i:∀E',wpAny (model prog w) A.in1 (collect v) (λvs a=>∃rk,zmf prog w rk Q vs a) E' s):wpAny (model prog w) A (call (.builtin "sorted") [v]) Q E s:=by
 refine Calls.call_function_entry kind_sorted plain_sorted entry_sorted (args_sorted1 _) ?_;unfold Builtin.«sorted»;refine wc (m:=checkCount "sorted" 1 1 _) (wj ?_);refine wc (vQ (i _) (λvs a q =>?_) λ_ _ e=>e);obtain⟨rk,f,p,h⟩:=q;have n:vs.length<=sizeLine:=wP (uN f) (by decide);refine wc (wpAny_newList ?_ n);have d:(a.heap.push (seqObj "list" vs.toArray 0)).get? a.heap.objs.size=some (seqObj "list" vs.toArray 0):=wq _ rfl;have keep:∀b o,a.heap.get? b=some o->(a.heap.push (seqObj "list" vs.toArray 0)).get? b=some o:=λb o q=>wf _ q;show wpAny _ _ _ _ _ { a with heap:=a.heap.push (seqObj "list" vs.toArray 0) };refine wc (ua (ue slot_list_sort ⟨_,d,rfl⟩ entry_list_sort (z8x d n f (p.keep keep) λl r t=>⟨_,rfl,?_⟩) (args_list_sort _)));refine wj ⟨_,rfl,h l r t _ (λb o g =>?_) ?_⟩
 .have j:b<a.heap.objs.size:=ww g;rw[sortedHeap_old (wJ j) (by rw[size_push'];exact uf j)];exact keep b o g
 .exact sortedHeap_at d
def zme (key:Value->List Int)(Q:WvP)(vs:List Value)(d:Shared):Prop:=
 vs.length<64/\(∀x∈vs,TI d.heap x (key x)/\key x≠[])/\∀a:List Value,a.Perm vs->a.Pairwise (λx y=>z0H (key y) (key x)=false)->
  ∀f,(∀b o,d.heap.get? b=some o->f.get? b=some o)->(∃e,f.get? d.heap.objs.size=some (seqObj "list" a.toArray e))->Q (.ref d.heap.objs.size) { d with heap:=f }
def z9g {v:Value}{key:Value->List Int}(a:∀E',wpAny (model prog w) A.in1 (collect v) (zme key Q) E' s):wpAny (model prog w) A (call (.builtin "sorted") [v]) Q E s:=
 z5W λE'=>vQ (a E') (λvs n ⟨l,f,h⟩=>⟨_,l,z5y.tups f,λd b m=>h d b (m.imp_of_mem λ{x y} g j i=>by
  rw[zaa (we.mpr ⟨_,b.mem_iff.mp j,rfl⟩) (we.mpr ⟨_,b.mem_iff.mp g,rfl⟩)]
  simp_all)⟩) λ_ _ e=>e
end
end Tim
namespace Tab
open PySem PySem.SetTable PyProof.Rows
def z6H:entryFor table "set.__iter__"=some Builtin.«frozenset.__iter__»:=
 entryFor_alias (id':="frozenset.__iter__") (by kernel_rfl) rfl (by decide +kernel) (by kernel_rfl)
def z1T:Slot "set_iterator" "__next__" "set_iterator.__next__":=
 .of (owner:="set_iterator") (n:="__next__") (by rfl) (by decide +kernel) (by decide +kernel) (by decide +kernel)
  (by first | exact .inl (by decide +kernel) | grind) (by rfl)
def z5l:Slot "set_iterator" "__iter__" "set_iterator.__iter__":=
 .of (owner:="set_iterator") (n:="__iter__") (by rfl) (by decide +kernel) (by decide +kernel) (by decide +kernel)
  (by first | exact .inl (by decide +kernel) | rfl) (by kernel_rfl)
def z4N:entryFor table "set_iterator.__next__"=some Builtin.«set_iterator.__next__»:=entryFor_of_fast (by kernel_rfl)
def z5t (a:Value):argsOk "set_iterator.__next__" ⟨[a],[]⟩:=by rfl
section
variable {prog:Program}{w:World}{A:Around}{E:WvP}{s:Shared}
def z2G (h:Heap)(it S:Addr)(a i n ep:Nat):Prop:=∃o,h.get? it=some o/\o.cls = .type "set_iterator"/\o.data = .fields #[.int a 0,.int i 0,.ref S,.int n 0,.int ep 0]
def z2G.typeIs {it S:Addr}{a i n ep:Nat}(x:z2G s.heap it S a i n ep):s.TypeIs (.ref it) "set_iterator":=let ⟨o,d,b,_⟩:=x;⟨o,d,b⟩
def z5v {t:SetTable}(b:s.heap.get? S=some o)(g:o.cls = .type "set")(d:o.data = .set es ep t)(e:t.fits es.size=true)(i:t.plain=true)
  (h:Q (.ref s.heap.objs.size) { s with heap:=s.heap.push { cls :=.type "set_iterator",data :=.fields #[.int 0 0,.int 0 0,.ref S,.int es.size 0,.int ep 0] } }):wpAny (model prog w) A (pyIter (.ref S)) Q E s:=by
 have f:s.TypeIs (.ref S) _:=⟨o,b,g⟩
 refine wpAny_pyIter_slot f F.slot_set_iter (ue F.slot_set_iter f z6H ?_ (F.args_set_iter_1 _));show wpAny _ _ (Builtin.Frozenset.sizeOf S >>= _) _ _ s;refine wc (wc (wc (vT b d e (wj (wj ?_)))));refine wc (wc (vT b d e ?_));show wpAny _ _ (setsByText >>= λa=>pure (!a && (!t.plain && decide _))) _ _ s;refine wc (wc (jW (wj (wj ?_))));rw[i];simp only[Bool.not_true,Bool.false_and,Bool.and_false,vz,jv];refine wc (wj (wc (wc (vT b d e (wj ?_)))));exact wc (vj (wj ⟨_,rfl,"set_iterator",_,⟨_,wq _ rfl,rfl⟩,z1T.lookup,h⟩))
noncomputable def nxt (w:World)(S:Addr)(es:Array (Int × Value))(ep:Nat)(t:SetTable)(a i:Nat):Option (Value × Nat):=
 if w.params.followText "set-order"=true then ((pickOrder (w.params.setOrder S ep) es)[i]?).map λe=>(e.2,a) else
  match es[below t.place a]?, t.place[below t.place a]? with
  | some (_,x),some j=>some (x,j+1)
  | _,_=>none
def z4i {ep:Nat}{t:SetTable}{a i:Nat}(g:s.heap.get? S=some o)(e:o.data = .set es ep t)(f:t.fits es.size=true)(l:t.plain=true)(j:t.led = !w.params.followText "set-order")
  (h:Q (nxt w S es ep t a i) s):wpAny (model prog w) A (setNext S a i ep) Q E s:=by
 unfold setNext;refine wc (vT g e f ?_);show wpAny _ _ (setsByText >>= _) _ _ s;unfold setsByText;refine wc (wc (jW (wj ?_)));unfold nxt at h
 by_cases c:w.params.followText "set-order"=true
 .have d:(model prog w).w.params.followText "set-order"=true:=c;rw[if_pos c] at h;rw[if_pos d];rw[if_neg (by simp)];unfold setWalk;refine wc (wc (vT g e f ?_));show wpAny _ _ (setsByText >>= _) _ _ s;unfold setsByText;refine wc (wc (jW (wj ?_)));rw[if_pos d];exact wc (jW (wj (wj h)))
 .have d:¬ (model prog w).w.params.followText "set-order"=true:=c;rw[if_neg c] at h;rw[if_neg d];have b:t.led=true:=by rw[j];simpa using c
  show wpAny _ _ (if (!t.plain && decide (es.size > 1))=true then _ else _) _ _ s;rw[l,if_neg (by simp)];show wpAny _ _ ((if (!t.led && !es.isEmpty)=true then unsupported "set:maker-not-led" else pure PUnit.unit) >>= _) _ _ s;rw[b,if_neg (by simp)];exact wc (wj (wj h))
def z3u {ep:Nat}{t:SetTable}{d i a:Nat}(e:z2G s.heap it S d i es.size ep)
  (n:s.heap.get? S=some o) (l:o.data = .set es ep t) (m:t.fits es.size=true) (r:t.plain=true) (q:t.led = !w.params.followText "set-order") (u:nxt w S es ep t d i=some (x,a))
  (p:∀g,z2G g it S a (i+1) es.size ep->Heap.SameBut it s.heap g->Q (some x) { s with heap:=g }):wpAny (model prog w) A (pyNext (.ref it)) Q E s:=by
 obtain⟨y,f,h,b⟩:=id e;unfold pyNext;refine wc (wpAny_attempt (vU e.typeIs z1T
  (ue z1T e.typeIs z4N ?_ (z5t _))))
 show wpAny _ _ (fieldsOf (.ref it) >>= _) _ _ s;refine wc (wpAny_fieldsOf f b ?_);unfold setEntries;refine wc (wc (vT n l m (wj ?_)));rw[if_neg (by simp)];simp only[Int.toNat_natCast];refine wc (z4i n l m r q ?_);rw[u];dsimp only;refine wc (Wa f b (by simp) ?_);have j:=vJ (Obj.mapFields (·.setIfInBounds 0 (rawInt a))) f (Obj.isFreed_of_fields (uB b _));refine wc (Wa j (uB b _) (by simp) ?_);refine wj ⟨x,rfl,wj (p _ ?_ ((uJ ..).trans (uJ ..)))⟩;refine⟨_,vJ _ j (Obj.isFreed_of_fields (uB (uB b _) _)),((Obj.cls_mapFields ..).trans (Obj.cls_mapFields ..)).trans h,?_⟩;rw[uB (uB b _)];simp[rawInt]
def z42 {ep:Nat}{t:SetTable}{d i:Nat}(n:A.handled=none)(e:z2G s.heap it S d i es.size ep)
  (p:s.heap.get? S=some o) (j:o.data = .set es ep t) (l:t.fits es.size=true) (x:t.plain=true) (u:t.led = !w.params.followText "set-order") (y:nxt w S es ep t d i=none)
  (q:∀h,Heap.ExtBut it s.heap h->Q none { s with heap:=h }):wpAny (model prog w) A (pyNext (.ref it)) Q E s:=by
 obtain⟨z,g,r,f⟩:=id e;unfold pyNext;refine wc (wpAny_attempt (vU (name:=Str.ofString "__next__") e.typeIs z1T
  (ue z1T e.typeIs z4N ?_ (z5t _))))
 show wpAny _ _ (fieldsOf (.ref it) >>= _) _ _ s;refine wc (wpAny_fieldsOf g f ?_);show wpAny _ _ (setEntries S >>= _) _ _ s;unfold setEntries;refine wc (wc (vT p j l (wj ?_)));rw[if_neg (by simp)];show wpAny _ _ (setNext S (d:Int).toNat (i:Int).toNat (ep:Int).toNat >>= _) _ _ s;simp only[Int.toNat_natCast];refine wc (z4i p j l x u ?_);rw[y];dsimp only;refine wc (Wa g f (by simp) ?_);show wpAny _ _ (newExc (.type "StopIteration") [] >>= _) _ _ _;refine wc ?_;simp only[newExc,newTuple];refine wc (vj ?_ (by size_fits));refine wc (m:=firstArgMember _ _) (wpAny_of_eq (a:=Value.none) (by first | rfl | (simp only[firstArgMember];rfl)) ?_);refine vj ?_ (by size_fits);simp only[raiseNew];refine wc (wpAny_handled ?_)
 first | rw[show A.in1.handled=none from n] | rw[n]
 refine wc (wj (wpAny_throw ?_));refine wc (wpAny_isInstance (T:="StopIteration") (b:=true) ⟨_,wq _ rfl,rfl⟩ isSubtype_stop ?_);exact wj (q _ (((uJ ..).extBut.push _).push _))
end
theorem z8j {d:Type}(next:Nat->Nat):∀n k (left:List d) a,left.length=n->(pickOrder.go next n k left a).toList.Perm (a.toList++left)
 | 0,k,left,a,h=>by
  rw[List.eq_nil_of_length_eq_zero h,vW]
  rfl
 | n+1,k,left,a,h=>by
  have b:next k % left.length<left.length:=jo _ (by lia);rw[pickOrder.go,wn b];refine(z8j _ n _ _ _ (by rw[List.length_eraseIdx_of_lt b];lia)).trans ?_;rw[Array.toList_push,vI];refine jK _ ?_;show (left[next k % left.length]::left.eraseIdx _).Perm _;rw[List.eraseIdx_eq_take_drop_succ];refine(jV.symm).trans ?_;rw[<- uK b,jf]
def z6w {a:Type}(next:Nat->Nat)(xs:Array a):(pickOrder next xs).toList.Perm xs.toList:=by
 have:=z8j next xs.size 0 xs.toList #[] (by simp);simpa[pickOrder] using this
def ordE (w:World)(S:Addr)(es:Array (Int × Value))(ep:Nat):Array (Int × Value):=if w.params.followText "set-order"=true then pickOrder (w.params.setOrder S ep) es else es
def z8n (w:World)(S:Addr)(es:Array (Int × Value))(ep:Nat):(ordE w S es ep).toList.Perm es.toList:=by
 unfold ordE
 split
 .exact z6w _ _
 rfl
def z61 (w:World)(S:Addr)(es:Array (Int × Value))(ep:Nat):(ordE w S es ep).size=es.size:=by
 rw[<- uq,(z8n w S es ep).length_eq,uq]
noncomputable def z5X (w:World)(t:SetTable)(i:Nat):Nat:=if w.params.followText "set-order"=true then 0 else if i=0 then 0 else t.place.getD (i - 1) 0+1
def z74 {t:SetTable}(d:Rise t.place){i:Nat}(l:i<=t.place.size):below t.place (if i=0 then 0 else t.place.getD (i - 1) 0+1)=i:=by
 obtain⟨j,a,b⟩:=z5g d (if i=0 then 0 else t.place.getD (i - 1) 0+1);generalize below t.place (if i=0 then 0 else t.place.getD (i - 1) 0+1)=k at*
 by_cases e:i=0
 .subst e;rw[if_pos rfl] at a
  by_cases z:k=0
  .exact z
  .have:=a 0 (by lia);lia
 .rw[if_neg e] at a b
  by_cases c:k<i
  .have:=b (i - 1) (by lia) (by lia);lia
  .by_cases f:i<k
   .have g:=a i f;have h:=d (i - 1) i (by lia) (by lia);lia
   .lia
def zfi {t:SetTable}(f:Rise t.place)(hsz:t.place.size=es.size)(d:i<es.size):
  ∃e,(ordE w S es ep)[i]? = some e/\nxt w S es ep t (z5X w t i) i=some (e.2,z5X w t (i+1)):=by
 have a:i<(ordE w S es ep).size:=by rw[z61];exact d
 refine⟨(ordE w S es ep)[i],j1 _ i a,?_⟩;unfold nxt z5X
 by_cases c:w.params.followText "set-order"=true
 .simp only[if_pos c];have b:ordE w S es ep=pickOrder (w.params.setOrder S ep) es:=by unfold ordE;rw[if_pos c]
  rw[<- b,j1 _ i a]
  rfl
 .simp only[if_neg c];have b:ordE w S es ep=es:=by unfold ordE;rw[if_neg c]
  rw[z74 f (by lia),j1 es i d,znZ (xs:=t.place) (by lia)];simp only[Nat.add_sub_cancel,if_neg (Nat.succ_ne_zero i)]
  congr 1
  simp only[b]
def zic {t:SetTable}(b:Rise t.place)(hsz:t.place.size=es.size):nxt w S es ep t (z5X w t es.size) es.size=none:=by
 unfold nxt z5X
 by_cases c:w.params.followText "set-order"=true
 .simp only[if_pos c];have a:ordE w S es ep=pickOrder (w.params.setOrder S ep) es:=by unfold ordE;rw[if_pos c]
  rw[<- a,getElem?_neg _ _ (by rw[z61];lia)]
  rfl
 .simp only[if_neg c];rw[z74 b (by lia),getElem?_neg es es.size (by lia)]
def z7K:entryFor table "set_iterator.__iter__"=some Builtin.«dict_keyiterator.__iter__»:=
 entryFor_alias (id':="dict_keyiterator.__iter__") (by kernel_rfl) rfl (by decide +kernel) (by kernel_rfl)
def z94 (a:Value):argsOk "set_iterator.__iter__" ⟨[a],[]⟩:=by rfl
section
variable {prog:Program}{w:World}{A:Around}{E:WvP}{s:Shared}
def z5J {b i n ep:Nat}(a:z2G s.heap it S b i n ep)(h:Q (.ref it) s):wpAny (model prog w) A (pyIter (.ref it)) Q E s:=by
 refine wpAny_pyIter_slot a.typeIs z5l (ue z5l a.typeIs z7K ?_ (z94 _));exact wj ⟨_,rfl,"set_iterator",_,a.typeIs,z1T.lookup,h⟩
theorem Walks.set (H:A.handled=none)(I S:Addr)(n:S≠I){o:Obj}{es:Array (Int × Value)}{ep:Nat}{t:SetTable}(p:o.data = .set es ep t)(q:t.fits es.size=true)(x:t.plain=true)(u:t.led = !w.params.followText "set-order")(y:Rise t.place)(hsz:t.place.size=es.size):
  Walks prog w A I [I,S] [I] es.size (λi v=>∃e,(ordE w S es ep)[i]? = some e/\v=e.2) (λi h=>z2G h I S (z5X w t i) i es.size ep/\h.get? S=some o) where
 sub:=λb d=>by simp at d;simp[d]
 frame:=λi h l a r=>⟨let ⟨K,F,G⟩:=a.1;⟨K,r I (by simp) _ F,G⟩,r S (by simp) _ a.2⟩
 item:=λi s Q E J a f=>by
  obtain⟨e,z,C⟩:=zfi (w:=w) (S:=S) (ep:=ep) y hsz J;refine z3u a.1 a.2 p q x u C λl g j =>?_;exact f _ l s.toks ⟨e,z,rfl⟩ ⟨g,j.extBut S _ n a.2⟩ λb o d e=>j.extBut b o (λh=>d (by simp[h])) e
 done:=λs Q E a f=>z42 H a.1 a.2 p q x u (zic y hsz) λl m=>f l s.toks λb o d e=>m b o (λh=>d (by simp[h])) e
 self:=λ_ _ _ _ a f=>z5J a.1 f
def z9Q {t:SetTable}(hh:A.handled=none)(W:s.heap.get? S=some o)(N:o.cls = .type "set")(T:o.data = .set es ep t)(U:t.fits es.size=true)(X:t.plain=true)(hl:t.led = !w.params.followText "set-order")(hr:Rise t.place)(hsz:t.place.size=es.size)(hz:es.size<=sizeLine)
  (h:∀s',(∀b o,s.heap.get? b=some o->s'.heap.get? b=some o)->s'.gens=s.gens->s'.drawn=s.drawn->s'.os=s.os->s.toks<=s'.toks->Q ((ordE w S es ep).toList.map (·.2)) s'):wpAny (model prog w) A (collect (.ref S)) Q E s:=by
 have d:S<s.heap.objs.size:=ww W;unfold collect;refine wc (wpAny_runValue (uR F.entry_proto_collect ?_));rw[ui F.plain_proto_collect _];show wpAny _ A.in1 (newList [] >>= λl=>again (.builtin "list.__iadd__" ⟨[l,.ref S],[]⟩)) _ _ s;refine wc (vj ?_);refine wj ⟨uZ F.plain_list_iadd _,uR F.entry_list_iadd ?_⟩;rw[ui F.plain_list_iadd _];show wpAny _ A.in1 (Builtin.List.listExtendWith (.ref s.heap.objs.size) (.ref S) (.ref s.heap.objs.size)) _ _ _;unfold Builtin.List.listExtendWith;have j:(s.heap.push { cls :=.type "list",data :=.seq ([]).toArray }).get? S=some o:=wf _ W;have M:Shared.TypeIs { s with heap:=s.heap.push { cls :=.type "list",data :=.seq ([]).toArray } } (.ref S) "set":=⟨o,j,N⟩
 refine wc (jZ M ?_);have h1:Builtin.List.listSameRef (.ref s.heap.objs.size) (.ref S)=false:=by simp[Builtin.List.listSameRef];exact jF d
 have h2:(Value.type "set" == Value.type "list")=false:=by decide
 have h3:(Value.type "set" == Value.type "tuple")=false:=by decide
 simp only[h1,h2,h3,Bool.or_false,vz,jv];refine wc (z5v j N T U X ?_);refine wc (ua ?_);generalize G:s.heap.push { cls :=.type "list",data :=.seq ([]).toArray }=H at*;have q:H.objs.size=s.heap.objs.size+1:=by rw[<- G,v5]
 dsimp only;have u:Shared.TypeIs { s with heap:=H.push { cls :=.type "set_iterator",data :=.fields #[.int 0 0,.int 0 0,.ref S,.int es.size 0,.int ep 0] } } (.ref S) "set":=⟨o,wf _ j,N⟩
 unfold Builtin.List.listLengthHint;refine wc (wpAny_specialOf u F.slot_set_len.lookup ?_)
 wp_delta
 refine wc (wpAny_isInstance (b:=true) u (by rw[isSubtype_type];kernel_rfl) ?_);show wpAny _ A.in1 (typeOf (Value.ref S) >>= _) _ _ _;refine wc (jZ u ?_);refine wj ?_;rw[if_pos (by decide)];refine wc (wpAny_rule ?_);refine wc ?_;show wpAny _ A.in1 (updateSeq s.heap.objs.size (·.push .none) >>= λ_=>updateSeq s.heap.objs.size (·.pop)) _ _ _;generalize I:({ cls :=.type "set_iterator",data :=.fields #[.int 0 0,.int 0 0,.ref S,.int es.size 0,.int ep 0] }:Obj)=io at*;have f:(H.push io).get? s.heap.objs.size=some { cls :=.type "list",data :=.seq ([]).toArray }:=wf _ (G ▸ wq _ rfl);refine wc (jL f rfl ?_);have g:=vJ (Obj.mapSeq (·.push Value.none)) f rfl;refine jL g rfl ?_;have r:=vJ (Obj.mapSeq (·.pop)) g rfl;have x:∀b o,b≠s.heap.objs.size->(H.push io).get? b=some o->(((H.push io).update s.heap.objs.size (Obj.mapSeq (·.push Value.none))).update s.heap.objs.size (Obj.mapSeq (·.pop))).get? b=some o:=
  λb o C e=>(vC _ _ (vP C)).trans ((vC _ _ (vP C)).trans e)
 have p:S≠s.heap.objs.size:=wJ d;have n:H.objs.size≠s.heap.objs.size:=by rw[q];exact jF (uX _)
 have K:S≠H.objs.size:=by rw[q];exact wJ (uf d)
 have L:s.heap.objs.size ∉ [H.objs.size,S]:=by
  simp only[wm,wE,vO,not_or];exact⟨vP n,vP p⟩
 have O:(H.push io).get? H.objs.size=some io:=wq _ (by rw[<- I];rfl);refine wj ⟨uZ F.plain_extend_loop _,codeAny_extend_loopS (Walks.set (A:=A.in1) (w:=w) (prog:=prog) hh H.objs.size S K T U X hl hr hsz).toS hz _ L _ es.size 0 _ _ _ rfl (vH _)
  ⟨⟨io,x _ _ n O,by rw[<- I],by rw[<- I];simp[z5X]⟩,x _ _ p (wf _ j)⟩ r (ItemsOf.nil _) λs' a c' z J i =>?_⟩
 show wpAny _ A (load s.heap.objs.size >>= _) _ _ s';refine wc (wpAny_load J ?_);have hq:a.toList=(ordE w S es ep).toList.map (·.2):=by
  apply List.ext_getElem?;intro k;rw[uS,wO,uS]
  by_cases R:k<es.size
  .have y:k<a.size:=by rw[i.1];exact R
   obtain⟨e,Z,e2⟩:=i.2 k a[k] (j1 a k y);rw[j1 a k y,Z,e2];rfl
  .rw[getElem?_neg a k (by rw[i.1];exact R),getElem?_neg (ordE w S es ep) k (by rw[z61];exact R)];rfl
 have m:=h s' (λb Y e=>z.heap b Y (λC =>?_) (x b Y (wJ (ww e)) (wf _ (G ▸ wf _ e)))) z.gens z.drawn z.os z.toks
 .rw[<- hq] at m;exact wj m
 .have d:=ww e
  rcases wm.mp C with h | h
  .exact absurd d (h ▸ vN _)
  .rw[wg.mp h,q] at d;exact absurd d (Nat.not_lt.mpr (Nat.le_succ _))
def zbs {k:List Int}{vs:List Value}(h:ItemsAre (intKind prog w) k vs):IntsAre vs k:=by
 induction h with
 | nil=>exact .nil
 | cons a _ b=>
  obtain⟨t,rfl⟩:=Value.isInt_shape a;exact .cons _ _ b
def TK.ti {k:List Int}(x:TK prog w h k b):Tim.TI h (.ref b) k:=by
 obtain⟨o,z04,n,a,d,e,f⟩:=x;exact⟨b,o,z04,n,rfl,a,d,e,zbs f⟩
def zj5 {v:Value}{k k':List Int}(x:Tim.TI h v k)(y:Tim.TI h v k'):k=k':=by
 obtain⟨a,o,z04,n,e,i,q,j,l⟩:=x;obtain⟨m,s,b,r,d,f,p,g3,g⟩:=y;rw[e] at d;cases d;rw[i] at f;cases f;rw[j] at g3;cases g3;exact(IntsAre.nums l).symm.trans (IntsAre.nums g)
def z7E (h:Heap)(v:Value):List Int:=by
 classical exact if c:∃k,Tim.TI h v k then c.choose else []
def z7D {v:Value}{k:List Int}(x:Tim.TI h v k):z7E h v=k:=by
 unfold z7E;have c:∃k,Tim.TI h v k:=⟨k,x⟩
 rw[dif_pos c];exact zj5 c.choose_spec x
def ze4 (t:Two (IsK prog w M h) l m):l.map (z7E h)=m:=by
 induction t with
 | nil=>rfl
 | cons a _ d=>
  obtain⟨_,b,rfl,z⟩:=a;rw[wA,d,z7D (TK.ti z)]
def zaW (T:A.handled=none)(x:SetK prog w M s.heap S kl)(r:∀k∈kl,k≠[])(Y:kl.length<64)
  (h:∀s' (d:List Value),(∀b o,s.heap.get? b=some o->s'.heap.get? b=some o)->s'.gens=s.gens->s'.drawn=s.drawn->s'.os=s.os->s.toks<=s'.toks->
   (d.map (z7E s.heap)).Perm kl->(∀v∈d,M v/\Tim.TI s.heap v (z7E s.heap v))->(d.map (z7E s.heap)).Pairwise (λa b=>HT.z0H b a=false)->
   ∀D,s.heap.get? D=none->(∃e,s'.heap.get? D=some (seqObj "list" d.toArray e))->Q (.ref D) s'):wpAny (model prog w) A (call (.builtin "sorted") [.ref S]) Q E s:=by
 obtain⟨L,R,q,H⟩:=x.len;obtain⟨o,n,G,t,y,_⟩:=R.ex;have p:n.size=L.length:=by rw[y.tab.es];simp
 have f:=ze4 q;have l:∀v∈L.map (·.2.2),Tim.TI s.heap v (z7E s.heap v):=λv j=>by
  obtain⟨k,_,_,b,rfl,z⟩:=q.mem_left j;rw[z7D (TK.ti z)];exact TK.ti z
 have i:((ordE w S n G).toList.map (·.2)).Perm (L.map (·.2.2)):=by
  refine((z8n w S n G).map (·.2)).trans ?_;rw[y.tab.es];simp only[wM];exact List.Perm.refl _
 refine Tim.z9g (key:=z7E s.heap) λX =>?_;refine z9Q (A:=A.in1) T y.get y.ex.1 y.data y.fits y.plain y.led y.tab.riseP (by rw[y.tab.place,p];simp) (wP (show n.size<=64 by omega) (by decide)) λF u I J g3 K =>?_;refine⟨by rw[i.length_eq,wd];lia,λv j =>?_,λd C W N keep O =>?_⟩
 .have m:=i.mem_iff.mp j;refine⟨(l v m).keep λb o g _=>u b o g,r _ ?_⟩;rw[<- f];exact we.mpr ⟨v,m,rfl⟩
 .refine h { F with heap:=N } d (λb o g=>keep b o (u b o g)) I J g3 K ?_ (λv j=>⟨(q.mem_left (i.mem_iff.mp (C.mem_iff.mp j))).choose_spec.2.1,l v (i.mem_iff.mp (C.mem_iff.mp j))⟩) (wZ.mpr W) F.heap.objs.size ?_ O
  .rw[<- f];exact(C.trans i).map _
  .cases U:s.heap.get? F.heap.objs.size with
   | none=>rfl
   | some o=>exact absurd (ww (u _ _ U)) (vN _)
end
end Tab
namespace Pu
open PySem PySem.Spec PyProof.Rows L2 Tab
def SetO (P:Program)(w:World)(a:Addr)(L:List (Rw Value))(h:Heap):Prop:=∃o b d t,h.get? a=some o/\o.ExactSet/\o.data = .set b d t/\TabW t b L/\L.length<=t.mask/\t.mask<=8191/\t.plain=true/\t.led=(!w.params.followText "set-order")/\L.length*5<t.mask*3
def Mem (K:W.Frag)(P:Program)(w:World)(G:Hp)(L:List (Rw Value))(a:List (List Int)):Prop:=Two (λr k=>∃b,r.2.2 = .ref b/\SqT K G b (k.map V.int)/\r.2.1=tupleKeyHash (intKind P w) k) L a
def Tis (K:W.Frag)(G:Hp)(xs:List V)(ks:List (List Int)):Prop:=Two (λx k=>∃b,x = .ref b/\SqT K G b (k.map V.int)) xs ks
def MemV (K:W.Frag)(G:Hp)(v:Value):Prop:=∃b k,v = .ref b/\SqT K G b ((k:List Int).map V.int)
def zbI {a b:Type}{R:a->b->Prop}{l:List a}{m:List b}(h:Two R l m):l.length=m.length:=by
 induction h with
 | nil=>rfl
 | cons _ _ d=>simp[d]
theorem z9b {a d e:Type}{R:a->d->Prop}{f:e->a}:∀{l:List e}{m:List d},Two R (l.map f) m->Two (λc b=>R (f c) b) l m
 | [],_,h=>by cases h;exact .nil
 | c::l,_,h=>by
  cases h with
  | cons g i=>exact .cons g (z9b i)
theorem zcZ {a d e:Type}{R:a->d->Prop}{f:e->a}:∀{l:List e}{m:List d},Two (λc b=>R (f c) b) l m->Two R (l.map f) m
 | [],_,h=>by cases h;exact .nil
 | c::l,_,h=>by
  cases h with
  | cons g i=>exact .cons g (zcZ i)
def zh0 {b d:Type}{R:b->d->Prop}{S:b->Prop}{l:List b}{m:List d}(h:Two R l m)(a:∀x∈l,S x):Two (λx y=>R x y/\S x) l m:=by
 induction h with
 | nil=>exact .nil
 | cons e _ g=>exact .cons ⟨e,a _ wB⟩ (g λx f=>a x (wo _ f))
def ze8 {K:W.Frag}{G:Hp}{R:Value->List Int->Prop}(e:∀b k,SqT K G b (k.map V.int)->R (.ref b) k){xs:List V}{ks:List (List Int)}(t:Tis K G xs ks):∀{a:List Value},Vals xs a->Two R a ks:=by
 induction t with
 | nil=>intro a r;cases r;exact .nil
 | cons d _ g=>
  intro a r;obtain⟨b,rfl,f⟩:=d
  cases r with
  | cons r1 r2=>
   cases r1
   exact .cons (e b _ f) (g r2)
def z1G.there {P:Program}{w:World}{H:Hp}{h:Heap}{a:Addr}{o:HO}(x:z1G P w H h a o):∃u,h.get? a=some u:=by
 cases o with
 | lst d=>obtain⟨_,_,_,_,e⟩:=x;exact⟨_,e⟩
 | tup d=>obtain⟨_,_,_,⟨o,e,_⟩,_⟩:=x;exact⟨_,e⟩
 | dK b=>obtain⟨_,_,_,_,o,_,_,e,_⟩:=x;exact⟨_,e⟩
 | dT b=>obtain⟨_,_,_,_,o,_,_,e,_⟩:=x;exact⟨_,e⟩
 | set S n=>obtain⟨o,_,_,_,e,_⟩:=x;exact⟨_,e⟩
 | ins C g fs=>obtain⟨_,_,_,e,_⟩:=x;exact⟨_,e⟩
 | own y=>exact x
 | xd fs=>obtain⟨_,⟨_,_,_,e,_⟩,_⟩:=x;exact⟨_,e⟩
 | rng j i=>obtain⟨_,_,_,e⟩:=x;exact⟨_,e⟩
 | frz l u=>obtain⟨e,_⟩:=x;exact⟨_,e⟩
 | tbl ps=>rcases x with e | ⟨_,_,_,_,_,_,_,_,_,_,_,e,_⟩ <;> exact⟨_,e⟩
 | met f y=>exact⟨_,(x)⟩
 | ext m=>obtain⟨_,z,_⟩:=x;exact z
def _root_.L2.HOk.none_of {P:Program}{w:World}{H:Hp}{h:Heap}{a:Addr}(x:HOk P w H h)(e:h.get? a=none):H a=none:=by
 cases q:H a with
 | none=>rfl
 | some u=>
  obtain⟨v,z⟩:=z1G.there (x a u q)
  grind
def _root_.L2.Inv.laid' {X:Cx}{H:Hp}{f:List (Addr × Obj)}{i:L2.St}{s:Shared}{g:Heap}{a:Addr}{o:HO}{t':Nat}(I:Inv X f i H s)(k:∀b u,s.heap.get? b=some u->g.get? b=some u)(j:s.heap.get? a=none)(new:z1G X.prog X.w (upd H a o) g a o):
  Inv X f i (upd H a o) { s with heap:=g,toks:=t' }:=by
 have m:=I.hok.none_of j;have ne:∀b u,s.heap.get? b=some u->b≠a:=λb u e z=>by grind
 have d:∀b u,H b=some u->b≠a:=λb u e z=>by grind
 refine I.un ⟨λb o e q _ _=>k b o e,λb o e q _ _=>⟨o.slots,k b o e⟩,λb o e q _=>by rw[z08 (ne b o e)];exact q,λb o e _=>⟨o,k b o e⟩,λb l e=>by rw[z08 (d b _ e)];exact e,λb o u e=>by rw[z08 (d b _ e)];exact e,λb ps e=>⟨#[],by rw[z08 (d b _ e)];exact e⟩⟩ λb u e =>?_
 by_cases h:b=a
 .subst h;rw[z0c] at e;grind
 .rw[z08 h] at e;exact(I.hok b u e).stay (λc v _ q=>k c v q) (λc q=>by rw[z08 (d c _ q)];exact q) (λc l q=>by rw[z08 (d c _ q)];exact q) λc _ _ q=>by rw[z08 (d c _ q)];exact q
section
variable {X:Cx}{G H:Hp}{pins:List (Addr × Obj)}{σ:L2.St}{s:Shared}
theorem z6Y {P:Program}:∀{ns:List Int}{a:List Value},Vals (ns.map V.int) a->ItemsAre (intKind P w) ns a
 | [],_,r=>by cases r;exact .nil
 | n::ns,_,r=>by
  cases r with
  | cons r1 r2=>
   obtain⟨t,rfl⟩:=r1;exact .cons (by simp[intKind,Value.isInt]) (z6Y r2)
def z9d {b:Addr}{k:List Int}(I:Inv X pins σ H s)(g:Same G H)(h:SqT X.K G b (k.map V.int)):TK X.prog X.w s.heap k b:=by
 obtain⟨a,r,⟨o,f,d,n,e⟩,_⟩:=I.tuple (z0L g h);exact⟨o,a.toArray,n,f,d,e,by simpa using z6Y r⟩
def zh8 {kl:List (List Int)}(I:Inv X pins σ H s)(g:Same G H)(A:H p=some (.ext (SetO X.prog X.w p L)))(d:Mem X.K X.prog X.w G L kl)(E:kl.Nodup):SetK X.prog X.w (MemV X.K G) s.heap p kl:=by
 obtain⟨o,h,f,t,i,j,l,m,n,q,u,x,y⟩:SetO _ X.w p L _:=(I.hok p _ A).1;refine⟨⟨L,⟨o,h,f,t,⟨i,j,l,m,n,q,u,x,λr C =>?_⟩,y⟩,zcZ (d.imp λr k ⟨b,e,a,_⟩=>⟨⟨b,k,e,a⟩,b,e,z9d I g a⟩)⟩,E⟩;obtain⟨k,_,b,e,a,z⟩:=Two.mem_left d C;exact⟨b,k,e,z9d I g a,z⟩
def rSet (K:W.Frag)(P:Program)(w:World):List V->Hp->VK->Prop:=λvs H Q=>∃G a b e,vs=[.ref a]/\Same G H/\(SqL K G a b\/SqT K G a b)/\Tis K G b e/\b.length<=63/\
 ∀p L d,H p=none->Mem K P w G L d->d.Nodup->(∀x,x∈d↔x∈e)->Q (.ref p) (upd H p (.ext (SetO P w p L)))
def zfR (Z:X.calm=true)(hu:X.A.units+64<cLine):z0D X (.type "set") (rSet X.K X.prog X.w):=by
 rintro F s σ H xs us Q I rv ⟨G,a,ys,ks,e,g,l,ht,hl,q⟩;subst e;obtain⟨u,rfl,rx⟩:=z32 rv
 cases rx
 have W:X.A.handled=none:=I.ok.hd Z;have E:∀{f:List Value},Vals ys f->Two (IsK X.prog X.w (MemV X.K G) s.heap) f ks:=λr=>ze8 (λb k m=>⟨⟨b,k,rfl,m⟩,b,rfl,z9d I g m⟩) ht r;have fin:∀h' i h,SetK X.prog X.w (MemV X.K G) h' s.heap.objs.size h->(∀x,x∈h↔x∈ks)->(∀b o,b<s.heap.objs.size->s.heap.get? b=some o->h'.get? b=some o)->EP X F σ Q (.ref s.heap.objs.size) { s with heap:=h',toks:=i }:=by
  intro h' i h j C keep;have d:∀b o,s.heap.get? b=some o->h'.get? b=some o:=λb o e=>keep b o (ww e) e;obtain⟨L,⟨o,N,J,t,y,hf⟩,U⟩:=j.ex;have so:SetO X.prog X.w s.heap.objs.size L h':=⟨o,N,J,t,y.get,y.ex,y.data,y.tab,y.room,y.small,y.plain,y.led,hf⟩
  refine⟨.ref s.heap.objs.size,_,I.laid (o :=.ext (SetO X.prog X.w s.heap.objs.size L)) (t':=i) d (wu _) ⟨so,⟨o,y.get⟩,λh1 U ⟨o,N,J,t,z,r⟩ st=>⟨o,N,J,t,st _ z,r⟩⟩,rfl,q _ L h (I.hok.fresh (wu _)) ?_ j.nd C⟩;refine(zh0 (z9b U) (S:=λr=>∃b k,r.2.2 = .ref b/\TK X.prog X.w h' k b/\r.2.1=tupleKeyHash (intKind X.prog X.w) k) y.key).imp λr k z9 =>?_;obtain⟨⟨⟨b,k1,O,m⟩,b2,R,z2⟩,b3,k3,T,z3,hk⟩:=z9;rw[O] at R T
  cases R;cases T
  have Y:TK X.prog X.w h' k1 b:=by
   obtain⟨o,it,n,w1,w2⟩:=z9d I g m;exact⟨o,it,n,d _ _ w1,w2⟩
  have:=Y.inj z2;subst this;have:=Y.inj z3;subst this;exact⟨b,O,m,hk⟩
 rcases l with l | l
 .obtain⟨f,r,pl,hz⟩:=I.list (z1l g l);have p:=r.length;exact z7R (M:=MemV X.K G) (ks:=ks) W (by lia) pl.isList (by simpa using E r) (by simp only[vq] <;> lia) λh' i h j _ C keep=>fin h' i h j C keep
 .obtain⟨f,r,pl,hz⟩:=I.tuple (z0L g l);have p:=r.length;exact z6I (M:=MemV X.K G) (ks:=ks) W (by lia) pl (by simpa using E r) (by simp only[vq] <;> lia) λh' i h j _ C keep=>fin h' i h j C keep
def zjG (K:W.Frag)(P:Program)(w:World):List V->Hp->VK->Prop:=λvs H Q=>∃G p L e,vs=[.ref p]/\Same G H/\H p=some (.ext (SetO P w p L))/\Mem K P w G L e/\e.Nodup/\(∀k∈e,k≠[])/\e.length<=63/\
 ∀D f d,H D=none->Tis K G f d->d.Perm e->d.Pairwise (λa b=>HT.z0H b a=false)->Q (.ref D) (upd H D (.lst f))
def zbA (E:X.calm=true):z0D X (.builtin "sorted") (zjG X.K X.prog X.w):=by
 rintro A s σ H xs us Q I W ⟨G,p,L,S,e,g,N,J,T,l,hz,q⟩;subst e;obtain⟨u,rfl,Y⟩:=z32 W
 cases Y
 have hn:=z68;have F:(63)<=sizeLine:=by decide
 refine zaW (M:=MemV X.K G) (I.ok.hd E) (zh8 I g N J T) l (by lia) λZ a keep t x g3 g4 perm i C D y h =>?_;obtain⟨e,h⟩:=h;obtain⟨h',g',d',n,U⟩:=Z;dsimp only at t x g3 keep h;subst t;subst x;subst g3;have f  := λv m=>(i v m).1;have O:∃d,Vals d a/\Tis X.K G d (a.map (z7E s.heap)):=by
  clear perm C h i
  induction a with
  | nil=>exact⟨[],.nil,.nil⟩
  | cons v a R=>
   obtain⟨d,j,r⟩:=R λv m=>f v (wo _ m);obtain⟨b,k,rfl,z⟩:=f v wB;refine⟨.ref b::d,.cons rfl j,.cons ⟨b,rfl,?_⟩ r⟩;rw[z7D (TK.ti (z9d I g z))];exact z
 obtain⟨d,j,r⟩:=O;have hl:d.length=S.length:=by rw[<- perm.length_eq,wd,j.length]
 exact⟨.ref D,upd H D (.lst d),I.laid' (o :=.lst d) (t':=n) keep y ⟨by lia,a,e,j,h⟩,rfl,q D d _ (I.hok.none_of y) r perm C⟩
end
abbrev tupD (k:List Int):D :=.tup (k.map .int)
structure Rows (ks kl:List (List Int)):Prop where
 up:kl.Pairwise (λa b=>HT.z0H a b=true)
 mem:∀x,x∈kl↔x∈ks
def zc3 (d:D)(P:List (List Int)->Prop):Prop:=match d with
 | .lst l=>∃a,l=a.map tupD/\l.length<=63/\P a
 | .tup l=>∃a,l=a.map tupD/\l.length<=63/\P a
 | _=>False
def zaY {P P':List (List Int)->Prop}(m:∀k,P k->P' k)(h:zc3 d P):zc3 d P':=by
 cases d with
 | lst l=>obtain⟨e,a,b,c⟩:=h;exact⟨e,a,b,m _ c⟩
 | tup l=>obtain⟨e,a,b,c⟩:=h;exact⟨e,a,b,m _ c⟩
 | _=>exact h.elim
def zfx (d:D)(Q:DK):Prop:=zc3 d λb=>(∀k∈b,k≠[])/\∀a,Rows b a->Q (.lst (a.map tupD))
def z7p:Fn:=fn1 zfx λd Q b m h=>zaY (λe q=>⟨q.1,λa z=>m _ (q.2 a z)⟩) h
section
variable {X:Cx}{K:W.Frag}{mg:WmP}{E:XK}{G H:Hp}
theorem z7i:∀{ks:List (List Int)}{xs:List V},RDs K mg G (ks.map tupD) xs->Tis K G xs ks
 | [],_,h=>by subst h;exact .nil
 | k::ks,_,h=>by
  obtain⟨x,r,rfl,d,e⟩:=h;obtain⟨a,g,rfl,b,f⟩:=z1I d;rw[z3V k f] at b;exact .cons ⟨a,rfl,b⟩ (z7i e)
def zh3:∀{ks:List (List Int)}{xs:List V},Tis K G xs ks->RDs K mg G (ks.map tupD) xs:=by
 intro ks xs h
 induction h with
 | nil=>rfl
 | cons a _ e=>
  obtain⟨b,rfl,d⟩:=a;exact RDs.cons (RD.ofT d (z5G _)) e
def zeg {d:D}{v:V}{P:List (List Int)->Prop}(r:RD K mg G d v)(h:zc3 d P):∃a xs ks,v = .ref a/\(SqL K G a xs\/SqT K G a xs)/\Tis K G xs ks/\xs.length<=63/\P ks:=by
 cases d with
 | lst l=>
  obtain⟨ks,rfl,f,q⟩:=h;obtain⟨a,xs,rfl,e,b⟩:=z1V r;exact⟨a,xs,ks,rfl,.inl e,z7i b,by rw[b.len];exact f,q⟩
 | tup l=>
  obtain⟨ks,rfl,f,q⟩:=h;obtain⟨a,xs,rfl,e,b⟩:=z1I r;exact⟨a,xs,ks,rfl,.inr e,z7i b,by rw[b.len];exact f,q⟩
 | _=>exact h.elim
def zgg {d:List (List Int)}(f:d.Nodup)(h:d.Pairwise (λa b=>HT.z0H b a=false)):d.Pairwise (λa b=>HT.z0H a b=true):=by
 induction d with
 | nil=>exact .nil
 | cons a l i=>
  rw[w6] at h ⊢;rw[vR] at f;refine⟨λb g =>?_,i f.2 h.2⟩
  cases z:HT.z0H a b with
  | true=>rfl
  | false=>
   have e  := Tim.z9F a b z (h.1 b g)
   simp_all
theorem z2h {d:Type}[DecidableEq d]:∀{l m:List d},l.Nodup->(∀x∈l,x∈m)->l.length<=m.length
 | [],_,_,_=>vH _
 | a::l,m,b,h=>by
  rw[vR] at b;have g:=h a wB;have:=z2h b.2 λx f=>(List.mem_erase_of_ne (λ(e:x=a)=>b.1 (by simp_all))).mpr (h x (wo _ f))
  grind
def zfs {ks a:List (List Int)}(d:a.Nodup)(h:∀x,x∈a↔x∈ks):a.length<=ks.length:=z2h d λx b=>(h x).mp b
def zb7 {e:Expr}{x:Ex}{p1 J K p4:Pos}(hu:X.A.units+64<cLine)(R:X.calm=true)(hg:Gl X "sorted")(hm:X.mg "sorted"=none)(t:Gl X "set")(y:X.mg "set"=none)(ha:QXA X E [e] [x])
  (F:autoParam (sE e [] X) jA1) (h:autoParam (starEach [.Call (.Name "set" J) [e] [] K] X.env=(false,eval (.Call (.Name "set" J) [e] [] K) X.env)::starEach [] X.env) jA1):QF X E (.Call (.Name "sorted" p1) [.Call (.Name "set" J) [e] [] K] [] p4) (.op z7p [x]):=
 QE.imp (z4w (zbA R) hg hm (by rfl) (z4d (z3z (zfR R hu) t y (by rfl) ha (by decide) (by decide) F (by rfl)) z6U h) (by decide) (by decide) h (by rfl)) <| by
  rintro σ H Q ⟨G,ρ,Z,M,hs,ab,hr,u,hx⟩;refine⟨G,ρ,λN=>z7p.run N Z M,M,hs,ab,hr,λN vs n g q g1 l g3 rds =>?_,hx⟩;obtain⟨d,rfl,q'⟩:=z1o q;obtain⟨v,rfl,rd⟩:=rds1 rds;obtain⟨a,Y,T,rfl,h1,O,h3,C,h4⟩:=zeg rd q';refine⟨n,a,Y,T,rfl,l,h1,O,h3,λp L kl hp hM I b =>?_⟩;have m:Same g (upd g p (.ext (SetO X.prog X.w p L))):=z0o hp _;have S:T.length=Y.length:=(zbI O).symm;refine⟨n,p,L,kl,rfl,z02 l m,z0c,hM,I,λk u=>C k ((b k).mp u),by have:=zfs I b;lia,λD j i r ht U pw =>?_⟩;have f:g D=none:=by
   cases z:g D with
   | none=>rfl
   | some o=>rw[m D o z] at r;cases r
  have s:H D=none:=by
   cases z:H D with
   | none=>rfl
   | some o=>rw[g3 D o z] at f;cases f
  have W:=z0o (H:=upd g p (.ext (SetO X.prog X.w p L))) r (.lst j);refine u (.lst (i.map tupD)) D n _ (h4 i ⟨zgg (U.nodup_iff.mpr I) pw,λz=>by rw[U.mem_iff];exact b z⟩) g1 (z02 l (z02 m W)) (z02 g3 (z02 m W)) s (z1c l f) ⟨j,z0c,zh3 ht⟩
end
end Pu
namespace Rev
open PySem PyProof.Rows
def zlv:typeLookup (.type "list_reverseiterator") "__len__"=pure none:=by
 rfl
def zft:typeLookup (.type "list_reverseiterator") "__length_hint__"=pure (some (.builtin "list_reverseiterator.__length_hint__")):=by
 rfl
section
variable {prog:Program}{w:World}{A:Around}{E:WvP}{s:Shared}{R:Result->Shared->Prop}{r:Addr}
def ziw (a:s.TypeIs (.ref r) "list_reverseiterator")(q:Q false s):wpAny (model prog w) A (Builtin.List.listLengthHint (.ref r)) Q E s:=by
 unfold Builtin.List.listLengthHint;refine wc (wpAny_specialOf a zlv ?_);show wpAny _ A (specialOf (.ref r) (Str.ofString "__length_hint__") >>= _) Q E s;refine wc (wpAny_specialOf a zft ?_);generalize d:("list_reverseiterator.__length_hint__")=e
 wp_delta
 rw[show splitId e=some ("list_reverseiterator","__length_hint__") from by rw[<- d];decide +kernel];refine wc (wpAny_isInstance (b:=true) a (by rw[isSubtype_type];kernel_rfl) ?_);subst d;exact wj q
def zbv {h wr:List Addr}{P:Nat->Value->Prop}{St:Nat->Shared->Prop}(W:WalksS prog w A.in1 r h wr G n P St)(o:∀i s,St i s->s.TypeIs (.ref r) "list_reverseiterator")(S:Addr)(a:Value)(l:Nat)(st:St 0 s)(d:S ∉ h)(m:r∈h)(p:n<=sizeLine)
  (g:s.heap.get? S=some { cls :=.type "list",data :=.seq #[] l }) (q:∀s' b c,Moved (S::wr) G s s'->s'.heap.get? S=some { cls :=.type "list",dict:=none,data :=.seq b c,slots := #[] }->ItemsOf P b n->R (.ok (.ret a)) s'):
  wpAny (model prog w) A.in1 (Builtin.List.listExtendWith (.ref S) (.ref r) a) (λfin s'=>match fin with | .done f=>R (.ok f) s' | .again j=>j.quiet=true/\codeAny (model prog w) A j R s') (λe s'=>R (.error e) s') s:=by
 have ne:S≠r:=λe=>d (by simp_all);refine wc (jZ (o 0 s st) ?_);have t:Builtin.List.listSameRef (.ref S) (.ref r)=false:=by simp[Builtin.List.listSameRef,ne]
 have x:(Value.type "list_reverseiterator" == .type "list")=false:=by decide
 have u:(Value.type "list_reverseiterator" == .type "tuple")=false:=by decide
 rw[t,u];refine wc (W.self 0 s _ _ st (wc (ua (ziw (o 0 s st) ?_))));exact wj ⟨uZ F.plain_extend_loop _,codeAny_extend_loopS W p S d a n 0 s #[] l rfl (vH _) st g (ItemsOf.nil P) q⟩
def zfu {j wr:List Addr}{P:Nat->Value->Prop}{St:Nat->Shared->Prop}(W:WalksS prog w A.in1 r j wr G n P St)(x:∀i s,St i s->s.TypeIs (.ref r) "list_reverseiterator")(S:Addr)(st:St 0 s)(h:S ∉ j)(g:r∈j)(p:n<=sizeLine)
  (d:s.heap.get? S=some { cls :=.type "list",data :=.seq #[] }) (q:∀s' a c,Moved (S::wr) G s s'->s'.heap.get? S=some { cls :=.type "list",dict:=none,data :=.seq a c,slots := #[] }->ItemsOf P a n->R (.ok (.ret .none)) s'):
  wpAny (model prog w) A.in1 (Builtin.«list.__init__» ⟨[.ref S,.ref r],[]⟩) (λfin s'=>match fin with | .done f=>R (.ok f) s' | .again m=>m.quiet=true/\codeAny (model prog w) A m R s') (λe s'=>R (.error e) s') s:=by
 show wpAny _ A.in1 (Builtin.List.listItems (.ref S) >>= λu=>Builtin.List.listUpdate (.ref S) _ >>= λ_=>letGo _ >>= λ_=>Builtin.List.listExtendWith (.ref S) (.ref r) .none) _ _ s;refine wc (wc (v8 d rfl (wj ?_)));refine wc (jL d rfl (wc (jY ?_)));have keep:∀b o,b≠S->s.heap.get? b=some o->(s.heap.update S (Obj.mapSeq λ_=>(#[]))).get? b=some o:=λb o z e=>by rw[vC _ _ (vP z)];exact e
 refine zbv W x S .none _ (W.frame 0 s _ s.toks st (wu _) λb l o e=>keep b o (λz=>h (z ▸ l)) e) h g p (vJ _ d rfl) λs' a c mv e t=>q s' a c ?_ e t;exact Moved.trans W.gtrans ((Moved.refl W.grefl).then_heap (wu _) λb o l e=>keep b o (λz=>l (by simp_all)) e) mv
end
end Rev
namespace Pu
open PySem PySem.Spec PyProof.Rows L2 Tab
def Ex.callv (T:Nat->Fn)(i:Nat)(es:List Ex):Ex:=⟨λb Q a=>∃n,b.get i=some (.fn n)/\runs es b (λd=>(T n).run d Q a) a,λb Q h a f m g ⟨n,e,q⟩=>⟨n,e,z3y es b _ _ a f (λd j=>(T n).mono d Q h a f m g j) g q⟩⟩
def FTab (P:Program)(w:World)(K:W.Frag)(mg:WmP)(a:Heap)(CX:CXT)(k:Nat)(T:Nat->Fn):Prop:=∀n f,mg (z6k n)=some (.ref f)->∃j b ps,j<=k/\FnOk P w K mg a CX j f b ps (spP K mg (T n))/\W.keepIn K (.ref f)=true/\z6K K b ps []
def FTab.mk {P:Program}{w:World}{K:W.Frag}{mg:WmP}{a:Heap}{CX:CXT}{k:Nat}{T:Nat->Fn}(g:mg ""=none)
  (h:∀n<4,∀f,mg (z6k n)=some (.ref f)->∃j b ps,j<=k/\FnOk P w K mg a CX j f b ps (spP K mg (T n))/\W.keepIn K (.ref f)=true/\z6K K b ps []):FTab P w K mg a CX k T:=λn f e=>by
 by_cases d:n<4
 .exact h n d f e
 .rw[show z6k n="" from by
   match n,d with
   | 0,h=>simp_all
   | 1,h=>simp_all
   | 2,h=>simp_all
   | 3,h=>simp_all
   | n+4,_=>rfl,g] at e
  cases e
def _root_.L2.Cal.tab {P:Program}{w:World}{K:W.Frag}{mg:WmP}{a:Heap}{CX:CXT}{j k:Nat}{x:Str}{ps:List Str}{F:Fn}(C:Cal P w K mg a CX j x ps (spP K mg F))(h:j<=k)(f:Addr)(e:mg x=some (.ref f)):∃j b ps,j<=k/\FnOk P w K mg a CX j f b ps (spP K mg F)/\W.keepIn K (.ref f)=true/\z6K K b ps []:=by
 obtain⟨m,b,d,l,i,g⟩:=C.ex;rw[l] at e;cases e;exact⟨j,b,ps,h,d,i,g⟩
section
variable {X:Cx}{E:XK}{CX:CXT}{e:Expr}{es:List Expr}{xs:List Ex}{pos:Pos}
def zjg (X:Cx)(CX:CXT)(E:XK)(i:Nat)(t:TA):TE:=λd H Q=>∃f a ps b k,d[i]? = some (some (.ref f))/\FnOk X.prog X.w X.K X.mg X.base CX k f a ps b/\Room k X.A/\W.keepIn X.K (.ref f)=true/\z6K X.K a ps []/\t d H λvs e=>b (vs++[]) e Q E
def zf3 {t:TA}(G:z4U CX X E)(C:PE X (.Name x p) (tVar i))(o:PA X (e::es) t)(y:autoParam (sE e es X) jA1)(b:autoParam (bT pos es X) jA1):
  PE X (.Call (.Name x p) (e::es) [] pos) (zjg X CX E i t):=by
 rintro m s g H Q I ⟨f,O,ps,S,k,d,F,A,z,w,h⟩;refine j2 (thn (C _ s g H (λv a=>v = .ref f/\t g a _) I ⟨_,d,rfl,h⟩) λu L M =>?_);obtain⟨v,a,j,K,n,q⟩:=M;subst n
 cases K
 exact W.callWith_K j.ok.mod.kin z (thn (o pos _ L g a _ j q) λT R ⟨vs,N,l,r,J⟩=>⟨l.kIn,zgc F A w .nil G l r J⟩) y b
def zeF {k:Nat}(Z:FTab X.prog X.w X.K X.mg X.base CX k T)(S:Room k X.A)(Y:z4U CX X E)(W:QE X (.Name x p) (tVar i))(I:QXA X E (e::es) xs)
  (L:autoParam (sE e es X) jA1) (d:autoParam (bT pos es X) jA1):QX X E (.Call (.Name x p) (e::es) [] pos) (.callv T i xs):=
 ⟨PE.imp (zf3 Y W.p I.p L d) <| by
  rintro σ H Q ⟨G,ρ,r,h,U,l,⟨n,R,g⟩,N,a⟩;obtain⟨v,z,C⟩:=l i _ R;obtain⟨f,rfl,O⟩:=C;obtain⟨j,t,ps,M,F,b,J⟩:=Z n f O;refine⟨f,t,ps,_,j,z,F,S.mono M,b,J,G,ρ,_,h,U,l,g,λs vs m o q u y g3 rds =>?_,a⟩;show spP X.K _ _ _ o Q E;rw[vW];exact⟨m,s,r,h,y,rds,q,N.same u g3,a.same g3⟩⟩
def zgl {n k:Nat}{ps:List Str}(j:z6k n=x)(b:Gl X x)(C:Cal X.prog X.w X.K X.mg X.base CX k x ps sp)(a:dB x):QX X E (.Name x p) (.c (.fn n)):=by
 obtain⟨f,g,e,d,i,h⟩:=C.ex;exact qx_c (v :=.ref f) ⟨zcD b d rfl a⟩ λ_=>by rw[RD];simp_all
end
def _root_.L2.Inv.spent (I:Inv X pins σ (upd H r (.ext φ)) s)(M:H r=none)(G:X.s₀.heap.objs.size<=r)(k:∀b u,b≠r->s.heap.get? b=some u->h'.get? b=some u)(j:s.heap.get? a=none)
  (new:z1G X.prog X.w (upd H a o) h' a o):Inv X pins σ (upd H a o) { s with heap:=h',toks:=t' }:=by
 have l:upd H r (.ext φ) r=some (.ext φ):=z0c;have back:∀b u,upd H r (.ext φ) b=some u->(∀C,u ≠ .ext C)->H b=some u/\b≠r:=λb u e z=>by
  have f:b≠r:=λy=>by rw[y,l] at e;cases e;exact z φ rfl
  rw[z08 f] at e;exact⟨e,f⟩
 have g:=I.hok.none_of j;have n:a≠r:=λy=>by rw[y,l] at g;cases g
 have K:H a=none:=by rw[z08 n] at g;exact g
 have ne:∀b u,s.heap.get? b=some u->b≠a:=λb u e z=>by rw[z,j] at e;cases e
 have A:∀b u,H b=some u->b≠a:=λb u e z=>by rw[z,K] at e;cases e
 have d:∀b,upd H r (.ext φ) b=none->b≠r/\H b=none:=λb e=>by
  have f:b≠r:=λy=>by rw[y,l] at e;cases e
  rw[z08 f] at e;exact⟨f,e⟩
 have same:∀b u,upd H r (.ext φ) b=some u->(∀C,u ≠ .ext C)->upd H a o b=some u:=λb u e z=>by
  obtain⟨i,_⟩:=back b u e z;rw[z08 (A b u i)];exact i
 refine I.step (g':=s.gens) (d':=s.drawn) (ch:=[r]) (λb f =>?_) (λb u _ _ h e _=>k b u (λz=>h (by simp[z])) e) (λb u _ _ h e _=>⟨u.slots,k b u (λz=>h (by simp[z])) e⟩) (λb u _ e q=>by rw[z08 (ne b u e)];exact(d b q).2)
  (λb u h e=>⟨u,k b u (λz=>h (by simp[z])) e⟩) (λb N e=>same b _ e λ_=>nofun) (λb u v e=>same b _ e λ_=>nofun) (λb ps e=>⟨#[],by rw[same b _ e λ_=>nofun,Array.append_empty]⟩) (λm J =>?_) (λb u e =>?_) I.bare
 .have e:b=r:=by simpa using f
  subst e;exact⟨.inr G,(λz=>(d _ I.free).1 z.symm),λx c e=>(d c (I.freeC x c e)).1,λp j=>(d _ (I.pin p j).2.1).1⟩
 .obtain⟨u,F,E,L,q⟩:=J;exact⟨u,F,E,k _ u (d _ I.free).1 L,q⟩
 by_cases f:b=a
 .subst f;rw[z0c] at e;cases e;exact new
 rw[z08 f] at e;have t:b≠r:=λz=>by rw[z,M] at e;cases e
 have i:upd H r (.ext φ) b=some u:=by rw[z08 t];exact e
 refine(I.hok b u i).stay (λc v h q=>k c v ?_ q) (λc q=>same c _ q λ_=>nofun) (λc N q=>same c _ q λ_=>nofun) λc _ _ q=>same c _ q λ_=>nofun
 grind
def RevO (r a:Addr)(n:Nat)(h:Heap):Prop:=h.IsRevIter r a (n - 1)
section
variable {X:Cx}{E:XK}
def rRev (X:Cx):List V->Hp->VK->Prop:=λvs H Q=>∃a b,vs=[.ref a]/\SqL X.K H a b/\∀r,H r=none->X.s₀.heap.objs.size<=r->Q (.ref r) (upd H r (.ext (RevO r a b.length)))
def zfS:z0D X (.type "reversed") (rRev X):=by
 rintro f s z H w t Q I i ⟨a,y,e,g,q⟩;subst e;obtain⟨u,rfl,j⟩:=z32 i
 cases j
 obtain⟨h,r,pl,p⟩:=I.list g;have d:=r.length;refine call_reversed_list pl.isList ⟨.ref _,_,I.laid (o :=.ext _) (λb o e=>wf _ e) (wu _) ⟨⟨_,wq _ rfl,rfl,by simp[revObj,d]⟩,⟨_,wq _ rfl⟩,λm n x l=>x.at l⟩,rfl,q _ (I.hok.fresh (wu _)) I.sz⟩
def zex (X:Cx):List V->Hp->VK->Prop:=λvs H Q=>∃r a e b,vs=[.ref r]/\H=upd b r (.ext (RevO r a e.length))/\b r=none/\X.s₀.heap.objs.size<=r/\SqL X.K b a e/\∀d,b d=none->Q (.ref d) (upd b d (.lst e.reverse))
def z8V (hc:X.calm=true):z0D X (.type "list") (zex X):=by
 rintro a0 s σ H xs us Q I rv ⟨r,a,E,Z,e,eH,R,h0,J,q⟩;subst e;subst eH;have hS:=z1l (z0o R (.ext (RevO r a E.length))) J;obtain⟨u,rfl,rx⟩:=z32 rv
 cases rx
 have hh:X.A.handled=none:=I.ok.hd hc;obtain⟨g,C,pl,hz⟩:=I.list hS;have f:=C.length;have hR:s.heap.IsRevIter r a (E.length - 1):=(show z1G X.prog X.w _ s.heap r (.ext (RevO r a E.length)) from I.hok r _ z0c).1;have S:a≠r:=by
  obtain⟨o,ho,K,_⟩:=hR;obtain⟨o',p,l,_⟩:=pl.isList;intro z;rw[z,ho] at p;cases p;rw[K] at l
  injection l with h
  exact absurd h (by decide)
 have W:=(Walks.listRev (prog:=X.prog) (w:=X.w) (A:=X.A.in1.in1) (by simp[hh]) r a S g.toArray).toS;have sz:g.toArray.size=E.length:=by simp[f]
 refine callType_codes (Q₁:=λv s1=>v = .ref s.heap.objs.size/\s1={ s with heap:=s.heap.push { cls :=.type "list",data :=.seq #[] } }) F.called_list (F.typeCall_list_1 _) F.entry_list_init (code_list_new _ ⟨rfl,rfl⟩) λv s1 hv =>?_;obtain⟨rfl,rfl⟩:=hv;have hD:(s.heap.push { cls :=.type "list",data :=.seq #[] }).get? s.heap.objs.size=some { cls :=.type "list",data :=.seq #[] }:=wq _ rfl;have m:∀{b:Addr}{o:Obj},s.heap.get? b=some o->b≠s.heap.objs.size:=λe=>wJ (ww e);obtain⟨o1,t,L,M⟩:=hR;obtain⟨o2,x,n2⟩:=pl.isList;refine⟨⟨_,hD,rfl⟩,F.args_list_init_2 _ _,Rev.zfu (A:=X.A.in1) W (λi s st=>st.2.1.typeIs) s.heap.objs.size ⟨vH _,⟨o1,wf _ t,L,by rw[M,sz];simp⟩,⟨o2,wf _ x,n2⟩⟩ (by
  simp only[wm,wE,vO,not_or];exact⟨vP (m t),vP (m x)⟩) (by simp) (by rw[sz];exact hz) hD λs' d c mv G T=>⟨rfl,?_⟩⟩
 have keep:∀b o,b≠r->s.heap.get? b=some o->s'.heap.get? b=some o:=λb o hb e=>mv.heap b o (by
  simp only[wm,wE,vO,not_or];exact⟨m e,hb⟩) (wf _ e)
 obtain⟨h',g',d',Y,U⟩:=s';have eg:g'=s.gens:=mv.gens;have ed:d'=s.drawn:=mv.drawn;have eo:U=s.os:=mv.os;subst eg;subst ed;subst eo;have n:d.toList=g.reverse:=by
  apply List.ext_getElem?;intro k
  by_cases N:k<g.length
  .have j:k<d.size:=by rw[T.1,sz,f];exact N
   have:=T.2 k d[k] (j1 d k j);rw[uS,j1 d k j,List.getElem?_reverse N, <- this];simp
  .have j:¬ k<d.size:=by rw[T.1,sz,f];exact N
   rw[uS,getElem?_neg d k j,uQ (by simp;lia)]
 have y:s.heap.get? s.heap.objs.size=none:=by
  cases z:s.heap.get? s.heap.objs.size with
  | none=>rfl
  | some o=>exact absurd (ww z) (vN _)
 have O:Z s.heap.objs.size=none:=by
  have:=I.hok.none_of y
  cases z:Z s.heap.objs.size with
  | none=>rfl
  | some o=>rw[z0o R _ _ _ z] at this;cases this
 refine⟨.ref s.heap.objs.size,_,I.spent (o :=.lst E.reverse) (t':=Y) R h0 keep y ⟨by simpa using hz,g.reverse,c,C.reverse,?_⟩,rfl,q _ O⟩;rw[<- n];exact G
end
section
variable {X:Cx}{K:W.Frag}{mg:WmP}{E:XK}{G H:Hp}
def zfy (d:D)(Q:DK):Prop:=isLs d λl=>Q (.lst l.reverse)
def z2a:Fn:=fn1 zfy λd Q a m h=>z8G (λl q=>m _ q) h
def zde {P:List D->Prop}(h:isLs d P):∃l,d = .lst l/\P l:=by
 cases d with
 | lst l=>exact⟨l,rfl,h⟩
 | _=>exact h.elim
def z51 (L:X.calm=true)(M:Gl X "list")(O:X.mg "list"=none)(i:Gl X "reversed")(j:X.mg "reversed"=none)(K:QXA X E [e] [x])
  (p:autoParam (sE e [] X) jA1) (f:autoParam (starEach [.Call (.Name "reversed" p2) [e] [] p3] X.env=(false,eval (.Call (.Name "reversed" p2) [e] [] p3) X.env)::starEach [] X.env) jA1):QF X E (.Call (.Name "list" p1) [.Call (.Name "reversed" p2) [e] [] p3] [] p4) (.op z2a [x]):=
 QE.imp (z3z (z8V L) M O (by rfl) (z4d (z3z zfS i j (by rfl) K (by decide) (by decide) p (by rfl)) z6U f) (by decide) (by decide) f (by rfl)) <| by
  rintro Z H Q ⟨G,Y,C,t,S,F,R,N,T⟩;refine⟨G,Y,λu=>z2a.run u C t,t,S,F,R,λu vs y A q I g g3 rds =>?_,T⟩;obtain⟨d,rfl,U⟩:=z1o q;obtain⟨v,rfl,rd⟩:=rds1 rds;obtain⟨l,rfl,W⟩:=zde U;obtain⟨a,s,rfl,w,J⟩:=z1V rd;refine⟨a,s,rfl,z1l g w,λr m n=>⟨r,a,s,A,rfl,rfl,m,n,z1l g w,λd b =>?_⟩⟩;have h:H d=none:=by
   cases z:H d with
   | none=>rfl
   | some o=>rw[g3 d o z] at b;cases b
  exact N (.lst l.reverse) d y _ W I (z02 g (z0o b _)) (z02 g3 (z0o b _)) h (z1c g b) ⟨s.reverse,z0c,J.rev⟩
def gIn (neg:Bool)(a b:D)(Q:DK):Prop:=match b with
 | .lst l=>Da 60 a/\(∀d∈l,Da 60 d)/\Q (.bl (if neg then !l.any (λd=>deq d a) else l.any (λd=>deq d a)))
 | .tup l=>Da 60 a/\(∀d∈l,Da 60 d)/\Q (.bl (if neg then !l.any (λd=>deq d a) else l.any (λd=>deq d a)))
 | _=>False
def zfA {neg:Bool}(a b:D)(Q Q':DK)(m:∀d,Q d->Q' d)(h:gIn neg a b Q):gIn neg a b Q':=by
 unfold gIn at h ⊢
 split at h
 .exact⟨h.1,h.2.1,m _ h.2.2⟩
 .exact⟨h.1,h.2.1,m _ h.2.2⟩
 grind
def pIn:Fn:=fn2 (gIn false) zfA
open Classical in
def z4S (I:Inv X pins σ H s)(g:Same G H)(hu:X.A.units+64<cLine){v:V}(S:RD X.K X.mg G a v)(T:RelV v u)(o:Da 60 a)(E:∀d∈l,Da 60 d)(rds:RDs X.K X.mg G l xs)(p:Vals xs its):
  ∃e:Value->Bool,(∀y∈its,SeqAt.EqAt X.A.in1 s y u (e y))/\its.any e=l.any (λd=>deq d a)/\∀(i:Nat) (y:Value) (d:D),its[i]? = some y->l[i]? = some d->e y=deq d a:=by
 obtain⟨F,r1⟩:=Rp.reads I (py a) ((Da.rp 60 _ o S).same g) T;have key:∀(d:D) (x:V) (y:Value),Da 60 d->RD X.K X.mg G d x->RelV x y->SeqAt.EqAt X.A.in1 s y u (deq d a):=λd x y b m z=>by
  obtain⟨bs,r2⟩:=Rp.reads I (py d) ((Da.rp 60 _ b m).same g) z;obtain⟨r,J⟩:=Da.canLay 60 d b;obtain⟨L,Y⟩:=Da.canLay 60 a o;exact SeqAt.eqAt_reads (py d) (py a) X.A.in1 s y u bs F r2 r1 r L (by
   have:min (py d).depth (py a).depth<=60:=wP (Nat.min_le_left _ _) J;have:X.A.in1.units<=X.A.units+1:=by simp
   lia)
 let e:Value->Bool:=λy=>if h:∃j bs,Reads s.heap y j bs/\j.canLay0=true then PyData.eqv h.choose (py a) else false
 have C:∀(d:D) (x:V) (y:Value),Da 60 d->RD X.K X.mg G d x->RelV x y->e y=deq d a:=λd x y b m z=>by
  obtain⟨bs,r2⟩:=Rp.reads I (py d) ((Da.rp 60 _ b m).same g) z;have r:=(Da.canLay 60 d b).1;have h:∃j bs,Reads s.heap y j bs/\j.canLay0=true:=⟨_,bs,r2,r⟩
  show (if h:∃j bs,Reads s.heap y j bs/\j.canLay0=true then PyData.eqv h.choose (py a) else false)=deq d a;rw[dif_pos h];obtain⟨Z,W,z2⟩:=h.choose_spec;rw[(Reads.unique W _ _ r2).1]
  rfl
 refine⟨e,?_⟩
 clear_value e
 induction l generalizing xs its with
 | nil=>
  rw[RDs] at rds;subst rds
  cases p
  exact⟨λy n=>(by cases n),rfl,λi y d h=>(by simp at h)⟩
 | cons d l R=>
  rw[RDs] at rds;obtain⟨x,U,rfl,b,m⟩:=rds
  cases p with
  | cons q p=>
   obtain⟨N,O,Q⟩:=R (λd o=>E d (wo _ o)) m p;have f:=E d wB;refine⟨λy n =>?_,by rw[List.any_cons,List.any_cons,C d x _ f b q,O],λi y M t w =>?_⟩
   rotate_left
   .cases i with
    | zero=>
     rw[jz] at t w
     cases t
     cases w
     exact C d x _ f b q
    | succ i=>exact Q i y M (by rwa [u3] at t) (by rwa [u3] at w)
   rcases wm.mp n with rfl | n
   .rw[C d x _ f b q];exact key d x _ f b q
   .exact N y n
def znf (r:X.A.units+64<cLine):OpR X (compareOp .In) (r2 X.K X.mg pIn):=by
 rintro t s N H x y v u Q I z C ⟨G,E,F,Q0,M,g,r1,r2,J,p⟩;have b:gIn false E F Q0:=J;unfold gIn at b
 split at b
 .obtain⟨i,j,q⟩:=b;obtain⟨a,L,rfl,l,m⟩:=z1V r2
  cases C
  obtain⟨d,o,pl,_⟩:=I.list (z1l g l);obtain⟨e,f,h,_⟩:=z4S I g r r1 z i j m o;refine SeqAt.in_listAt e pl.isList (λw n=>f w (by simpa using n)) ⟨.bl _,H,I,rfl,?_⟩;rw[show d.toArray.any e=d.any e by simp,h];exact p.now g q RD.bl'
 .obtain⟨i,j,q⟩:=b;obtain⟨a,L,rfl,l,m⟩:=z1I r2
  cases C
  obtain⟨d,o,pl,_⟩:=I.tuple (z0L g l);obtain⟨e,f,h,_⟩:=z4S I g r r1 z i j m o;refine SeqAt.in_tupleAt e pl (λw n=>f w (by simpa using n)) ⟨.bl _,H,I,rfl,?_⟩;rw[show d.toArray.any e=d.any e by simp,h];exact p.now g q RD.bl'
 .exact b.elim
def za2:∀{xs:List V}{ks:List (List Int)}{a:List Value}{i:Nat}{y:Value},Tis K G xs ks->Vals xs a->a[i]? = some y->∃b k,xs[i]? = some (.ref b)/\ks[i]? = some k/\y = .ref b/\SqT K G b (k.map V.int):=by
 intro xs ks a i y h
 induction h generalizing a i with
 | nil=>intro r e;cases r;simp at e
 | cons d _ g=>
  intro r e
  cases r with
  | cons r1 r2=>
   obtain⟨b,rfl,f⟩:=d
   cases i with
   | zero=>simp at e;subst e;cases r1;exact⟨b,_,rfl,rfl,rfl,f⟩
   | succ i=>simpa using g r2 (by simpa using e)
end
end Pu
namespace Pu
open PySem L2
def z0e:Fn:=Fn.mkN 2 5 (.seq (.set 2 (.op pAbs [.v 0]))
 (.seq (.set 3 (.op pAbs [.v 1]))
 (.seq (.wh (.op pNe [.v 3,.c (.int 0)]) (.seq (.set 4 (.op pMod [.v 2,.v 3]))
 (.seq (.set 2 (.v 3))
 (.set 3 (.v 4)))))
 (.ret (.v 2)))))
def z1L:Fn:=Fn.mkN 2 2 (.ret (.op pSub [.op z0b [.op pIx [.v 0,.c (.int 0)],.op pIx [.v 1,.c (.int 1)]],.op z0b [.op pIx [.v 0,.c (.int 1)],.op pIx [.v 1,.c (.int 0)]]]))
def z0F:Fn:=Fn.mkN 2 2 (.ret (.op pTup [.op pSub [.op pIx [.v 1,.c (.int 0)],.op pIx [.v 0,.c (.int 0)]],.op pSub [.op pIx [.v 1,.c (.int 1)],.op pIx [.v 0,.c (.int 1)]]]))
def z3I:Fn:=Fn.mkN 3 3 (.ret (.op z1L [.op z0F [.v 0,.v 1],.op z0F [.v 1,.v 2]]))
def z8L:Fn:=Fn.mkN 3 5 (.seq (.set 3 (.op pSub [.op z0b [.op pIx [.v 1,.c (.int 0)],.op pIx [.v 2,.c (.int 2)]],.op z0b [.op pIx [.v 2,.c (.int 0)],.op pIx [.v 1,.c (.int 2)]]]))
 (.seq (.set 4 (.op pSub [.op z0b [.op pIx [.v 1,.c (.int 1)],.op pIx [.v 2,.c (.int 2)]],.op z0b [.op pIx [.v 2,.c (.int 1)],.op pIx [.v 1,.c (.int 2)]]]))
 (.ret (.op pAdd [.op pSub [.op z0b [.op pIx [.v 0,.c (.int 0)],.v 4],.op z0b [.op pIx [.v 0,.c (.int 1)],.v 3]],.op z0b [.op pIx [.v 0,.c (.int 2)],.op pSub [.op z0b [.op pIx [.v 1,.c (.int 0)],.op pIx [.v 2,.c (.int 1)]],.op z0b [.op pIx [.v 1,.c (.int 1)],.op pIx [.v 2,.c (.int 0)]]]]]))))
def z8M:Fn:=Fn.mkN 2 5 (.seq (.set 2 (.op pSub [.op z0b [.op pIx [.v 1,.c (.int 0)],.op pIx [.v 0,.c (.int 2)]],.op z0b [.op pIx [.v 0,.c (.int 0)],.op pIx [.v 1,.c (.int 2)]]]))
 (.seq (.set 3 (.op pSub [.op z0b [.op pIx [.v 1,.c (.int 1)],.op pIx [.v 0,.c (.int 2)]],.op z0b [.op pIx [.v 0,.c (.int 1)],.op pIx [.v 1,.c (.int 2)]]]))
 (.seq (.set 4 (.op z0e [.v 2,.v 3]))
 (.ret (.op pTup [.op z23 [.v 2,.v 4],.op z23 [.v 3,.v 4]])))))
def z9J:Nat->Fn
 | 0=>z3I
 | 1=>z8L
 | 2=>z0F
 | 3=>z8M
 | _=>⟨λ_ _ _=>False,λ_ _ _ _ _ _ _ z=>z⟩
def z3c:Fn:=Fn.mkN 2 4 (.seq (.own 2 (.op pLst []))
 (.seq (.for_ [] (.nm 3) (.v 0) (.seq (.wh (.and (.op pGt [.op pLen [.v 2],.c (.int 1)]) (.op pLe [.callv z9J 1 [.op pIx [.v 2,.op pNeg [.c (.int 2)]],.op pIx [.v 2,.op pNeg [.c (.int 1)]],.v 3],.c (.int 0)])) (.pop 2))
 (.app 2 (.v 3))))
 (.ret (.v 2))))
def z2t:Fn:=Fn.mkN 2 4 (.seq (.ifs (.op pLt [.op pLen [.v 0],.c (.int 2)]) (.ret (.op z1J [.v 0])) .skip)
 (.seq (.set 2 (.op z3c [.v 0,.v 1]))
 (.seq (.set 3 (.op z3c [.op z2a [.v 0],.v 1]))
 (.ret (.op z1J [.op pAdd [.sl (.v 2) none (some (.op pNeg [.c (.int 1)])),.sl (.v 3) none (some (.op pNeg [.c (.int 1)]))]])))))
def z09:Fn:=Fn.mkN 1 1 (.ret (.op z2t [.op z7p [.v 0],.c (.fn 0)]))
def z1e:Fn:=Fn.mkN 2 2 (.ret (.op pAdd [.op z0b [.op pIx [.v 0,.c (.int 0)],.op pIx [.v 1,.c (.int 0)]],.op z0b [.op pIx [.v 0,.c (.int 1)],.op pIx [.v 1,.c (.int 1)]]]))
def z2w:Fn:=Fn.mkN 2 2 (.ret (.op zf5 [.comp 1 [1] (.nm 0) (.v 0) none (.op z1e [.v 0,.v 1])]))
open PySem.Spec PyProof.Rows
def gAll (d:D)(Q:DK):Prop:=∃bs:List Bool,d = .lst (bs.map .bl)/\Q (.bl (bs.all id))
def pAll:Fn:=fn1 gAll λd Q a m h=>by
 obtain⟨bs,e,q⟩:=h;exact⟨bs,e,m _ q⟩
def zls {bs:List Bool}{Q:DK}{X:XP}(q:Q (.bl (bs.all id))):pAll.run [.lst (bs.map .bl)] Q X:=⟨bs,rfl,q⟩
section
variable {X:Cx}
theorem zck {K:W.Frag}{mg:WmP}{G:Hp}:∀(bs:List Bool) {xs:List V},RDs K mg G (bs.map .bl) xs->xs=bs.map .bl
 | [],xs,h=>by
  rw[uT,RDs] at h;exact h
 | b::bs,xs,h=>by
  rw[wA,RDs] at h;obtain⟨v,r,rfl,a,d⟩:=h;rw[zck bs d,z7k a]
  rfl
def zm5 (h:X.calm=true):z0D X (.builtin "all") (rN X.K X.mg pAll):=(zdR h).imp <| by
 rintro vs H Q ⟨G,n,l,m,g,rds,j,i⟩;obtain⟨d,rfl,b⟩:=z1o j;obtain⟨v,rfl,rd⟩:=rds1 rds;obtain⟨bs,rfl,q⟩:=b;obtain⟨a,o,rfl,e,f⟩:=z1V rd;rw[zck bs f] at e;exact⟨a,bs,rfl,z1l g e,i.now g q RD.bl'⟩
end
def z0d:Fn:=Fn.mkN 2 2 (.seq (.ifs (.op pLt [.v 1,.op pLen [.v 0]]) (.ret (.op pIx [.v 0,.v 1])) .skip)
 (.ret (.c (.int 0))))
def z10:Fn:=Fn.mkN 2 2 (.ret (.op pTup [.op pAdd [.op pIx [.v 0,.c (.int 0)],.op pIx [.v 1,.c (.int 0)]],.op pAdd [.op pIx [.v 0,.c (.int 1)],.op pIx [.v 1,.c (.int 1)]]]))
def z2x:Fn:=Fn.mkN 1 1 (.ret (.op z09 [.comp 1 [0] (.nm 0) (.op pIx [.v 0,.c (.int 0)]) none (.op z10 [.v 0,.op pIx [.v 1,.c (.int 1)]])]))
open PySem.Spec PyProof.Rows
def Sm.never:Sm:=⟨λ_ _ _ _=>False,λ_ _ _ _ _ _ _ _ _ _ q=>q⟩
def zeB {st:Stmt}:QZ X E st .never:=QS.imp zeK <| by rintro _ _ _ ⟨_,_,_,_,_,_,_,_,a,_⟩;exact a
section
variable {P:Program}{w:World}{K:W.Frag}{mg:WmP}{base:Heap}{f:Addr}{qual:Str}{N:List Str}
def fnM {st:Stmt}{ps:List Str}{k h g:Nat}(F:Fun K x qual st f fd)(S:z5i N ps (z0g st))
  (j:∀a A d s H E,Room k (A.deeper (envOfC qual (z0g st) s.heap.objs.size f a))->(A.deeper (envOfC qual (z0g st) s.heap.objs.size f a)).units+64<cLine->QZs ((cxOf (CXe P w) P w K mg base N qual (z0g st) f a A d s H E).wish λ_ _=>False) E0 (z1Y st) b) (l:autoParam (ps.length=h) jA1) (i:autoParam (N.length=g) jA1):
  FnOk P w K mg base (CXe P w) (k+1) f fd ps (spP K mg (Fn.mkN h g b)):=fnN F S l i λa A d s H E e=>j a A _ s H E e e.units
end
def z5d:Fn:=Fn.mkN 2 7 (.seq (.set 2 (.op z0e [.op pIx [.v 0,.c (.int 1)],.op pIx [.v 1,.c (.int 1)]]))
 (.seq (.set 3 (.op z23 [.op pIx [.v 1,.c (.int 1)],.v 2]))
 (.seq (.set 4 (.op z23 [.op pIx [.v 0,.c (.int 1)],.v 2]))
 (.seq (.set 5 (.op pAdd [.op z0b [.op pIx [.v 0,.c (.int 0)],.v 3],.op z0b [.op pIx [.v 1,.c (.int 0)],.v 4]]))
 (.seq (.set 6 (.op z0e [.v 2,.v 5]))
 (.ret (.op pTup [.op z23 [.v 5,.v 6],.op z0b [.v 4,.op z23 [.op pIx [.v 1,.c (.int 1)],.v 6]]])))))))
def z2e:Fn:=Fn.mkN 3 4 (.seq (.set 3 (.op z0e [.op z0e [.v 2,.v 0],.v 1]))
 (.ret (.op pTup [.op z23 [.v 0,.v 3],.op z23 [.v 1,.v 3],.op z23 [.v 2,.v 3]])))
def z2q:Fn:=Fn.mkN 2 2 (.ret (.op z2e [.op z0b [.op pIx [.v 0,.c (.int 0)],.op pIx [.v 1,.c (.int 0)]],.op z0b [.op pIx [.v 0,.c (.int 1)],.op pIx [.v 1,.c (.int 0)]],.op z0b [.op pIx [.v 0,.c (.int 2)],.op pIx [.v 1,.c (.int 1)]]]))
def z0i:Fn:=Fn.mkN 2 3 (.seq (.set 2 (.op pAdd [.op z0b [.c (.int 2),.v 1],.c (.int 1)]))
 (.ret (.op pTup [.op pSub [.op pMod [.v 0,.v 2],.v 1],.op pSub [.op pMod [.op z23 [.v 0,.v 2],.v 2],.v 1]])))
def z0A:Fn:=Fn.mkN 1 7 (.seq (.set 1 (.op pIx [.op pLst [.c (.int 3),.c (.int 12),.op pPow [.c (.int 10),.c (.int 9)]],.op pMod [.op z23 [.op pIx [.v 0,.c (.int 0)],.c (.int 2)],.c (.int 3)]]))
 (.seq (.own 2 (.op pLst []))
 (.seq (.set 3 (.c (.int 1)))
 (.seq (.wh (.and (.op pLt [.v 3,.op zba [.op pLen [.v 0],.c (.int 61)]]) (.op pLt [.op pLen [.v 2],.c (.int 12)])) (.seq (.set 4 (.op pAdd [.c (.int 1),.op pMod [.op pIx [.v 0,.v 3],.c (.int 12)]]))
 (.seq (.set 5 (.op z23 [.op pIx [.v 0,.v 3],.c (.int 12)]))
 (.seq (.own 6 (.op pLst [.op z0i [.v 5,.v 1]]))
 (.seq (.ext 6 (.comp 1 [1] (.nm 0) (.sl (.v 0) (some (.op pAdd [.v 3,.c (.int 1)])) (some (.op zba [.op pAdd [.v 3,.v 4],.c (.int 61)]))) none (.op z0i [.v 0,.v 1])))
 (.seq (.app 2 (.op pTup [.op z1J [.v 6],.op z0i [.op z23 [.v 5,.op pPow [.op pAdd [.op z0b [.c (.int 2),.v 1],.c (.int 1)],.c (.int 2)]],.v 1]]))
 (.set 3 (.op pAdd [.v 3,.v 4]))))))))
 (.ret (.op z1J [.v 2]))))))
def z00:Fn:=Fn.mkN 3 5 (.seq (.set 3 (.c (.int 170141183460469231731687303715884105727)))
 (.seq (.set 4 (.op pMod [.op z0b [.op pAdd [.op pMod [.v 0,.v 3],.op z0b [.op pAdd [.v 1,.c (.int 3)],.c (.int 1000000007)]],.c (.int 105172331949523456789012345678901234567)],.v 3]))
 (.seq (.set 4 (.op pMod [.op z0b [.v 4,.v 4],.v 3]))
 (.ret (.op pMod [.op z23 [.op pMod [.op z0b [.op pAdd [.v 4,.v 1],.c (.int 83492791123456789012345678901234567891)],.v 3],.c (.int 7)],.v 2])))))
def z0Y:Fn:=Fn.mkN 3 4 (.seq (.ifs (.op z6X [.v 2,.c .non]) (.seq (.set 3 (.op pSub [.op z00 [.v 0,.c (.int 2),.c (.int 7)],.c (.int 3)]))
 (.ret (.op pTup [.op z0b [.op pIx [.v 2,.c (.int 0)],.v 3],.op z0b [.op pIx [.v 2,.c (.int 1)],.v 3]]))) .skip)
 (.ret (.op pTup [.op pSub [.op z00 [.v 0,.c (.int 2),.op pAdd [.op z0b [.c (.int 2),.v 1],.c (.int 1)]],.v 1],.op pSub [.op z00 [.v 0,.c (.int 3),.op pAdd [.op z0b [.c (.int 2),.v 1],.c (.int 1)]],.v 1]])))
def z1d:Fn:=Fn.mkN 1 10 (.seq (.set 1 (.op z0d [.v 0,.c (.int 0)]))
 (.seq (.ifs (.op pEq [.op pMod [.v 1,.c (.int 2)],.c (.int 1)]) (.ret (.op z0A [.v 0])) .skip)
 (.seq (.set 2 (.op pIx [.op pLst [.c (.int 3),.c (.int 3),.c (.int 12),.op pPow [.c (.int 10),.c (.int 9)]],.op z00 [.v 1,.c (.int 1),.c (.int 4)]]))
 (.seq (.set 3 (.c .non))
 (.seq (.ifs (.op pEq [.op z00 [.v 1,.c (.int 4),.c (.int 5)],.c (.int 0)]) (.set 3 (.op pTup [.op pSub [.op z00 [.v 1,.c (.int 5),.c (.int 7)],.c (.int 3)],.op pSub [.op z00 [.v 1,.c (.int 6),.c (.int 7)],.c (.int 3)]])) .skip)
 (.seq (.set 4 (.op pIx [.op pLst [.c (.int 3),.c (.int 3),.c (.int 5),.c (.int 12)],.op z00 [.v 1,.c (.int 8),.c (.int 4)]]))
 (.seq (.own 5 (.op pLst []))
 (.seq (.set 6 (.c (.int 1)))
 (.seq (.wh (.and (.op pLt [.v 6,.op zba [.op pLen [.v 0],.c (.int 61)]]) (.op pLt [.op pLen [.v 5],.c (.int 12)])) (.seq (.set 7 (.op pAdd [.c (.int 1),.op z00 [.op pIx [.v 0,.v 6],.c (.int 7),.v 4]]))
 (.seq (.own 8 (.comp 1 [2,3] (.nm 0) (.sl (.v 0) (some (.v 6)) (some (.op zba [.op pAdd [.v 6,.v 7],.c (.int 61)]))) none (.op z0Y [.v 0,.v 1,.v 2])))
 (.seq (.set 9 (.op pTup [.c (.int 0),.c (.int 0)]))
 (.seq (.ifs (.op pEq [.op z00 [.op pIx [.v 0,.v 6],.c (.int 9),.c (.int 2)],.c (.int 1)]) (.set 9 (.op z0Y [.op pAdd [.op pIx [.v 0,.v 6],.c (.int 1)],.v 2,.v 3])) .skip)
 (.seq (.app 5 (.op pTup [.op z1J [.v 8],.v 9]))
 (.set 6 (.op pAdd [.v 6,.v 7]))))))))
 (.ret (.op z1J [.v 5])))))))))))
def z0z:Fn:=Fn.mkN 2 2 (.ret (.op pAdd [.op z0b [.op pIx [.v 0,.c (.int 0)],.op pIx [.v 1,.c (.int 0)]],.op z0b [.op pIx [.v 0,.c (.int 1)],.op pIx [.v 1,.c (.int 1)]]]))
def z1q:Fn:=Fn.mkN 2 5 (.seq (.set 2 (.c (.int 0)))
 (.seq (.for_ [] (.tp [3,4]) (.v 0) (.set 2 (.op pAdd [.op pAdd [.v 2,.op zf5 [.comp 1 [1] (.nm 0) (.v 3) none (.op z0z [.v 1,.v 0])]],.op z0z [.v 1,.v 4]])))
 (.ret (.v 2))))
end Pu
namespace Zp
open PySem PySem.Spec PyProof.Rows L2
section
variable {prog:Program}{w:World}{A:Around}{E:WvP}{s:Shared}
def nx {j t:Addr}{n:Nat}{xs:Array Value}{x:Value}{Q:WvP}(it:s.heap.IsTupleIter j t n)(i:s.heap.IsTuple t xs)(e:xs[n]? = some x)
  (q:∀d,d.IsTupleIter j t (n+1)->Heap.SameBut j s.heap d->Q x { s with heap:=d }):wpAny (model prog w) A (Builtin.SmallTypes.nextOf (.ref j)) Q E s:=by
 obtain⟨m,g,f,a⟩:=id it;obtain⟨o,h,_,l,b⟩:=i;refine wc (vU it.typeIs u8 (ue u8 it.typeIs F.entry_tuple_iterator_next ?_ (F.args_tuple_iterator_next_1 _)));show wpAny _ _ (PySem.field _ 0 >>= _) _ _ s;refine wc (uz g a rfl ?_);refine wc (uz g a rfl ?_);refine wc (v8 h b ?_);simp[Int.toNat_natCast,e];refine wc (Wa g a (by simp) (wj ⟨x,rfl,wj (q _ ⟨_,vJ _ g (Obj.isFreed_of_fields (uB a _)),(Obj.cls_mapFields ..).trans f,by rw[uB a];rfl⟩ (uJ ..))⟩))
def nxE {j t:Addr}{n:Nat}{xs:Array Value}{Q:WvP}(h:A.handled=none)(it:s.heap.IsTupleIter j t n)(l:s.heap.IsTuple t xs)(e:xs[n]? = none)
  (q:∀f z,Heap.ExtBut j s.heap f->(∃o,f.get? z=some o/\o.cls = .type "StopIteration")->E (.ref z) { s with heap:=f }):wpAny (model prog w) A (Builtin.SmallTypes.nextOf (.ref j)) Q E s:=by
 obtain⟨u,g,p,b⟩:=id it;obtain⟨y,i,_,r,d⟩:=l
 delta Builtin.SmallTypes.nextOf
 refine wc (vU (name:=Str.ofString "__next__") it.typeIs u8 (ue u8 it.typeIs F.entry_tuple_iterator_next ?_ (F.args_tuple_iterator_next_1 _)));show wpAny _ _ (PySem.field (.ref j) 0 >>= _) _ _ s;refine wc (uz g b (x :=.ref t) rfl ?_);rw[if_neg (show ¬ (Value.ref t == Value.none)=true from vd)];refine wc (uz g b (x :=.int n 0) rfl ?_);show wpAny _ _ (seqItems? (.ref t) >>= λ_=>_) _ _ s;refine wc (v8 i d ?_);simp only[Int.toNat_natCast,e];refine wc (wpAny_rule (wc (Wa g b (by simp) (show wpAny _ _ (newExc (.type "StopIteration") [] >>= λ_=>_) _ _ _ from wc ?_))));simp only[newExc,newTuple];refine wc (vj (wc (m:=firstArgMember _ _) (wpAny_of_eq (a:=Value.none) (by first | rfl | (simp only[firstArgMember];rfl)) (vj ?_ (by size_fits)))) (by size_fits));simp only[raiseNew];refine wc (wpAny_handled ?_)
 first | rw[show A.in1.handled=none from h] | rw[h]
 exact wc (wj (wpAny_throw (q _ _ (((uJ ..).extBut.push _).push _) ⟨_,wq _ rfl,rfl⟩)))
structure St (h:Heap)(z TI TO i1 i2 t1 t2:Addr)(f:Value)(n:Nat):Prop where
 z:IsZip h z TI TO f
 ti:IsPair h TI (.ref i1) (.ref i2)
 to:∃a b,IsPair h TO a b
 a:h.IsTupleIter i1 t1 n
 b:h.IsTupleIter i2 t2 n
def tat {h a:Heap}{t:Addr}{xs:Array Value}(x:h.IsTuple t xs)(k:∀o,h.get? t=some o->a.get? t=some o):a.IsTuple t xs:=by
 obtain⟨o,e,r⟩:=x;exact⟨o,k o e,r⟩
variable {z TI TO i1 i2 t1 t2:Addr}{n:Nat}{xs ys:Array Value}{x y:Value}
def item {Q:Option Value->Shared->Prop}(D:ZipApart z TI TO i1 i2 t1 t2)(S:St s.heap z TI TO i1 i2 t1 t2 .none n)(hx:s.heap.IsTuple t1 xs)(hy:s.heap.IsTuple t2 ys)(ex:xs[n]? = some x)(ey:ys[n]? = some y)
  (q:∀i,St i z TI TO i1 i2 t1 t2 (rawInt s.heap.objs.size) (n+1)->IsPair i s.heap.objs.size x y->i.objs.size=s.heap.objs.size+1->(∀c o,c≠z->c≠TO->c≠i1->c≠i2->s.heap.get? c=some o->i.get? c=some o)->Q (some (.ref s.heap.objs.size)) { s with heap:=i }):
  wpAny (model prog w) A (pyNext (.ref z)) Q E s:=by
 obtain⟨sz,m,⟨pa,pb,M⟩,sa,sb⟩:=S;have Y:s.TypeIs (.ref z) "zip":=⟨_,sz,rfl⟩
 delta pyNext
 refine wc (wpAny_attempt (vU (name:=Str.ofString "__next__") Y F.slot_zip_next (ue F.slot_zip_next Y F.entry_zip_next ?_ (F.args_zip_next_1 _))));show wpAny _ _ (PySem.field (.ref z) 2 >>= λ_=>_) _ _ _;refine wc (uz sz rfl (x :=.bool false) rfl (show wpAny _ _ (PySem.field (.ref z) 3 >>= λ_=>_) _ _ _ from wc (uz sz rfl (x :=.ref TI) rfl (wc (v8 m rfl ?_)))));show wpAny _ _ (Builtin.SmallTypes.ownedTupleIsFree (.ref z) >>= λ_=>_) _ _ _;refine wc ?_
 delta Builtin.SmallTypes.ownedTupleIsFree
 refine wc (uz sz rfl (x:=Value.none) rfl (wj ?_));simp only[jX];refine wc (wpAny_rule (wc (uz sz rfl (x:=Value.ref TO) rfl (wc (jg sz (by simp) λg1 N d =>?_)))))
 replace N:IsZip g1 z TI TO .ellipsis:=N
 refine wc ?_;simp only[List.zipIdx_cons,List.zipIdx_nil,List.forIn_cons,List.forIn_nil];refine wc (wc (wpAny_onRaise (show wpAny _ _ (Builtin.SmallTypes.nextOf (.ref i1) >>= λ_=>_) _ _ _ from wc (nx (sa.extBut d.extBut D.i1z) (tat hx λo e=>d.extBut _ _ D.l1z e) ex λg2 a2 f=>wj ?_))));have T:IsPair g2 TO pa pb:=f.extBut _ _ D.TOi1 (d.extBut _ _ D.TOz M);refine wc (v8 T rfl (wc (wpAny_updateSeq_pair T λg3 L g =>?_)))
 replace L:IsPair g3 TO x pb:=L
 refine wc (jY (wj ?_));refine wc (wc (wpAny_onRaise (show wpAny _ _ (Builtin.SmallTypes.nextOf (.ref i2) >>= λ_=>_) _ _ _ from wc (nx (((sb.extBut d.extBut D.i2z).extBut f.extBut D.i12.symm).extBut g.extBut D.TOi2.symm)
  (tat hy λo e=>g.extBut _ _ D.l2TO (f.extBut _ _ D.l2i1 (d.extBut _ _ D.l2z e))) ey λg4 b4 j=>wj ?_))))
 have U:IsPair g4 TO x pb:=j.extBut _ _ D.TOi2 L;refine wc (v8 U rfl (wc (wpAny_updateSeq_pair U λa C l =>?_)))
 replace C:IsPair a TO x y:=C
 refine wc (jY (wj (wj (wc (v8 C rfl (wc (wpAny_newTuple ?_)))))));have p:a.objs.size=s.heap.objs.size:=by rw[l.1,j.1,g.1,f.1,d.1]
 have Z:IsZip a z TI TO .ellipsis:=l.extBut _ _ D.TOz.symm (j.extBut _ _ D.i2z.symm (g.extBut _ _ D.TOz.symm (f.extBut _ _ D.i1z.symm N)));have R:∀c o,c≠z->c≠TO->c≠i1->c≠i2->s.heap.get? c=some o->a.get? c=some o:=λc o b u H I e=>l.extBut _ _ u (j.extBut _ _ I (g.extBut _ _ u (f.extBut _ _ H (d.extBut _ _ b e))));have a5:a.IsTupleIter i1 t1 (n+1):=((a2.extBut g.extBut D.TOi1.symm).extBut j.extBut D.i12).extBut l.extBut D.TOi1.symm;have b5:a.IsTupleIter i2 t2 (n+1):=b4.extBut l.extBut D.TOi2.symm;have t:z<a.objs.size:=ww Z;show wpAny _ _ (Builtin.SmallTypes.ownedTupleHandOut (.ref z) (.ref a.objs.size) >>= λ_=>_) _ _ _;refine wc ?_
 delta Builtin.SmallTypes.ownedTupleHandOut
 have z6:IsZip (a.push { cls :=.type "tuple",data :=.seq #[x,y] }) z TI TO .ellipsis:=wf _ Z;refine wc (jg z6 (by simp) λg7 O J =>?_)
 replace O:IsZip g7 z TI TO (rawInt a.objs.size):=O
 refine jg O (by simp) λh G K =>?_
 replace G:IsZip h z TI TO (rawInt a.objs.size):=G
 have r:∀c o,c≠z->a.get? c=some o->h.get? c=some o:=λc o b e=>K.extBut _ _ b (J.extBut _ _ b (wf _ e));have X:IsPair h a.objs.size x y:=K.extBut _ _ (jF t) (J.extBut _ _ (jF t) (wq _ rfl));have W:h.objs.size=a.objs.size+1:=by rw[K.1,J.1,v5]
 rw[p] at G X W;refine wj ⟨_,rfl,wj ?_⟩;show Q (some (.ref a.objs.size)) _;rw[p];exact q h ⟨G,r _ _ D.TIz (R _ _ D.TIz D.TITO D.TIi1 D.TIi2 m),⟨_,_,r _ _ D.TOz C⟩,a5.at λo e=>r _ o D.i1z e,b5.at λo e=>r _ o D.i2z e⟩ X W λc o b u H I e=>r c o b (R c o b u H I e)
def fin {Q:Option Value->Shared->Prop}(C:A.handled=none)(D:ZipApart z TI TO i1 i2 t1 t2)(S:St s.heap z TI TO i1 i2 t1 t2 .none n)(G:s.heap.IsTuple t1 xs)(hy:s.heap.IsTuple t2 ys)(e:xs[n]? = none\/ys[n]? = none)
  (q:∀h,(∀c o,c≠z->c≠TO->c≠i1->c≠i2->s.heap.get? c=some o->h.get? c=some o)->Q none { s with heap:=h }):wpAny (model prog w) A (pyNext (.ref z)) Q E s:=by
 obtain⟨sz,u,⟨pa,pb,y⟩,K,sb⟩:=S;have L:s.TypeIs (.ref z) "zip":=⟨_,sz,rfl⟩
 have stop:∀h v,(∀c o,c≠z->c≠TO->c≠i1->c≠i2->s.heap.get? c=some o->h.get? c=some o)->(∃o,h.get? v=some o/\o.cls = .type "StopIteration")->wpAny (model prog w) A (isInstance (.ref v) (.type "StopIteration") >>= λb=>if b=true then pure none else throw (Value.ref v)) Q E { s with heap:=h }:=λh v kk ⟨o,ho,Z⟩=>
  wc (wpAny_isInstance (T:="StopIteration") (b:=true) ⟨o,ho,Z⟩ isSubtype_stop (wj (q _ kk)))
 delta pyNext
 refine wc (wpAny_attempt (vU (name:=Str.ofString "__next__") L F.slot_zip_next (ue F.slot_zip_next L F.entry_zip_next ?_ (F.args_zip_next_1 _))));show wpAny _ _ (PySem.field (.ref z) 2 >>= λ_=>_) _ _ _;refine wc (uz sz rfl (x :=.bool false) rfl (show wpAny _ _ (PySem.field (.ref z) 3 >>= λ_=>_) _ _ _ from wc (uz sz rfl (x :=.ref TI) rfl (wc (v8 u rfl ?_)))));show wpAny _ _ (Builtin.SmallTypes.ownedTupleIsFree (.ref z) >>= λ_=>_) _ _ _;refine wc ?_
 delta Builtin.SmallTypes.ownedTupleIsFree
 refine wc (uz sz rfl (x:=Value.none) rfl (wj ?_));simp only[jX];refine wc (wpAny_rule (wc (uz sz rfl (x:=Value.ref TO) rfl (wc (jg sz (by simp) λW l f =>?_)))))
 replace l:IsZip W z TI TO .ellipsis:=l
 refine wc ?_;simp only[List.zipIdx_cons,List.zipIdx_nil,List.forIn_cons,List.forIn_nil];refine wc (wc (wpAny_onRaise (show wpAny _ _ (Builtin.SmallTypes.nextOf (.ref i1) >>= λ_=>_) _ _ _ from wc ?_)))
 cases ex:xs[n]? with
 | none=>
  refine nxE C (K.extBut f.extBut D.i1z) (tat G λo e=>f.extBut _ _ D.l1z e) ex λp v g r =>?_;obtain⟨t,a,d⟩:=r;have M:IsZip p z TI TO .ellipsis:=g _ _ D.i1z.symm l;have ne:v≠z:=λw=>by subst w;rw[M] at a;cases a;simp at d
  exact jg M (by simp) λg3 _ i=>stop g3 v (λc o j _ m _ w=>i.extBut _ _ j (g _ _ m (f.extBut _ _ j w))) ⟨t,i.extBut _ _ ne a,d⟩
 | some x=>
  have U:ys[n]? = none:=e.resolve_left (by rw[ex];exact λw=>nomatch w);refine nx (K.extBut f.extBut D.i1z) (tat G λo e=>f.extBut _ _ D.l1z e) ex λp a2 g=>wj ?_;have J:IsPair p TO pa pb:=g.extBut _ _ D.TOi1 (f.extBut _ _ D.TOz y);refine wc (v8 J rfl (wc (wpAny_updateSeq_pair J λg3 o3 i =>?_)));refine wc (jY (wj ?_));refine wc (wc (wpAny_onRaise (show wpAny _ _ (Builtin.SmallTypes.nextOf (.ref i2) >>= λ_=>_) _ _ _ from wc (nxE C (((sb.extBut f.extBut D.i2z).extBut g.extBut D.i12.symm).extBut i.extBut D.TOi2.symm)
   (tat hy λo e=>i.extBut _ _ D.l2TO (g.extBut _ _ D.l2i1 (f.extBut _ _ D.l2z e))) U λX v H r =>?_))))
  obtain⟨t,a,d⟩:=r;have N:IsZip X z TI TO .ellipsis:=H _ _ D.i2z.symm (i.extBut _ _ D.TOz.symm (g.extBut _ _ D.i1z.symm l));have ne:v≠z:=λw=>by subst w;rw[N] at a;cases a;simp at d
  exact jg N (by simp) λY _ I=>stop Y v (λc o j O m R w=>I.extBut _ _ j (H _ _ R (i.extBut _ _ O (g.extBut _ _ m (f.extBut _ _ j w))))) ⟨t,I.extBut _ _ ne a,d⟩
end
noncomputable abbrev mk1 (h:Heap)(t:Addr):Heap:=h.push { cls :=.type "tuple_iterator",data :=.fields #[.ref t,.int 0 0] }
abbrev mk3 (h:Heap)(t1 t2:Addr):Heap:=((mk1 (mk1 h t1) t2).push { cls :=.type "tuple",data :=.seq #[.ref h.objs.size,.ref (mk1 h t1).objs.size] }).push { cls :=.type "tuple",data :=.seq #[.none,.none] }
abbrev mk5 (h:Heap)(t1 t2:Addr):Heap:=(mk3 h t1 t2).push { cls :=.type "zip",data :=.fields #[.none,.bool false,.bool false,.ref (mk1 (mk1 h t1) t2).objs.size,.ref ((mk1 (mk1 h t1) t2).push { cls :=.type "tuple",data :=.seq #[.ref h.objs.size,.ref (mk1 h t1).objs.size] }).objs.size] }
def newZ (a b:Addr)(xs ys:Array Value):Meets (Builtin.«zip.__new__» ⟨[.type "zip",.ref a,.ref b],[]⟩) (λ_ R s=>s.heap.IsTuple a xs/\s.heap.IsTuple b ys/\R (.ok (.ret (.ref (mk3 s.heap a b).objs.size))) { s with heap:=mk5 s.heap a b }):=
 .of_wp λi w A R s h=>by
  obtain⟨e,g,d,j,f⟩:=s;obtain⟨l,m,h⟩:=h;have sub:=sub_zip;have n:Heap.IsTuple (Shared.heap ⟨e,g,d,j,f⟩) a xs:=l;have o:Heap.IsTuple (Shared.heap ⟨mk1 e a,g,d,j,f⟩) b ys:=Heap.IsTuple.push m _
  wp_walk using jd n,jd o
  exact⟨_,rfl,h⟩
section
variable {prog:Program}{w:World}{A:Around}{E:WvP}{s:Shared}{t1 t2:Addr}{xs ys:Array Value}
def znO (t:s.heap.IsTuple t1 xs)(u:s.heap.IsTuple t2 ys)
  (q:∀d,St d (s.heap.objs.size+4) (s.heap.objs.size+2) (s.heap.objs.size+3) s.heap.objs.size (s.heap.objs.size+1) t1 t2 .none 0->(∀c o,s.heap.get? c=some o->d.get? c=some o)->Q (.ref (s.heap.objs.size+4)) { s with heap:=d }):
  wpAny (model prog w) A (call (.type "zip") [.ref t1,.ref t2]) Q E s:=by
 refine callType_new F.called_zip (by decide) (F.typeCall_zip_2 _ _) (F.newCall_zip_2 _ _) (λj=>F.args_object_init_3 j _ _) F.entry_zip_new (newZ t1 t2 xs ys) ⟨t,u,?_⟩;have f:(mk1 s.heap t1).objs.size=s.heap.objs.size+1:=v5 ..;have g:(mk1 (mk1 s.heap t1) t2).objs.size=s.heap.objs.size+2:=by rw[v5,f]
 have i:((mk1 (mk1 s.heap t1) t2).push { cls :=.type "tuple",data :=.seq #[.ref s.heap.objs.size,.ref (mk1 s.heap t1).objs.size] }).objs.size=s.heap.objs.size+3:=by rw[v5,g]
 have p:(mk3 s.heap t1 t2).objs.size=s.heap.objs.size+4:=by rw[v5,i]
 have a:∀{h:Heap}{c:Addr}{o x:Obj},h.get? c=some o->(h.push x).get? c=some o:=λe=>wf _ e;have b:(mk5 s.heap t1 t2).get? (mk3 s.heap t1 t2).objs.size=some _:=wq _ rfl;have n:(mk5 s.heap t1 t2).get? ((mk1 (mk1 s.heap t1) t2).push { cls :=.type "tuple",data :=.seq #[.ref s.heap.objs.size,.ref (mk1 s.heap t1).objs.size] }).objs.size=some _:=a (wq _ rfl);have m:(mk5 s.heap t1 t2).get? (mk1 (mk1 s.heap t1) t2).objs.size=some _:=a (a (wq _ rfl));have l:(mk5 s.heap t1 t2).get? (mk1 s.heap t1).objs.size=some _:=a (a (a (wq _ rfl)));have r:(mk5 s.heap t1 t2).get? s.heap.objs.size=some _:=a (a (a (a (wq _ rfl))));show _/\_;rw[p,g,i] at b;rw[i] at n;rw[f,g] at m;rw[f] at l;rw[p];exact⟨⟨_,b,rfl⟩,q _ ⟨b,m,⟨_,_,n⟩,⟨_,r,rfl,rfl⟩,⟨_,l,rfl,rfl⟩⟩ λc o e=>a (a (a (a (a e))))⟩
end
end Zp
namespace L2
open PySem PySem.Spec PyProof.Rows
section
variable {X:Cx}{pins:List (Addr × Obj)}{σ:List (Option V)}{H H':Hp}{s:Shared}{h':Heap}
def Inv.turnedL {t':Nat}{fp:List Addr}(I:Inv X pins σ H s)(k:∀b o,b ∉ fp->s.heap.get? b=some o->h'.get? b=some o)(f:∀b∈fp,FpOk X pins H b):Inv X pins σ H { s with heap:=h',toks:=t' }:=by
 have d:∀b u,H b=some u->b ∉ fp:=λb u e z=>by rw[(f b z).1] at e;cases e
 have t  := λz=>(f _ z).2.1 rfl;refine I.step (λb w =>?_) (λb o _ _ a e _=>k b o a e) (λb o _ _ a e _=>⟨o.slots,k b o a e⟩) (λ_ _ _ _ n=>n)
  (λb o a e=>⟨o,k b o a e⟩) (λ_ _ e=>e) (λ_ _ _ e=>e) (λb ps e=>⟨#[],by rw[e];simp⟩) (λm x =>?_) (λb u e =>?_) I.bare
 .obtain⟨A,i,C,j,l,p⟩:=f b w;exact⟨j,i,l,p⟩
 .obtain⟨o,h,g,y,r⟩:=x;exact⟨o,h,g,k _ o t y,r⟩
 .refine(I.hok b u e).stay (λc v a q=>k c v ?_ q) (λ_ q=>q) λ_ _ q=>q
  rcases a with z | z
  .rw[z];exact d b u e
  .exact d c _ z
end
end L2
namespace Zp
open PySem PySem.Spec PyProof.Rows L2
def Itz (K:W.Frag)(d e:Addr):It:=
 ⟨λi H=>∃a b x y,SqT K H d a/\SqT K H e b/\a[i]? = some x/\b[i]? = some y,
  λi H v f=>∃p x y,v = .ref p/\H p=none/\f=upd H p (.tup [x,y])/\∀a b,SqT K H d a->SqT K H e b->a[i]? = some x/\b[i]? = some y,
  λi H=>∃a b,SqT K H d a/\SqT K H e b/\(a.length<=i\/b.length<=i)⟩
def ze5 {P:Program}{w:World}{K:W.Frag}{es:List Expr}{kk:Nat}{a0:Pos}{z TI TO n p G J:Addr}(D:ZipApart z TI TO n p G J):Turn P w K (.Tuple es kk a0) (Itz K G J) [z,TO,n,p,TI] z (λi h=>St h z TI TO n p G J .none i) where
 mem:=by simp
 obj:=λi h m b d=>by
  obtain⟨sz,j,⟨C,F,l⟩,⟨oa,N,ca,da⟩,⟨Z,O,cb,db⟩⟩:=m;simp only[wm,wE,vO] at d
  rcases d with rfl | rfl | rfl | rfl | rfl
  .exact⟨_,sz,λv q=>by cases (show Data.fields _=Data.cell v from q)⟩
  .exact⟨_,l,λv q=>by cases (show Data.seq _ _=Data.cell v from q)⟩
  .exact⟨_,N,λv q=>by rw[da] at q;cases q⟩
  .exact⟨_,O,λv q=>by rw[db] at q;cases q⟩
  .exact⟨_,j,λv q=>by cases (show Data.seq _ _=Data.cell v from q)⟩
 keep:=λi h h' m k=>by
  obtain⟨sz,j,⟨C,F,l⟩,sa,sb⟩:=m;exact⟨k z (by simp) _ sz,k TI (by simp) _ j,⟨C,F,k TO (by simp) _ l⟩,sa.at λo e=>k n (by simp) o e,sb.at λo e=>k p (by simp) o e⟩
 item:=by
  intro X R U Q hc i g s σ H E I S m T;subst R U Q;obtain⟨xs,ys,x,y,L,M,ex,ey⟩:=T;obtain⟨us,r1,p1,_⟩:=I.tuple L;obtain⟨vs,r2,p2,_⟩:=I.tuple M;obtain⟨u,hu,ru⟩:=r1.get ex;obtain⟨v,hv,rv⟩:=r2.get ey;refine item D m (show s.heap.IsTuple G us.toArray from p1) (show s.heap.IsTuple J vs.toArray from p2) (x:=u) (y:=v) (by simpa using hu) (by simpa using hv) λh' r tp _ Y=>⟨_,rfl,?_⟩
  refine wpAny_letOwnedTupleGo_zip r.z λh2 z2 A =>?_;have lt:∀{b o},s.heap.get? b=some o->b≠s.heap.objs.size:=λe=>wJ (ww e);have Z:∀b∈[z,TO,n,p,TI],b≠s.heap.objs.size:=λb d=>by
   obtain⟨sz,j,⟨C,F,l⟩,⟨oa,N,_⟩,⟨oo,O,_⟩⟩:=m;simp only[wm,wE,vO] at d
   rcases d with rfl | rfl | rfl | rfl | rfl
   .exact lt sz
   .exact lt l
   .exact lt N
   .exact lt O
   .exact lt j
  have hz:z≠s.heap.objs.size:=Z z (by simp);have new:(s.heap.push { cls :=.type "tuple",data :=.seq #[u,v] }).get? s.heap.objs.size=some { cls :=.type "tuple",data :=.seq #[u,v] }:=wq _ rfl;have I1:Inv X g σ (upd H s.heap.objs.size (.tup [x,y])) { s with heap:=s.heap.push { cls :=.type "tuple",data :=.seq #[u,v] },toks:=s.toks }:=
   I.laid (λ_ _ q=>wf _ q) (wu _) ⟨wP (show 2<=64 by decide) (by decide),[u,v],.cons ru (.cons rv .nil),⟨_,wq _ rfl,rfl,_,rfl⟩,_,wq _ rfl,rfl⟩
  have t:∀b∈[z,TO,n,p,TI],FpOk X g (upd H s.heap.objs.size (.tup [x,y])) b:=λb d=>by
   obtain⟨f0,f⟩:=S b d;exact⟨by rw[z08 (Z b d)];exact f0,f⟩
  have I2:Inv X g σ (upd H s.heap.objs.size (.tup [x,y])) { s with heap:=h2,toks:=s.toks }:=I1.turnedL (t':=s.toks) (λb o d e=>by
   simp only[wm,wE,vO,not_or] at d;obtain⟨b1,b2,b3,b4,b5⟩:=d;refine A.extBut _ _ b1 ?_
   by_cases he:b=s.heap.objs.size
   .subst he;rw[new] at e
    cases e
    exact tp
   .rw[jP _ _ _ he] at e;exact Y b o b1 b2 b3 b4 e) t
  refine⟨.ref s.heap.objs.size,_,I2,rfl,⟨_,x,y,rfl,I.fresh,rfl,λas bs ha d=>⟨by rw[I.tuple_inj ha L];exact ex,by rw[I.tuple_inj d M];exact ey⟩⟩,⟨z2,A.extBut _ _ D.TIz r.ti,?_,r.a.extBut A.extBut D.i1z,r.b.extBut A.extBut D.i2z⟩,λb d=>(t b d).1⟩;obtain⟨C,F,e⟩:=r.to;exact⟨C,F,A.extBut _ _ D.TOz e⟩
 done:=by
  intro X R U Q hc i g s σ H E I S m T;subst R U Q;obtain⟨xs,ys,L,M,e⟩:=T;obtain⟨us,r1,p1,_⟩:=I.tuple L;obtain⟨vs,r2,p2,_⟩:=I.tuple M;have l1:=r1.length;have l2:=r2.length;refine fin (I.ok.hd hc) D m (show s.heap.IsTuple G us.toArray from p1) (show s.heap.IsTuple J vs.toArray from p2) (e.imp (λq=>by simp;lia) λq=>by simp;lia) λh' Y=>⟨rfl,I.turnedL (t':=s.toks) (λb o d e =>?_) S⟩
  simp only[wm,wE,vO,not_or] at d;exact Y b o d.1 d.2.1 d.2.2.1 d.2.2.2.1 e
 self:=λ_ _ _ _ _ m h=>wpAny_pyIter_zip m.z h
def iZip (K:W.Frag)(e:TA):TI:=λh H R=>e h H λvs d=>∃a b,vs=[.ref a,.ref b]/\(∃f,SqT K d a f)/\(∃g,SqT K d b g)/\R (Itz K a b) d
section
variable {X:Cx}{es:List Expr}{kk:Nat}{tp:Pos}
def zkA {a b:Expr}{A:TA}{p l:Pos}(L:Gl X "zip")(M:X.mg "zip"=none)(J:PA X [a,b] A)(N:autoParam (starEach [a,b] X.env=[(false,eval a X.env),(false,eval b X.env)]) jA1)(j:autoParam (starEach [b] X.env=[(false,eval b X.env)]) jA1):PI X (.Tuple es kk tp) (.Call (.Name "zip" p) [a,b] [] l) (iZip X.K A):=by
 intro d s E H R I h;refine Call_ (z8z I L M (show bootBuiltins "zip"=some (.type "zip") from rfl) (jG (thn (J l d s E H _ I h) λC f z9 =>?_) (by rw[N,j]) (by rw[j];rfl)));obtain⟨vs,u,g,r1,U⟩:=z9;obtain⟨n,t,e,⟨xs,W⟩,⟨ys,Y⟩,q⟩:=U;subst e
 cases r1 with
 | cons r m=>
  cases m with
  | cons Z m=>
   cases m
   cases (show _=Value.ref n from r)
   cases (show _=Value.ref t from Z)
   obtain⟨C,a0,x,_⟩:=g.tuple W;obtain⟨vs,a1,y,_⟩:=g.tuple Y;have Q:n<f.heap.objs.size:=by obtain⟨o,e,_⟩:=x;exact ww e
   have T:t<f.heap.objs.size:=by obtain⟨o,e,_⟩:=y;exact ww e
   refine znO (show f.heap.IsTuple n C.toArray from x) (show f.heap.IsTuple t vs.toArray from y) λG S O =>?_;refine wpAny_pyIter_zip S.z ?_;have F:Inv X d E u { f with heap:=G,toks:=f.toks }:=g.kept (t':=f.toks) O;refine⟨_,_,_,_,u,rfl,F,ze5 (zipApart_new Q T),S,λb w =>?_,q⟩;have i:f.heap.objs.size<=b:=by
    simp only[wm,wE,vO] at w
    rcases w with rfl | rfl | rfl | rfl | rfl
    .exact Nat.le_add_right _ 4
    .exact Nat.le_add_right _ 3
    .exact wu _
    .exact Nat.le_add_right _ 1
    .exact Nat.le_add_right _ 2
   exact g.fpOk i (g.hok.fresh i)
end
end Zp
namespace Pu
open PySem PySem.Spec PyProof.Rows L2 Zp
def gZip (a b:D)(Q:DK):Prop:=match a,b with
 | .tup l,.tup m=>Q (.lst ((l.zip m).map λp =>.tup [p.1,p.2]))
 | _,_=>False
def zdm (a b:D)(Q Q':DK)(m:∀d,Q d->Q' d)(h:gZip a b Q):gZip a b Q':=by
 unfold gZip at h ⊢
 split at h
 .exact m _ h
 omega
def zb9:Fn:=fn2 gZip zdm
def zdY {K:W.Frag}{mg:WmP}{G:Hp}{a b:Addr}{xs ys:List V}{l m:List D}(I:SqT K G a xs)(J:SqT K G b ys)(r1:RDs K mg G l xs)(r2:RDs K mg G m ys):Walk K mg G ((l.zip m).map λp =>.tup [p.1,p.2]) (Itz K a b):=λi F H g f=>by
 have j:=z0L (z02 g f) I;have n:=z0L (z02 g f) J;refine⟨λd e =>?_,λL=>⟨xs,ys,j,n,?_⟩⟩
 .rw[wO,ul] at e;obtain⟨⟨N,O⟩,e,rfl⟩:=e;rw[List.getElem?_zip_eq_some] at e;obtain⟨w,s,o⟩:=r1.get e.1;obtain⟨A,t,r⟩:=r2.get e.2;refine⟨⟨xs,ys,w,A,j,n,s,t⟩,λv M y =>?_⟩;obtain⟨p,x,y,rfl,h,rfl,q⟩:=y;obtain⟨C,E⟩:=q xs ys j n;rw[s] at C;rw[t] at E
  cases C
  cases E
  refine⟨z0o h _,upd F p (.tup [w,A]),?_,?_,?_⟩
  .exact Gr.new f h
  .intro c u e
   by_cases z:c=p
   .subst z;rw[z0c] at e ⊢;exact e
   .rw[z08 z] at e ⊢;exact f c u e
  .exact RD.newT (RDs.cons (o.same g) (RDs.cons (r.same g) RDs.nil)) f h
 .simp only[wd,uC] at L;rw[r1.len,r2.len];lia
section
variable {X:Cx}{E:XK}
def zeN {Q p l:Pos}(K:Gl X "zip")(M:X.mg "zip"=none)(J:QXA X E [a,b] [x,y])(i:autoParam (starEach [a,b] X.env=[(false,eval a X.env),(false,eval b X.env)]) jA1)(j:autoParam (starEach [b] X.env=[(false,eval b X.env)]) jA1):
  QXI X E (.Tuple es kk Q) (.Call (.Name "zip" p) [a,b] [] l) (.op zb9 [x,y]):=QI.imp (⟨zkA K M J.p i j⟩) <| by
 rintro σ H R ⟨G,o,Q0,e,i,w,N,Y,L,O⟩;refine⟨G,o,_,e,i,w,(show runs _ o (λf=>zb9.run f Q0 e) e from N),λf vs r s q C g g3 rds =>?_,O⟩
 match f,q,rds with
 | [z,A],q,rds=>
  have d:gZip z A Q0:=q;unfold gZip at d
  split at d
  .obtain⟨Z,r1,rfl,F,h⟩:=rds;obtain⟨v2,r2,rfl,h,I⟩:=h;subst I;obtain⟨t,U,rfl,m,S⟩:=z1I F;obtain⟨u,W,rfl,n,T⟩:=z1I h;exact⟨t,u,rfl,⟨U,z0L g m⟩,⟨W,z0L g n⟩,L _ r s d C g g3 _ _ rfl (zdY m n S T)⟩
  .exact d.elim
end
end Pu
namespace Pu
open PySem L2
def z2U:Fn:=Fn.mkN 2 4 (.seq (.set 2 (.op pGt [.v 0,.op pTup [.c (.int 0),.c (.int 0)]]))
 (.seq (.set 3 (.op pGt [.v 1,.op pTup [.c (.int 0),.c (.int 0)]]))
 (.seq (.ifs (.op pNe [.v 2,.v 3]) (.ret (.v 2)) .skip)
 (.ret (.op pGt [.op z1L [.v 0,.v 1],.c (.int 0)])))))
def z2d:Fn:=Fn.mkN 2 5 (.seq (.own 2 (.op pLst []))
 (.seq (.set 3 (.c (.int 0)))
 (.seq (.for_ [] (.nm 4) (.v 1) (.seq (.wh (.and (.op pLt [.v 3,.op pLen [.v 0]]) (.op z2U [.op pIx [.v 0,.v 3],.v 4])) (.seq (.app 2 (.op pIx [.v 0,.v 3]))
 (.set 3 (.op pAdd [.v 3,.c (.int 1)]))))
 (.app 2 (.v 4))))
 (.ret (.op pAdd [.v 2,.sl (.v 0) (some (.v 3)) none])))))
def z1W:Fn:=Fn.mkN 2 3 (.seq (.ifs (.op pEq [.op pLen [.v 0],.c (.int 1)]) (.ret (.op pLst [])) .skip)
 (.seq (.set 2 (.op pAdd [.sl (.v 0) (some (.c (.int 1))) none,.sl (.v 0) none (some (.c (.int 1)))]))
 (.ret (.comp 2 [1] (.tp [0,1]) (.op zb9 [.v 0,.v 2]) none (.callv z9J 2 [.v 0,.v 1])))))
def z40:Fn:=Fn.mkN 2 7 (.seq (.set 2 (.op z09 [.v 0]))
 (.seq (.set 3 (.op z09 [.v 1]))
 (.seq (.set 4 (.op z10 [.op pIx [.v 2,.c (.int 0)],.op pIx [.v 3,.c (.int 0)]]))
 (.seq (.own 5 (.op pLst [.v 4]))
 (.seq (.for_ [] (.nm 6) (.op z2d [.op z1W [.v 2,.c (.fn 2)],.op z1W [.v 3,.c (.fn 2)]]) (.seq (.set 4 (.op z10 [.v 4,.v 6]))
 (.app 5 (.v 4))))
 (.ret (.op z09 [.v 5])))))))
open PySem.Spec PyProof.Rows Tab
mutual
def z8D (K:W.Frag):D->Value->Bool
 | .int i,.int j _=>i == j
 | .str x,.str y _=>x == y
 | .non,.none=>true
 | .bl b,.bool c=>b == c
 | .tup e,.ref a=>match K.lookup a with
  | some o=>(match o.cls with | .type t=>t == "tuple" | _=>false) && (match o.data with
   | .seq d _=>(decide (d.size<=sizeLine) && o.dict.isNone) && zat K e d.toList
   | _=>false)
  | none=>false
 | _,_=>false
def zat (K:W.Frag):List D->List Value->Bool
 | [],[]=>true
 | d::a,v::vs=>z8D K d v && zat K a vs
 | _,_=>false
end
def zmg (K:W.Frag)(mg:WmP)(x:Str)(d:D):Prop:=∃v,mg x=some v/\z8D K d v=true
section
variable {K:W.Frag}{mg:WmP}
set_option tactic.hygienic true in
mutual
theorem zau:∀(d:D) {u:Value},z8D K d u=true->∃v,RelV v u/\∀G,RD K mg G d v
 | .non,u,h=>by
  cases u with
  | none=>exact⟨.non,rfl,λ_=>by rw[RD]⟩
  | _=>cases h
 | .bl b,u,h=>by
  cases u with
  | bool c=>rw[z8D] at h;cases (eq_of_beq h);exact⟨.bl b,rfl,λ_=>RD.bl'⟩
  | _=>cases h
 | .int i,u,h=>by
  cases u with
  | int j t=>rw[z8D] at h;cases (eq_of_beq h);exact⟨.int i,⟨t,rfl⟩,λ_=>RD.int'⟩
  | _=>cases h
 | .str x,u,h=>by
  cases u with
  | str y t=>rw[z8D] at h;cases (eq_of_beq h);exact⟨.str x,⟨t,rfl⟩,λ_=>RD.str'⟩
  | _=>cases h
 | .tup l,u,h=>by
  cases u with
  | ref a=>
   rw[z8D] at h
   split at h
   .rename_i o p
    rw[vX] at h;obtain⟨f,e⟩:=h
    split at e
    .rename_i g n m
     rw[vX,vX] at e;obtain⟨vs,r,q⟩:=z8C l e.2;refine⟨.ref a,rfl,λG=>by
      rw[RD];refine⟨a,vs,rfl,.inr ⟨o,g,n,p,?_,m,uw e.1.1,r,Option.isNone_iff_eq_none.mp e.1.2⟩,q G⟩
      split at f
      .rename_i t s;rw[s,eq_of_beq f]
      .cases f⟩
    .cases e
   .cases h
  | _=>cases h
 | .lst _,_,h=>by cases h
 | .dct _ _,_,h=>by cases h
 | .fn _,_,h=>by cases h
 | .exc _,_,h=>by cases h
 | .ptr _,_,h=>by cases h
 | .fz _ _,_,h=>by cases h
 | .ins _ _ _,_,h=>by cases h
theorem z8C:∀(ds:List D) {a:List Value},zat K ds a=true->∃vs,Vals vs a/\∀G,RDs K mg G ds vs
 | [],[],_=>⟨[],.nil,λ_=>RDs.nil⟩
 | [],_::_,h=>by cases h
 | _::_,[],h=>by cases h
 | d::ds,u::a,h=>by
  rw[zat,vX] at h;obtain⟨v,r,q⟩:=zau d h.1;obtain⟨vs,e,b⟩:=z8C ds h.2;exact⟨v::vs,.cons r e,λG=>RDs.cons (q G) (b G)⟩
end
end
def zmK {a:Pos}(e:Gl X x)(f:zmg X.K X.mg x d)(b:autoParam (dB x) jB1):QX X E (.Name x a) (.c d):=by
 obtain⟨u,g,h⟩:=f;obtain⟨v,r,q⟩:=zau d h;exact qx_c ⟨zcD e g r b⟩ q
noncomputable def z3m:D :=.tup [.tup [.int (1),.int (0)],.tup [.int (0),.int (1)],.tup [.int (-1),.int (0)],.tup [.int (0),.int (-1)]]
def z2v:Fn:=Fn.mkN 1 1 (.ret (.op pTup [.op pIx [.v 0,.c (.int 1)],.op pNeg [.op pIx [.v 0,.c (.int 0)]]]))
def z1R:Fn:=Fn.mkN 2 6 (.seq (.ifs (.op pEq [.op pLen [.v 0],.c (.int 1)]) (.ret (.comp 1 [0] (.nm 0) (.c z3m) none (.op pTup [.v 0,.op pIx [.v 1,.c (.int 0)]]))) .skip)
 (.seq (.own 2 (.op pLst []))
 (.seq (.forr [.op pLen [.v 0]] (.nm 3) (.seq (.set 4 (.op pIx [.v 0,.v 3]))
 (.seq (.set 5 (.callv z9J 1 [.op pIx [.v 0,.op pSub [.v 3,.c (.int 1)]],.v 4]))
 (.seq (.app 2 (.op pTup [.op z2v [.v 5],.v 4]))
 (.ifs (.op pEq [.op pLen [.v 0],.c (.int 2)]) (.app 2 (.op pTup [.v 5,.v 4])) .skip)))))
 (.ret (.v 2)))))
def z25:Fn:=Fn.mkN 1 2 (.seq (.set 1 (.op z1R [.op z09 [.v 0],.c (.fn 2)]))
 (.ret (.op z1J [.comp 2 [] (.tp [0,1]) (.v 1) none (.op pTup [.v 0,.op z1e [.v 0,.v 1]])])))
end Pu
namespace Geo
def Hd (l h:List P):Prop:=∃a:List P,a.Pairwise Lx/\(∀p,p∈a↔p∈l)/\h=hull a
def Hd.is {l h:List P}(x:Hd l h)(e:l≠[]):z03 (· ∈ l) h:=by
 obtain⟨f,b,d,rfl⟩:=x;have a:f≠[]:=λz=>by
  cases l with
  | nil=>exact e rfl
  | cons p l=>have:=(d p).mpr (by simp);grind
 have:=ziv a b
 simp_all
theorem z7n:∀{l:List P}{i:Nat}{a b:P},Path R l->l[i]? = some a->l[i+1]? = some b->R a b
 | [],_,_,_,_,e,_=>by simp at e
 | [_],i,_,_,_,e,f=>by simp at f
 | x::y::r,0,a,b,h,e,f=>by
  simp at e f;subst e;subst f;exact h.1
 | x::y::r,i+1,a,b,h,e,f=>z7n h.2 (by simpa using e) (by simpa using f)
theorem z4z:∀{u v:List P},Path R (u++v)->Path R v
 | [],_,h=>h
 | [x],[],_=>trivial
 | [x],y::v,h=>h.2
 | x::y::u,v,h=>z4z (u:=y::u) h.2
theorem z6V (det:∀a b c,R a b->R a c->b=c):∀{t:List P},m ∉ t->Path R (t++[m])->t.Nodup
 | [],_,_ =>.nil
 | a::t,i,h=>by
  rw[vR];have d  := λz=>i (wo _ z);refine⟨λg =>?_,z6V det d (z4z (u:=[a]) h)⟩;obtain⟨u,v,e⟩:=List.append_of_mem g;have f  := by
   have:Path R ((a::u)++(a::v++[m])):=by simp_all
   exact z4z this
  have j:m ∉ v:=λz=>d (by rw[e];simp[z]);have:=z48 det d j h f;have:=congrArg List.length this;rw[e] at this;simp at this;lia
def z03.nodup (x:z03 S h):h.Nodup:=by
 obtain⟨m,t,rfl,i,j,g,d⟩:=x.ex
 rcases d with ⟨rfl,_⟩ | ⟨_,d⟩
 .simp
 .rw[vR];exact⟨g,z6V (λa b c e f=>e.det f) g (z4z (u:=[m]) d)⟩
def z03.sub {S:P->Prop}{h:List P}(x:z03 S h):∀p∈h,S p:=by
 obtain⟨m,t,rfl,j,l,n,a⟩:=x.ex
 rcases a with ⟨rfl,_⟩ | ⟨o,a⟩
 .simp_all
 .intro p g;obtain⟨i,b,e⟩:=ve.mp g;have f:(m::t++[m])[i]? = some p:=by rw[wH b,wn b,e]
  have d:i+1<(m::t++[m]).length:=by simp at b ⊢;lia
  exact(z7n a f (wn d)).sa
def Edge.less (e:Edge S a b)(h:∀p,T p->S p)(f:T a)(g:T b):Edge T a b:=⟨f,g,e.ne,λp d=>e.left p (h p d),λp d=>e.btw p (h p d)⟩
theorem z8l (h:∀p,T p->S p):∀{l:List P},(∀p∈l,T p)->Path (Edge S) l->Path (Edge T) l
 | [],_,_=>trivial
 | [_],_,_=>trivial
 | a::b::r,e,d=>⟨d.1.less h (e a (by simp)) (e b (by simp)),z8l h (λp d=>e p (wo _ d)) d.2⟩
def z03.of {S T:P->Prop}{h:List P}(x:z03 S h)(e:∀p,T p->S p)(i:∀p∈h,T p):z03 T h:=by
 obtain⟨m,t,rfl,j,f,g,a⟩:=x.ex;refine⟨m,t,rfl,i m (by simp),λp b=>f p (e p b),g,?_⟩
 rcases a with ⟨rfl,a⟩ | ⟨d,a⟩
 .exact .inl ⟨rfl,λp b=>a p (e p b)⟩
 .exact .inr ⟨d,z8l e (λp b=>by
   grind) a⟩
def z4O {a b c:P}(e:Edge S a b)(f:Edge S b c)(h:a≠c):0<Qa a b c:=by
 have H:=e.left c f.sb
 rcases uW H with z | z
 .exact z
 exfalso
 have x:Qa a b c=0:=z.symm;have U:Qa b c a=0:=by rw[<- x];unfold Qa;grind
 obtain⟨Y,Q⟩:=e.btw c f.sb x;obtain⟨Z,R⟩:=f.btw a e.sa U;have o:=e.ne;have p:=f.ne;obtain⟨m,n⟩:=a;obtain⟨g,i⟩:=b;obtain⟨j,l⟩:=c;simp only[Qa,dot] at*;generalize K:g - m=u1 at*;generalize L:i - n=u2 at*;generalize M:j - m=v1 at*;generalize N:l - n=v2 at*;have F:(j - g)*(m - g)+(l - i)*(n - i)=(u1*u1+u2*u2) - (u1*v1+u2*v2):=by
  have:j - g=v1 - u1:=by lia
  have:l - i=v2 - u2:=by lia
  have:m - g = -u1:=by lia
  have:n - i = -u2:=by lia
  grind
 have G:(m - j)*(g - j)+(n - l)*(i - l)=(v1*v1+v2*v2) - (u1*v1+u2*v2):=by
  have:m - j = -v1:=by lia
  have:n - l = -v2:=by lia
  have:g - j=u1 - v1:=by lia
  have:i - l=u2 - v2:=by lia
  grind
 rw[F] at Q;rw[G] at R;have u:(u1*v1+u2*v2)*(u1*v1+u2*v2)=(u1*u1+u2*u2)*(v1*v1+v2*v2):=by
  have:(u1*u1+u2*u2)*(v1*v1+v2*v2) - (u1*v1+u2*v2)*(u1*v1+u2*v2)=(u1*v2 - u2*v1)*(u1*v2 - u2*v1):=by grind
  rw[x] at this;lia
 have J:0<=u1*v1+u2*v2:=by
  have:(v1*u1+v2*u2)=u1*v1+u2*v2:=by grind
  lia
 generalize W:u1*v1+u2*v2=d at*;generalize I:u1*u1+u2*u2=uu at*;generalize X:v1*v1+v2*v2=vv at*;have w:0<=uu:=by have:=z0j u1;have:=z0j u2;lia
 have T:0<=vv:=by have:=z0j v1;have:=z0j v2;lia
 have C:d*d<=uu*d:=wp (by lia) J;have E:uu*d<=uu*vv:=wT (by lia) w;have s:uu*(vv - d)=0:=by
  have:uu*(vv - d)=uu*vv - uu*d:=by grind
  omega
 rcases wK.mp s with z | z
 .obtain⟨y,A⟩:=z4a (I.trans z);exact o (ub (by show m=g;lia) (by show n=i;lia))
 .have r:vv=d:=by lia
  have t:d*(uu - d)=0:=by
   have:d*(uu - d)=uu*d - d*d:=by grind
   rw[r] at u;omega
  rcases wK.mp t with z | z
  .have q:v1*v1+v2*v2=0:=by lia
   obtain⟨y,A⟩:=z4a q;exact h (ub (by show m=j;lia) (by show n=l;lia))
  .have O:(u1 - v1)*(u1 - v1)+(u2 - v2)*(u2 - v2)=0:=by
    have:(u1 - v1)*(u1 - v1)+(u2 - v2)*(u2 - v2)=(u1*u1+u2*u2) - 2*(u1*v1+u2*v2)+(v1*v1+v2*v2):=by grind
    lia
   obtain⟨y,A⟩:=z4a O;exact p (ub (by show g=j;lia) (by show i=l;lia))
end Geo
open Lean in
set_option hygiene false in
def al (s:String)(r:=true):MacroM (TSyntax `tactic):=do
 let a←(s.splitOn " ").toArray.mapM λw=>do
  let h:=w.toList.dropWhile (!"?!#%=~*^$@<>".contains ·)
  let f:=mkIdent (w.dropEnd h.length).toString.toName
  if h=[] then `(tacticSeq|exact $f) else if h=['$'] then `(tacticSeq|refine $f ?_;with_unfolding_all rfl) else
   let x←h.toArray.mapM λc=>if c='?' then `(?_) else if c='*' then `(_) else if c='^' then `(by decide) else if c='@' then `((T.nb _ (by decide))) else pure (mkIdent (if c='!' then `S else if c='=' then `rfl else if c='#' then `lk2 else if c='~' then `n1 else if c='<' then `he else if c='>' then `hg else `lk1))
   if h.contains '?' then `(tacticSeq|refine $f $x*) else `(tacticSeq|exact $f $x*)
 if r then `(tactic|with_reducible first $[|$a]*) else `(tactic|first $[|$a]*)
open Lean in
def rf (s:String):MacroM Term:=do
 let l:=s.splitOn ":"
 return Syntax.mkApp (mkIdent l.head!.toName) (←l.getLast!.toList.toArray.mapM λc=>if c='?' then `(?_) else if c='_' then `(_) else if c='n' then pure (mkIdent `lkN) else do
  let i:=mkIdent (if c='i' then `id else if c='c' then `CX else if c='k' then `k else if c='p' then `ps else if c='s' then `sp else if c='G' then `G else if c='t' then `t else `n)
  let v←if c='0' then `(0) else if c='2' then `(2) else `(?_)
  return⟨(←`(Parser.Term.namedArgument|($i:ident:=$v))).raw⟩)
open Lean in
def sh (s:String)(t:TSyntax `tactic):MacroM (TSyntax `tactic):=do `(tactic|((with_reducible show $(←rf s));$t))
open Lean in
def sq (s:String):MacroM (TSyntax `tactic):=do
 let a←(s.splitOn " ").toArray.mapM λw=>do
  let l:=w.splitOn ":"
  let x←l.tail.toArray.mapM λv=>if v="a" then `(tactic|try apply Pu.zal) else if v="b" then `(tactic|apply Pu.zal) else if v="c" then `(tactic|focus exact⟨by decide,by decide,by decide⟩) else if v="d" then `(tactic|focus (simp only[wU,uc];decide)) else `(tactic|focus walk_at $(Syntax.mkStrLit v))
  let x:=#[←`(tactic|with_reducible apply $(mkIdent (`Pu++l.head!.toName)))]++x
  `(tacticSeq|$[$x:tactic];*)
 `(tactic|first $[|$a]*)
local macro_rules | `(tactic| walk_at "bt") => `(tactic| first | assumption | (refine L2.Bt.add ?_ ?_ <;> walk_at "bt") | (refine L2.Bt.sub ?_ ?_ <;> walk_at "bt") | (refine L2.Bt.mul ?_ ?_ <;> walk_at "bt") | (apply L2.Bt.neg;walk_at "bt") | exact L2.bt_k (by decide +kernel) | exact L2.bt_n (by omega) (by omega))
local macro_rules | `(tactic| walk_at "mu") => `(tactic| exact⟨L2.Bt.le (by walk_at "bt") (by decide),L2.Bt.le (by walk_at "bt") (by decide)⟩)
local macro_rules | `(tactic| walk_at "ps") => `(tactic| first | assumption | decide | omega)
local macro_rules | `(tactic| walk_at "bb") => `(tactic| first | exact L2.zaP (by decide) (by decide) | exact L2.Bt.le (by walk_at "bt") (by decide) | exact L2.zaP (by omega) (by omega))
local macro_rules | `(tactic| walk_at "sf") => `(tactic| first | exact Pu.Safe.of_noL rfl rfl _ | exact Pu.Safe.of_noL (Pu.z1m _) (Pu.z1n _) _ | (repeat (first | exact trivial | refine⟨trivial,?_⟩)) | assumption)
local macro_rules | `(tactic| walk_at "en") => do
 let a←("List.set_cons_zero List.set_cons_succ wA uT List.replicate List.cons_append List.nil_append Nat.reduceSub Pu.dem Pu.vis Pu.visB Pu.demB jz u3 Option.getD_some Pu.z1r List.replicate_succ List.replicate_zero".splitOn " ").toArray.mapM λw=>`(Lean.Parser.Tactic.simpLemma|$(Lean.mkIdent w.toName):ident)
 `(tactic| try simp only[$a,*])
local macro_rules | `(tactic| walk_at "st") => sq "e_c e_v:b zlT zfH znH znG znF zhj zjz znt znl znm znp:mu zgw:ps:bb zli:ps zlh:c znr:a zns:a o_lt o_le o_gt o_ge o_eq o_ne o_is zi8 zlm zll znj:d znq:d zlg zlk znu zlq zlp zln zlo zlj znJ e_or znI n_bl zgN znA znz e_sl zkR zkQ zlP znQ znP z2z z4V z4Z zmm zel zjq s_if zmn zg8 zmq:en zhh z0s:sf:en znN:en zm1:en"
local macro_rules | `(tactic| walk_at "go") => `(tactic| repeat walk_at "st")
local macro_rules | `(tactic| walk_at "fn") => `(tactic| ((refine Pu.zmu rfl ?_);(walk_at "en")))
local macro_rules | `(tactic| walk_at "fe") => `(tactic| ((refine Pu.zmv rfl ?_);(walk_at "en")))
local macro_rules | `(tactic| ac_nf) => `(tactic| walk_at "go")
local macro_rules | `(tactic| ac_rfl) => `(tactic| walk_at "en")
namespace Pu
open PySem L2
def szl {n:Nat}(h:n<=1000000):n<=sizeLine:=wP h (by decide)
def szl' {n:Nat}(h:n<=1000000):n<sizeLine:=Nat.lt_of_le_of_lt h (by decide)
abbrev Vb (n:Nat)(p:Int × Int):Prop:=Bt n p.1/\Bt n p.2
abbrev Wb (n:Nat)(l:List (Int × Int)):Prop:=∀p∈l,Vb n p
theorem Vb.le {m n:Nat}{p:Int × Int}(h:Vb m p)(q:autoParam (m<=n) jB1):Vb n p:=⟨h.1.le q,h.2.le q⟩
theorem Wb.le {m n:Nat}{l:List (Int × Int)}(h:Wb m l)(q:autoParam (m<=n) jB1):Wb n l:=λp a=>(h p a).le q
def z3x (b:Vb 30000000 p)(e:Vb 30000000 r)(q:Q (.int (p.1*r.2 - p.2*r.1))):z1L.run [vec p,vec r] Q X:=by
 obtain⟨f,g⟩:=b;obtain⟨i,j⟩:=e;walk_at "fn";ac_nf;exact q
def z3S (b:Vb 30000000 p)(e:Vb 30000000 r)(q:Q (.int (p.1*r.1+p.2*r.2))):z1e.run [vec p,vec r] Q X:=by
 obtain⟨f,g⟩:=b;obtain⟨i,j⟩:=e;walk_at "fn";ac_nf;exact q
def z2g (q:Q (vec (r.1 - p.1,r.2 - p.2))):z0F.run [vec p,vec r] Q X:=by
 walk_at "fn";ac_nf;exact q
def Vb.step {p r:Int × Int}(h:Vb 20000000 p)(k:Vb 20000000 r):Vb 30000000 (r.1 - p.1,r.2 - p.2):=⟨(Bt.sub k.1 h.1).le,(Bt.sub k.2 h.2).le⟩
def zc6 {a b c:Int × Int}{Q:DK}{X:XP}(g:Vb 20000000 a)(f:Vb 20000000 b)(i:Vb 20000000 c)(q:Q (.int (Qa a b c))):z3I.run [vec a,vec b,vec c] Q X:=by
 walk_at "fn";ac_nf;refine z2g ?_;ac_nf;refine z2g ?_;refine z3x (g.step f) (f.step i) ?_;have e:(b.1 - a.1)*(c.2 - b.2) - (b.2 - a.2)*(c.1 - b.1)=Qa a b c:=by unfold Qa;grind
 simp_all
def z9L {T:Nat->Fn}{i n:Nat}{es:List Ex}{a:Pu.Env}{Q:DK}{X:XP}(h:a.get i=some (.fn n))(q:runs es a (λds=>(T n).run ds Q X) X):(Ex.callv T i es).run a Q X:=⟨n,h,q⟩
def zcP (q:Q (.lst l.reverse)):z2a.run [.lst l] Q X:=q
def zmb {a:Type}{b:a}{r:List a}:atI (b::r).reverse (-1)=some b:=by
 unfold atI ixN;rw[if_neg (by decide),List.length_reverse,wU,if_pos (by lia)];rw[show ((-1)+((r.length+1:Nat):Int)).toNat=r.length by lia];simp
def ziN {d:Type}{a b:d}{r:List d}:atI (b::a::r).reverse (-2)=some a:=by
 unfold atI ixN;rw[if_neg (by decide),List.length_reverse,wU,wU,if_pos (by lia)];rw[show ((-2)+((r.length+1+1:Nat):Int)).toNat=r.length by lia];simp
def z6S {l:List (Int × Int)}{Q:DK}{X:XP}(N:Wb 20000000 l)(U:l.length<=100000)(q:Q (.lst ((z2F l).reverse.map vec))):z3c.run [.lst (l.map vec),.fn 0] Q X:=by
 walk_at "fn";refine z4Z (zel ?_);ac_nf;refine z22 (λx R=>by cases R) ?_;ac_rfl;ac_nf;refine z0n (f:=vec) (λJ j=>Ee2 λ(y:List (Int × Int)) x=>Aa4 (y=z2F J) (∀p∈y,p∈l) (y.length<=J.length) (j=[.s (.lst (l.map vec)),.s (.fn 0),.o (.lst (y.reverse.map vec)),x])) ⟨[],_,rfl,(λp I=>by cases I),wu _,rfl⟩ ?_ ?_
 .rintro J v r j e ⟨y,x,w,C,z,rfl⟩;have M:v∈l:=by rw[e];simp
  show Sm.run _ _ _ _ _;ac_rfl;refine Sm.cut (λj=>Ee1 λ(g:List (Int × Int))=>Aa4 (g=pops v y) (∀p∈g,p∈l) (g.length<=J.length) (j=[.s (.lst (l.map vec)),.s (.fn 0),.o (.lst (g.reverse.map vec)),.s (vec v)])) ?_ ?_
  .refine z5K (λj=>Ee1 λ(g:List (Int × Int))=>Aa4 (pops v g=pops v y) (∀p∈g,p∈l) (g.length<=J.length) (j=[.s (.lst (l.map vec)),.s (.fn 0),.o (.lst (g.reverse.map vec)),.s (vec v)])) (λj=>nL j 2) ⟨y,rfl,C,z,rfl⟩ ?_;rintro j ⟨g,m,i,u,rfl⟩;ac_nf
   match g,m,i,u with
   | [],m,i,u=>
    refine t_no (by simp) ?_;refine z4V ?_;exact⟨[],by rw[<- m];rfl,i,u,rfl⟩
   | [b],m,i,u=>
    refine t_no (by simp) ?_;refine z4V ?_;exact⟨[b],by rw[<- m];rfl,i,u,rfl⟩
   | b::a::r,m,i,u=>
    refine z2H (by simp;lia) ?_;ac_nf;refine z9L rfl ?_;ac_nf;refine z0P (z0G ziN) ?_;ac_nf;refine z0P (z0G zmb) ?_;ac_nf;have K:∀p,p∈l->Vb 20000000 p:=N;refine zc6 (K a (i a (by simp))) (K b (i b (by simp))) (K v M) ?_;ac_nf;refine z0K (λL =>?_) (λL =>?_)
    .refine zmo (z0O rfl ?_);unfold popL;rw[wd,List.length_reverse,wO,show (b::a::r).reverse[(b::a::r).length - 1]? = some b by simp];refine⟨⟨a::r,?_,λp I=>i p (wo _ I),by simp at u ⊢;lia,?_⟩,?_⟩
     .rw[<- m];show _=pops v (b::a::r);rw[pops,if_pos L]
     .simp
     .show List.length _<List.length _;simp
    .exact⟨b::a::r,by rw[<- m,pops,if_neg L],i,u,rfl⟩
  .rintro j ⟨g,m,i,u,rfl⟩;refine z5x (l:=[]) (z0O rfl ?_);ac_nf;have O:J.length<l.length:=by rw[e];simp
   refine⟨by simp;exact szl' (by lia),Safe.of_noL rfl rfl _,?_⟩;ac_rfl;refine⟨v::g,.s (vec v),?_,λp I =>?_,by simp;lia,by simp⟩
   .unfold z2F at w ⊢;rw[List.foldl_append, <- w,m]
    rfl
   .rcases wm.mp I with rfl | I
    .exact M
    .exact i p I
 rintro j ⟨y,x,w,C,z,rfl⟩;ac_nf;rw[w];exact q
def z7N {a:Type}(l:List a):(l.drop (HT.sIx l.length 0 none)).take (HT.sIx l.length l.length (some (-1)) - HT.sIx l.length 0 none)=l.dropLast:=by
 rw[List.dropLast_eq_take];show (l.drop 0).take ((if (-1)<0 then ((-1:Int)+l.length).toNat else min (-1).toNat l.length) - 0)=_
 grind
def z7g (g:Wb 20000000 l)(i:l.length<=100000)(q:Q (vecs (hull l))):z2t.run [.lst (l.map vec),.fn 0] Q X:=by
 walk_at "fn";ac_nf;rw[wd];refine z0K (λh =>?_) (λh =>?_)
 .ac_nf;rw[hull,if_pos (by lia)] at q;exact q
 ac_nf;refine z6S g i ?_;have f:∀(l:List (Int × Int)) s,(l.foldl (λs v=>v::pops v s) s).length<=l.length+s.length:=by
  have j:∀v s,(pops v s).length<=s.length:=by
   intro v s
   induction s with
   | nil=>exact wu _
   | cons b s e=>
    cases s with
    | nil=>exact wu _
    | cons a s=>
     rw[pops]
     split
     .exact Nat.le_succ_of_le e
     .exact wu _
  intro l
  induction l with
  | nil=>intro s;simp
  | cons v l e=>
   intro s;rw[List.foldl_cons];have:=e (v::pops v s);have:=j v s;simp only[wU] at*;lia
 have o:(z2F l).length<=l.length:=wP (f l []) (wu _);have r:(z2F l.reverse).length<=l.length:=wP (f l.reverse []) (by simp);refine z0s ?_ ?_
 .exact⟨trivial,trivial,trivial,trivial,trivial⟩
 ac_rfl;ac_nf;refine zcP ?_;ac_nf;rw[<- List.map_reverse];refine z6S (λp m=>g p (by simpa using m)) (by simpa using i) ?_;refine z0s ⟨trivial,trivial,trivial,trivial,trivial⟩ ?_;ac_rfl;ac_nf;rw[z2E,z2E,z7N,z7N];refine zcQ (by simp;exact szl (by lia)) ?_;ac_nf;rw[<- wD];rw[hull,if_neg (by lia)] at q;exact q
def zgI:HT.z0H [a.1,a.2] [b.1,b.2]=true↔Lx a b:=by
 rw[HT.z13,HT.z13];unfold Lx
 split
 .split
  .rw[HT.z3j]
   simp_all
  .simp;lia
 .simp;lia
def pk (p:Int × Int):List Int:=[p.1,p.2]
def zgp (h:pk p=pk r):p=r:=by
 unfold pk at h
 grind
def zer:∀{ks b:List (List Int)}{l:List (Int × Int)},ks=l.map pk->Rows ks b->∃a:List (Int × Int),b=a.map pk/\a.Pairwise Lx/\∀p,p∈a↔p∈l:=by
 intro ks b l e h;have j:∀k∈b,∃p,k=pk p:=λk i=>by
  have:=(h.mem k).mp i;rw[e] at this;obtain⟨p,_,rfl⟩:=we.mp this;exact⟨p,rfl⟩
 have m:∃a:List _,b=a.map pk:=by
  clear h e
  induction b with
  | nil=>exact⟨[],rfl⟩
  | cons k b n=>
   obtain⟨p,d⟩:=j k wB;obtain⟨a,f⟩:=n λk i=>j k (wo _ i);exact⟨p::a,by rw[d,f];rfl⟩
 obtain⟨a,rfl⟩:=m;refine⟨a,rfl,?_,λp =>?_⟩
 .have:=h.up;rw[wZ] at this;exact this.imp λz=>zgI.mp z
 .have:=h.mem (pk p);rw[e] at this
  constructor
  .intro d;obtain⟨r,f,g⟩:=we.mp (this.mp (we.mpr ⟨p,d,rfl⟩));rw[<- zgp g];exact f
  .intro d;obtain⟨r,f,g⟩:=we.mp (this.mpr (we.mpr ⟨p,d,rfl⟩));rw[<- zgp g];exact f
def Vs (d:D)(l:List (Int × Int)):Prop:=d = .tup (l.map vec)\/d = .lst (l.map vec)
def zbG (l:List (Int × Int)):l.map vec=(l.map pk).map tupD:=by rw[wM];rfl
def Vs.set {d:D}{l:List (Int × Int)}{P:List (List Int)->Prop}(h:Vs d l)(a:l.length<=63)(q:P (l.map pk)):zc3 d P:=by
 rcases h with rfl | rfl
 .exact⟨l.map pk,zbG l,by simpa using a,q⟩
 .exact⟨l.map pk,zbG l,by simpa using a,q⟩
def z0S (g:Vs d l)(f:Wb 20000000 l)(o:l.length<=63)(q:∀h,Hd l h->Q (vecs h)):z09.run [d] Q X:=by
 walk_at "fn";refine g.set o ⟨λk i =>?_,λw h =>?_⟩
 .obtain⟨p,_,rfl⟩:=we.mp i;unfold pk;simp
 obtain⟨r,rfl,e,b⟩:=zer rfl h;ac_nf;rw[<- zbG];have nd  := e.imp λz=>z.ne;have u  := z2h nd λx m=>(b x).mp m;exact z7g (λp j=>f p ((b p).mp j)) (by lia) (q _ ⟨r,e,b,rfl⟩)
def dot (p r:Int × Int):Int:=p.1*r.1+p.2*r.2
def zb3 (j:Vb 30000000 b)(r:Wb 30000000 l)(u:l≠[])(x:l.length<sizeLine)(q:∀m,m∈l.map (dot · b)->(∀p∈l,dot p b<=m)->Q (.int m)):z2w.run [vecs l,vec b] Q X:=by
 walk_at "fn";refine⟨by simp_all,?_⟩;refine z17 (g:=λp =>.int (dot p b)) (λp f K i =>?_) ?_
 .ac_nf;exact z3S (r p f) j i
 have e:(l.map λp=>D.int (dot p b))=(l.map (dot · b)).map D.int:=by rw[wM];rfl
 rw[e];refine zgv (by simpa using u) λk o w=>q k o λp f=>w _ (we.mpr ⟨p,f,rfl⟩)
end Pu
namespace Geo
def z03.cyc {S:P->Prop}{h:List P}(x:z03 S h)(l:2<=h.length){j:Nat}(g:j<h.length){a b:P}(e:h[(j+h.length - 1) % h.length]? = some a)(f:h[j]? = some b):Edge S a b:=by
 obtain⟨m,t,rfl,n,o,p,d⟩:=x.ex
 rcases d with ⟨rfl,_⟩ | ⟨_,d⟩
 .simp at l
 cases j with
 | zero=>
  rw[show (0+(m::t).length - 1) % (m::t).length=(m::t).length - 1 by simp_all] at e;simp at f;subst f;refine z7n (i:=(m::t).length - 1) d ?_ ?_
  .grind
  .simp
 | succ j=>
  rw[show (j+1+(m::t).length - 1) % (m::t).length=j by rw[show j+1+(m::t).length - 1=j+(m::t).length by lia,ug];exact wV (by lia)] at e;refine z7n (i:=j) d ?_ ?_
  .rw[wH (by lia)];exact e
  .rw[wH g];exact f
def In (h:List P)(p:P):Prop:=match h with
 | []=>False
 | [m]=>p=m
 | [a,b]=>Qa a b p=0/\0<=dot a b p/\0<=dot b a p
 | h=>∀j a b,j<h.length->h[(j+h.length - 1) % h.length]? = some a->h[j]? = some b->0<=Qa a b p
def In.three (d:3<=h.length):In h p↔∀j a b,j<h.length->h[(j+h.length - 1) % h.length]? = some a->h[j]? = some b->0<=Qa a b p:=by
 match h,d with
 | a::b::c::r,_=>rfl
def z03.in {S:P->Prop}{h:List P}(x:z03 S h){p:P}(d:S p):In h p:=by
 match h,x with
 | [],x=>obtain⟨m,t,e,_⟩:=x.ex;cases e
 | [m],x=>
  obtain⟨w,t,e,q,s,u,f⟩:=x.ex
  cases e
  rcases f with ⟨_,f⟩ | ⟨f,_⟩
  .exact f p d
  simp_all
 | [a,b],x=>
  have g:Edge S a b:=x.cyc (j:=1) (by simp) (by simp) (by simp) rfl;have i:Edge S b a:=x.cyc (j:=0) (by simp) (by simp) (by simp) rfl;have A:Qa b a p = -Qa a b p:=by unfold Qa;grind
  have z:Qa a b p=0:=by have:=g.left p d;have:=i.left p d;lia
  exact⟨z,g.btw p d z⟩
 | a::b::c::r,x=>exact λj y z o l n=>(x.cyc (by simp) o l n).left p d
def cy (h:List P)(i:Nat):P:=h.getD (i % h.length) (0,0)
def z18 {h:List P}{i:Nat}(a:0<h.length):h[i % h.length]? = some (cy h i):=by
 unfold cy;have:=jo i a
 simp_all
def z2D (a:0<h.length):cy h i∈h:=wv (z18 a)
def z7l (a:0<n):((i+1) % n+n - 1) % n=i % n:=by
 have b:=jo i a;have e:(i+1) % n=(i % n+1) % n:=by simp
 rw[e]
 rcases wR (i % n+1) n with z | z
 .rw[wV z,show i % n+1+n - 1=i % n+n by lia,ug,wV b]
 .have:i % n+1=n:=by lia
  rw[this,Nat.mod_self,Nat.zero_add,wV (by lia)];lia
def z31 (x:z03 S h)(a:2<=h.length)(i:Nat):Edge S (cy h i) (cy h (i+1)):=
 x.cyc a (jo _ (by lia)) (by rw[z7l (by lia)];exact z18 (by lia)) (z18 (by lia))
def zdD (x:z03 S h)(o:3<=h.length)(i:Nat):cy h i≠cy h (i+2):=λz=>by
 have f:=x.nodup;have m:=z18 (h:=h) (i:=i) (by lia);have d:=z18 (h:=h) (i:=i+2) (by lia);rw[<- z] at d;obtain⟨a,g⟩:=wt.mp m;obtain⟨b,j⟩:=wt.mp d;have e:i % h.length=(i+2) % h.length:=by
  rcases uI _ _ with y | y | y
  .exact(vk.mp f _ _ a b y (g.trans j.symm)).elim
  .exact y
  .exact(vk.mp f _ _ b a y (j.trans g.symm)).elim
 have l:(i+2) % h.length=(i % h.length+2) % h.length:=by simp
 rw[l] at e;generalize i % h.length=r at*
 rcases wR (r+2) h.length with y | y
 .rw[wV y] at e;lia
 .have n:(r+2) % h.length=r+2 - h.length:=by
   rw[Nat.mod_eq_sub_mod y];exact wV (by lia)
  lia
theorem zcF:∀{l:List P},(∀i a b,l[i]? = some a->l[i+1]? = some b->R a b)->Path R l
 | [],_=>trivial
 | [_],_=>trivial
 | x::y::r,h=>⟨h 0 x y rfl rfl,zcF λi a b d e=>h (i+1) a b (by simpa using d) (by simpa using e)⟩
def zfn (a:0<=Qa y m p)(b:0<=Qa m z p)(d:0<Qa y m z)(e:Lx m y)(f:Lx m z)(g:Lx p m):False:=by
 unfold Lx at e f g;have q:=zh1 (u1:=y.1 - m.1) (u2:=y.2 - m.2) (w1:=m.1 - p.1) (w2:=m.2 - p.2) (z1:=z.1 - m.1) (z2:=z.2 - m.2) (by lia) (by lia) (by lia) (by unfold Qa at a;grind) (by unfold Qa at b;grind);unfold Qa at d
 grind
def z03.fill (x:z03 S h)(l:∀p∈h,T p)(g:∀p,T p->In h p):z03 T h:=by
 have sub:=x.sub
 match h,x,l,g,sub with
 | [],x,_,_,_=>obtain⟨m,t,e,_⟩:=x.ex;cases e
 | [m],x,l,g,_=>exact⟨m,[],rfl,l m (by simp),λp d=>by rw[g p d];exact Lx.irr,by simp,.inl ⟨rfl,g⟩⟩
 | [a,b],x,l,g,sub=>
  obtain⟨m,t,e,h1,w,I,h4⟩:=x.ex
  cases e
  have r:Edge S a b:=x.cyc (j:=1) (by simp) (by simp) (by simp) rfl;have a3:Lx a b:=by
   rcases Lx.tri a b with z | z | z
   .exact z
   .exact absurd z r.ne
   .exact absurd z (w b r.sb)
  refine⟨a,[b],rfl,l a (by simp),λp d z =>?_,I,.inr ⟨by simp,⟨⟨l a (by simp),l b (by simp),r.ne,λp d =>?_,λp d _=>(g p d).2⟩,⟨l b (by simp),l a (by simp),vP r.ne,λp d =>?_,λp d _=>⟨(g p d).2.2,(g p d).2.1⟩⟩,trivial⟩⟩⟩
  .obtain⟨y1,y2,y3⟩:=g p d;obtain⟨L,M⟩:=a;obtain⟨U,W⟩:=b;obtain⟨C,E⟩:=p;simp only[Qa,dot,Lx] at*;generalize a6:U - L=u1 at*;generalize a7:W - M=u2 at*;generalize a4:C - L=q1 at*;generalize a5:E - M=F at*;have hz:q1<0\/q1=0/\F<0:=by lia
   rcases(show 0<u1\/u1=0/\0<u2 by lia) with u | ⟨u,k2⟩
   .have r:(q1*u1+F*u2)*u1=q1*(u1*u1+u2*u2):=by grind
    have n1:=z0j u1;have n2:=z0j u2;have n3:0<u1*u1:=wW u u;have Y:0<=q1*(u1*u1+u2*u2):=by rw[<- r];exact wN y2 (wz u)
    have e3:0<=q1:=z4t (show 0<u1*u1+u2*u2 by lia) Y;have Z:q1=0:=by lia
    subst Z;have G:u1*F=0:=by lia
    rcases wK.mp G with z | z <;> lia
   .subst u;have G:u2*q1=0:=by lia
    rcases wK.mp G with z | z
    .lia
    .subst z;have:0<=F*u2:=by lia
     have:=z4t k2 this;lia
  .rw[(g p d).1];exact vL _
  .have z0:Qa b a p = -Qa a b p:=by unfold Qa;grind
   rw[z0,(g p d).1];exact vL _
 | a0::R::X::r0,x,l,g,sub=>
  generalize hh:a0::R::X::r0=h at*;have A:3<=h.length:=by rw[<- hh];simp
  have n:∀p,T p->∀i,0<=Qa (cy h i) (cy h (i+1)) p:=λp d i=>by
   have q:=(In.three A).mp (g p d) ((i+1) % h.length) (cy h i) (cy h (i+1)) (jo _ (by lia));exact q (by rw[z7l (by lia)];exact z18 (by lia)) (z18 (by lia))
  have Qb:=z31 x (by lia);have J:=zdD x A;have K:∀i,0<Qa (cy h i) (cy h (i+1)) (cy h (i+2)):=λi=>z4O (Qb i) (Qb (i+1)) (J i);have N:∀i,T (cy h i):=λi=>l _ (z2D (by lia));have H:∀i,Edge T (cy h (i+1)) (cy h (i+2)):=λi=>⟨N _,N _,(Qb (i+1)).ne,λp d=>n p d (i+1),λp d z=>⟨zaq (K i) (n p d i) z,zcT (K (i+1)) (n p d (i+2)) z⟩⟩
  have f:∀i,cy h (i+h.length)=cy h i:=λi=>by unfold cy;rw[ug]
  obtain⟨m,t,e,h1,w,I,h4⟩:=x.ex;have s:cy h 0=m:=by unfold cy;rw[e];simp
  refine⟨m,t,e,l m (by rw[e];simp),λp d z =>?_,I,.inr ⟨λy=>by rw[e,y] at A;simp at A,zcF λi a b ea eb =>?_⟩⟩
  .have l1:Lx m (cy h 1):=by
    rcases Lx.tri m (cy h 1) with y | y | y
    .exact y
    .exact absurd (s.trans y) (Qb 0).ne
    .exact absurd y (w _ (Qb 0).sb)
   have O:Edge S (cy h (h.length - 1)) m:=by
    have:=Qb (h.length - 1);rw[show h.length - 1+1=0+h.length by lia,f,s] at this;exact this
   have l2:Lx m (cy h (h.length - 1)):=by
    rcases Lx.tri m (cy h (h.length - 1)) with y | y | y
    .exact y
    .exact absurd y.symm O.ne
    .exact absurd y (w _ O.sa)
   have C:=n p d (h.length - 1);rw[show h.length - 1+1=0+h.length by lia,f,s] at C;have E:=n p d 0;rw[s] at E;have Q:=K (h.length - 1);rw[show h.length - 1+1=0+h.length by lia,show h.length - 1+2=1+h.length by lia,f,f,s] at Q;exact zfn C E Q l2 l1 z
  .have hn:h.length=t.length+1:=by rw[e];simp
   have get:∀i z,(m::t++[m])[i]? = some z->i<=h.length/\z=cy h i:=λi z o=>by
    rcases uI i h.length with y | y | y
    .rw[<- e,wH y] at o;refine⟨by lia,?_⟩;have:=z18 (h:=h) (i:=i) (by lia);rw[wV y,o] at this;exact(w5 this)
    .rw[<- e,wX (by lia),y] at o;simp at o;refine⟨by lia,?_⟩;rw[show i=0+h.length by lia,f,s];exact o.symm
    .rw[<- e,uQ (by simp;lia)] at o
     cases o
   obtain⟨i1,rfl⟩:=get i a ea;obtain⟨i2,rfl⟩:=get (i+1) b eb;have:=H (i+h.length - 1);rw[show i+h.length - 1+1=i+h.length by lia,show i+h.length - 1+2=i+1+h.length by lia,f,f] at this;exact this
end Geo
namespace Pu
open PySem L2
def z6q {a:Type}{l:List a}{k:Nat}(h:k<l.length):atI l k=l[k]? := by
 unfold atI ixN
 simp_all
def zdU {a:Type}{x:a}{r:List a}:atI (x::r) 0=some x:=z6q (by simp)
def zfW {d:Type}{l:List d}{k:Nat}(h:k<l.length):atI l (k - 1)=l[(k+l.length - 1) % l.length]? := by
 unfold atI ixN
 by_cases a:0<=(k:Int) - 1
 .rw[if_pos a,if_pos (by lia)];show l[((k:Int) - 1).toNat]? = _;rw[show (k+l.length - 1) % l.length=k - 1 by rw[show k+l.length - 1=(k - 1)+l.length by lia,ug];exact wV (by lia)]
  congr 1
  lia
 .rw[if_neg a,if_pos (by lia)];have b:k=0:=by lia
  subst b;show l[(((0):Int) - 1+l.length).toNat]? = _;rw[show (0+l.length - 1) % l.length=l.length - 1 by rw[Nat.zero_add];exact wV (by lia)]
  congr 1
  lia
abbrev P:=Geo.P
def stp (a b:P):P:=(b.1 - a.1,b.2 - a.2)
def rt (s:P):P:=(s.2,-s.1)
noncomputable def z0t (h:List P)(j:Nat):List (P × P):=(rt (stp (Geo.cy h (j+h.length - 1)) (Geo.cy h j)),Geo.cy h j)::if h.length=2 then [(stp (Geo.cy h (j+h.length - 1)) (Geo.cy h j),Geo.cy h j)] else []
def ways:List P:=[(1,0),(0,1),(-1,0),(0,-1)]
noncomputable def z06 (h:List P):List (P × P):=if h.length=1 then ways.map λb=>(b,Geo.cy h 0) else (List.range h.length).flatMap (z0t h)
abbrev zhX (x:P × P):D :=.tup [vec x.1,vec x.2]
def z6P (q:Q (vec (rt s))):z2v.run [vec s] Q X:=by
 walk_at "fn";ac_nf;exact q
def z9P {h:List P}{k:Nat}(a:k<h.length):atI h k=some (Geo.cy h k):=by
 rw[z6q a, <- z18 (by lia),wV a]
def zlZ {h:List P}{k:Nat}(a:k<h.length):atI h (k - 1)=some (Geo.cy h (k+h.length - 1)):=by rw[zfW a,z18 (by lia)]
def z5w (W:h.length<=100000)(N:h≠[])(q:Q (.lst ((z06 h).map zhX))):z1R.run [vecs h,.fn 2] Q X:=by
 have C:0<h.length:=wY.mpr N;walk_at "fn";ac_nf;rw[wd];refine z0K (λL =>?_) (λL =>?_)
 .ac_nf;show onL (z04 (vecs ways)) _;ac_nf;refine⟨by rw[wd];exact szl' (by decide),?_⟩;refine z17 (g:=λb=>zhX (b,Geo.cy h 0)) (λb R K J =>?_) ?_
  .ac_nf;refine z0P (z0G (z9P (k:=0) C)) ?_;ac_nf;exact J
  .rw[z06,if_pos (by lia),wM] at q;exact q
 refine zg8 ?_;refine z4Z (zel ?_);ac_nf;refine z22 (λx O=>by cases O) ?_;ac_rfl;ac_nf;rw[wd];refine z60 (by lia) (by lia) ?_;have w:(h.length:Int).toNat=h.length:=by simp
 rw[w];have m:∀i:List Nat,(i.flatMap (z0t h)).length<=2*i.length:=by
  intro i
  induction i with
  | nil=>simp
  | cons k i Y=>
   rw[List.flatMap_cons,wC];have:(z0t h k).length<=2:=by unfold z0t;split <;> simp
   simp only[wU];lia
 refine z0n (f:=λ(j:Nat)=>D.int j) (λi p=>Ee3 λ(x y z)=>(∀d,noL d=true->noD d=true->True)/\p=[.s (vecs h),.s (.fn 2),.o (.lst ((i.flatMap (z0t h)).map zhX)),x,y,z]) ⟨_,_,_,λ_ _ _=>trivial,rfl⟩ ?_ ?_
 .rintro i k r p e ⟨x,y,z,_,rfl⟩;have u:k<h.length:=by
   have:k∈List.range h.length:=by rw[e];simp
   simpa using this
  have U:i.length<h.length:=by
   have:=congrArg List.length e;simp at this;lia
  have M:=m i;show Sm.run _ _ _ _ _;ac_rfl;ac_nf;refine z0P (z0G (z9P u)) ?_;refine z0s (Safe.of_noL rfl rfl _) ?_;ac_rfl;ac_nf;refine z9L rfl ?_;ac_nf;refine z0P (z0G (zlZ u)) ?_;ac_nf;refine z2g ?_;refine z0s (Safe.of_noL rfl rfl _) ?_;ac_rfl;refine z4Z (z5x (l:=[]) (z0O rfl ?_));ac_nf;refine z6P ?_;ac_nf;refine⟨by rw[wd];exact szl' (by lia),Safe.of_noL rfl rfl _,?_⟩;ac_rfl;ac_nf;rw[wd];refine z0K (λI =>?_) (λI =>?_)
  .refine z5x (l:=[]) (z0O rfl ?_);ac_nf;refine⟨by rw[wC,wd];exact szl' (by simp only[wU,uc];lia),Safe.of_noL rfl rfl _,?_⟩;ac_rfl;refine⟨.s (.int k),.s (vec (Geo.cy h k)),.s (vec (stp (Geo.cy h (k+h.length - 1)) (Geo.cy h k))),λ_ _ _=>trivial,?_⟩;rw[List.flatMap_append,wD,List.flatMap_cons,List.flatMap_nil,vW,z0t,if_pos (by lia)];simp[stp]
  .ac_nf;refine⟨.s (.int k),.s (vec (Geo.cy h k)),.s (vec (stp (Geo.cy h (k+h.length - 1)) (Geo.cy h k))),λ_ _ _=>trivial,?_⟩;rw[List.flatMap_append,wD,List.flatMap_cons,List.flatMap_nil,vW,z0t,if_neg (by lia)];simp[stp]
 rintro p ⟨x,y,z,_,rfl⟩;ac_nf;rw[z06,if_neg (by lia)] at q;exact q
def z4r:dot p (rt (stp a b))<=dot b (rt (stp a b))↔0<=Qa a b p:=by
 have e:dot b (rt (stp a b)) - dot p (rt (stp a b))=Qa a b p:=by
  unfold dot rt stp Qa
  grind
 lia
def z5Z:dot p (stp a b)<=dot b (stp a b)↔0<=Geo.dot b a p:=by
 have e:dot b (stp a b) - dot p (stp a b)=Geo.dot b a p:=by
  unfold dot stp Geo.dot
  grind
 lia
def z3b (a:h.length≠1)(b:s∈z06 h):∃j,j<h.length/\s∈z0t h j:=by
 rw[z06,if_neg a] at b
 simp_all
def z1K (b:h.length≠1)(a:j<h.length)(d:s∈z0t h j):s∈z06 h:=by
 rw[z06,if_neg b,List.mem_flatMap];exact⟨j,vK.mpr a,d⟩
def z7f (A:h≠[])(d:∀s∈z06 h,dot p s.1<=dot s.2 s.1):In h p:=by
 match h,A,d with
 | [m],_,d=>
  have g:=d ((1,0),m) (by simp[z06,ways,Geo.cy]);have l:=d ((0,1),m) (by simp[z06,ways,Geo.cy]);have e:=d ((-1,0),m) (by simp[z06,ways,Geo.cy]);have f:=d ((0,-1),m) (by simp[z06,ways,Geo.cy]);unfold dot at g l e f;dsimp only at g l e f;show p=m;exact ub (by lia) (by lia)
 | [a,b],_,d=>
  have t:∀s,s∈z0t [a,b] 0->s∈z06 [a,b]:=λs z=>z1K (by simp) (by simp) z;have u:∀s,s∈z0t [a,b] 1->s∈z06 [a,b]:=λs z=>z1K (by simp) (by simp) z;have g:=z4r.mp (d _ (t (rt (stp b a),a) (by simp[z0t,Geo.cy])));have l:=z4r.mp (d _ (u (rt (stp a b),b) (by simp[z0t,Geo.cy])));have e:=z5Z.mp (d _ (t (stp b a,a) (by simp[z0t,Geo.cy])));have f:=z5Z.mp (d _ (u (stp a b,b) (by simp[z0t,Geo.cy])));have C:Qa b a p = -Qa a b p:=by unfold Qa;grind
  exact⟨by lia,e,f⟩
 | a::b::c::r,_,d=>
  refine(In.three (by simp)).mpr λj x y q ex w =>?_;have n:Geo.cy (a::b::c::r) j=y:=by
   have:=z18 (h:=a::b::c::r) (i:=j) (by simp);rw[wV q,w] at this;exact(w5 this).symm
  have o:Geo.cy (a::b::c::r) (j+(a::b::c::r).length - 1)=x:=by
   have:=z18 (h:=a::b::c::r) (i:=j+(a::b::c::r).length - 1) (by simp);rw[ex] at this;exact(w5 this).symm
  have:=d (rt (stp x y),y) (z1K (j:=j) (by simp) q (by rw[z0t,n,o];exact wB));exact z4r.mp this
set_option tactic.hygienic true in
def z4s (x:z03 S h)(a:s∈z06 h):s.2∈h/\∀p,S p->dot p s.1<=dot s.2 s.1:=by
 by_cases i:h.length=1
 .obtain⟨m,rfl⟩:∃m,h=[m]:=by
   match h,i with
   | [m],_=>exact⟨m,rfl⟩
  rw[z06,if_pos i] at a;obtain⟨b,o,rfl⟩:=we.mp a;refine⟨by simp[Geo.cy],λp d =>?_⟩;have:p=m:=x.in d;subst this;exact vL _
 .obtain⟨j,q,a⟩:=z3b i a;have l:2<=h.length:=by lia
  have e:=z31 x l (j+h.length - 1);rw[show j+h.length - 1+1=j+h.length by lia,show Geo.cy h (j+h.length)=Geo.cy h j by unfold Geo.cy;rw[ug]] at e;unfold z0t at a
  rcases wm.mp a with rfl | a
  .exact⟨z2D (by lia),λp d=>z4r.mpr (e.left p d)⟩
  .split at a
   .rename_i g
    rw[wg.mp a];refine⟨z2D (by lia),λp d=>z5Z.mpr ?_⟩;have f:=z31 x l j;have n:Geo.cy h (j+h.length - 1)=Geo.cy h (j+1):=by unfold Geo.cy;rw[g];congr 1
    rw[n] at e ⊢;have u:Qa (Geo.cy h j) (Geo.cy h (j+1)) p = -Qa (Geo.cy h (j+1)) (Geo.cy h j) p:=by unfold Qa;grind
    have r:=e.left p d;have t:=f.left p d;exact(f.btw p d (by lia)).1
   .cases a
end Pu
namespace Geo
def sc (p b:P):Int:=p.1*b.1+p.2*b.2
def zbw (b:P):∀{h:List P},h≠[]->∃i,i<h.length/\∀p∈h,sc p b<=sc (cy h i) b:=by
 have d:∀{h:List P},h≠[]->∃c∈h,∀p∈h,sc p b<=sc c b:=by
  intro h
  induction h with
  | nil=>intro z;exact absurd rfl z
  | cons x r m=>
   intro _
   cases r with
   | nil=>simp_all
   | cons y r=>
    obtain⟨c,g,f⟩:=m (by simp)
    by_cases z:sc x b<=sc c b
    .refine⟨c,wo _ g,λp a =>?_⟩
     rcases wm.mp a with rfl | a
     .exact z
     .exact f p a
    .refine⟨x,by simp,λp a =>?_⟩
     rcases wm.mp a with rfl | a
     .exact vL _
     .have:=f p a;lia
 intro h l;obtain⟨c,g,f⟩:=d l;obtain⟨i,j,e⟩:=ve.mp g;refine⟨i,j,λp a =>?_⟩;have:cy h i=c:=by
  have:=z18 (h:=h) (i:=i) (by lia);rw[wV j,wn j,e] at this
  simp_all
 rw[this];exact f p a
def z03.far (x:z03 S h)(l:In h p)(b:P):∃c∈h,sc p b<=sc c b:=by
 match h,x,l with
 | [],x,_=>obtain⟨m,t,e,_⟩:=x.ex;cases e
 | [m],x,l=>exact⟨m,by simp,by rw[show p=m from l];exact vL _⟩
 | [y,z],x,l=>
  obtain⟨H,O,I⟩:=l;have E:Edge S y z:=x.cyc (j:=1) (by simp) (by simp) (by simp) rfl;have J:=E.ne;obtain⟨y1,y2⟩:=y;obtain⟨r,s⟩:=z;obtain⟨u,w⟩:=p;obtain⟨d,f⟩:=b;simp only[Qa,dot] at H O I;generalize a3:r - y1=u1 at*;generalize a4:s - y2=u2 at*;generalize a1:u - y1=n at*;generalize a2:w - y2=o at*;have g:0<u1*u1+u2*u2:=by
   have:=z0j u1;have:=z0j u2
   rcases uW (show 0<=u1*u1+u2*u2 by lia) with k | k
   .exact k
   .obtain⟨U,W⟩:=z4a k.symm;exact(J (ub (by show y1=r;lia) (by show y2=s;lia))).elim
  by_cases hb:0<=u1*d+u2*f
  .refine⟨(r,s),by simp,?_⟩;simp only[sc];have U:y1 - r = -u1:=by lia
   have W:y2 - s = -u2:=by lia
   have k3:u - r=n - u1:=by lia
   have k4:w - s=o - u2:=by lia
   rw[U,W,k3,k4] at I;have a:(r*d+s*f - (u*d+w*f))*(u1*u1+u2*u2)=((n - u1) * -u1+(o - u2) * -u2)*(u1*d+u2*f)+(u1*o - u2*n)*(u2*d - u1*f):=by
    have E:r=u1+y1:=by lia
    have e2:s=u2+y2:=by lia
    have F:u=n+y1:=by lia
    have G:w=o+y2:=by lia
    subst E e2 F G
    grind
   rw[H,je,ux] at a;have:=z4t g (by rw[a];exact wN I hb);lia
  .refine⟨(y1,y2),by simp,?_⟩;simp only[sc];have a:(y1*d+y2*f - (u*d+w*f))*(u1*u1+u2*u2)=(n*u1+o*u2) * -(u1*d+u2*f) - (u1*o - u2*n)*(u1*f - u2*d):=by
    have F:u=n+y1:=by lia
    have G:w=o+y2:=by lia
    subst F G
    grind
   rw[H,je,Int.sub_zero] at a;have:=z4t g (by rw[a];exact wN O (by lia));lia
 | a0::Z::c0::r0,x,l=>
  generalize Q:a0::Z::c0::r0=h at*;have R:3<=h.length:=by rw[<- Q];simp
  have A:∀i,0<=Qa (cy h i) (cy h (i+1)) p:=λi=>by
   have q:=(In.three R).mp l ((i+1) % h.length) (cy h i) (cy h (i+1)) (jo _ (by lia));exact q (by rw[z7l (by lia)];exact z18 (by lia)) (z18 (by lia))
  have Qb:=z31 x (by lia);have L:=zdD x R;have tn:∀i,0<Qa (cy h i) (cy h (i+1)) (cy h (i+2)):=λi=>z4O (Qb i) (Qb (i+1)) (L i);have C:∀i,cy h (i+h.length)=cy h i:=λi=>by unfold cy;rw[ug]
  obtain⟨i,hi,T⟩:=zbw b (h:=h) (by rw[<- Q];simp);refine⟨cy h i,z2D (by lia),?_⟩;have m1:=T (cy h (i+h.length - 1)) (z2D (by lia));have m2:=T (cy h (i+1)) (z2D (by lia));have M:=tn (i+h.length - 1);have X:=A (i+h.length - 1);have Y:=A i;rw[show i+h.length - 1+1=i+h.length by lia,C] at M X;rw[show i+h.length - 1+2=(i+1)+h.length by lia,C] at M;generalize cy h (i+h.length - 1)=y at*;generalize cy h i=c at*;generalize cy h (i+1)=z at*;unfold Qa at M X Y;unfold sc at m1 m2 ⊢;have N:0<(z.1 - c.1)*(y.2 - c.2) - (z.2 - c.2)*(y.1 - c.1):=by grind
  have K:0<=(p.1 - c.1)*(y.2 - c.2) - (p.2 - c.2)*(y.1 - c.1):=by grind
  have a:(c.1*b.1+c.2*b.2 - (p.1*b.1+p.2*b.2))*((z.1 - c.1)*(y.2 - c.2) - (z.2 - c.2)*(y.1 - c.1))=((p.1 - c.1)*(y.2 - c.2) - (p.2 - c.2)*(y.1 - c.1))*(c.1*b.1+c.2*b.2 - (z.1*b.1+z.2*b.2))+((z.1 - c.1)*(p.2 - c.2) - (z.2 - c.2)*(p.1 - c.1))*(c.1*b.1+c.2*b.2 - (y.1*b.1+y.2*b.2)):=by grind
  have n1:=wN K (show 0<=c.1*b.1+c.2*b.2 - (z.1*b.1+z.2*b.2) by lia);have n2:=wN Y (show 0<=c.1*b.1+c.2*b.2 - (y.1*b.1+y.2*b.2) by lia);have:=z4t N (by rw[a];lia);lia
def sca (c:Int)(v:P):P:=(v.1*c,v.2*c)
def zc5 {c:Int}(f:0<c)(h:sca c a=sca c b):a=b:=by
 have d:=congrArg Prod.fst h;have e:=congrArg Prod.snd h;exact ub (w9 (by lia) d) (w9 (by lia) e)
def zlD {c:Int}(f:0<c):Lx (sca c a) (sca c b)->Lx a b:=by
 intro h
 rcases h with h | ⟨d,e⟩
 .exact .inl (Int.lt_of_mul_lt_mul_right h (by lia))
 .exact .inr ⟨w9 (by lia) d,Int.lt_of_mul_lt_mul_right e (by lia)⟩
def zgW (c:Int)(a b p:P):Qa (sca c a) (sca c b) (sca c p)=c*c*Qa a b p:=by
 simp[Qa,sca]
 grind
def zdv (c:Int)(a b p:P):dot (sca c a) (sca c b) (sca c p)=c*c*dot a b p:=by
 simp[dot,sca]
 grind
theorem Path.mapTo (d:∀a b,R a b->R' (f a) (f b)):∀{l:List P},Path R l->Path R' (l.map f)
 | [],_=>trivial
 | [_],_=>trivial
 | a::b::r,h=>⟨d a b h.1,Path.mapTo d h.2⟩
theorem z03.sca {l h:List P}{c:Int}(j:0<c)(x:z03 (· ∈ l) h):z03 (· ∈ l.map (sca c)) (h.map (sca c)):=by
 have u:0<c*c:=wW j j;obtain⟨m,t,rfl,o,r,s,i⟩:=x.ex;refine⟨Geo.sca c m,t.map (Geo.sca c),by rw[wA],we.mpr ⟨m,o,rfl⟩,λp g z =>?_,λz =>?_,?_⟩
 .obtain⟨q,d,rfl⟩:=we.mp g;exact r q d (zlD j z)
 .obtain⟨q,d,e⟩:=we.mp z;exact s (zc5 j e ▸ d)
 .rcases i with ⟨rfl,i⟩ | ⟨n,i⟩
  .refine .inl ⟨rfl,λp g =>?_⟩;obtain⟨q,d,rfl⟩:=we.mp g;rw[i q d]
  .refine .inr ⟨by simpa using n,?_⟩;have:=i.mapTo (R':=Edge (· ∈ l.map (Geo.sca c))) (f:=Geo.sca c) λa b e =>?_
   .rw[wD,wA] at this;exact this
   refine⟨we.mpr ⟨a,e.sa,rfl⟩,we.mpr ⟨b,e.sb,rfl⟩,λz=>e.ne (zc5 j z),λp g =>?_,λp g z =>?_⟩
   .obtain⟨q,d,rfl⟩:=we.mp g;rw[zgW];exact wN (by lia) (e.left q d)
   .obtain⟨q,d,rfl⟩:=we.mp g;rw[zgW] at z;have w:Qa a b q=0:=(wK.mp z).resolve_left (by lia);have:=e.btw q d w;rw[zdv,zdv];exact⟨wN (by lia) this.1,wN (by lia) this.2⟩
theorem z5a:∀{l:List Int},(∀x∈l,0<=x)->0<=l.sum/\∀x∈l,x<=l.sum
 | [],_=>⟨by simp,λx a=>by cases a⟩
 | y::l,h=>by
  have d:=z5a (l:=l) λx a=>h x (by simp[a]);have b:=h y (by simp);rw[wQ]
  grind
end Geo
namespace Pu
open PySem L2
def Far (m:Int)(p:Int × Int):Prop:=(-m<=p.1/\p.1<=m) /\ -m<=p.2/\p.2<=m
def Far.vb {m:Int}{n:Nat}{p:Int × Int}(h:Far m p)(f:m<2 ^ n):Vb n p:=by
 obtain⟨⟨a,b⟩,d,e⟩:=h;refine⟨z05 ?_,z05 ?_⟩ <;> lia
def zjw {s t:Sm}{b:Pu.Env}{N:Pu.Env->Prop}{Q:DK}{X:XP}(W:Pu.Env->Prop)(h:s.run b W Q X)(k:∀a,W a->t.run a N Q X):(Sm.seq s t).run b N Q X:=s.mono b W _ Q Q X X k (λ_ z=>z) (λ_ z=>z) h
def zgT {a:Type}{f:a->D}{l:List a}{k:Int}(h:0<=k):cutD (l.map f) (some k) none=(l.drop k.toNat).map f:=by
 have b:HT.sIx l.length 0 (some k)=min k.toNat l.length:=by
  show (if k<0 then (k+l.length).toNat else min _ _)=_;rw[if_neg (by lia)]
 rw[z2E,b];show ((l.drop _).take (l.length - min _ _)).map f=_;rw[uE (by simp)]
 simp_all
open Mth
structure Pl (x y b u v t:Int):Prop where
 pos:0<t
 cop:Int.gcd ((Int.gcd u v):Int) t=1
 cx:u*b=x*t
 cy:v*b=y*t
def Pl.of {x y b u v t:Int}(h:Plc x y b u v t):Pl x y b u v t:=⟨by have:=h.pos;lia,h.cop,h.cx,h.cy⟩
def z7M {u v t b:Int}(e:Int.gcd ((Int.gcd u v):Int) t=1)(h:t ∣ u*b)(i:t ∣ v*b):t ∣ b:=by
 have f:t.natAbs ∣ u.natAbs*b.natAbs:=by rw[<- uo];simp_all
 have g:t.natAbs ∣ v.natAbs*b.natAbs:=by rw[<- uo];simp_all
 have d:=j9 f g;rw[Nat.gcd_mul_right] at d;have a:Nat.Coprime t.natAbs (Nat.gcd u.natAbs v.natAbs):=by
  rw[z3n,j0] at e;exact e
 exact uP.mp (a.dvd_of_dvd_mul_left d)
def Pl.dvd {x y b u v t:Int}(h:Pl x y b u v t):t ∣ b:=z7M h.cop ⟨x,by rw[h.cx,wS]⟩ ⟨y,by rw[h.cy,wS]⟩
def Pl.eq {x y b u v t a i t':Int}(q:0<b)(h:Pl x y b u v t)(k:Pl x y b a i t'):u=a/\v=i/\t=t':=by
 have g:b≠0:=by lia
 have j:∀{u a x:Int},u*b=x*t->a*b=x*t'->u*t'=a*t:=λ{u a x} o p=>by
  apply w9 g
  calc u*t'*b=(u*b)*t':=by grind
   _=(a*b)*t:=by rw[o,p];grind
   _=a*t*b:=by grind
 have d:=j h.cx k.cx;have f:=j h.cy k.cy;have m:t ∣ t':=z7M h.cop ⟨a,by rw[d,wS]⟩ ⟨i,by rw[f,wS]⟩;have n:t' ∣ t:=z7M k.cop ⟨u,by rw[<- d,wS]⟩ ⟨v,by rw[<- f,wS]⟩;have e:t=t':=Int.dvd_antisymm (by have:=h.pos;lia) (by have:=k.pos;lia) m n;subst e;have l:t≠0:=by have:=h.pos;lia
 exact⟨w9 l d,w9 l f,rfl⟩
def Pl.bt {x y b u v t:Int}{n m:Nat}(i:0<b)(h:Pl x y b u v t)(f:Bt n b)(g:Bt m x)(d:Bt m y):Bt n t/\Bt m u/\Bt m v:=by
 obtain⟨k,a⟩:=h.dvd;have j:=h.pos;have le:∀{u x:Int},u*b=x*t->u.natAbs<=x.natAbs:=λ{u x} e=>by
  have:u*k=x:=by
   apply w9 (show t≠0 by lia);rw[<- e,a]
   grind
  rw[<- this,uo];exact Nat.le_mul_of_pos_right _ (by lia)
 refine⟨f.of_abs ?_,g.of_abs (le h.cx),d.of_abs (le h.cy)⟩;rw[a,uo];exact Nat.le_mul_of_pos_right _ (by lia)
def zdW (a:Int):(if a<0 then -a else a)=a.natAbs:=by split <;> lia
def z3T (q:Q (.int ((Int.gcd a b):Int))):z0e.run [.int a,.int b] Q X:=by
 walk_at "fn";ac_nf;rw[zdW,zdW];refine z5K (λf=>Ee3 λ(g s:Nat) x=>Nat.gcd g s=Int.gcd a b/\f=[.s (.int a),.s (.int b),.s (.int g),.s (.int s),x]) (λf=>(nI f 3).toNat) ⟨a.natAbs,b.natAbs,_,rfl,rfl⟩ ?_;rintro f ⟨g,s,x,e,rfl⟩;ac_nf;refine z1p (z0K (λz =>?_) (λz =>?_))
 .ac_nf;have:s=0:=by lia
  subst this;rw[Nat.gcd_zero_right] at e;rw[e];exact q
 .ac_nf;have i:g % s=((g % s:Nat):Int):=by simp
  refine⟨⟨s,g % s,_,by rw[<- e,j0 g s,Nat.gcd_rec s g,j0],by rw[i]⟩,?_⟩;show (g % (s:Int)).toNat<(s:Int).toNat
  rw[i];have:=jo g (show 0<s by lia);lia
def z6v (e:0<b)(f:Bt 8000 b)(q:∀u v t,Pl x y b u v t->Q (.tup [.int u,.int v,.int t])):z2e.run [.int x,.int y,.int b] Q X:=by
 have g:=zgo (x:=x) (y:=y) e;have j:=zaB (x:=x) (y:=y) e;have i:Bt 9000 _:=Bt.le (f.of_abs (by
  have:=uP.mpr (z5H x y b);exact Nat.le_of_dvd (by lia) this))
 walk_at "fn";ac_nf;refine z3T ?_;ac_nf;refine z3T ?_;rw[show ((Int.gcd _ y):Int)=g3 x y b from rfl];ac_nf;exact q _ _ _ (Pl.of g)
def gcd0 (u t:Int):Int.gcd ((Int.gcd u 0):Int) t=Int.gcd u t:=by simp[Int.gcd]
def Pl.low {t b:Int}(f:0<b):Pl t 0 b (t / (Int.gcd t b)) 0 (b / (Int.gcd t b)):=by
 obtain⟨i,a,d,h,e⟩:=z3J (t:=t) f;refine⟨by lia,by rw[gcd0];exact e,?_,by simp⟩;generalize (Int.gcd t b)=g at*;generalize t / g=u at*;generalize b / g=w at*;rw[d,a]
 grind
def z9l {a b c d:Int}(C:0<b)(I:0<d)(p:Int.gcd a b=1)(w:Int.gcd c d=1)(O:Bt 8000 a)(e:Bt 8000 b)(R:Bt 8000 c)(f:Bt 8000 d)
  (q:∀u t,Pl (a*d+c*b) 0 (b*d) u 0 t->Q (.tup [.int u,.int t])):z5d.run [.tup [.int a,.int b],.tup [.int c,.int d]] Q X:=by
 obtain⟨g,i⟩:∃g,g=((Int.gcd b d):Int):=⟨_,rfl⟩
 obtain⟨t,m⟩:∃t,t=a*(d / g)+c*(b / g):=⟨_,rfl⟩
 obtain⟨r,j⟩:∃r,r=((Int.gcd g t):Int):=⟨_,rfl⟩
 obtain⟨o,J,gl,K,pl⟩:=zcw (x:=a) (y:=0) (z:=b) (a:=c) (b:=0) (c:=d) (v:=0) (r:=r) C I (by rw[gcd0];exact p) (by rw[gcd0];exact w) i m (by simp) (by rw[j];simp);have U:Bt 9000 g:=Bt.le (e.of_abs gl);have W:Bt 9000 r:=Bt.le (e.of_abs K);have L:Bt 8000 (d / g):=f.of_abs (z1h o);have M:Bt 8000 (b / g):=e.of_abs (z1h o);have N:Bt 8000 (d / r):=f.of_abs (z1h J);walk_at "fn";ac_nf;refine z3T ?_;rw[<- i];ac_nf;rw[<- m];refine z3T ?_;rw[<- j];ac_nf;have:=Pl.of pl;simp only[Int.zero_ediv,je,ux] at this;exact q _ _ this
abbrev Sh:=Nat × Int × Int
noncomputable abbrev shD (s:Sh):D :=.tup [.int (s.1),.tup [.int s.2.1,.int s.2.2]]
def wx (l:List P)(k:Nat):Int:=(Geo.cy l k).1
def wy (l:List P)(k:Nat):Int:=(Geo.cy l k).2
def z0X {c k m:Int}(g:0<=k)(b:k<=1000)(e:0<m)(q:∀r:Int,0<=r->r<m->Q (.int r)):z00.run [.int c,.int k,.int m] Q X:=by
 have f:Bt 700 (c % 170141183460469231731687303715884105727+(k+3)*1000000007):=(Bt.add (z05 (n:=130) (by lia)) (z05 (n:=130) (by lia))).le;walk_at "fn";ac_nf;exact q _ (j6 _ (by lia)) (jE _ e)
def Ln (d:D):Prop:=d = .non\/∃p:P,d=vec p/\Far 3 p
def zcc {c m:Int}(u:0<=m)(r:m<=1000000000)(q:∀p,Far 1000000000 p->Q (vec p)):z0i.run [.int c,.int m] Q X:=by
 have b:0<2*m+1:=by lia
 have e:Bt 640 m:=z05 (by lia);have f:Bt 9000 (2*m+1):=Bt.le (m:=40) (z05 (by lia));walk_at "fn";ac_nf;have g:=j6 c (show 2*m+1≠0 by lia);have i:=jE c b;have j:=j6 (c / (2*m+1)) (show 2*m+1≠0 by lia);have o:=jE (c / (2*m+1)) b;exact q (c % (2*m+1) - m,c / (2*m+1) % (2*m+1) - m) ⟨⟨by lia,by lia⟩,by lia,by lia⟩
abbrev wtD (x:List P × P):D :=.tup [vecs x.1,vec x.2]
def zgx (x:List P × P):noL (wtD x)=true:=by
 have:=z1m x.1;simpa[noLs,noL] using this
def zgy (x:List P × P):noD (wtD x)=true:=by
 have:=z1n x.1;simpa[noDs,noD] using this
def min2 (a b:Int):(if b<a then b else a)=min a b:=by split <;> lia
def z8b {k:Int}(h:0<=k):HT.sIx n d (some k)=min k.toNat n:=by
 show (if k<0 then (k+n).toNat else min _ n)=_;rw[if_neg (by lia)]
def za9 (q:∀c,(c % 2=1->ns≠[])->Q (.int c)):z0d.run [.lst (ns.map .int),.int 0] Q X:=by
 walk_at "fn";refine z0K (λh =>?_) (λh =>?_)
 .ac_nf;rw[wd] at h;obtain⟨v,_,e⟩:=z5s (by decide) h;rw[z0G e];exact q v λ_ z=>by simp_all
 .exact q 0 λz=>by lia
theorem z4P {a b:Type}{f:a->D}{g:b->D}{P:a->b->Prop}{G:D->(Option D->Prop)->Prop}:∀{l:List a}{M:List D->Prop},(∀x∈l,∀K:Option D->Prop,(∀y,P x y->K (some (g y)))->G (f x) K)->(∀ys:List b,ys.length=l.length->(∀(i:Nat) h,∃y,ys[i]? = some y/\P l[i] y)->M (ys.map g))->z4R G (l.map f) M
 | [],_,_,q=>q [] rfl (λi h=>absurd h (by simp))
 | x::r,M,h,q=>h x wB _ λy j=>z4P (λz m=>h z (wo _ m)) λys e d=>q (y::ys) (by simp[e]) λi n=>by
  cases i with
  | zero=>exact⟨y,rfl,j⟩
  | succ i=>exact d i _
def most (l:List P)(b:P):Int->Prop:=λm=>m∈l.map (dot · b)/\∀p∈l,dot p b<=m
def zih (h:most l b m)(k:most l b n):m=n:=by
 obtain⟨p,a,rfl⟩:=we.mp h.1;obtain⟨r,d,rfl⟩:=we.mp k.1;exact Int.le_antisymm (k.2 p a) (h.2 r d)
def Sums (ws:List (List P × P))(b:P)(t:Int):Prop:=∃a:List Int,a.length=ws.length/\(∀(i:Nat) h,∃m,most ws[i].1 b m/\a[i]? = some (m+dot ws[i].2 b))/\t=a.sum
def Sums.nil {b:P}:Sums [] b 0:=⟨[],rfl,λi h=>absurd h (by simp),rfl⟩
def Sums.snoc (h:Sums ws b s)(k:most x.1 b m):Sums (ws++[x]) b (s+m+dot x.2 b):=by
 obtain⟨g,d,e,rfl⟩:=h;refine⟨g++[m+dot x.2 b],by simp[d],λi f =>?_,by simp[u5];lia⟩
 rcases wR i _ with z | z
 .obtain⟨n,j,a⟩:=e i z;refine⟨n,?_,?_⟩
  .simp_all
  .rw[wH (by lia),List.getElem_append_left z];exact a
 .obtain rfl:i=ws.length:=by simp at f;lia
  simp_all
def z86 (b:Vb 30000000 p)(e:Vb 30000000 r)(q:Q (.int (dot p r))):z0z.run [vec p,vec r] Q X:=by
 obtain⟨f,g⟩:=b;obtain⟨i,j⟩:=e;walk_at "fn";ac_nf;exact q
def zaG (p r:P):dot p r=dot r p:=by
 simp[dot];rw[wS p.1,wS p.2]
abbrev zee (s:P × P):D :=.tup [vec s.1,.int (dot s.2 s.1)]
def zh7 (o:h≠[])(m:Wb 10000000 h)(a:s∈z06 h):Vb 20000000 s.1/\s.2∈h:=by
 have e  := wY.mpr o
 by_cases n:h.length=1
 .rw[z06,if_pos n] at a;obtain⟨b,d,rfl⟩:=we.mp a;refine⟨?_,z2D e⟩;show Vb _ b;unfold ways at d;simp[wm,wE,vO] at d
  rcases d with rfl | rfl | rfl | rfl <;> exact⟨(bt_k (by decide +kernel)).le,(bt_k (by decide +kernel)).le⟩
 .obtain⟨j,p,a⟩:=z3b n a;have g:=m _ (z2D (i:=j+h.length - 1) e);have l:=m _ (z2D (i:=j) e);have f:Vb 20000000 (stp _ _):=⟨(Bt.sub l.1 g.1).le,(Bt.sub l.2 g.2).le⟩
  rcases wm.mp a with rfl | a
  .exact⟨⟨f.2,f.1.neg⟩,z2D e⟩
  .split at a
   .rw[wg.mp a];exact⟨f,z2D e⟩
   .cases a
def zc0 (x:z03 S h)(d:s∈z06 h):s.1≠(0,0):=by
 by_cases f:h.length=1
 .rw[z06,if_pos f] at d;obtain⟨b,a,rfl⟩:=we.mp d;show b≠(0,0);unfold ways at a;simp only[wm,wE,vO] at a
  rcases a with rfl | rfl | rfl | rfl <;> decide
 .obtain⟨j,m,d⟩:=z3b f d;have e:=z31 x (by lia) (j+h.length - 1);rw[show j+h.length - 1+1=j+h.length by lia,show Geo.cy h (j+h.length)=Geo.cy h j by unfold Geo.cy;rw[ug]] at e;have i:stp (Geo.cy h (j+h.length - 1)) (Geo.cy h j)≠(0,0):=λz=>by
   unfold stp at z
   injection z with g l
   exact e.ne (ub (by lia) (by lia))
  unfold z0t at d
  rcases wm.mp d with rfl | d
  .intro z;unfold rt at z
   injection z with g l
   exact i (ub (by dsimp only;lia) g)
  simp_all
def z5Y (h:List P):(z06 h).length<=2*h.length+4:=by
 unfold z06
 split
 .simp[ways]
 .have:∀a:List Nat,(a.flatMap (z0t h)).length<=2*a.length:=by
   intro a
   induction a with
   | nil=>simp
   | cons k a b=>
    rw[List.flatMap_cons,wC];have:(z0t h k).length<=2:=by unfold z0t;split <;> simp
    grind
  grind
def z4Y (z:Vs d l)(f:Wb 10000000 l)(C:l≠[])(L:l.length<=63)(q:∀h,Hd l h->Q (.tup ((z06 h).map zee))):z25.run [d] Q X:=by
 walk_at "fn";ac_nf;refine z0S z f.le L λh o =>?_;have x:=o.is C;have i:=x.sub;have M:h.length<=l.length:=z2h x.nodup i;have b:h≠[]:=by
  obtain⟨m,t,w,_⟩:=x.ex;rw[w];simp
 ac_nf;refine z5w (by lia) b ?_;have J:=z5Y h;refine z0s ⟨trivial,trivial,trivial⟩ ?_;ac_rfl;ac_nf;refine⟨by rw[wd];exact szl' (by lia),?_⟩;refine z17 (g:=zee) (λs j K y =>?_) ?_
 .obtain⟨r,u⟩:=zh7 b (λp I=>f p (i p I)) j;refine⟨rfl,?_⟩;show Ex.run _ _ _ _;unfold z0m z0m z0m;ac_rfl;ac_nf;refine z3S r.le ((f _ (i _ u)).le) ?_;ac_nf;have e:s.1.1*s.2.1+s.1.2*s.2.2=dot s.2 s.1:=by unfold dot;grind
  rw[e];exact y
 ac_nf;exact q h o
def zno (q:Q (.bl (!decide (x=y)))):pNe.run [.bl x,.bl y] Q X:=q
theorem filterMap_map {a b:Type}{f:a->Option b}{g:a->b}:∀{ks:List a},(∀k∈ks,f k=some (g k))->ks.filterMap f=ks.map g
 | [],_=>rfl
 | k::ks,h=>by rw[uF,h k (by simp),wA,filterMap_map λx d=>h x (by simp[d])]
def zdi (x:z03 T h)(d:∀p∈h,S p)(g:∀p,S p->∀b:P,∃c,T c/\dot p b<=dot c b):z03 S h:=by
 refine x.fill d λp i=>z7f (by obtain⟨m,t,e,_⟩:=x.ex;rw[e];simp) λs d =>?_;obtain⟨c,f,a⟩:=g p i s.1;exact jM a ((z4s x d).2 c f)
def z2Y (q:Q (vec (p.1+r.1,p.2+r.2))):z10.run [vec p,vec r] Q X:=by
 walk_at "fn";ac_nf;exact q
def mv (s p:P):P:=(p.1+s.1,p.2+s.2)
def z6R (b:Wb 600 l)(f:Vb 600 s)(m:l.length<=62)(q:∀h,Hd (l.map (mv s)) h->Q (vecs h)):z2x.run [.tup [vecs l,vec s]] Q X:=by
 walk_at "fn";ac_nf;refine⟨by rw[wd];exact szl' (by lia),?_⟩;refine z17 (g:=λp=>vec (mv s p)) (λp e K j =>?_) ?_
 .ac_nf;exact z2Y j
 refine z0S (.inr (by rw[wM];rfl)) (λp e =>?_) (by simp;lia) q;obtain⟨v,i,rfl⟩:=we.mp e;exact⟨(Bt.add (b v i).1 f.1).le,(Bt.add (b v i).2 f.2).le⟩
end Pu
namespace Geo
def cx (u v:P):Int:=u.1*v.2 - u.2*v.1
def Rs (u:P):Prop:=0<u.1\/(u.1=0/\0<u.2)
instance (u:P):Decidable (Rs u):=inferInstanceAs (Decidable (_\/_))
def Be (u v:P):Prop:=(Rs u/\¬ Rs v)\/((Rs u↔Rs v)/\0<cx u v)
instance (u v:P):Decidable (Be u v):=inferInstanceAs (Decidable (_\/_))
def z8c (h:u≠(0,0)):Rs (ng u)↔¬ Rs u:=by
 obtain⟨a,b⟩:=u;have:¬ (a=0/\b=0):=λ⟨d,e⟩=>h (by rw[d,e]);simp[Rs,ng];lia
def zbx (u v:P):cx (ng u) (ng v)=cx u v:=by simp[cx,ng];grind
def zgS (u v:P):cx (ng u) v=cx v u:=by simp[cx,ng];grind
def zdF (u v:P):cx u (ng v) = -cx u v:=by simp[cx,ng];grind
def znv (h:u≠(0,0)):ng u≠(0,0):=λz=>h (by
 have a:=congrArg Prod.fst z;have b:=congrArg Prod.snd z;simp[ng] at a b;exact ub (by lia) (by lia))
def zdl {u v w:P}(n:Rs u)(f:Rs v)(o:Rs w)(g:0<cx u v)(h:0<cx v w):0<cx u w:=by
 obtain⟨u1,b⟩:=u;obtain⟨a,d⟩:=v;obtain⟨w1,e⟩:=w;simp only[Rs,cx] at*;have j:(u1*e - b*w1)*a=(u1*d - b*a)*w1+(a*e - d*w1)*u1:=by grind
 rcases f with f | ⟨f,i⟩
 .rcases uj 0 (u1*e - b*w1) with z | z
  .exact z
  .exfalso
   have p:(u1*e - b*w1)*a<=0:=vG z (by lia);have q:0<=(u1*d - b*a)*w1:=wN (by lia) (by lia);have r:0<=(a*e - d*w1)*u1:=wN (by lia) (by lia);have m:(a*e - d*w1)*u1=0:=by omega
   have l:u1=0:=(wK.mp m).resolve_left (by lia);subst l;have:=wW (show 0<b by lia) f;simp at g;lia
 .subst f;have:0<=d*w1:=wN (by lia) (by lia);simp at h;lia
def zdk {u v w:P}(n:Rs u)(a:Rs v)(o:Rs w)(h:0<cx u w):0<cx u v\/0<cx v w:=by
 obtain⟨b,g⟩:=u;obtain⟨i,j⟩:=v;obtain⟨w1,m⟩:=w;simp only[Rs,cx] at*
 rcases uj 0 _ with d | d
 .exact .inl d
 rcases uj 0 _ with f | f
 .exact .inr f
 exfalso
 have p:(b*j - g*i)*w1<=0:=vG d (by lia);have r:(i*m - j*w1)*b<=0:=vG f (by lia)
 rcases a with a | ⟨a,e⟩
 .have:=wW h a;lia
 .subst a;simp at d;have l:b=0:=by
   rcases uj 0 b with q | q
   .have:=wW q e;lia
   .lia
  subst l;have:0<=g*w1:=wN (by lia) (by lia);simp at h;lia
def Be.tr {u v w:P}(g:u≠(0,0))(h:v≠(0,0))(i:w≠(0,0))(f:Be u v)(e:Be v w):Be u w:=by
 rcases f with ⟨a,b⟩ | ⟨a,b⟩
 .rcases e with ⟨c,d⟩ | ⟨c,d⟩
  .exact absurd c b
  .exact .inl ⟨a,λz=>b (c.mpr z)⟩
 .rcases e with ⟨c,d⟩ | ⟨c,d⟩
  .exact .inl ⟨a.mpr c,d⟩
  .refine .inr ⟨a.trans c,?_⟩
   by_cases r:Rs u
   .exact zdl r (a.mp r) (c.mp (a.mp r)) b d
   .have:=zdl ((z8c g).mpr r) ((z8c h).mpr λz=>r (a.mpr z)) ((z8c i).mpr λz=>r (a.mpr (c.mpr z))) (by rw[zbx];exact b) (by rw[zbx];exact d)
    rwa [zbx] at this
def Be.wk {u v w:P}(d:u≠(0,0))(e:v≠(0,0))(f:w≠(0,0))(h:Be u w):Be u v\/Be v w:=by
 rcases h with ⟨a,b⟩ | ⟨a,b⟩
 .by_cases r:Rs v
  .exact .inr (.inl ⟨r,b⟩)
  .exact .inl (.inl ⟨a,r⟩)
 .by_cases r:Rs u
  .by_cases s:Rs v
   .rcases zdk r s (a.mp r) b with z | z
    .exact .inl (.inr ⟨⟨λ_=>s,λ_=>r⟩,z⟩)
    .exact .inr (.inr ⟨⟨λ_=>a.mp r,λ_=>s⟩,z⟩)
   .exact .inl (.inl ⟨r,s⟩)
  .by_cases s:Rs v
   .exact .inr (.inl ⟨s,λz=>r (a.mpr z)⟩)
   .rcases zdk ((z8c d).mpr r) ((z8c e).mpr s) ((z8c f).mpr λz=>r (a.mpr z)) (by rw[zbx];exact b) with z | z
    .rw[zbx] at z;exact .inl (.inr ⟨⟨λq=>absurd q r,λq=>absurd q s⟩,z⟩)
    .rw[zbx] at z;exact .inr (.inr ⟨⟨λq=>absurd q s,λq=>absurd (a.mpr q) r⟩,z⟩)
def Be.irr:¬ Be u u:=by
 rintro(⟨a,b⟩ | ⟨_,b⟩)
 .exact b a
 .have:cx u u=0:=by simp[cx];grind
  lia
noncomputable def Dt (t:P)(l:List P):Int:=(l.map (cx · t)).sum
def Dt.app (t:P)(l m:List P):Dt t (l++m)=Dt t l+Dt t m:=by unfold Dt;simp_all
theorem Dt.nonneg {t:P}:∀{l:List P},(∀u∈l,0<=cx u t)->0<=Dt t l
 | [],_=>by simp[Dt]
 | u::l,h=>by
  have:=Dt.nonneg (l:=l) λx a=>h x (by simp[a]);have:=h u (by simp);simp[Dt] at*;lia
theorem Dt.nonpos {t:P}:∀{l:List P},(∀u∈l,cx u t<=0)->Dt t l<=0
 | [],_=>by simp[Dt]
 | u::l,h=>by
  have:=Dt.nonpos (l:=l) λx a=>h x (by simp[a]);have:=h u (by simp);simp[Dt] at*;lia
theorem z7o {t:P}(d:∀u v:P,R u v->Be v t->Be u t):∀{E:List P},E.Pairwise R->∃F G,E=F++G/\(∀u∈F,Be u t)/\(∀u∈G,¬ Be u t)
 | [],_=>⟨[],[],rfl,λ_ h=>by(cases h),λ_ h=>by(cases h)⟩
 | u::E,h=>by
  rw[w6] at h
  by_cases b:Be u t
  .obtain⟨F,G,e,f,g⟩:=z7o d h.2;exact⟨u::F,G,by rw[e];rfl,λx a=>(wm.mp a).elim (λz=>z ▸ b) (f x),g⟩
  .exact⟨[],u::E,rfl,λ_ h=>by(cases h),λx a=>(wm.mp a).elim (λz=>z ▸ b) λz q=>b (d u x (h.1 x z) q)⟩
def lead {t:P}(p:t≠(0,0))(i:∀u∈E,u≠(0,0))(j:E.Pairwise Be)(J:Dt t E=0)(e:E=F++G)(y:∀u∈F,Be u t)(n:∀u∈G,¬ Be u t)(k:E=K++L):Dt t K<=Dt t F:=by
 have x:Dt t F+Dt t G=0:=by rw[<- Dt.app, <- e];exact J
 have M:∀u∈F,u≠(0,0):=λu b=>i u (by rw[e];simp[b]);have N:∀u∈G,u≠(0,0):=λu b=>i u (by rw[e];simp[b]);have H:=znv p
 by_cases r:Rs t
 .have A:∀u∈F,0<cx u t:=λu b=>by
   rcases y u b with ⟨_,z⟩ | ⟨_,z⟩
   .exact absurd r z
   .exact z
  have S:0<=Dt t F:=Dt.nonneg λu b=>wz (A u b)
  rcases jS.mp (k.symm.trans e) with ⟨a,d,f⟩ | ⟨c,d,f⟩
  .have:0<=Dt t a:=Dt.nonneg λu b=>wz (A u (by rw[d];simp[b]));rw[d,Dt.app];lia
  .rw[d,Dt.app]
   rcases uj 0 (Dt t c) with z | z
   .exfalso
    obtain⟨u,b,o⟩:∃u∈c,0<cx u t:=by
     apply v7;intro q;have:=Dt.nonpos (t:=t) (l:=c) λu b=>by
      rcases uj 0 (cx u t) with w | w
      .exact absurd ⟨u,b,w⟩ q
      .exact w
     lia
    have s:¬ Rs u:=λw=>n u (by rw[f];simp[b]) (.inr ⟨⟨λ_=>r,λ_=>w⟩,o⟩);have rt:¬ Rs (ng t):=λw=>(z8c p).mp w r;have m:Be (ng t) u :=.inr ⟨⟨λw=>absurd w rt,λw=>absurd w s⟩,by rw[zgS];exact o⟩;have W:0<=Dt t L:=Dt.nonneg λv h=>by
     have g:Be u v:=by
      rw[k,d,v9] at j;exact j.2.2 u (by simp[b]) v h
     have Q:=i v (by rw[k];simp[h]);have I:=m.tr H (N u (by rw[f];simp[b])) Q g
     rcases I with ⟨w,_⟩ | ⟨_,w⟩
     .exact absurd w rt
     .rw[zgS] at w;lia
    rw[f,Dt.app] at x;lia
   .lia
 .have C:∀u∈G,cx u t<=0:=λu b=>by
   have s:¬ Rs u:=λw=>n u b (.inl ⟨w,r⟩)
   rcases uj 0 (cx u t) with w | w
   .exact absurd (.inr ⟨⟨λq=>absurd q s,λq=>absurd q r⟩,w⟩) (n u b)
   .exact w
  have T:Dt t G<=0:=Dt.nonpos C
  rcases jS.mp (k.symm.trans e) with ⟨a,d,f⟩ | ⟨c,d,f⟩
  .rw[d,Dt.app]
   rcases uj (Dt t a) 0 with z | z
   .exfalso
    obtain⟨v,h,o⟩:∃v∈a,cx v t<0:=by
     apply v7;intro q;have:=Dt.nonneg (t:=t) (l:=a) λu b=>by
      rcases uj (cx u t) 0 with w | w
      .exact absurd ⟨u,b,w⟩ q
      .exact w
     lia
    have R:Rs v:=by
     rcases y v (by rw[d];simp[h]) with ⟨w,_⟩ | ⟨_,w⟩
     .exact w
     .lia
    have rt:Rs (ng t):=(z8c p).mpr r;have m:Be v (ng t) :=.inr ⟨⟨λ_=>rt,λ_=>R⟩,by rw[zdF];lia⟩;have U:Dt t K<=0:=Dt.nonpos λu b=>by
     have g:Be u v:=by
      rw[k,f,v9] at j;exact j.2.2 u b v (by simp[h])
     have O:=i u (by rw[k];simp[b])
     rcases g.tr O (M v (by rw[d];simp[h])) H m with ⟨_,w⟩ | ⟨_,w⟩
     .exact absurd rt w
     .rw[zdF] at w;lia
    rw[d,Dt.app] at x;lia
   .lia
  .have:Dt t c<=0:=Dt.nonpos λu b=>C u (by rw[f];simp[b]);rw[d,Dt.app];lia
def sb (a b:P):P:=(b.1 - a.1,b.2 - a.2)
def pl (a b:P):P:=(a.1+b.1,a.2+b.2)
noncomputable def vs (l:List P):P:=((l.map (·.1)).sum,(l.map (·.2)).sum)
def z20 (u:P)(l:List P):vs (u::l)=pl u (vs l):=rfl
def z9Y (l m:List P):vs (l++m)=pl (vs l) (vs m):=by
 simp[vs,pl,wD,u5]
def vs_perm (h:l.Perm m):vs l=vs m:=by
 induction h with
 | nil=>rfl
 | cons x _ d=>rw[z20,z20,d]
 | swap x y l=>simp only[z20,pl];exact ub (by simp;lia) (by simp;lia)
 | trans _ _ a b=>exact a.trans b
theorem z9N (t:P):∀l:List P,Dt t l=cx (vs l) t
 | []=>by simp[Dt,vs,cx]
 | u::l=>by
  have a:=z9N t l;rw[z20,show Dt t _=cx u t+Dt t l by simp[Dt],a];simp[cx,pl]
  grind
def df:List P->List P
 | a::b::r=>sb a b::df (b::r)
 | _=>[]
theorem zaH:∀{r:List P}{a q:P},q∈a::r->∃K L,df (a::r)=K++L/\vs K=sb a q
 | [],a,q,h=>by
  rw[wg.mp h];exact⟨[],[],rfl,by simp[vs,sb]⟩
 | b::r,a,q,h=>by
  rcases wm.mp h with rfl | h
  .exact⟨[],_,rfl,by simp[vs,sb]⟩
  .obtain⟨K,L,e,v⟩:=zaH h;refine⟨sb a b::K,L,by rw[df,e];rfl,?_⟩;rw[z20,v];simp only[pl,sb];exact ub (by simp;lia) (by simp;lia)
theorem zlW:∀{r:List P}{a:P}{K L:List P},df (a::r)=K++L->∃q∈a::r,vs K=sb a q
 | [],a,K,L,h=>by
  have  := (jD.mp h.symm).1;subst this;exact⟨a,by simp,by simp[vs,sb]⟩
 | b::r,a,[],L,h=>⟨a,by simp,by simp[vs,sb]⟩
 | b::r,a,u::K,L,h=>by
  obtain⟨rfl,d⟩:=List.cons.inj h;obtain⟨q,e,v⟩:=zlW d;refine⟨q,wo _ e,?_⟩;rw[z20,v];simp only[pl,sb];exact ub (by simp;lia) (by simp;lia)
theorem zaJ:∀{r:List P}{a z:P},vs (df (a::r++[z]))=sb a z
 | [],a,z=>by simp[df,vs,sb]
 | b::r,a,z=>by
  show vs (sb a b::df (b::r++[z]))=_;rw[z20,zaJ];simp only[pl,sb];exact ub (by simp;lia) (by simp;lia)
theorem zgQ:∀{r s:List P}{a m:P},df (a::r++m::s)=df (a::r++[m])++df (m::s)
 | [],s,a,m=>by
  rfl
 | b::r,s,a,m=>by
  show sb a b::df (b::r++m::s)=sb a b::df _++df _;rw[zgQ]
  rfl
noncomputable def mg:List P->List P->List P
 | E,[]=>E
 | E,f::F=>E.takeWhile (λu=>decide (Be u f))++f::mg (E.dropWhile (λu=>decide (Be u f))) F
theorem z59:∀(E F:List P),(mg E F).Perm (E++F)
 | E,[]=>by simp[mg]
 | E,f::F=>by
  have a:=z59 (E.dropWhile (λu=>decide (Be u f))) F;refine(jK _ (a.cons f)).trans ?_
  conv=>rhs;rw[<- jp (p:=λu=>decide (Be u f)) (l:=E),vI]
  exact jK _ jV.symm
theorem zgC:∀{E F K L:List P},mg E F=K++L->∃b g d i,E=b++g/\F=d++i/\K.Perm (b++d)
 | E,[],K,L,h=>⟨K,L,[],[],h,rfl,by simp⟩
 | E,f::F,K,L,h=>by
  rw[mg] at h;have m:=jp (p:=λu=>decide (Be u f)) (l:=E);generalize E.takeWhile (λu=>decide (Be u f))=T at*;generalize E.dropWhile (λu=>decide (Be u f))=R at*
  rcases jS.mp h with ⟨a,e,j⟩ | ⟨c,e,j⟩
  .cases a with
   | nil=>exact⟨T,R,[],f::F,m.symm,rfl,by rw[e]⟩
   | cons x a=>
    rw[List.cons_append] at j;obtain⟨rfl,n⟩:=List.cons.inj j;obtain⟨b,g,d,i,o,q,r⟩:=zgC n;refine⟨T++b,g,f::d,i,by rw[<- m,o,vI],by rw[q,List.cons_append],?_⟩;rw[e,vI];exact jK _ ((r.cons f).trans jV.symm)
  .exact⟨K,c++R,[],f::F,by rw[<- m,e,vI],rfl,by simp⟩
def Nz (l:List P):Prop:=∀u∈l,u≠(0,0)
def Be.asym {u v:P}(a:u≠(0,0))(b:v≠(0,0))(h:Be u v):¬ Be v u:=λz=>Be.irr (h.tr a b a z)
theorem zlA:∀{E F:List P},Nz E->Nz F->E.Pairwise (λx y=>¬ Be y x)->F.Pairwise (λx y=>¬ Be y x)->(mg E F).Pairwise (λx y=>¬ Be y x)
 | E,[],_,_,h,_=>by rw[mg];exact h
 | E,f::F,H,I,g,n=>by
  have A:=jp (p:=λu=>decide (Be u f)) (l:=E);have G:∀u∈E.takeWhile (λu=>decide (Be u f)),Be u f:=λu a=>by
   have:=jU.mp (List.all_takeWhile (p:=λu=>decide (Be u f)) (l:=E)) u a;simpa using this
  have o:∀d r,E.dropWhile (λu=>decide (Be u f))=d::r->¬ Be d f:=λd r e z=>by
   have:=List.head?_dropWhile_not (λu=>decide (Be u f)) E;rw[e] at this;simp at this;exact this z
  rw[mg];have K:=z59 (E.dropWhile (λu=>decide (Be u f))) F;generalize E.takeWhile (λu=>decide (Be u f))=T at*;generalize E.dropWhile (λu=>decide (Be u f))=R at*;have J:Nz T:=λu a=>H u (by rw[<- A];simp[a]);have s:Nz R:=λu a=>H u (by rw[<- A];simp[a]);have t:=I f (by simp);have m:Nz F:=λu a=>I u (by simp[a]);rw[<- A,v9] at g;rw[w6] at n;have L:=zlA s m g.2.1 n.2;have j:∀y∈mg R F,y∈R\/y∈F:=λy b=>wG.mp (K.mem_iff.mp b);rw[v9,w6];refine⟨g.1,⟨λy b =>?_,L⟩,λx i y b =>?_⟩
  .rcases j y b with z | z
   .cases R with
    | nil=>cases z
    | cons d r=>
     have C:=o d r rfl
     rcases wm.mp z with rfl | z
     .exact C
     .intro w
      rcases w.wk (v:=d) (s y (by simp[z])) (s d (by simp)) t with q | q
      .exact(w6.mp g.2.1).1 y z q
      .exact C q
   .exact n.1 y z
  .rcases wm.mp b with rfl | b
   .exact(G x i).asym (J x i) t
   .rcases j y b with z | z
    .exact g.2.2 x i y z
    .intro w;exact n.1 y z (w.tr (m y z) (J x i) t (G x i))
def zij {t:P}(p:t≠(0,0))(j:Nz E)(m:Nz F)(C:E.Pairwise Be)(G:F.Pairwise Be)(zE:vs E=(0,0))(zF:vs F=(0,0)):
  ∃K L,mg E F=K++L/\∀r H s I,E=r++H->F=s++I->Dt t r+Dt t s<=Dt t K:=by
 have J:∀{l:List P},vs l=(0,0)->Dt t l=0:=λ{l} h=>by rw[z9N,h];simp[cx]
 have wk:∀{l:List P},Nz l->l.Pairwise Be->l.Pairwise (λx y=>¬ Be y x):=λ{l} n h=>by
  have:l.Pairwise λx y=>(x∈l/\y∈l):=ji λx g y i=>⟨g,i⟩
  exact(h.and this).imp λ{x y} ⟨q,g,i⟩=>q.asym (n x g) (n y i)
 have z:∀{l:List P}{R:P->P->Prop},Nz l->l.Pairwise R->l.Pairwise λx y=>(x≠(0,0)/\y≠(0,0))/\R x y:=λ{l R} n h=>by
  have:l.Pairwise λx y=>(x≠(0,0)/\y≠(0,0)):=ji λx g y i=>⟨n x g,n y i⟩
  exact this.and h
 have e:∀u v:P,((u≠(0,0)/\v≠(0,0))/\Be u v)->Be v t->Be u t:=λu v ⟨⟨a,b⟩,c⟩ d=>c.tr a b p d;have o:∀u v:P,((u≠(0,0)/\v≠(0,0))/\¬ Be v u)->Be v t->Be u t:=λu v ⟨⟨a,b⟩,c⟩ d=>(d.wk b a p).resolve_left c;have nM:Nz (mg E F):=λu f=>(wG.mp ((z59 E F).mem_iff.mp f)).elim (j u) (m u);obtain⟨X,E2,M,S,U⟩:=z7o e (z j C);obtain⟨F1,F2,N,T,W⟩:=z7o e (z m G);obtain⟨K,L,Q,pK,qK⟩:=z7o o (z nM (zlA j m (wk j C) (wk m G)));refine⟨K,L,Q,λr H s I Y Z =>?_⟩;have a1:=lead p j C (J zE) M S U Y;have a2:=lead p m G (J zF) N T W Z;have w:∀{A B:List P},(∀u∈A,Be u t)->(∀u∈B,¬ Be u t)->(A++B).filter (λu=>decide (Be u t))=A:=λ{A B} ha hb=>by
  rw[List.filter_append,List.filter_eq_self.mpr λu f=>v4 (ha u f),List.filter_eq_nil_iff.mpr λu f=>by simpa using hb u f,vW]
 have O:=(z59 E F).filter (λu=>decide (Be u t));rw[Q,w pK qK,List.filter_append,M,w S U,N,w T W] at O;have:Dt t K=Dt t X+Dt t F1:=by rw[z9N,vs_perm O, <- z9N,Dt.app]
 lia
def rd (h:List P):List P:=if h.length=1 then [] else df (h++h.take 1)
def zlC {a b c:P}(h:Lx a b)(k:Lx b c):Lx a c:=by
 simp[Lx] at*;lia
def zik (h:Lx a b):Rs (sb a b):=by
 simp[Lx,Rs,sb] at*;lia
def zd1 (h:Lx b a):¬ Rs (sb a b):=by
 simp only[Lx,Rs,sb] at*;lia
def zjn (h:a≠b):sb a b≠(0,0):=λz=>h (by
 have d:=congrArg Prod.fst z;have e:=congrArg Prod.snd z;simp[sb] at d e
 grind)
theorem zfL (e:∀a b,R a b->a≠b):∀{p:List P},Path R p->Nz (df p)
 | [],_=>λu d=>by(cases d)
 | [_],_=>λu d=>by(cases d)
 | a::b::r,h=>λu d=>by
  rcases wm.mp d with rfl | d
  .exact zjn (e a b h.1)
  .exact zfL e h.2 u d
theorem zaI:u∈df p->∃a b,(∀R:P->P->Prop,Path R p->R a b)/\u=sb a b:=by
 match p with
 | []=>intro h;cases h
 | [_]=>intro h;cases h
 | a::b::r=>
  intro h
  rcases wm.mp h with rfl | h
  .exact⟨a,b,λR q=>q.1,rfl⟩
  .obtain⟨x,y,q,e⟩:=zaI h;exact⟨x,y,λR w=>q R w.2,e⟩
theorem z7m:∀{p:List P},p.Pairwise R->Path R p
 | [],_=>trivial
 | [_],_=>trivial
 | a::b::r,h=>by
  rw[w6] at h;exact⟨h.1 b (by simp),z7m h.2⟩
theorem ziC (j:∀a b c d:P,O a b->O c d->(Rs (sb a b)↔Rs (sb c d)))(tr:∀a b c:P,O a b->O b c->a≠c):∀{p:List P},Path (Edge S) p->Path O p->(df p).Pairwise Be
 | [],_,_ =>.nil
 | [_],_,_ =>.nil
 | [a,b],_,_=>List.pairwise_singleton _ _
 | a::b::c::r,h,o=>by
  have g:=ziC j tr h.2 o.2;have i:=zfL (λ_ _ e=>e.ne) h.2;rw[df,w6];refine⟨λu f =>?_,g⟩;have first:Be _ _ :=.inr ⟨j a b b c o.1 o.2.1,by
   have:=z4O h.1 h.2.1 (tr a b c o.1 o.2.1);have e:Qa a b c=cx (sb a b) (sb b c):=by simp[Qa,cx,sb];grind
   rwa [e] at this⟩
  rw[df] at f g i
  rcases wm.mp f with rfl | f
  .exact first
  .exact first.tr (zjn h.1.ne) (i _ (by simp)) (i u (by simp[f])) ((w6.mp g).1 u f)
structure Rnd (h:List P):Prop where
 nz:Nz (rd h)
 up:(rd h).Pairwise Be
 zero:vs (rd h)=(0,0)
def Hd.rnd (x:Hd l h)(H:l≠[]):Rnd h:=by
 obtain⟨rl,E,F,rfl⟩:=x;have I:rl≠[]:=λz=>by
  obtain⟨p,r,rfl⟩:=List.exists_cons_of_ne_nil H;have:=(F p).mpr (by simp);rw[z] at this
  cases this
 have Q:=wY.mpr I
 rcases wR rl.length 2 with z | z
 .have e:hull rl=rl:=if_pos (by lia);have:rd (hull rl)=[]:=by rw[e];exact if_pos (by lia)
  refine⟨?_,?_,?_⟩ <;> rw[this]
  .exact λu f=>by(cases f)
  .exact .nil
  .rfl
 .obtain⟨m,M,A,B,e,R,N,G,o,n,K,L,t,C⟩:=z6Z z E;have i:rd (hull rl)=df (m::A++[M])++df (M::B++[m]):=by
   unfold rd;rw[if_neg (by rw[e];simp),e];show df (m::A++M::B++[m])=_;rw[vI,List.cons_append];exact zgQ
  have s:=z7m K;have j:=z7m L;have g:∀a b,Edge (· ∈ rl) a b->a≠b:=λa b e=>e.ne;refine⟨?_,?_,?_⟩
  .rw[i];intro u f
   rcases wG.mp f with f | f
   .exact zfL g t u f
   .exact zfL g C u f
  .rw[i,v9];refine⟨ziC (O:=Lx) (λa b c d q w=>⟨λ_=>zik w,λ_=>zik q⟩) (λa b c q w z=>by subst z;exact Lx.irr (zlC q w)) t s,ziC (O:=λx y=>Lx y x) (λa b c d q w=>⟨λz=>absurd z (zd1 q),λz=>absurd z (zd1 w)⟩) (λa b c q w z=>by subst z;exact Lx.irr (zlC q w)) C j,λu f v J =>?_⟩;obtain⟨a,b,q,rfl⟩:=zaI f;obtain⟨c,d,w,rfl⟩:=zaI J;exact .inl ⟨zik (q _ s),zd1 (w _ j)⟩
  .rw[i,z9Y,zaJ,zaJ];simp only[pl,sb];exact ub (by simp;lia) (by simp;lia)
def zjF (e:h=a::r)(k:rd h=K++L):∃q∈h,vs K=sb a q:=by
 subst e;unfold rd at k
 split at k
 .have  := (jD.mp k.symm).1;subst this;exact⟨a,by simp,by simp[vs,sb]⟩
 .obtain⟨q,b,v⟩:=zlW k;refine⟨q,?_,v⟩;simp at b ⊢
  grind
set_option tactic.hygienic true in
def zab (e:h=a::r)(b:q∈h):∃K L,rd h=K++L/\vs K=sb a q:=by
 subst e;unfold rd
 split
 .rename_i z
  have  := uA.mp (by simpa using z);subst this;rw[wg.mp b];exact⟨[],[],rfl,by simp[vs,sb]⟩
 .exact zaH (by simp at b ⊢;rcases b with z | z;exact .inl z;simp_all)
def join {r s e f r1 r2:List P}(N:Hd r e)(O:Hd s f)(G:r≠[])(H:s≠[])(m:e=a::r1)(n:f=b::r2):
  (∀K L,mg (rd e) (rd f)=K++L->∃p∈e,∃q∈f,pl (pl a b) (vs K)=pl p q)/\
  ∀p∈e,∀q∈f,∀d:P,∃K L,mg (rd e) (rd f)=K++L/\sc (pl p q) d<=sc (pl (pl a b) (vs K)) d:=by
 have g:=N.rnd G;have R2:=O.rnd H;refine⟨λK L k =>?_,λp h q i d =>?_⟩
 .obtain⟨Q,R,S,T,I,J,M⟩:=zgC k;obtain⟨p,h,j⟩:=zjF m I;obtain⟨q,i,l⟩:=zjF n J;refine⟨p,h,q,i,?_⟩;rw[vs_perm M,z9Y,j,l];simp only[pl,sb]
  grind
 .by_cases o:d=(0,0)
  .subst o;exact⟨[],_,rfl,by simp[sc]⟩
  .have C:((-d.2,d.1):P)≠(0,0):=λz=>o (by
    have t:=congrArg Prod.fst z;have u:=congrArg Prod.snd z;simp at t u;exact ub u t)
   obtain⟨K,L,k,far⟩:=zij C g.nz R2.nz g.up R2.up g.zero R2.zero;obtain⟨w,y,E,j⟩:=zab m h;obtain⟨x,A,F,l⟩:=zab n i;refine⟨K,L,k,?_⟩;have:=far w y x A E F;rw[z9N,z9N,z9N,j,l] at this;simp only[cx,sb,sc,pl] at*
   grind
end Geo
namespace Pu
open PySem L2
def zlr (q:Q (.bl (HT.z0H [r.1,r.2] [p.1,p.2]))):pGt.run [vec p,vec r] Q X:=q
def zgH (u:P):HT.z0H [(0),0] [u.1,u.2]=decide (Geo.Rs u):=by
 rw[jm];exact(zgI (a:=(0,0))).trans ⟨λh=>by simp[Lx,Geo.Rs] at *;lia,λh=>by simp[Lx,Geo.Rs] at *;lia⟩
def z89 {u v:P}(hu:Vb 30000000 u)(g:Vb 30000000 v)(q:Q (.bl (decide (Be u v)))):z2U.run [vec u,vec v] Q X:=by
 walk_at "fn";ac_nf;refine zlr (p:=u) (r:=(0,0)) ?_;rw[show HT.z0H [((0,0)).1,((0,0)).2] [u.1,u.2]=decide (Geo.Rs u) from zgH u];ac_nf;refine zlr (p:=v) (r:=(0,0)) ?_;rw[show HT.z0H [((0,0)).1,((0,0)).2] [v.1,v.2]=decide (Geo.Rs v) from zgH v];ac_nf;refine zno ?_;refine z1p (z0K (λe =>?_) (λe =>?_))
 .ac_nf;refine z3x hu g ?_;ac_nf;have f:Geo.Rs u↔Geo.Rs v:=by rw[<- j7 (p:=Geo.Rs u),e,j7]
  have:decide (0<u.1*v.2 - u.2*v.1)=decide (Be u v):=decide_eq_decide.mpr ⟨λz =>.inr ⟨f,z⟩,λz=>by
   rcases z with ⟨a,b⟩ | ⟨_,b⟩
   .exact absurd (f.mp a) b
   .exact b⟩
  rw[this];exact q
 .ac_nf;have:decide (Geo.Rs u)=decide (Be u v):=decide_eq_decide.mpr ⟨λz =>.inl ⟨z,λw=>e (by rw[v4 z,v4 w])⟩,λz=>by
   rcases z with ⟨a,_⟩ | ⟨a,_⟩
   .exact a
   .exact absurd (decide_eq_decide.mpr a) e⟩
  rw[this];exact q
def z6u (Z:Wb 30000000 E)(hF:Wb 30000000 F)(zE:E.length<=1000)(zF:F.length<=1000)(q:Q (.lst ((Geo.mg E F).map vec))):z2d.run [.lst (E.map vec),.lst (F.map vec)] Q X:=by
 walk_at "fn";ac_nf;refine z22 (λx hx=>by cases hx) ?_;ac_rfl;ac_nf;refine z0n (f:=vec) (λI y=>Ee3 λ(m:List P) n R=>Aa4 (∀G,Geo.mg E (I++G)=m++Geo.mg (E.drop n) G) (n<=E.length) (m.length=n+I.length) (y=[.s (.lst (E.map vec)),.s (.lst (F.map vec)),.o (.lst (m.map vec)),.s (.int n),R])) ⟨[],0,_,λG=>by simp,by simp,by simp,rfl⟩ ?_ ?_
 .rintro I f r y e ⟨m,n,R,O,Y,W,rfl⟩;have hf:=hF f (by rw[e];simp);have hd:I.length<=1000:=by
   have:=congrArg List.length e;simp at this;lia
  show Sm.run _ _ _ _ _;ac_rfl;refine zjw (λL=>Ee2 λg j=>g=m++(E.drop n).takeWhile (λu=>decide (Be u f))/\E.drop j=(E.drop n).dropWhile (λu=>decide (Be u f))/\j<=E.length/\g.length=j+I.length/\L=[.s (.lst (E.map vec)),.s (.lst (F.map vec)),.o (.lst (g.map vec)),.s (.int j),.s (vec f)]) ?_ ?_
  .refine z5K (λy=>Ee2 λ(g:List P) j=>Aa5 (g++(E.drop j).takeWhile (λu=>decide (Be u f))=m++(E.drop n).takeWhile (λu=>decide (Be u f))) ((E.drop j).dropWhile (λu=>decide (Be u f))=(E.drop n).dropWhile (λu=>decide (Be u f))) (j<=E.length) (g.length=j+I.length) (y=[.s (.lst (E.map vec)),.s (.lst (F.map vec)),.o (.lst (g.map vec)),.s (.int j),.s (vec f)])) (λy=>(E.length - nI y 3).toNat) ⟨m,n,rfl,rfl,Y,W,rfl⟩ ?_;rintro y ⟨g,j,J,w,N,K,rfl⟩;ac_nf;rw[wd];refine z0K (λz =>?_) (λz =>?_)
   .have C:j<E.length:=by lia
    obtain⟨u,hu,M⟩:=z5s (xs:=E) (i:=j) (by lia) (by lia);have p:E.drop j=u::E.drop (j+1):=by
     rw[uK C]
     congr 1
     rw[z6q C,wn C] at M;exact w5 M
    ac_nf;refine z0P (z0G M) ?_;ac_nf;refine z89 (Z u hu) hf ?_;refine z0K (λb =>?_) (λb =>?_)
    .refine z4Z (z5x (l:=[]) (z0O rfl ?_));ac_nf;refine z0P (z0G M) ?_;refine⟨by rw[wd];exact szl' (by lia),Safe.of_noL rfl rfl _,?_⟩;ac_rfl;ac_nf;refine⟨⟨g++[u],j+1,?_,?_,by lia,by simp;lia,by rw[wD];simp⟩,?_⟩
     .rw[<- J,p,List.takeWhile_cons,if_pos (by simpa using b),vI]
      rfl
     .rw[<- w,p,List.dropWhile_cons,if_pos (by simpa using b)]
     .show ((E.length:Int) - (j+1)).toNat<(E.length - (j:Int)).toNat
      lia
    .rw[p,List.takeWhile_cons,if_neg (by simpa using b),vW] at J;rw[p,List.dropWhile_cons,if_neg (by simpa using b), <- p] at w;exact⟨g,j,J,w,N,K,rfl⟩
   .ac_nf;have p:E.drop j=[]:=List.drop_eq_nil_of_le (by lia);rw[p] at J w;simp only[List.takeWhile_nil,vW,List.dropWhile_nil] at J w;exact⟨g,j,J,by rw[p];exact w,N,K,rfl⟩
  rintro L ⟨g,j,rfl,w,N,K,rfl⟩;refine z5x (l:=[]) (z0O rfl ?_);ac_nf;refine⟨by rw[wd,K];exact szl' (by lia),Safe.of_noL rfl rfl _,?_⟩;ac_rfl;refine⟨m++(E.drop n).takeWhile (λu=>decide (Be u f))++[f],j,_,λG =>?_,N,by rw[wC,K];simp;lia,by rw[wD (l₂:=[f])];rfl⟩;rw[vI,List.singleton_append,O (f::G),Geo.mg,w];simp
 rintro y ⟨m,n,R,O,Y,W,rfl⟩;have U:=O [];rw[vW,Geo.mg] at U;ac_nf;rw[zgT (by lia)];refine zcQ (by simp;exact szl (by lia)) ?_;rw[<- wD,show ((n:Int)).toNat=n by lia, <- U];exact q
def zle (q:Q (.lst ((l.zip m).map λp =>.tup [p.1,p.2]))):zb9.run [.tup l,.tup m] Q X:=q
def z8Q {a:Type}{f:a->D}{l:List a}{k:Int}(h:0<=k):cutD (l.map f) none (some k)=(l.take k.toNat).map f:=by
 have b:HT.sIx l.length l.length (some k)=min k.toNat l.length:=by
  show (if k<0 then (k+l.length).toNat else min _ _)=_;rw[if_neg (by lia)]
 rw[z2E,b];show ((l.drop 0).take (min _ _ - 0)).map f=_
 simp_all
theorem zfZ:∀r (a z:P),((a::r).zip (r++[z])).map (λp=>Geo.sb p.1 p.2)=df (a::r++[z])
 | [],a,z=>rfl
 | b::r,a,z=>by
  show Geo.sb a b::((b::r).zip (r++[z])).map _=Geo.sb a b::df (b::r++[z]);rw[zfZ r b z]
def z4u (b:h.length<=1000)(i:h≠[])(q:Q (.lst ((Geo.rd h).map vec))):z1W.run [vecs h,.fn 2] Q X:=by
 walk_at "fn";ac_nf;rw[wd];refine z0K (λz =>?_) (λz =>?_)
 .ac_nf;have:Geo.rd h=[]:=if_pos (by lia);rw[this] at q;exact q
 ac_nf;obtain⟨a,r,rfl⟩:=List.exists_cons_of_ne_nil i;rw[zgT (by decide),z8Q (by decide)];refine zam (by simp;exact szl (by simp at b;lia)) ?_;rw[<- wD,show (a::r).drop (1:Int).toNat++(a::r).take (1:Int).toNat=r++[a] from rfl];refine z0s (Safe.of_noL (z1m _) (z1n _) _) ?_;ac_rfl;ac_nf;refine zle ?_;rw[List.zip_map,wM];ac_nf;refine⟨by rw[wd];exact szl' (by simp at b ⊢;lia),?_⟩;refine z17 (g:=λp:P × P=>vec (Geo.sb p.1 p.2)) (λp j K f =>?_) ?_
 .refine⟨rfl,?_⟩;show Ex.run _ _ _ _;unfold z0m z0m z0m;ac_rfl;refine z9L rfl ?_;ac_nf;exact z2g f
 have e:Geo.rd (a::r)=df (a::r++[a]):=if_neg (by lia);rw[show (((a::r).zip (r++[a])).map λp=>vec (Geo.sb p.1 p.2))=(((a::r).zip (r++[a])).map λp=>Geo.sb p.1 p.2).map vec by rw[wM];rfl,zfZ, <- e];exact q
theorem zgP:∀(l:List P),(df l).length<=l.length - 1
 | []=>by simp[df]
 | [_]=>by simp[df]
 | a::b::r=>by
  have:=zgP (b::r);rw[df]
  simp_all
def zjA (e:Wb 20000000 h):Wb 30000000 (Geo.rd h):=λu d=>by
 unfold Geo.rd at d
 split at d
 .cases d
 .obtain⟨a,b,R,rfl⟩:=zaI d;have:∀p∈h++h.take 1,p∈h:=λp g=>(wG.mp g).elim id vF;have f:=R (λa b=>a∈h/\b∈h) (z7m (ji λx i y j=>⟨this x i,this y j⟩));exact(e a f.1).step (e b f.2)
def Sm2 (d e:List P)(p:P):Prop:=∃a∈d,∃b∈e,p=Geo.pl a b
end Pu
namespace Geo
def In.of_far (x:z03 S h)(d:∀b,∃c∈h,sc p b<=sc c b):In h p:=by
 match h,x,d with
 | [],x,_=>obtain⟨m,t,e,_⟩:=x.ex;cases e
 | [m],x,d=>
  have g:∀b,sc p b<=sc m b:=λb=>by
   obtain⟨c,f,le⟩:=d b;rw[wg.mp f] at le;exact le
  have i:=g (1,0);have n:=g (-1,0);have o:=g (0,1);have q:=g (0,-1);simp only[sc] at i n o q;show p=m;exact ub (by omega) (by omega)
 | [a,b],x,d=>
  have g:∀u,sc p u<=sc a u\/sc p u<=sc b u:=λu=>by
   obtain⟨c,f,le⟩:=d u;simp only[wm,wE,vO] at f
   rcases f with rfl | rfl
   .exact .inl le
   .exact .inr le
  have K:=z0j (b.1 - a.1);have L:=z0j (b.2 - a.2);have i:=g (-(b.2 - a.2),b.1 - a.1);have n:=g (b.2 - a.2,-(b.1 - a.1));have o:=g (a.1 - b.1,a.2 - b.2);have q:=g (b.1 - a.1,b.2 - a.2);clear g d x;have r:sc p (-(b.2 - a.2),b.1 - a.1)=sc a (-(b.2 - a.2),b.1 - a.1)+Qa a b p:=by simp only[sc,Qa];grind
  have s:sc b (-(b.2 - a.2),b.1 - a.1)=sc a (-(b.2 - a.2),b.1 - a.1):=by simp only[sc];grind
  have w:sc p (b.2 - a.2,-(b.1 - a.1))=sc a (b.2 - a.2,-(b.1 - a.1)) - Qa a b p:=by simp only[sc,Qa];grind
  have y:sc b (b.2 - a.2,-(b.1 - a.1))=sc a (b.2 - a.2,-(b.1 - a.1)):=by simp only[sc];grind
  have z:sc p (a.1 - b.1,a.2 - b.2)=sc a (a.1 - b.1,a.2 - b.2) - dot a b p:=by simp only[sc,dot];grind
  have A:sc b (a.1 - b.1,a.2 - b.2)=sc a (a.1 - b.1,a.2 - b.2) - ((b.1 - a.1)*(b.1 - a.1)+(b.2 - a.2)*(b.2 - a.2)):=by simp only[sc];grind
  have C:sc p (b.1 - a.1,b.2 - a.2)=sc b (b.1 - a.1,b.2 - a.2) - dot b a p:=by simp only[sc,dot];grind
  have E:sc a (b.1 - a.1,b.2 - a.2)=sc b (b.1 - a.1,b.2 - a.2) - ((b.1 - a.1)*(b.1 - a.1)+(b.2 - a.2)*(b.2 - a.2)):=by simp only[sc];grind
  show Qa a b p=0/\0<=dot a b p/\0<=dot b a p;generalize Qa a b p=M at*;generalize dot a b p=N at*;generalize dot b a p=O at*;generalize (b.1 - a.1)*(b.1 - a.1)=Q at*;generalize (b.2 - a.2)*(b.2 - a.2)=R at*;rw[r,s] at i;rw[w,y] at n;rw[z,A] at o;rw[C,E] at q;refine⟨?_,?_,?_⟩ <;> omega
 | a0::I::J::t,x,d=>
  refine(In.three (by simp)).mpr λj a b H F G =>?_;have e:=x.cyc (by simp) H F G;obtain⟨c,f,le⟩:=d (b.2 - a.2,-(b.1 - a.1));have l:=e.left c (x.sub c f);simp only[sc] at le;simp only[Qa] at l ⊢
  grind
def Ms:List (List P)->P->Prop
 | [],p=>p=(0,0)
 | d::a,p=>∃q∈d,∃r,Ms a r/\p=pl q r
def zcz (a b:P):pl a b=pl b a:=by simp only[pl];grind
def zcy (a b c:P):pl a (pl b c)=pl b (pl a c):=by simp[pl];grind
def zcX (h:l.Perm m):∀p,Ms l p->Ms m p:=by
 induction h with
 | nil=>exact λ_ h=>h
 | cons x _ j=>rintro p ⟨q,a,r,i,e⟩;exact⟨q,a,r,j r i,e⟩
 | swap x y l=>rintro p ⟨q,a,r,⟨n,b,o,d,rfl⟩,rfl⟩;exact⟨n,b,_,⟨q,a,o,d,rfl⟩,zcy _ _ _⟩
 | trans _ _ f g=>exact λp h=>g p (f p h)
def z7A:Ms (ds++[d]) p↔∃r,Ms ds r/\∃q∈d,p=pl r q:=by
 constructor
 .intro h;obtain⟨q,a,r,b,e⟩:=zcX (List.perm_append_singleton d ds) p h;exact⟨r,b,q,a,by rw[e,zcz]⟩
 .rintro⟨r,b,q,a,e⟩;exact zcX (List.perm_append_singleton d ds).symm p ⟨q,a,r,b,by rw[e,zcz]⟩
def zh9 (a b u:P):sc (pl a b) u=sc a u+sc b u:=by simp[sc,pl];grind
def zfk (x:z03 (Ms ds) h)(l:z03 (· ∈ d0) d)(y:z03 (λp=>∃a∈h,∃b∈d,p=pl a b) h'):z03 (Ms (ds++[d0])) h':=by
 refine y.fill (λp i =>?_) (λp i =>?_)
 .obtain⟨a,o,b,s,e⟩:=y.sub p i;exact z7A.mpr ⟨a,x.sub a o,b,l.sub b s,e⟩
 .obtain⟨r,z,q,w,rfl⟩:=z7A.mp i;refine In.of_far y λu =>?_;obtain⟨c,t,le⟩:=x.far (x.in z) u;obtain⟨n,g,A⟩:=l.far (l.in w) u;obtain⟨m,f,j⟩:=y.far (y.in ⟨c,t,n,g,rfl⟩) u;refine⟨m,f,?_⟩;rw[zh9] at j ⊢;omega
def zlz:z03 (Ms []) [(0,0)]:=⟨(0,0),[],rfl,rfl,λp a=>by(have  := a;rw[this];exact Lx.irr),by simp,.inl ⟨rfl,λ_ h=>h⟩⟩
def Far (S:P->Prop)(b:P)(F:Int):Prop:=(∀p,S p->sc p b<=F)/\∃p,S p/\sc p b=F
def z9K:Far (Ms []) b 0:=⟨λp a=>by(have  := a;rw[this];simp[sc]),(0,0),rfl,by simp[sc]⟩
end Geo
namespace Pu
open PySem L2
structure Wt4 (x:List P × P):Prop where
 wb:Wb 140 x.1
 ne:x.1≠[]
 len:x.1.length<=12
 vb:Vb 140 x.2
def zg7 {c m:Int}(M:0<=m)(w:m<=10000000000000000000000000000000000000000)(o:Ln d)(q:∀p,Far 10000000000000000000000000000000000000000 p->Q (vec p)):z0Y.run [.int c,.int m,d] Q X:=by
 have I:Bt 640 m:=z05 (by lia)
 rcases o with rfl | ⟨⟨a,b⟩,rfl,⟨⟨e,f⟩,g,i⟩⟩
 .walk_at "fn";ac_nf;refine z1p (z2X rfl ?_);ac_nf;refine z0X (by decide) (by decide) (by lia) λr y r1 =>?_;ac_nf;refine z0X (by decide) (by decide) (by lia) λu N O =>?_;ac_nf;exact q (r - m,u - m) ⟨⟨by show _<=r - m;lia,by show r - m<=_;lia⟩,by show _<=u - m;lia,by show u - m<=_;lia⟩
 .dsimp only at e f g i;have z:Bt 640 a:=z05 (by lia);have C:Bt 640 b:=z05 (by lia);walk_at "fn";ac_nf;refine z1p (z5P rfl ?_);ac_nf;refine z0X (by decide) (by decide) (by decide) λr y r1 =>?_;ac_nf;have J:Bt 640 (r - 3):=z05 (by lia);ac_nf;have j:∀x:Int,-3<=x->x<=3 -> -9<=x*(r - 3)/\x*(r - 3)<=9:=λx K L=>by
   rcases(by lia:x = -3\/x = -2\/x = -1\/x=0\/x=1\/x=2\/x=3) with rfl | rfl | rfl | rfl | rfl | rfl | rfl <;> lia
  have:=j a e f;have:=j b g i;exact q (a*(r - 3),b*(r - 3)) ⟨⟨by show _<=a*(r - 3);lia,by show a*(r - 3)<=_;lia⟩,by show _<=b*(r - 3);lia,by show b*(r - 3)<=_;lia⟩
def z6Q (L:∀x∈ws,Wt4 x)(C:Vb 1000 b)(q:∀t,Sums ws b t->Q (.int t)):z1q.run [.tup (ws.map wtD),vec b] Q X:=by
 walk_at "fn";ac_nf;refine z0n (f:=wtD) (λz y=>Ee3 λt (u w)=>Sums z b t/\y=[.s (.tup (ws.map wtD)),.s (vec b),.s (.int t),u,w]) ⟨0,_,_,Sums.nil,rfl⟩ ?_ ?_
 .rintro z x r y e ⟨t,u,w,o,rfl⟩;obtain⟨M,ne,len,vb⟩:=L x (by rw[e];simp);refine⟨rfl,?_⟩;show Sm.run _ _ _ _ _;unfold z0m z0m z0m;ac_rfl;ac_nf;refine⟨by rw[wd];exact szl' (by lia),?_⟩;refine z17 (g:=λp =>.int (dot p b)) (λp j K I =>?_) ?_
  .ac_nf;refine z86 C.le (M p j).le ?_;rw[zaG];exact I
  rw[show (x.1.map λp=>D.int (dot p b))=(x.1.map (dot · b)).map D.int by rw[wM];rfl];refine zgv (by simpa using ne) λm J i =>?_;ac_nf;refine z86 C.le vb.le ?_;rw[zaG];ac_nf;exact⟨_,_,_,o.snoc ⟨J,λp j=>i _ (we.mpr ⟨p,j,rfl⟩)⟩,rfl⟩
 rintro y ⟨t,u,w,o,rfl⟩;ac_nf;exact q t o
def z14 (x:z03 S h):h≠[]:=by obtain⟨m,t,e,_⟩:=x.ex;rw[e];simp
def vs_perm (h:l.Perm m):Geo.vs l=Geo.vs m:=by
 induction h with
 | nil=>rfl
 | cons x _ a=>rw[z20,z20,a]
 | swap x y l=>rw[z20,z20,z20,z20,zcy]
 | trans _ _ i j=>rw[i,j]
def ziV (h:List P):Geo.vs (Geo.rd h)=(0,0):=by
 unfold Geo.rd
 split
 .rfl
 .cases h with
  | nil=>rfl
  | cons a r=>rw[show (a::r)++(a::r).take 1=a::r++[a] from rfl,zaJ];simp[Geo.sb]
def zet (k:h.length≠1->h.length<=n):(Geo.rd h).length<=n:=by
 unfold Geo.rd
 split
 .simp
 .have:=zgP (h++h.take 1);simp at*;lia
def z87 (R:Wb 600 l1)(U:Wb 600 l2)(N:z03 (· ∈ l1) l1)(O:z03 (· ∈ l2) l2)(z1:l1.length<=62)(z2:l2.length<=62)(z:(Geo.rd l1).length+(Geo.rd l2).length<=62)
  (q:∀h,z03 (Sm2 l1 l2) h->(Geo.rd h).length<=(Geo.rd l1).length+(Geo.rd l2).length->Q (vecs h)):z40.run [vecs l1,vecs l2] Q X:=by
 walk_at "fn";ac_nf;have n1:l1≠[]:=z14 N;have n2:l2≠[]:=z14 O;refine z0S (.inl rfl) R.le (by lia) λh1 x1 =>?_;obtain rfl:h1=l1:=(x1.is n1).unique N;refine z0s (Safe.of_noL (z1m _) (z1n _) _) ?_;ac_rfl;ac_nf;refine z0S (.inl rfl) U.le (by lia) λh2 x2 =>?_;obtain rfl:h2=l2:=(x2.is n2).unique O;refine z0s (Safe.of_noL (z1m _) (z1n _) _) ?_;ac_rfl;obtain⟨a,r1,I,_⟩:=N.ex;obtain⟨b,r2,e2,_⟩:=O.ex;have J:=Geo.join x1 x2 n1 n2 I e2;have c1:Wb 20000000 h1:=R.le;have c2:Wb 20000000 h2:=U.le;ac_nf;refine z0P (d:=vec a) (by rw[I];exact zdU) ?_;ac_nf;refine z0P (d:=vec b) (by rw[e2];exact zdU) ?_;refine z2Y ?_;refine z0s (Safe.of_noL rfl rfl _) ?_;ac_rfl;ac_nf;refine z22 (λx hx=>by rw[wg.mp hx];exact Safe.of_noL rfl rfl _) ?_;ac_rfl;ac_nf;refine z4u (by lia) (by rw[I];simp) ?_;ac_nf;refine z4u (by lia) (by rw[e2];simp) ?_;refine z6u (zjA c1) (zjA c2) (by lia) (by lia) ?_;have km:=(z59 (Geo.rd h1) (Geo.rd h2)).length_eq;rw[wC] at km;have vM:Geo.vs (Geo.mg (Geo.rd h1) (Geo.rd h2))=(0,0):=by
  rw[vs_perm (z59 _ _),z9Y,ziV,ziV]
  rfl
 generalize Geo.mg (Geo.rd h1) (Geo.rd h2)=M at*;ac_nf;refine z0n (f:=vec) (λi ρ=>Ee2 λH x6=>H.length=i.length+1/\(∀p,p∈H↔∃K L,i=K++L/\p=Geo.pl (Geo.pl a b) (Geo.vs K))/\ρ=[.s (vecs h1),.s (vecs h2),.s (vecs h1),.s (vecs h2),.s (vec (Geo.pl (Geo.pl a b) (Geo.vs i))),.o (.lst (H.map vec)),x6]) ⟨[Geo.pl a b],_,rfl,λp =>?_,by simp[Geo.vs,Geo.pl];rfl⟩ ?_ ?_
 .constructor
  .intro h;exact⟨[],[],rfl,by rw[wg.mp h];simp[Geo.vs,Geo.pl]⟩
  .rintro⟨K,L,e,rfl⟩;rw[(jD.mp e.symm).1];simp[Geo.vs,Geo.pl]
 .rintro i u r ρ e ⟨H,x6,W,C,rfl⟩;have hd:i.length<M.length:=by rw[e];simp
  show Sm.run _ _ _ _ _;ac_rfl;ac_nf;refine z2Y ?_;refine z0s (Safe.of_noL rfl rfl _) ?_;ac_rfl;refine z5x (l:=[]) (z0O rfl ?_);ac_nf;refine⟨by rw[wd];exact szl' (by lia),Safe.of_noL rfl rfl _,?_⟩;ac_rfl;have ev:(((Geo.pl (Geo.pl a b) (Geo.vs i)).1+u.1,(Geo.pl (Geo.pl a b) (Geo.vs i)).2+u.2))=Geo.pl (Geo.pl a b) (Geo.vs (i++[u])):=by
   rw[z9Y];simp[Geo.pl,Geo.vs,Int.add_assoc]
  rw[ev];refine⟨H++[Geo.pl (Geo.pl a b) (Geo.vs (i++[u]))],_,by simp[W],λp =>?_,by rw[wD];rfl⟩;rw[wG,C,wg]
  constructor
  .rintro(⟨K,L,e,rfl⟩ | rfl)
   .exact⟨K,L++[u],by rw[e,vI],rfl⟩
   .exact⟨i++[u],[],by simp,rfl⟩
  .rintro⟨K,L,e,rfl⟩
   rcases List.eq_nil_or_concat L with rfl | ⟨L',w,rfl⟩
   .rw[vW] at e;exact .inr (by rw[e])
   .rw[List.concat_eq_append, <- vI] at e;exact .inl ⟨K,L',(List.append_inj' e rfl).1,rfl⟩
 rintro ρ ⟨H,x6,W,C,rfl⟩;have j:∀p∈H,Sm2 h1 h2 p:=λp g=>by
  obtain⟨K,L,e,rfl⟩:=(C p).mp g;obtain⟨p,g,q,hq,e⟩:=J.1 K L e;exact⟨p,g,q,hq,e⟩
 ac_nf;refine z0S (l:=H) (.inr rfl) (λp g =>?_) (by lia) λh x =>?_
 .obtain⟨u,hu,v,Y,rfl⟩:=j p g;exact⟨(Bt.add (R u hu).1 (U v Y).1).le,(Bt.add (R u hu).2 (U v Y).2).le⟩
 have hn:H≠[]:=λz=>by rw[z] at W;simp at W
 have y:=x.is hn;refine q h (zdi y (λp g=>j p (y.sub p g)) λp g w =>?_) (zet λn1 =>?_)
 .obtain⟨u,hu,v,Y,rfl⟩:=g;obtain⟨Z,a0,lu⟩:=N.far (N.in hu) w;obtain⟨cv,a1,lv⟩:=O.far (O.in Y) w;obtain⟨K,L,e,le⟩:=J.2 Z a0 cv a1 w;refine⟨_,(C _).mpr ⟨K,L,e,rfl⟩,?_⟩;have s1:dot (Geo.pl u v) w=Geo.sc u w+Geo.sc v w:=by simp only[dot,Geo.pl,Geo.sc];grind
  have s2:Geo.sc (Geo.pl Z cv) w=Geo.sc Z w+Geo.sc cv w:=by simp only[Geo.pl,Geo.sc];grind
  have s3:dot (Geo.pl (Geo.pl a b) (Geo.vs K)) w=Geo.sc (Geo.pl (Geo.pl a b) (Geo.vs K)) w:=rfl;rw[s1,s3];lia
 .have e0:M≠[]:=λe=>by
   have:=z2h (m:=[Geo.pl a b]) y.nodup λp g=>by
    obtain⟨K,L,e',rfl⟩:=(C p).mp (y.sub p g);rw[e] at e';rw[(jD.mp e'.symm).1];simp[Geo.vs,Geo.pl]
   have h0:0<h.length:=wY.mpr (z14 y);simp at this;lia
  have:=z2h (m:=(List.range M.length).map λk=>Geo.pl (Geo.pl a b) (Geo.vs (M.take k))) y.nodup λp g=>by
   obtain⟨K,L,e,rfl⟩:=(C p).mp (y.sub p g);have I:=congrArg List.length e;rw[wC] at I;have hM:=wY.mpr e0
   rcases wR K.length M.length with z | z
   .exact we.mpr ⟨K.length,vK.mpr z,by rw[e,List.take_left]⟩
   .have:L=[]:=uA.mp (by lia);rw[this,vW] at e;exact we.mpr ⟨0,vK.mpr hM,by rw[<- e,vM];rfl⟩
  rw[wd,v6] at this;lia
noncomputable def tl (ws:List (List P × P)):Nat:=(ws.map λx=>x.1.length).sum
def z5O (ws:List (List P × P))(x:List P × P):tl (ws++[x])=tl ws+x.1.length:=by simp[tl]
def zii (A B n:Nat):min A n - min B n<=A - B:=by
 rcases Nat.le_total B n with h | h
 .rw[Nat.min_eq_left h];exact Nat.sub_le_sub_right (Nat.min_le_left ..) _
 .rw[Nat.min_eq_right h,Nat.sub_eq_zero_of_le (Nat.min_le_right ..)];exact Nat.zero_le _
def kyA {a:Nat}{sz:Int}(Y:0<=sz/\sz<12):∀L:Nat,L<=(if 61<a+(1+sz) then 61 else a+(1+sz)).toNat - ((a:Int)+1).toNat->L<=11/\L<=sz.toNat/\L<=60 - a:=λL hL=>by split at hL <;> omega
def kyB {a:Nat}{sz:Int}(Y:0<=sz):0<=(if 61<a+(1+sz) then 61 else a+(1+sz)):=by split <;> omega
def kyC {a:Nat}{sz:Int}(p:(a:Int)<61)(Y:0<=sz):(a:Int)<(if 61<a+(1+sz) then 61 else a+(1+sz)):=by split <;> omega
def kyE {n a:Nat}{k:Int}(p:a<n)(q:(a:Int)<k)(e:min (min k.toNat n - a) (n - a)=0):False:=by omega
def kyD {a:Nat}{sz k:Int}(N:k=(if 61<a+(1+sz) then 61 else a+(1+sz)))(Y:0<=sz)(w:sz<12):∀L:Nat,L<=k.toNat - a->L<=12/\L<=1+sz.toNat/\L<=61 - a:=λL hL=>by split at N <;> omega
def zhg (h0:ns≠[])(hz:ns.length<=63)(q:∀ws:List (List P × P),(∀x∈ws,Wt4 x)->ws.length<=12->tl ws<=60->Q (.tup (ws.map wtD))):z0A.run [.lst (ns.map .int)] Q X:=by
 have J:=wY.mpr h0;obtain⟨c0,_,e0⟩:=z5s (xs:=ns) (i:=0) (by decide) (by lia);walk_at "fn";ac_nf;refine z0P (z0G e0) ?_;ac_nf;refine menu (ns:=[3,12,10 ^ 9]) (by lia) (by show c0 / 2 % 3<3;lia) λm W =>?_;have b:0<=m/\m<=1000000000:=by
  simp only[wm,wE,vO] at W;lia
 clear W;have bm:Bt 640 m:=z05 (by lia);ac_nf;refine z22 (λx e=>by cases e) ?_;ac_rfl;ac_nf;refine z5K (λM=>Ee5 λws a (x4 x5 x6:B)=>(∀x∈ws,Wt4 x)/\ws.length<=12/\1<=a/\a<=100/\tl ws<a/\tl ws<=60/\M=[.s (.lst (ns.map .int)),.s (.int m),.o (.lst (ws.map wtD)),.s (.int a),x4,x5,x6]) (λM=>(100 - nI M 3).toNat) ⟨[],1,_,_,_,λ_ z=>by(cases z),by simp,by simp,by simp,by simp[tl],by simp[tl],rfl⟩ ?_;rintro M ⟨ws,a,x4,x5,x6,r,j,a0,ha,a1,I,rfl⟩;ac_nf;rw[wd,min2];refine z0K (λh =>?_) (λh =>?_)
 .ac_nf;rw[wd];refine z0K (λN =>?_) (λN =>?_)
  .obtain⟨c,_,C⟩:=z5s (xs:=ns) (i:=a) (by lia) (by lia);ac_nf;refine z0P (z0G C) ?_;ac_nf;have Y:0<=c % 12/\c % 12<12:=by lia
   generalize c % 12=sz at*;refine z0P (z0G C) ?_;ac_nf;generalize c / 12=f at*;refine zcc b.1 b.2 λu O =>?_;ac_nf;refine z22 (λx e=>by rw[wg.mp e];exact Safe.of_noL rfl rfl _) ?_;ac_rfl;refine z4Z (zmr (z0O rfl ?_));ac_nf;rw[z2E];have key:=kyA (a:=a) Y
   have U:=kyB (a:=a) Y.1
   have a3:=key ((ns.drop (HT.sIx ns.length 0 (some (a+1)))).take (HT.sIx ns.length ns.length (some (if 61<a+(1+sz) then 61 else a+(1+sz))) - HT.sIx ns.length 0 (some (a+1)))).length (by rw[vA,jB,z8b (k:=a+1) (by lia),z8b U];exact wP (Nat.min_le_left ..) (zii ..));clear key U;generalize (ns.drop (HT.sIx ns.length 0 (some (a+1)))).take (HT.sIx ns.length ns.length (some (if 61<(a:Int)+(1+sz) then 61 else a+(1+sz))) - HT.sIx ns.length 0 (some ((a:Int)+1)))=Z at*;refine⟨by rw[wd];exact szl' (by lia),?_⟩;refine z4Q (g:=vec) (P:=λ_ p=>Far 1000000000 p) (λc _ K hK =>?_) λw a2 hy =>?_
   .ac_nf;exact zcc b.1 b.2 hK
   refine⟨by simp;exact szl (by lia),λd hd =>?_,?_⟩
   .obtain⟨y,_,rfl⟩:=we.mp hd;exact Safe.of_noL rfl rfl _
   ac_rfl;rw[show vec u::w.map vec=(u::w).map vec from rfl];refine z4Z (z5x (l:=[]) (z0O rfl ?_));ac_nf;refine zlh ⟨by decide,by decide,by lia⟩ ?_;have hw:0<(2*m+1) ^ (2:Int).toNat:=by
    show 0<(2*m+1) ^ 2;exact Int.pow_pos (by lia)
   have bw:Bt 9000 ((2*m+1) ^ (2:Int).toNat):=by
    have R:Bt 40 (2*m+1):=z05 (by lia);show Bt 9000 ((2*m+1) ^ 2);rw[show (2*m+1) ^ 2=(2*m+1)*(2*m+1) by grind];exact(Bt.mul R R).le
   refine zgw hw bw ?_;ac_nf;refine zcc b.1 b.2 λs Y =>?_;ac_nf;refine⟨by rw[wd];exact szl' (by lia),Safe.of_noL (zgx (u::w,s)) (zgy (u::w,s)) _,?_⟩;ac_rfl;ac_nf;refine⟨⟨ws++[(u::w,s)],a+(1+sz.toNat),.s (.int (1+sz)),.s (.int f),.o (.lst ((u::w).map vec)),λx e =>?_,by simp;lia,by lia,by lia,by rw[z5O];simp;lia,by rw[z5O];simp;lia,?_⟩,?_⟩
   .rcases wG.mp e with e | e
    .exact r x e
    .rw[wg.mp e];refine⟨λp J =>?_,by simp,by show (u::w).length<=12;simp;lia,(Y.vb (n:=30) (by decide)).le⟩
     rcases wm.mp J with rfl | J
     .exact(O.vb (n:=30) (by decide)).le
     .obtain⟨_,_,hf⟩:=hy p J;exact(hf.vb (n:=30) (by decide)).le
   .rw[wD,show ((a+(1+sz.toNat):Nat):Int)=(a:Int)+(1+sz) by lia]
    rfl
   .show (100 - ((a:Int)+(1+sz))).toNat<(100 - (a:Int)).toNat
    lia
  .ac_nf;exact q ws r j I
 .ac_nf;exact q ws r j I
noncomputable def tr (x:List P × P):List P:=x.1.map (mv x.2)
abbrev MS (ws:List (List P × P)):P->Prop:=Ms (ws.map tr)
def zj1 (h:most x.1 b m):Geo.Far (· ∈ tr x) b (m+dot x.2 b):=by
 have e:∀v,Geo.sc (mv x.2 v) b=dot v b+dot x.2 b:=λv=>by
  simp[Geo.sc,mv,dot]
  grind
 refine⟨λp f =>?_,?_⟩
 .obtain⟨v,a,rfl⟩:=we.mp f;have:=h.2 v a;rw[e];lia
 .obtain⟨v,a,d⟩:=we.mp h.1;refine⟨mv x.2 v,ur a,?_⟩;rw[e, <- d]
def z7J (h:Geo.Far (Ms ds) b F)(k:Geo.Far (· ∈ d) b M):Geo.Far (Ms (d::ds)) b (M+F):=by
 refine⟨λp i =>?_,?_⟩
 .obtain⟨q,a,r,e,rfl⟩:=i;have:=h.1 r e;have:=k.1 q a;rw[zh9];lia
 .obtain⟨r,e,f⟩:=h.2;obtain⟨q,a,g⟩:=k.2;exact⟨Geo.pl q r,⟨q,a,r,e,rfl⟩,by rw[zh9,f,g]⟩
theorem z79:∀{ws:List (List P × P)}{t:Int},Sums ws b t->Geo.Far (MS ws) b t
 | [],t,⟨d,a,_,e⟩=>by
  have  := uA.mp a;rw[e,this];exact z9K
 | x::ws,t,⟨d,a,g,e⟩=>by
  obtain⟨m,l,f⟩:=g 0 (by simp)
  cases d with
  | nil=>simp at a
  | cons o d=>
   have f  := by simpa using f
   have j:=z79 ⟨d,by simpa using a,λi h=>by
    obtain⟨n,r1,r2⟩:=g (i+1) (by simpa using h);exact⟨n,by simpa using r1,by simpa using r2⟩,rfl⟩
   rw[e,f];exact z7J j (zj1 l)
theorem zig:∀{ds:List (List P)}{p:P},(∀d∈ds,Wb 150 d)->Ms ds p->Vb (150+ds.length) p
 | [],p,_,h=>by
  have  := h;rw[this];exact⟨Bt.le (m:=1) (z05 (by decide)),Bt.le (m:=1) (z05 (by decide))⟩
 | d::ds,p,g,⟨q,i,r,j,e⟩=>by
  have b:=g d (by simp) q i;have f:=zig (λd a=>g d (by simp[a])) j;rw[e];exact⟨Bt.le (Bt.add b.1 f.1) (by simp;lia),Bt.le (Bt.add b.2 f.2) (by simp;lia)⟩
def zbM (h:Wt4 x):Wb 150 (tr x):=λp b=>by
 obtain⟨v,a,rfl⟩:=we.mp b;exact⟨Bt.le (Bt.add (h.wb v a).1 h.vb.1),Bt.le (Bt.add (h.wb v a).2 h.vb.2)⟩
def zo1 (b:∀x∈ws,Wt4 x)(f:ws.length<=20)(h:MS ws p):Vb 200 p:=by
 have:=zig (λd a=>by obtain⟨x,e,rfl⟩:=we.mp a;exact zbM (b x e)) h;rw[wd] at this;exact⟨this.1.le (by lia),this.2.le (by lia)⟩
def zbP (ws:List (List P × P))(n:Nat):tl (ws.take n)<=tl ws:=by
 have:=congrArg tl (jf n ws);simp only[tl,wD,u5] at this ⊢;lia
def zjD (h:List P):h.length<=(Geo.rd h).length+1:=by
 unfold Geo.rd
 split
 .simp;lia
 .have:∀l,l.length<=(df l).length+1:=λl=>by
   induction l with
   | nil=>simp
   | cons a r d=>cases r with
    | nil=>simp
    | cons b r=>rw[df];simp_all
  grind
def z83 (x:z03 S h):z03 (· ∈ h) h:=x.of x.sub λ_ a=>a
def z2s:Fn:=Fn.mkN 3 3 (.ret (.op pGt [.op pAdd [.op z0b [.op pIx [.v 1,.c (.int 0)],.op pIx [.v 0,.c (.int 0)]],.op z0b [.op pIx [.v 1,.c (.int 1)],.op pIx [.v 0,.c (.int 1)]]],.op z0b [.v 2,.op pIx [.v 0,.c (.int 2)]]]))
end Pu
namespace Geo
def zgZ (ne:a≠b):(Qa a b p=0/\0<=dot a b p/\0<=dot b a p)↔(0<=Qa a b p/\0<=Qa b a p/\(a.1 - p.1)*(b.1 - p.1)+(a.2 - p.2)*(b.2 - p.2)<=0):=by
 obtain⟨f,g⟩:=a;obtain⟨h,i⟩:=b;obtain⟨d,e⟩:=p;simp only[Qa,dot];have q:(h - f)*(e - g) - (i - g)*(d - f)=(f - d)*(i - e) - (g - e)*(h - d):=by grind
 have r:(f - h)*(e - i) - (g - i)*(d - h) = -((f - d)*(i - e) - (g - e)*(h - d)):=by grind
 have t:(d - f)*(h - f)+(e - g)*(i - g)=((f - d)*(f - d)+(g - e)*(g - e)) - ((f - d)*(h - d)+(g - e)*(i - e)):=by grind
 have u:(d - h)*(f - h)+(e - i)*(g - i)=((h - d)*(h - d)+(i - e)*(i - e)) - ((f - d)*(h - d)+(g - e)*(i - e)):=by grind
 have o:¬ (f - d=h - d/\g - e=i - e):=λz=>ne (ub (by simp;lia) (by simp;lia));rw[q,r,t,u];generalize f - d=A at*;generalize g - e=B at*;generalize h - d=C at*;generalize i - e=E at*;clear q r t u ne;have l:∀x:Int,0<=x*x:=λx=>by
  rcases Int.le_total 0 x with z | z
  .exact wN z z
  .exact vZ z z
 constructor
 .rintro⟨y,F,G⟩;refine⟨by lia,by lia,?_⟩
  rcases uj 0 (A*C+B*E) with z | z
  .exfalso
   have j:(A*C+B*E)*(A*C+B*E)+(A*E - B*C)*(A*E - B*C)=(A*A+B*B)*(C*C+E*E):=by grind
   rw[y,je,ux] at j;have df:(A - C)*(A - C)+(B - E)*(B - E)=(A*A+B*B)+(C*C+E*E) - 2*(A*C+B*E):=by grind
   have L:=l (A - C);have M:=l (B - E);generalize A*C+B*E=s at*;generalize A*A+B*B=m at*;generalize C*C+E*E=n at*;have H:m=s:=by
    rcases uj s m with w | w
    .have:=u6 w (show 0<n by lia);have:=wT (show s<=n by lia) (show 0<=s by lia);lia
    .lia
   have K:n=s:=by
    rw[H] at j;exact(Int.eq_of_mul_eq_mul_left (by lia) j).symm
   have I:(A - C)*(A - C)=0:=by omega
   have J:(B - E)*(B - E)=0:=by omega
   have N:=wK.mp I;have O:=wK.mp J;exact o ⟨by lia,by lia⟩
  .exact z
 .rintro⟨y,F,G⟩;have:=l A;have:=l B;have:=l C;have:=l E;exact⟨by lia,by lia,by lia⟩
end Geo
namespace Pu
open PySem L2 Mth
abbrev Rs:=Int × Int × Int
abbrev pcD (x y t:Int):D :=.tup [.int x,.int y,.int t]
structure Pc (x y t:Int):Prop where
 pos:0<t
 bx:Bt 800 x
 bY:Bt 800 y
 bt:Bt 110 t
 cop:Int.gcd ((Int.gcd x y):Int) t=1
def Pl.pc {x y b u v t:Int}(h:Pl x y b u v t)(f:0<b)(d:Bt 110 b)(e:Bt 800 x)(a:Bt 800 y):Pc u v t:=by
 obtain⟨g,i,j⟩:=h.bt f d e a;exact⟨h.pos,i,j,g,h.cop⟩
def deq3 (a b c x y z:Int):deq (pcD a b c) (pcD x y z)=decide (a=x/\b=y/\c=z):=by
 show PyData.eqv (.tuple [.int a,.int b,.int c]) (.tuple [.int x,.int y,.int z])=_;simp[PyData.eqv,PyData.eqvAll]
 rfl
def Da3 (a b c:Int):Da (n+1) (pcD a b c):=Da.tup.mpr λd e=>by
 simp[wm,wE,vO] at e
 rcases e with rfl | rfl | rfl <;> exact Da.int
def zfJ (f:Wb 600 l)(a:Vb 700 b)(h:m∈l.map (dot · b)):Bt 1400 m:=by
 obtain⟨p,g,rfl⟩:=we.mp h;obtain⟨d,e⟩:=f p g;exact Bt.le (Bt.add (Bt.mul d a.1) (Bt.mul e a.2))
def zeo {x y t m:Int}(pc:Pc x y t)(f:Vb 700 b)(j:Bt 1400 m)(q:Q (.bl (decide (m*t<dot (x,y) b)))):z2s.run [pcD x y t,vec b,.int m] Q X:=by
 obtain⟨g,o,i,e,_⟩:=pc;obtain⟨p,r⟩:=f;walk_at "fn";ac_nf;rw[show b.1*x+b.2*y=dot (x,y) b by simp[dot];rw[wS b.1,wS b.2]];exact q
def zbm (q:Q (.bl (decide (x=y)))):pEq.run [.str x,.str y] Q X:=q
end Pu
namespace Tim
open PySem PyProof.Rows PySem.W HT
def TP (h:Heap)(v:Value)(n:Int):Prop:=∃a o b m t r,v = .ref a/\h.get? a=some o/\o.cls = .type "tuple"/\o.data = .seq b m/\b.toList=[.int n t,r]
def TP.keep {h f:Heap}{v:Value}{n:Int}(x:TP h v n)(g:∀b o,h.get? b=some o->o.cls = .type "tuple"->f.get? b=some o):TP f v n:=by
 obtain⟨a,o,d,m,t,r,e,j,i,l,p⟩:=x;exact⟨a,o,d,m,t,r,e,g _ _ j i,i,l,p⟩
noncomputable def keyP (h:Heap)(v:Value):Int:=match v with
 | .ref a=>match h.get? a with
  | some o=>match o.data with
   | .seq b _=>match b.toList with
    | .int n _::_=>n
    | _=>0
   | _=>0
  | none=>0
 | _=>0
def TP.key {h:Heap}{v:Value}{n:Int}(x:TP h v n):keyP h v=n:=by
 obtain⟨a,o,f,m,t,r,rfl,b,_,d,e⟩:=x;simp[keyP,b,d,e]
section
variable {prog:Program}{w:World}{A:Around}{s:Shared}
def lex1 (a b:Int):z0H [a] [b]=decide (a<b):=by
 rw[z13]
 by_cases e:a=b
 .rw[if_pos e]
  symm
  exact vB (by omega)
 .rw[if_neg e]
def ziq {t u:Tok}(a:n=m->r=r')(h:Q (decide (n<m)) s):KatLex prog w A b false Q ([Value.int n t,r].zip [Value.int m u,r']) 0 s:=by
 refine kat_cons (wpAny_eqBool_int ?_)
 by_cases e:n=m
 .subst e;rw[show (n == n)=true by simp];obtain rfl:=a rfl;refine kat_yes (kat_cons (SeqAt.EqAt.same r _ w _ _ (kat_yes (kat_nil ?_))))
  grind
 .rw[show (n == m)=false by simpa using e];refine kat_no ?_
  cases d:(b && 0 == 0) with
  | true=>exact oneLt_int h
  | false=>exact kat_one _ _ (lt_int h)
theorem z8E {key:Value->Int}:∀{vs:List Value},(∀v∈vs,TP h v (key v))->∃fs,KatTups h vs fs/\fs.length=vs.length/\∀f∈fs,∃n t,f = .int n t
 | [],_=>⟨[],.nil,rfl,λ_ h=>by cases h⟩
 | v::vs,d=>by
  obtain⟨fs,q,s,u⟩:=z8E (λv m=>d v (wo _ m));obtain⟨a,o,p,n,t,r,e,g,i,j,l⟩:=d v (wB ..);subst e;refine⟨.int _ t::fs,.cons g i j (by rw[<- uS,l];rfl) q,by simp[s],λf b =>?_⟩
  rcases wm.mp b with rfl | b
  .exact⟨_,_,rfl⟩
  .exact u f b
def z5y.prs {h:Heap}{vs:List Value}{key:Value->Int}(a:∀v∈vs,TP h v (key v))(inj:∀u∈vs,∀v∈vs,key u=key v->u=v):z5y prog w h vs (λv=>rkL (vs.map λv=>[key v]) [key v]):=λA s k=>by
 refine⟨tuples' true,?_,λO Q E q =>?_⟩
 .intro x d y f Q E g;rw[<- zaa (we.mpr ⟨_,d,rfl⟩) (we.mpr ⟨_,f,rfl⟩),lex1] at g;have R:=inj _ d _ f;obtain⟨K,W,C,S,Z,r1,o,r,M,l,i⟩:=(a _ d).keep k;obtain⟨L,X,F,U,t2,r2,p,z,N,m,j⟩:=(a _ f).keep k;rw[o,p];have G:C.size=2:=by rw[<- uq,i];rfl
  have H:F.size=2:=by rw[<- uq,j];rfl
  refine kat_lt r l z m ?_;rw[i,j,show decide _=false by rw[G,H];rfl];refine ziq (λe =>?_) g
  grind
 .obtain⟨fs,I,Y,J⟩:=z8E λv b=>(a v b).keep k;refine kat_kind (T :=.type "int") I (by omega) (λv b =>?_) rfl q;obtain⟨n,t,rfl⟩:=J v b;exact Looks.now
end
end Tim
namespace Pu
open PySem PySem.Spec PyProof.Rows L2 Tab
abbrev pdD (x:Int × D):D :=.tup [.int x.1,x.2]
def zlS (d:D)(Q:DK):Prop:=∃e,d = .lst (e.map pdD)/\(e.map (·.1)).Nodup/\e.length<=63/\∀f:List (Int × D),f.Perm e->f.Pairwise (λa b=>a.1<b.1)->Q (.lst (f.map pdD))
def zgs:Fn:=fn1 zlS λd Q l m h=>by
 obtain⟨j,e,f,g,q⟩:=h;exact⟨j,e,f,g,λi a b=>m _ (q i a b)⟩
section
variable {X:Cx}
theorem zcr {G:Hp}{P:Value->Int->Prop}(g:∀b n u,SqT X.K G b [.int n,u]->P (.ref b) n):∀{e:List (Int × D)}{xs:List V}{d:List Value},RDs X.K X.mg G (e.map pdD) xs->Vals xs d->Two (λv p=>P v p.2.1/\RelV p.1 v/\RD X.K X.mg G (pdD p.2) p.1) d (xs.zip e)
 | [],xs,d,h,r=>by
  subst h
  cases r
  exact .nil
 | x::e,xs,d,h,r=>by
  obtain⟨v,vs,rfl,f,i⟩:=h
  cases r with
  | cons r1 r2=>
   refine .cons ⟨?_,r1,f⟩ (zcr g i r2);obtain⟨a,q,rfl,j,l⟩:=z1I f
   cases r1
   obtain⟨y,z,rfl,m,o⟩:=rds2 l;subst m;exact g a x.1 z j
theorem z9a {G:Hp}{P:Value->Int->Prop}:∀{a:List Value}{m:List (V × Int × D)},Two (λv p=>P v p.2.1/\RelV p.1 v/\RD X.K X.mg G (pdD p.2) p.1) a m->Vals (m.map (·.1)) a/\RDs X.K X.mg G ((m.map (·.2)).map pdD) (m.map (·.1))
 | _,_,.nil=>⟨.nil,RDs.nil⟩
 | _,_,.cons ⟨_,b,d⟩ t=>⟨.cons b (z9a t).1,RDs.cons d (z9a t).2⟩
theorem z5M {d e j:Type}{R:d->e->Prop}{f:d->j}{g:e->j}(i:∀a b,R a b->f a=g b):∀{l:List d}{m:List e},Two R l m->l.map f=m.map g
 | _,_,.nil=>rfl
 | _,_,.cons h t=>by rw[wA,wA,i _ _ h,z5M i t]
theorem zdg {i m:Type}{f:i->m}:∀{l:List i},(l.map f).Nodup->∀u∈l,∀v∈l,f u=f v->u=v
 | a::l,h,u,j,v,g,e=>by
  rw[wA,vR] at h
  rcases wm.mp j with rfl | d
  .rcases wm.mp g with rfl | b
   .rfl
   .exact(h.1 (we.mpr ⟨v,b,e.symm⟩)).elim
  .rcases wm.mp g with rfl | b
   .simp_all
   .exact zdg h.2 u d v b e
def zg6 {h:Heap}{o:Type}{d e:List Value}{m:List o}{g:o->Int}(j:e.Perm d)(t:e.Pairwise λx y=>Tim.rkL (d.map λv=>[Tim.keyP h v]) [Tim.keyP h x]<=Tim.rkL (d.map λv=>[Tim.keyP h v]) [Tim.keyP h y])(s:e.map (Tim.keyP h)=m.map g)(i:(m.map g).Nodup):m.Pairwise λa b=>g a<g b:=by
 have n:(e.map (Tim.keyP h)).Pairwise (· <= ·):=by
  rw[wZ];refine t.imp_of_mem λ{x y} q r f =>?_;have p:=Tim.zaa (l:=d.map λv=>[Tim.keyP h v]) (we.mpr ⟨y,j.mem_iff.mp r,rfl⟩) (we.mpr ⟨x,j.mem_iff.mp q,rfl⟩);rw[Tim.lex1,vB (Nat.not_lt.mpr f)] at p;lia
 rw[s,wZ] at n;unfold List.Nodup at i;rw[wZ] at i;exact(n.and i).imp λ{x y} h=>by
  lia
def zbB:z0D X (.builtin "sorted") (λvs H Q=>∃(G:Hp) (a:Addr) (xs:List V) (rs:List (Int × D)),vs=[.ref a]/\Same G H/\SqL X.K G a xs/\RDs X.K X.mg G (rs.map pdD) xs/\(rs.map (·.1)).Nodup/\rs.length<=63/\
  ∀x f (L:List (Int × D)),H x=none->RDs X.K X.mg G (L.map pdD) f->L.Perm rs->L.Pairwise (λa b=>a.1<b.1)->Q (.ref x) (upd H x (.lst f))):=by
 rintro R s σ H xs us Q I rv ⟨G,a,w,rs,e,g,hs,N,J,hz,q⟩;subst e;obtain⟨u,rfl,rx⟩:=z32 rv
 cases rx
 obtain⟨d,r,pl,_⟩:=I.list (z1l g hs);have j:=zcr (P:=λv n=>Tim.TP s.heap v n) (λb n u h=>by
  obtain⟨a1,r',⟨o,ho,Y,m,Z⟩,_⟩:=I.tuple (z0L g h)
  cases r' with
  | cons r1 r2=>
   obtain⟨t,rfl⟩:=r1
   cases r2 with
   | cons r3 r4=>
    cases r4
    exact⟨b,o,_,m,t,_,rfl,ho,Y,Z,rfl⟩) N r
 have i:d.map (Tim.keyP s.heap)=(w.zip rs).map (·.2.1):=z5M (λv p h=>h.1.key) j;have l:w.length=rs.length:=by rw[N.len,wd]
 have U:(w.zip rs).map (·.2.1)=rs.map (·.1):=by
  rw[show ((w.zip rs).map (·.2.1))=((w.zip rs).map (·.2)).map (·.1) by rw[wM];rfl,List.map_snd_zip (by lia)]
 have A:∀v∈d,Tim.TP s.heap v (Tim.keyP s.heap v):=λv E=>by
  obtain⟨p,_,y,_⟩:=j.mem_left E;rw[y.key];exact y
 have inj:∀u∈d,∀v∈d,Tim.keyP s.heap u=Tim.keyP s.heap v->u=v:=λu hu v E e=>by
  rw[U] at i;rw[<- i] at J;exact zdg J u hu v E e
 have a0:d.length=rs.length:=by rw[<- r.length,l]
 refine Tim.z5W λE' =>?_;refine collect_list (vs:=d) (by simpa using pl.isList) ?_ (by lia);have keep:∀b o,s.heap.get? b=some o->((s.heap.push (seqObj "list" #[] 0)).update s.heap.objs.size (Obj.mapSeq (· ++ d.toArray))).get? b=some o:=λb o z=>by
  rw[Heap.get?_update_ne _ _ _ _ (wJ (ww z))];exact wf _ z
 refine⟨_,by lia,(Tim.z5y.prs A inj).keep keep,λf O p2 h' kp C =>?_⟩;obtain⟨e,C⟩:=C;obtain⟨m,S,T⟩:=j.perm O.symm;obtain⟨v1,v2⟩:=z9a T;have M:s.heap.get? ((s.heap.push (seqObj "list" #[] 0)).update s.heap.objs.size (Obj.mapSeq (· ++ d.toArray))).objs.size=none:=by
  cases z:s.heap.get? ((s.heap.push (seqObj "list" #[] 0)).update s.heap.objs.size (Obj.mapSeq (· ++ d.toArray))).objs.size with
  | none=>rfl
  | some o=>exact absurd (ww (keep _ _ z)) (vN _)
 have perm:(m.map (·.2)).Perm rs:=by
  have:=(S.map (·.2)).symm
  rwa [List.map_snd_zip (by lia)] at this
 have F:(m.map (·.1)).length<=sizeLine:=by
  have y:=S.length_eq;have W:=perm.length_eq;rw[wd] at W ⊢;exact wP (show m.length<=64 by lia) (by decide)
 refine⟨.ref _,upd H _ (.lst (m.map (·.1))),I.laid' (o :=.lst (m.map (·.1))) (t':=s.toks) (λb o z=>kp b o (keep b o z)) M ⟨F,f,e,v1,C⟩,rfl,q _ _ _ (I.hok.none_of M) v2 perm ?_⟩;refine wZ.mpr (zg6 (h:=s.heap) (g:=λp:V × Int × D=>p.2.1) O p2 (z5M (λv p h=>h.1.key) T) ?_);have:=perm.map (·.1);rw[wM] at this;exact this.nodup_iff.mpr J
def zfP:z0D X (.builtin "sorted") (rNf X.K X.mg zgs):=zbB.imp <| by
 rintro vs H Q ⟨G,y,w,x,g,rds,j,i⟩;obtain⟨d,rfl,b⟩:=z1o j;obtain⟨v,rfl,rd⟩:=rds1 rds;obtain⟨t,rfl,n,m,q⟩:=b;obtain⟨a,u,rfl,e,f⟩:=z1V rd;exact⟨G,a,u,t,rfl,g,e,f,n,m,λD o s h l p r=>i.newL g h (q s p r) l⟩
end
end Pu
namespace Idx
open PySem PySem.Spec PyProof.Rows SeqAt
def ziU {M:Model}{A:Around}{E:WvP}{s:Shared}{g:Type}{hi:Nat}(f:Nat->g->Sem (ForInStep g))(J:Nat->g->Shared->Prop)(Q:g->Shared->Prop){b:g}
  (step:∀i b s,i<hi->J i b s->wpAny M A (f i b) (λr s'=>match r with | .yield d=>J (i+1) d s' | .done d=>Q d s') E s)
  (last:∀b s,J hi b s->Q b s) (h:J 0 b s):wpAny M A (forIn [:hi] b f) Q E s:=by
 rw[Std.Legacy.Range.forIn_eq_forIn_range'];have sz:([:hi]).size=hi:=by simp_all
 rw[sz];refine jA f (λa b s=>∃i,i<=hi/\a=List.range' i (hi - i)/\J i b s) Q ?_ ?_ _ b ⟨0,by omega,rfl,h⟩
 .rintro x a b s ⟨i,m,e,l⟩
  rcases wR i hi with z | z
  .rw[show hi - i=hi - (i+1)+1 by omega] at e;obtain⟨rfl,rfl⟩:=List.cons.inj e;refine vQ (step x b s z l) (λr s' n =>?_) λ_ _ j=>j
   cases r with
   | yield d=>grind
   | done d=>exact n
  simp_all
 grind
def ziZ (l:Addr)(a:Array Value)(n:Nat)(u:Option Addr)(sl:Array (Option Value))(x:Value)(e:Value->Bool)(j:Nat)(K:j<a.size)(q:e a[j]=true)(r:∀m L,m<j->e a[m]=false):
  Meets (Builtin.«tuple.index» ⟨[.ref l,x],[]⟩) (λA R s=>s.heap.get? l=some { cls :=.type "tuple",dict:=u,data :=.seq a n,slots:=sl }/\(∀y,y∈a->EqAt A.in1 s y x (e y))/\R (.ok (.ret (.int j s.toks))) { s with toks:=s.toks+1 }):=
 .of_wp λo w A R s h=>by
  obtain⟨G,g,d,I,H⟩:=s;obtain⟨F,E,h⟩:=h
  wp_walk using jn F,ziU _ (λi b t=>Aa3 (b.1=none) (t=⟨G,g,d,I,H⟩) (i<=j)) _
  case step=>
   rintro i b t J ⟨C,rfl,p⟩;have f:i<a.size:=by omega
   rw[uL f];refine wc (E a[i] (Array.getElem_mem f) o w _ _ ?_)
   rcases wR i j with z | z
   .rw[r i f z]
    wp_walk
    exact⟨rfl,rfl,z⟩
   .obtain rfl:i=j:=by omega
    rw[q]
    wp_walk
    exact⟨_,rfl,h⟩
  case last=>
   rintro b t ⟨C,rfl,p⟩;omega
  case h=>exact⟨rfl,rfl,by omega⟩
end Idx
namespace Pu
open PySem PySem.Spec PyProof.Rows L2 Tab
section
variable {X:Cx}{G H:Hp}
def z5q (b a:D)(Q:DK):Prop:=match b with
 | .tup l=>Da 60 a/\(∀d∈l,Da 60 d)/\(∃d∈l,deq d a=true)/\∀(i:Nat) d,l[i]? = some d->deq d a=true->(∀j e,j<i->l[j]? = some e->deq e a=false)->Q (.int i)
 | _=>False
def z9I (a b:D)(Q Q':DK)(m:∀d,Q d->Q' d)(h:z5q a b Q):z5q a b Q':=by
 unfold z5q at h ⊢
 split at h
 .exact⟨h.1,h.2.1,h.2.2.1,λi d e f g=>m _ (h.2.2.2 i d e f g)⟩
 omega
def zcH:Fn:=fn2 z5q z9I
open Classical in
theorem z6l {d:Type}(f:d->Bool):∀(l:List d),(∃x∈l,f x=true)->∃(i:Nat) (x:d),l[i]? = some x/\f x=true/\∀(j:Nat) (y:d),j<i->l[j]? = some y->f y=false
 | [],⟨x,b,_⟩=>by cases b
 | a::l,⟨x,b,h⟩=>by
  cases g:f a with
  | true=>exact⟨0,a,rfl,g,λj y p=>by omega⟩
  | false=>
   rcases wm.mp b with rfl | b
   .rw[g] at h;cases h
   .obtain⟨i,y,m,n,o⟩:=z6l f l ⟨x,b,h⟩;refine⟨i+1,y,by rw[u3];exact m,n,λj z p e =>?_⟩
    cases j with
    | zero=>rw[jz] at e;cases e;exact g
    | succ j=>exact o j z (by omega) (by rwa [u3] at e)
def zhk (X:Cx):V->List V->Hp->VK->Prop:=λx g H Q=>∃(G:Hp) (a:Addr) (f:List V) (l:List D) (d:D) (v:V),x = .ref a/\g=[v]/\Same G H/\SqT X.K G a f/\RDs X.K X.mg G l f/\RD X.K X.mg G d v/\Da 60 d/\(∀e∈l,Da 60 e)/\(∃e∈l,deq e d=true)/\
 ∀(i:Nat) e,l[i]? = some e->deq e d=true->(∀j b,j<i->l[j]? = some b->deq b d=false)->Q (.int i) H
def z6E (hu:X.A.units+64<cLine):MtR X "tuple.index" (zhk X):=by
 rintro N s σ H x xs v us Q I rx rs ⟨G,a,ys,l,d,w,T,U,g,hT,J,hd,W,Y,Z,q⟩;subst T;subst U
 cases rx
 obtain⟨u,rfl,ru⟩:=rs.one;obtain⟨b,O,pl,_⟩:=I.tuple (z0L g hT);obtain⟨e,q1,_,q2⟩:=z4S I g hu hd ru W Y J O;obtain⟨⟨R,S,t,sl⟩,K,C,n,f⟩:=id pl;simp only at C f;subst C f;obtain⟨i,x,j,L,h⟩:=z6l (λe=>deq e d) l Z;have il:i<l.length:=by
  rcases wR i l.length with z | z
  .exact z
  .rw[uQ z] at j;cases j
 have len:b.length=l.length:=by rw[<- O.length,J.len]
 have E:i<b.toArray.size:=by simpa[len] using il
 have val:∀(m:Nat) o y,l[m]? = some y->e b.toArray[m]=deq y d:=λm o y r=>q2 m _ y (by rw[wn (by simpa using o)];simp) r;refine call_meets PySem.F.slot_tuple_index ⟨_,K,rfl⟩ PySem.F.entry_tuple_index (PySem.F.args_tuple_index_2 _ _) (Idx.ziZ a b.toArray n S sl u e i E ((val i E x j).trans L) λm o p =>?_) ⟨K,λy r=>q1 y (by simpa using r),?_⟩
 .have M:m<l.length:=by omega
  rw[val m o _ (wn M)];exact h m _ p (wn M)
 .exact⟨.int i,H,I.tok _,⟨_,rfl⟩,q i x j L h⟩
end
section
variable {X:Cx}{E:XK}{o e:Expr}{apos cpos:Pos}{i j:Nat}
def tBMT (K:W.Frag)(r:V->List V->Hp->VK->Prop)(f:TE)(t:TA):TE:=λd H Q=>f d H λx b=>(∃p a,x = .ref p/\SqT K b p a)/\t d b λa e=>r x a e Q
def zkn {id:String}{name:Str}{r:V->List V->Hp->VK->Prop}{w:TE}{n:TA}(g:Slot "tuple" name id)(l:typeOf (.builtin id)=pure (.type "method_descriptor"))(L:MtR X id r)(M:QE X o w)(J:QA X [e] n)
  (b:autoParam (aB o name X) jA1)
  (f:autoParam (aG cpos [e] X) jA1)
  (d:autoParam (aL apos cpos) jA1) (N:autoParam (sE e [] X) jA1) (i:autoParam (bT cpos [] X) jA1):
  QE X (.Call (.Attribute o name apos) [e] [] cpos) (tBMT X.K r w n):=⟨by
 intro u s m H Q I h;refine wpAny_Call_method_late b f d rfl (thn (M.p _ s m H _ I h) λv U Z =>?_);obtain⟨x,y,j,r1,⟨p,xs,ex,t⟩,S⟩:=Z;subst ex
 cases r1
 obtain⟨O,_,⟨R,E,G,_⟩,_⟩:=j.tuple t;refine⟨"tuple",id,PySem.F.plainAttrs_tuple,g,l,⟨R,E,G⟩,λa C =>?_,?_⟩
 .cases C
  exact j.tupNoD t
 have q:=J.p cpos _ U m y _ j S;rw[N] at q ⊢;refine u7 (by rfl) (Calls.evalArgs_plain ?_);exact thn q λY W ⟨vs,z,A,r2,T⟩=>L _ W m z (.ref p) vs _ Y Q A rfl r2 T⟩
set_option tactic.hygienic true in
def zb4 (hu:X.A.units+64<cLine)(ho:QX X E o (.v i))(ha:QXA X E [e] [.v j])
  (s:autoParam (aB o "index" X) jA1)
  (u:autoParam (aG cpos [e] X) jA1)
  (t:autoParam (aL apos cpos) jA1) (hs:autoParam (sE e [] X) jA1) (h:autoParam (bT cpos [] X) jA1):
  QX X E (.Call (.Attribute o "index" apos) [e] [] cpos) (.op zcH [.v i,.v j]):=
 QE.imp (zkn PySem.F.slot_tuple_index PySem.F.type_tuple_index (z6E hu) ho ha s u t hs h) <| by
  rintro σ H Q ⟨G,p,Q0,K,g,L,hr,hk,S⟩;have b:onV (p.get i) _:=hr
  cases C:p.get i with
  | none=>rw[C] at b;exact b.elim
  | some d=>
   rw[C] at b
   cases I:p.get j with
   | none=>
    have f:onV (p.get j) (λr=>z5q d r Q0):=b;rw[I] at f;exact f.elim
   | some r=>
    have f:onV (p.get j) (λr=>z5q d r Q0):=b;rw[I] at f;have m:z5q d r Q0:=f;refine⟨G,p,λc=>c=d,K,g,L,(by show onV (p.get i) _;rw[C];exact rfl),?_,S⟩;rintro c v W H1 rfl N O g3 rd;unfold z5q at m
    split at m
    .rename_i l
     obtain⟨h1,h2,h3,q⟩:=m;obtain⟨a,U,rfl,R,hl⟩:=z1I rd;refine⟨⟨a,U,rfl,z0L O R⟩,W,p,λM=>M=[r],K,O,L.same N.1,(by show onV (p.get j) _;rw[I];exact rfl),?_,S.same g3⟩;rintro M vs J Y rfl y T k3 rds;obtain⟨w,rfl,z⟩:=rds1 rds;exact⟨J,a,U,l,r,w,rfl,rfl,T,z0L y.1 R,hl.same y.1,z,h1,h2,h3,λn c Z e2 e3=>hk _ _ J Y (q n c Z e2 e3) (N.trans g3 y) T (z02 g3 k3) RD.int'⟩
    .exact m.elim
end
section
variable {X:Cx}
theorem zaQ (f:Nat->Int):∀k,argBest (λi j=>decide (f i<f j)) k<=k/\∀j,j<=k->f (argBest (λi j=>decide (f i<f j)) k)<=f j
 | 0=>⟨wu _,λj h=>by rw[show j=0 by lia];exact vL _⟩
 | k+1=>by
  obtain⟨a,b⟩:=zaQ f k;rw[argBest]
  grind
def zdL (hc:X.calm=true):z0D X (.builtin "min") (λvs H Q=>∃G a ns,vs=[.ref a]/\Same G H/\SqT X.K G a (ns.map V.int)/\ns≠[]/\∀m,m∈ns->(∀x∈ns,m<=x)->Q (.int m) H):=by
 rintro O s σ H xs us Q I rv ⟨G,a,ns,e,g,Z,r,q⟩;subst e;obtain⟨u,rfl,rx⟩:=z32 rv
 cases rx
 have hh:X.A.handled=none:=I.ok.hd hc;obtain⟨a1,rr,pl,_⟩:=I.tuple (z0L g Z);obtain⟨l,rfl,L⟩:=z5L ns rr;have a0:l.length=ns.length:=by rw[<- L,wd]
 have N:0<ns.length:=wY.mpr r;obtain⟨o,M,f,n,hd⟩:=id pl;have F:a<s.heap.objs.size:=ww M;have val:∀i v,(l.map λp=>Value.int p.1 p.2).toArray[i]? = some v->∃t,v = .int ((ns[i]?).getD 0) t/\i<ns.length:=λi v e=>by
  have d:(l.map λp=>Value.int p.1 p.2)[i]? = some v:=by simpa using e
  rw[wO] at d
  cases z:l[i]? with
  | none=>rw[z] at d;cases d
  | some p=>
   rw[z] at d
   cases d
   have h:i<l.length:=by
    rcases wR i l.length with w | w
    .exact w
    .rw[uQ w] at z;cases z
   exact⟨p.2,by rw[<- L,wO,z];rfl,by lia⟩
 have W:=(Walks.tuple (prog:=X.prog) (w:=X.w) (A:=X.A.in1) (show X.A.in1.handled=none from by simp[hh]) s.heap.objs.size a (wJ F) (l.map λp=>Value.int p.1 p.2).toArray).toS;refine call_min_walkS (jd pl ⟨_,_,_,_,_,_,_,λi j=>decide ((ns[i]?).getD 0<(ns[j]?).getD 0),rfl,W,⟨⟨_,wq _ rfl,rfl,rfl⟩,⟨o,wf _ M,f,n,hd⟩⟩,λb J =>?_,by simp;lia,?_,λv s' pv mv =>?_⟩)
 .rw[v5];simp only[wm,wE,vO] at J
  rcases J with e | e
  .rw[e];exact uX _
  .rw[e];exact uf F
 .intro i j x y s1 Q1 E1 px py q1;obtain⟨t,rfl,_⟩:=val i x px;obtain⟨t',rfl,_⟩:=val j y py;exact lt_int q1
 .obtain⟨t,rfl,h⟩:=val _ v pv;obtain⟨h',Y,R,E,C⟩:=s';have T:Y=s.gens:=mv.gens;have S:R=s.drawn:=mv.drawn;have U:C=s.os:=mv.os;subst T;subst S;subst U;refine⟨.int _,H,I.kept (t':=E) λb o e=>mv.heap b o ?_ (wf _ e),⟨t,rfl⟩,q _ ?_ λx hx =>?_⟩
  .simp only[wg];exact wJ (ww e)
  .rw[wn h];exact u9 h
  .obtain⟨j,hj,rfl⟩:=ve.mp hx;have:=(zaQ (λi=>(ns[i]?).getD 0) ((l.map λp=>Value.int p.1 p.2).toArray.size - 1)).2 j (by simp;lia);simpa[wn hj] using this
def znC (d:D)(Q:DK):Prop:=∃a,d = .tup (a.map .int)/\a≠[]/\∀m,m∈a->(∀x∈a,m<=x)->Q (.int m)
def zkT:Fn:=fn1 znC λd Q i m ⟨h,e,f,g⟩=>⟨h,e,f,λk a b=>m _ (g k a b)⟩
theorem z9m:∀{ns:List Int}{vs:List V}{K:W.Frag}{mg:WmP}{G:Hp},RDs K mg G (ns.map D.int) vs->vs=ns.map V.int
 | [],vs,K,mg,G,h=>by
  exact h
 | n::ns,vs,K,mg,G,h=>by
  obtain⟨x,r,rfl,a,b⟩:=h;rw[a,z9m b]
  rfl
def ziH (l:X.calm=true):z0D X (.builtin "min") (rN X.K X.mg zkT):=(zdL l).imp <| by
 rintro vs H Q ⟨G,t,r,s,g,rds,o,n⟩;obtain⟨d,rfl,e⟩:=z1o o;obtain⟨v,rfl,rd⟩:=rds1 rds;obtain⟨p,rfl,b,q⟩:=e;obtain⟨a,u,rfl,f,h⟩:=z1I rd;rw[z9m h] at f;exact⟨G,a,p,rfl,g,f,b,λm i j=>n.now g (q m i j) RD.int'⟩
def zdJ (y:X.calm=true):z0D X (.builtin "sum") (λvs H Q=>∃(G:Hp) (a:Addr) (ns:List Int),vs=[.ref a]/\Same G H/\SqT X.K G a (ns.map V.int)/\Q (.int ns.sum) H):=by
 rintro t s W H U T Q I N ⟨G,a,ns,e,g,x,q⟩;subst e;obtain⟨u,rfl,O⟩:=z32 N
 cases O
 have E:X.A.handled=none:=I.ok.hd y;obtain⟨L,M,pl,_⟩:=I.tuple (z0L g x);obtain⟨l,rfl,m⟩:=z5L ns M;have J:l.length=ns.length:=by rw[<- m,wd]
 obtain⟨o,r,f,n,C⟩:=id pl;have h:a<s.heap.objs.size:=ww r;refine call_sum_walkG (jd pl ⟨_,_,_,_,_,_,λi=>ns.getD i 0,rfl,Walks.tuple (prog:=X.prog) (w:=X.w) (A:=X.A.in1) (show X.A.in1.handled=none from by simp[E]) s.heap.objs.size a (wJ h) (l.map λp=>Value.int p.1 p.2).toArray,⟨⟨_,wq _ rfl,rfl,rfl⟩,⟨o,wf _ r,f,n,C⟩⟩,λb j =>?_,λi v e =>?_,λS R t' F =>?_⟩)
 .rw[v5];simp only[wm,wE,vO] at j
  rcases j with e | e
  .rw[e];exact uX _
  .rw[e];exact uf h
 .have d:(l.map λp=>Value.int p.1 p.2)[i]? = some v:=by simpa using e
  rw[wO] at d
  cases z:l[i]? with
  | none=>rw[z] at d;cases d
  | some p=>
   rw[z] at d
   cases d
   exact⟨p.2,by dsimp only;rw[uh, <- m,wO,z];rfl⟩
 .refine⟨.int _,H,I.kept (t':=R) λb o e=>F b o ?_ (wf _ e),⟨t',rfl⟩,?_⟩
  .simp only[wg];exact wJ (ww e)
  .rw[preSum_getD,uE (by simp;lia)];exact q
def znB (d:D)(Q:DK):Prop:=∃a:List Int,d = .tup (a.map .int)/\Q (.int a.sum)
def zkS:Fn:=fn1 znB λd Q b m ⟨a,e,h⟩=>⟨a,e,m _ h⟩
def ziG (h:X.calm=true):z0D X (.builtin "sum") (rN X.K X.mg zkS):=(zdJ h).imp <| by
 rintro vs H Q ⟨G,o,m,n,g,rds,j,i⟩;obtain⟨d,rfl,b⟩:=z1o j;obtain⟨v,rfl,rd⟩:=rds1 rds;obtain⟨l,rfl,q⟩:=b;obtain⟨a,p,rfl,e,f⟩:=z1I rd;rw[z9m f] at e;exact⟨G,a,l,rfl,g,e,i.now g q RD.int'⟩
end
end Pu
namespace Pu
open PySem L2
def z0l:Fn:=Fn.mkN 1 1 (.ret (.and (.op (pIsi "tuple") [.v 0]) (.op pEq [.op pLen [.v 0],.c (.int 2)])))
def z07:Fn:=Fn.mkN 1 1 (.ret (.and (.op (pIsi "int") [.v 0]) (.not (.op (pIsi "bool") [.v 0]))))
def z1F:Fn:=Fn.mkN 2 4 (.seq (.for_ [] (.tp [2,3]) (.op z25 [.v 0]) (.ifs (.op z2s [.v 1,.v 2,.v 3]) (.ret (.v 2)) .skip))
 (.ret (.c .non)))
def z3Z:Fn:=Fn.mkN 2 2 (.ret (.op pTup [.op pSub [.op pIx [.v 1,.c (.int 0)],.op z0b [.op pIx [.v 0,.c (.int 0)],.op pIx [.v 1,.c (.int 2)]]],.op pSub [.op pIx [.v 1,.c (.int 1)],.op z0b [.op pIx [.v 0,.c (.int 1)],.op pIx [.v 1,.c (.int 2)]]]]))
def z2S:Fn:=Fn.mkN 2 5 (.seq (.set 2 (.op z0F [.op pIx [.v 0,.c (.int 0)],.op pIx [.v 0,.c (.int 1)]]))
 (.seq (.set 3 (.op z0b [.op z1e [.v 2,.v 2],.op pIx [.v 1,.c (.int 2)]]))
 (.seq (.set 4 (.op z1e [.op z3Z [.op pIx [.v 0,.c (.int 0)],.v 1],.v 2]))
 (.ret (.op pTup [.op pSub [.v 3,.v 4],.v 4])))))
def z0U:Fn:=Fn.mkN 2 8 (.seq (.set 2 (.op z0F [.op pIx [.v 0,.c (.int 0)],.op pIx [.v 0,.c (.int 1)]]))
 (.seq (.set 3 (.op z0F [.op pIx [.v 0,.c (.int 0)],.op pIx [.v 0,.c (.int 2)]]))
 (.seq (.set 4 (.op z3Z [.op pIx [.v 0,.c (.int 0)],.v 1]))
 (.seq (.set 5 (.op z0b [.op z1L [.v 2,.v 3],.op pIx [.v 1,.c (.int 2)]]))
 (.seq (.set 6 (.op z1L [.v 4,.v 3]))
 (.seq (.set 7 (.op z1L [.v 2,.v 4]))
 (.ret (.op pTup [.op pSub [.op pSub [.v 5,.v 6],.v 7],.v 6,.v 7]))))))))
def z1A:Fn:=Fn.mkN 2 4 (.seq (.set 2 (.c (.int 2)))
 (.seq (.set 3 (.sl (.v 0) none (some (.c (.int 3)))))
 (.seq (.wh (.op pLt [.op zkT [.op z0U [.v 3,.v 1]],.c (.int 0)]) (.seq (.set 2 (.op pAdd [.v 2,.c (.int 1)]))
 (.set 3 (.op pTup [.op pIx [.v 0,.c (.int 0)],.op pIx [.v 0,.op pSub [.v 2,.c (.int 1)]],.op pIx [.v 0,.v 2]]))))
 (.ret (.v 3)))))
def z2r:Fn:=Fn.mkN 2 3 (.seq (.ifs (.op pEq [.v 1,.c (.int 0)]) .never .skip)
 (.seq (.set 2 (.op z0e [.v 1,.v 0]))
 (.seq (.ifs (.op pLt [.v 1,.c (.int 0)]) (.set 2 (.op pNeg [.v 2])) .skip)
 (.ret (.op pTup [.op z23 [.v 0,.v 2],.op z23 [.v 1,.v 2]])))))
def z15:Fn:=Fn.mkN 3 5 (.seq (.set 3 (.op zkS [.v 2]))
 (.seq (.set 4 (.comp 2 [3,0] (.tp [0,1]) (.op zb9 [.v 1,.v 2]) (some (.op pGt [.v 1,.c (.int 0)])) (.op pTup [.op zcH [.v 3,.v 0],.op z2r [.v 1,.v 2]])))
 (.ret (.op z1J [.op zgs [.v 4]]))))
def z3o:Fn:=Fn.mkN 2 6 (.seq (.set 2 (.op z09 [.v 0]))
 (.seq (.set 3 (.op z1F [.v 2,.v 1]))
 (.seq (.ifs (.op z6X [.v 3,.c .non]) (.ret (.op pTup [.c (.str "barred"),.v 3])) .skip)
 (.seq (.set 4 (.v 2))
 (.seq (.set 5 (.op pTup [.c (.int 1)]))
 (.seq (.ifs (.op pEq [.op pLen [.v 2],.c (.int 2)]) (.set 5 (.op z2S [.v 4,.v 1])) .skip)
 (.seq (.ifs (.op pGt [.op pLen [.v 2],.c (.int 2)]) (.seq (.set 4 (.op z1A [.v 2,.v 1]))
 (.set 5 (.op z0U [.v 4,.v 1]))) .skip)
 (.ret (.op pTup [.c (.str "sailed"),.op z15 [.v 0,.v 4,.v 5]])))))))))
end Pu
namespace Geo
def zcU {a b c d:Int}(g:0<a)(h:0<=b)(i:c<0)(j:0<=d)(e:a*b=c*d):d=0:=by
 have l:=wN (wz g) h;have m:=vG (wz i) j;have f:c*d=0:=by lia
 rcases wK.mp f with z | z
 .lia
 .exact z
def sqp {a b:Int}(h:¬ (a=0/\b=0)):0<a*a+b*b:=by
 have d:∀x:Int,0<=x*x:=λx=>by
  rcases Int.le_total 0 x with z | z
  .exact wN z z
  .exact vZ z z
 have e:=d a;have f:=d b
 rcases uW (Int.add_nonneg e f) with z | z
 .exact z
 .exfalso
  have g:a*a=0:=by omega
  have i:b*b=0:=by omega
  have j:=wK.mp g;have l:=wK.mp i;exact h ⟨by lia,by lia⟩
def zlw {a b o c:P}(j:Edge S a b)(l:Edge S o c)(K:a≠o)(L:b≠o):0<Qa a b o:=by
 rcases uW (j.left o l.sa) with z | z
 .exact z
 exfalso
 have z:=z.symm;have bt:=j.btw o l.sa z;have R:=((zgZ j.ne).mp ⟨z,bt.1,bt.2⟩).2.2;have N:=l.left a j.sa;have O:=l.left b j.sb;have G:=l.btw a j.sa;have H:=l.btw b j.sb;have Q:=l.ne;obtain⟨r,s⟩:=a;obtain⟨t,u⟩:=b;obtain⟨m,n⟩:=o;obtain⟨I,J⟩:=c;simp only[Qa,dot] at z R N O G H;have x:¬ (r - m=0/\s - n=0):=λw=>K (ub (by simp;lia) (by simp;lia));have y:¬ (t - m=0/\u - n=0):=λw=>L (ub (by simp;lia) (by simp;lia));have A:¬ (I - m=0/\J - n=0):=λw=>Q (ub (by simp;lia) (by simp;lia));have T:(r - m)*(u - n) - (s - n)*(t - m)=0:=by rw[<- z];grind
 clear z K L Q bt j l;generalize r - m=d at*;generalize s - n=e at*;generalize t - m=h at*;generalize u - n=i at*;generalize I - m=f at*;generalize J - n=g at*;have U:=sqp x;have V:=sqp y;have C:=sqp A;have p:(d*h+e*i)*(d*h+e*i)+(d*i - e*h)*(d*i - e*h)=(d*d+e*e)*(h*h+i*i):=by grind
 have q:(d*d+e*e)*(f*i - g*h)=(d*h+e*i)*(f*e - g*d)+(d*i - e*h)*(f*d+g*e):=by grind
 have M:(d*d+e*e)*(h*f+i*g)=(d*h+e*i)*(d*f+e*g) - (d*i - e*h)*(f*e - g*d):=by grind
 have W:(d*f+e*g)*(d*f+e*g)+(f*e - g*d)*(f*e - g*d)=(d*d+e*e)*(f*f+g*g):=by grind
 rw[T,je,ux] at p q;rw[T,je,Int.sub_zero] at M;have UV:=wW U V;have neg:d*h+e*i<0:=by
  rcases uW R with w | w
  .exact w
  .rw[w] at p;lia
 have E:f*e - g*d=0:=zcU U O neg N q;have F:f*i - g*h=0:=by
  rw[E,jN] at q
  rcases wK.mp q with w | w
  .lia
  .exact w
 have X:=(G E).1;have Y:=(H F).1;have Z:d*f+e*g=0:=zcU U Y neg X M;rw[E,Z] at W;have:=wW U C;lia
def Qb (a b:P)(x y t:Int):Int:=(b.1 - a.1)*(y - a.2*t) - (b.2 - a.2)*(x - a.1*t)
def zdu (a b:P)(x y t:Int):Qb b a x y t = -Qb a b x y t:=by simp[Qb];grind
def z8P (f:h.Nodup)(a:i<h.length)(b:j<h.length)(ne:i≠j):cy h i≠cy h j:=λe=>by
 have g:=z18 (h:=h) (i:=i) (by lia);have l:=z18 (h:=h) (i:=j) (by lia);rw[wV a] at g;rw[wV b] at l;have d:h[i]=h[j]:=by
  simp_all
 rcases Nat.lt_or_gt_of_ne ne with z | z
 .exact(vk.mp f i j a b z) d
 .exact(vk.mp f j i b a z) d.symm
def zfG (x:z03 S h){k:Nat}(a:1<=k)(b:k+1<h.length):0<Qa (cy h k) (cy h (k+1)) (cy h 0):=
 zlw (z31 x (by lia) k) (z31 x (by lia) 0) (z8P x.nodup (by lia) (by lia) (by lia)) (z8P x.nodup (by lia) (by lia) (by lia))
end Geo
namespace Pu
open PySem L2 Mth
def cyw (b:h≠[])(a:Wb n h)(k:Nat):Vb n (Geo.cy h k):=a _ (wv (z18 (wY.mpr b)))
def zc1 (i:h≠[])(g:Wb 600 h)(a:s∈z06 h):Vb 700 s.1:=by
 unfold z06 at a
 split at a
 .obtain⟨b,d,rfl⟩:=we.mp a;unfold ways at d;simp[wm,wE,vO] at d
  rcases d with rfl | rfl | rfl | rfl <;> exact⟨Bt.le (m:=1) (z05 (by dsimp only;decide)),Bt.le (m:=1) (z05 (by dsimp only;decide))⟩
 .obtain⟨j,_,a⟩:=List.mem_flatMap.mp a;obtain⟨l,n⟩:=cyw i g (j+h.length - 1);obtain⟨o,p⟩:=cyw i g j;have e:Bt 601 _:=Bt.le (Bt.sub o l);have f:Bt 601 _:=Bt.le (Bt.sub p n)
  rcases wm.mp a with rfl | a
  .exact⟨f.le,Bt.le (Bt.neg e)⟩
  .split at a
   .rw[wg.mp a];exact⟨e.le,f.le⟩
   .cases a
def Wthn (h:List P)(x y t:Int):Prop:=∀s∈z06 h,dot (x,y) s.1<=dot s.2 s.1*t
def zcg {l h:List P}{x y t:Int}(i:z03 (· ∈ l) h)(q:Wb 600 h)(Z:h.length<=62)(pc:Pc x y t)
  (O:∀b,b≠(0,0)->Vb 700 b->(∀p∈l,dot p b*t<dot (x,y) b)->Q (vec b)) (R:Wthn h x y t->Q .non):z1F.run [vecs h,pcD x y t] Q X:=by
 obtain⟨m,tl,N,_⟩:=i.ex;have C:h≠[]:=by rw[N];simp
 walk_at "fn";ac_nf;refine z4Y (.inl rfl) q.le C (by lia) λh' w =>?_;have o:z03 (· ∈ h) h:=i.of (λp j=>i.sub p j) λp j=>j;obtain rfl:h'=h:=(w.is C).unique o;ac_nf;refine z0n (f:=zee) (λM L=>Ee2 λ(J K)=>(∀s∈M,dot (x,y) s.1<=dot s.2 s.1*t)/\L=[.s (vecs h'),.s (pcD x y t),J,K]) ⟨_,_,by simp,rfl⟩ ?_ ?_
 .rintro M s r L e ⟨J,K,u,rfl⟩;have I:s∈z06 h':=by rw[e];simp
  have sb:=zc1 C q I;obtain⟨W,Y⟩:=z4s i I;refine⟨rfl,?_⟩;show Sm.run _ _ _ _ _;unfold z0m z0m z0m;ac_rfl;ac_nf;refine zeo pc sb (zfJ q sb (we.mpr ⟨s.2,W,rfl⟩)) ?_;refine z0K (λz =>?_) (λz =>?_)
  .ac_nf;refine O s.1 (zc0 i I) sb λp j =>?_;have:=wp (Y p j) (wz pc.pos);lia
  .ac_nf;refine⟨_,_,λU g =>?_,rfl⟩
   rcases wG.mp g with g | g
   .exact u U g
   .rw[wg.mp g];lia
 rintro L ⟨J,K,u,rfl⟩;ac_nf;exact R u
def z98 {x y t:Int}(d:2<=h.length)(w:Wthn h x y t){k:Nat}(b:k<h.length):0<=Qb (Geo.cy h k) (Geo.cy h (k+1)) x y t:=by
 have key:∀j,j<h.length->0<=Qb (Geo.cy h (j+h.length - 1)) (Geo.cy h j) x y t:=λj a=>by
  have:=w _ (z1K (by lia) a (wB ..));simp only[dot,rt,stp] at this;simp only[Qb]
  grind
 rcases wR (k+1) h.length with z | z
 .have:=key (k+1) z;rw[show k+1+h.length - 1=k+h.length by lia] at this
  rwa [show Geo.cy h (k+h.length)=Geo.cy h k by unfold Geo.cy;rw[ug]] at this
 .have:=key 0 (by lia);rw[show 0+h.length - 1=k by lia] at this
  rwa [show Geo.cy h 0=Geo.cy h (k+1) by unfold Geo.cy;rw[show k+1=h.length by lia,Nat.mod_self,Nat.zero_mod]] at this
def za5 {x y t:Int}(e:Vb 600 a)(pc:Pc x y t)(q:Q (vec (x - a.1*t,y - a.2*t))):z3Z.run [vec a,pcD x y t] Q X:=by
 obtain⟨f,m,j,b,_⟩:=pc;obtain⟨g,i⟩:=e;walk_at "fn";ac_nf;exact q
def zg1 {x y t:Int}(b:Vb 600 a)(pc:Pc x y t):Vb 900 (x - a.1*t,y - a.2*t):=⟨Bt.le (Bt.sub pc.bx (Bt.mul b.1 pc.bt)),Bt.le (Bt.sub pc.bY (Bt.mul b.2 pc.bt))⟩
def z6M (d:Vb 600 a)(e:Vb 600 b):Vb 601 (b.1 - a.1,b.2 - a.2):=⟨Bt.le (Bt.sub e.1 d.1),Bt.le (Bt.sub e.2 d.2)⟩
def zjp {a b c:P}{x y t:Int}(g:Vb 600 a)(r:Vb 600 b)(u:Vb 600 c)(pc:Pc x y t)(q:Q (.tup ([Qb b c x y t,Qb c a x y t,Qb a b x y t].map .int))):z0U.run [vecs [a,b,c],pcD x y t] Q X:=by
 have e:=z6M g r;have f:=z6M g u;have i:=zg1 g pc;have j:=pc.bt;walk_at "fn";ac_nf;refine z2g ?_;ac_nf;refine z2g ?_;ac_nf;refine za5 g pc ?_;ac_nf;refine z3x ⟨e.1.le,e.2.le⟩ ⟨f.1.le,f.2.le⟩ ?_;have w:Bt 1203 ((b.1 - a.1)*(c.2 - a.2) - (b.2 - a.2)*(c.1 - a.1)):=Bt.le (Bt.sub (Bt.mul e.1 f.2) (Bt.mul e.2 f.1));ac_nf;refine z3x ⟨i.1.le,i.2.le⟩ ⟨f.1.le,f.2.le⟩ ?_;ac_nf;refine z3x ⟨e.1.le,e.2.le⟩ ⟨i.1.le,i.2.le⟩ ?_;ac_nf;have m:((b.1 - a.1)*(c.2 - a.2) - (b.2 - a.2)*(c.1 - a.1))*t - ((x - a.1*t)*(c.2 - a.2) - (y - a.2*t)*(c.1 - a.1)) - ((b.1 - a.1)*(y - a.2*t) - (b.2 - a.2)*(x - a.1*t))=Qb b c x y t:=by simp only[Qb];grind
 have o:(x - a.1*t)*(c.2 - a.2) - (y - a.2*t)*(c.1 - a.1)=Qb c a x y t:=by simp only[Qb];grind
 have p:(b.1 - a.1)*(y - a.2*t) - (b.2 - a.2)*(x - a.1*t)=Qb a b x y t:=rfl;rw[m,o,p];exact q
structure Fan (h:List P)(x y t:Int)(k:Nat):Prop where
 lo:1<=k
 hi:k+1<h.length
 a:0<=Qb (Geo.cy h k) (Geo.cy h (k+1)) x y t
 b:0<=Qb (Geo.cy h (k+1)) (Geo.cy h 0) x y t
 c:0<=Qb (Geo.cy h 0) (Geo.cy h k) x y t
def zmk (d:3<=h.length):h.take 3=[Geo.cy h 0,Geo.cy h 1,Geo.cy h 2]:=by
 match h,d with
 | a::b::c::r,_=>
  rfl
def zep {x y t:Int}(i:Wb 600 h)(C:3<=h.length)(O:h.length<=62)(pc:Pc x y t)(w:Wthn h x y t)
  (q:∀k,Fan h x y t k->Q (vecs [Geo.cy h 0,Geo.cy h k,Geo.cy h (k+1)])):z1A.run [vecs h,pcD x y t] Q X:=by
 have r:h≠[]:=List.ne_nil_of_length_pos (by lia);have g:=λ{k:Nat}(K:k<h.length)=>z98 (by lia) w K;have f:0<=Qb (Geo.cy h (h.length - 1)) (Geo.cy h 0) x y t:=by
  have:=g (k:=h.length - 1) (by lia)
  rwa [show Geo.cy h (h.length - 1+1)=Geo.cy h 0 by unfold Geo.cy;rw[show h.length - 1+1=h.length by lia,Nat.mod_self,Nat.zero_mod]] at this
 have u:cutD (h.map vec) none (some 3)=(h.take 3).map vec:=by
  rw[z2E,show HT.sIx h.length h.length (some (3))=min 3 h.length by
   show (if (3)<0 then ((3:Int)+h.length).toNat else min (3:Int).toNat h.length)=_;rw[if_neg (by decide)]
   rfl]
  show (h.take (min 3 h.length)).map vec=_;rw[show min 3 h.length=3 by lia]
 walk_at "fn";ac_nf;rw[u,zmk C];ac_nf;refine z4Z (z5K (λb=>Ee1 λk=>Aa4 (1<=k) (k+1<h.length) (0<=Qb (Geo.cy h 0) (Geo.cy h k) x y t) (b=[.s (vecs h),.s (pcD x y t),.s (.int (k+1)),.s (vecs [Geo.cy h 0,Geo.cy h k,Geo.cy h (k+1)])])) (λb=>(100 - nI b 2).toNat) ⟨1,by lia,by lia,g (k:=0) (by lia),rfl⟩ ?_);rintro b ⟨k,M,N,J,rfl⟩;have I:=g (k:=k) (by lia);ac_nf;refine zjp (cyw r i _) (cyw r i _) (cyw r i _) pc ?_;refine⟨_,rfl,by simp,λm L p =>?_⟩;ac_nf;have R:=p _ (wo _ (wB ..));refine z0K (λz =>?_) (λz =>?_)
 .have j:Qb (Geo.cy h (k+1)) (Geo.cy h 0) x y t<0:=by
   simp only[wm,wE,vO] at L;lia
  have ne:k+1≠h.length - 1:=λe=>by rw[e] at j;lia
  have o:0<=Qb (Geo.cy h 0) (Geo.cy h (k+1)) x y t:=by rw[zdu];lia
  ac_nf;refine z0P (z0G (z9P (k:=0) (by lia))) ?_;ac_nf;rw[show k+1+1 - 1=((k+1):Int) by lia];refine z0P (z0G (z9P (k:=k+1) (by lia))) ?_;ac_nf;rw[show k+1+1=((k+2):Int) by lia];refine z0P (z0G (z9P (k:=k+2) (by lia))) ?_;ac_nf;refine⟨⟨k+1,by lia,by lia,o,rfl⟩,?_⟩;show (100 - ((k+2):Int)).toNat<(100 - ((k:Int)+1)).toNat
  lia
 .ac_nf;refine q k ⟨M,N,I,by lia,J⟩
def za7 (b:0<W)(e:Bt 1400 W)(q:Q (vec (p / (Int.gcd p W),W / (Int.gcd p W)))):z2r.run [.int p,.int W] Q X:=by
 obtain⟨g,_,_,_,_⟩:=z3J b;have i:(Int.gcd p W)<=W:=Int.le_of_dvd b (jO ..);have f:Bt 9000 (Int.gcd p W):=Bt.le (e.of_abs (by lia));walk_at "fn";refine t_no (by lia) ?_;ac_nf;refine z3T ?_;rw[Int.gcd_comm];ac_nf;refine t_no (by lia) ?_;ac_nf;exact q
def idx (l:List P)(c:P):Nat:=l.findIdx λp=>decide (p=c)
def z7F {c:P}(h:c∈l):l[idx l c]? = some c:=by
 have a:idx l c<l.length:=List.findIdx_lt_length_of_exists ⟨c,h,by simp⟩;rw[wn a];have:=List.findIdx_getElem (w:=a);exact congrArg _ (uw this)
def zay {c:P}(h:c∈l):idx l c<l.length:=List.findIdx_lt_length_of_exists ⟨c,h,by simp⟩
def ziu {c d:P}(b:c∈l)(f:d∈l)(e:idx l c=idx l d):c=d:=by
 have a:=z7F b;rw[e,z7F f] at a
 simp_all
def zlQ {c:P}(h:c∈l):Geo.cy l (idx l c)=c:=by
 have b:=z7F h;have a:=z18 (h:=l) (i:=idx l c) (by have:=zay h;lia);rw[wV (zay h),b] at a;exact(w5 a).symm
def zi9 {c:P}(h:c∈l)(q:Q (.int (idx l c))):zcH.run [vecs l,vec c] Q X:=by
 refine⟨Da.vec c,λd g =>?_,⟨vec c,ur h,by rw[z2C];simp⟩,λi d a b e =>?_⟩
 .obtain⟨p,_,rfl⟩:=we.mp g;exact Da.vec p
 .rw[wO] at a
  cases z:l[i]? with
  | none=>simp_all
  | some p=>
   rw[z] at a
   cases a
   rw[z2C] at b;have f:=uw b;subst f;have:i=idx l p:=by
    rcases uI i (idx l p) with w | w | w
    .have j  := Nat.lt_trans w (zay h);have:=List.not_of_lt_findIdx (w)
     simp_all
    .exact w
    .have:=e (idx l p) (vec p) w (by rw[wO,z7F h];rfl);rw[z2C] at this;simp at this
   simp_all
noncomputable def shOf (l:List P)(W:Int)(x:P × Int):Sh:=(idx l x.1,x.2 / (Int.gcd x.2 W),W / (Int.gcd x.2 W))
def rwOf (l:List P)(W:Int)(x:P × Int):Int × D:=((idx l x.1),vec (x.2 / (Int.gcd x.2 W),W / (Int.gcd x.2 W)))
noncomputable def back:Int × D->Sh
 | (n,.tup [.int a,.int b])=>(n.toNat,a,b)
 | (n,_)=>(n.toNat,0,1)
def z7T (l:List P)(W:Int)(x:P × Int):back (rwOf l W x)=shOf l W x:=by
 rfl
def z8k {f:Sh->Int}{a b:List Sh}(h:a.Perm b):(a.map f).sum=(b.map f).sum:=by
 induction h with
 | nil=>rfl
 | cons x _ g=>simp[g]
 | swap x y l=>simp;lia
 | trans _ _ d e=>rw[d,e]
set_option tactic.hygienic true in
theorem zaE {f:P × Int->Int}:∀{l:List (P × Int)},(∀x∈l,0<=x.2)->(∀x,x.2=0->f x=0)->((l.filter λx=>decide (0<x.2)).map f).sum=(l.map f).sum
 | [],_,_=>rfl
 | x::l,h,a=>by
  have d:=zaE (l:=l) (λy b=>h y (by simp[b])) a;rw[List.filter_cons]
  split
  .simp_all
  .rename_i z
   have e:=h x (by simp);have:x.2=0:=by simp at z;lia
   rw[wA,wQ,a x this,Int.zero_add,d]
def zlf (q:Q (.lst ((l.zip m).map λp =>.tup [p.1,p.2]))):zb9.run [.tup l,.tup m] Q X:=q
def zjs {x y t:Int}(f:Vb 600 a)(j:Vb 600 b)(pc:Pc x y t)
  (q:Q (.tup ([((b.1 - a.1)*(b.1 - a.1)+(b.2 - a.2)*(b.2 - a.2))*t - ((x - a.1*t)*(b.1 - a.1)+(y - a.2*t)*(b.2 - a.2)),(x - a.1*t)*(b.1 - a.1)+(y - a.2*t)*(b.2 - a.2)].map .int))):z2S.run [vecs [a,b],pcD x y t] Q X:=by
 have e:=z6M f j;have g:=zg1 f pc;have i:=pc.bt;walk_at "fn";ac_nf;refine z2g ?_;ac_nf;refine z3S ⟨e.1.le,e.2.le⟩ ⟨e.1.le,e.2.le⟩ ?_;have m:Bt 1203 _:=Bt.le (Bt.add (Bt.mul e.1 e.1) (Bt.mul e.2 e.2));ac_nf;refine za5 f pc ?_;ac_nf;refine z3S ⟨g.1.le,g.2.le⟩ ⟨e.1.le,e.2.le⟩ ?_;ac_nf;exact q
abbrev swD (sh:List Sh):D :=.tup [.str (Str.ofString "sailed"),.tup (sh.map shD)]
abbrev brD (b:P):D :=.tup [.str (Str.ofString "barred"),vec b]
structure Prt (l:List P)(x y t:Int)(xs:List (P × Int)):Prop where
 mem:∀z∈xs,z.1∈l
 nd:(xs.map (·.1)).Nodup
 few:xs.length<=3
 nn:∀z∈xs,0<=z.2
 pos:0<(xs.map (·.2)).sum
 bt:Bt 1400 (xs.map (·.2)).sum
 ex:(xs.map λz=>z.1.1*z.2).sum*t=(xs.map (·.2)).sum*x
 ey:(xs.map λz=>z.1.2*z.2).sum*t=(xs.map (·.2)).sum*y
def zhQ {x y t:Int}(n:m∈l)(w:Wthn [m] x y t):Prt l x y t [(m,1)]:=by
 have f  := λb j=>w (b,m) (by
  exact we.mpr ⟨b,j,rfl⟩)
 have a:=f (1,0) (by decide);have d:=f (0,1) (by decide);have e:=f (-1,0) (by decide);have g:=f (0,-1) (by decide);simp[dot,Int.neg_mul] at a d e g;have h:m.1*t=x:=by lia
 have i:m.2*t=y:=by omega
 exact⟨by simpa using n,by simp,by simp,by simp,by simp,by simpa using z05 (wI (by decide:(1:Int).natAbs<2 ^ 1) (jR (by decide) (by decide))),by simpa using h,by simpa using i⟩
def zhP {x y t:Int}(pc:Pc x y t)(u:z03 S [a,b])(r:a∈l)(s:b∈l)(F:Vb 600 a)(vb:Vb 600 b)(w:Wthn [a,b] x y t):
  Prt l x y t [(a,((b.1 - a.1)*(b.1 - a.1)+(b.2 - a.2)*(b.2 - a.2))*t - ((x - a.1*t)*(b.1 - a.1)+(y - a.2*t)*(b.2 - a.2))),(b,(x - a.1*t)*(b.1 - a.1)+(y - a.2*t)*(b.2 - a.2))]:=by
 have i:=u.nodup;have ne:a≠b:=λe=>by rw[e] at i;simp at i
 have o:=z98 (h:=[a,b]) (by simp) w (k:=0) (by simp);have d:=z98 (h:=[a,b]) (by simp) w (k:=1) (by simp);have o:0<=Qb a b x y t:=o;have n:Geo.cy [a,b] 2=a:=by simp[Geo.cy]
 have d:0<=Qb b a x y t:=by rw[show (1+1)=2 from rfl,n] at d;exact d
 rw[zdu] at d;have q:Qb a b x y t=0:=by lia
 have A:=w (stp a b,b) (z1K (by simp) (j:=1) (by simp) (by unfold z0t;rw[if_pos (show [a,b].length=2 from rfl),show 1+[a,b].length - 1=2 from rfl,n];exact wo _ (wg.mpr rfl)));have C:=w (stp b a,a) (z1K (by simp) (j:=0) (by simp) (by unfold z0t;rw[if_pos (show [a,b].length=2 from rfl)];exact wo _ (wg.mpr rfl)));have g:=z6M F vb;have m:=pc.pos;have E:0<(b.1 - a.1)*(b.1 - a.1)+(b.2 - a.2)*(b.2 - a.2):=sqp λz=>ne (ub (by lia) (by lia));have f:((b.1 - a.1)*(b.1 - a.1)+(b.2 - a.2)*(b.2 - a.2))*t - ((x - a.1*t)*(b.1 - a.1)+(y - a.2*t)*(b.2 - a.2))+((x - a.1*t)*(b.1 - a.1)+(y - a.2*t)*(b.2 - a.2))=((b.1 - a.1)*(b.1 - a.1)+(b.2 - a.2)*(b.2 - a.2))*t:=by lia
 simp only[dot,stp] at A C;simp only[Qb] at q;refine⟨by simp[r,s],i,by simp,?_,?_,?_,?_,?_⟩
 .intro z p;simp only[wm,wE,vO] at p
  rcases p with rfl | rfl
  .show 0<=_ - _
   grind
  .show 0<=_+_
   grind
 .simp only[wA,uT,wQ,jr,ux];rw[f];exact wW E m
 .simp only[wA,uT,wQ,jr,ux];rw[f];exact Bt.le (Bt.mul (Bt.add (Bt.mul g.1 g.1) (Bt.mul g.2 g.2)) pc.bt)
 .simp only[wA,uT,wQ,jr,ux];rw[f]
  grind
 .simp only[wA,uT,wQ,jr,ux];rw[f]
  grind
def zcq {x y t:Int}{k:Nat}(pc:Pc x y t)(d:z03 S h)(C:∀p∈h,p∈l)(g:Wb 600 h)(F:Fan h x y t k):
  Prt l x y t [(Geo.cy h 0,Qb (Geo.cy h k) (Geo.cy h (k+1)) x y t),(Geo.cy h k,Qb (Geo.cy h (k+1)) (Geo.cy h 0) x y t),(Geo.cy h (k+1),Qb (Geo.cy h 0) (Geo.cy h k) x y t)]:=by
 obtain⟨E,G,u,w,A⟩:=F;have e:h≠[]:=List.ne_nil_of_length_pos (by lia);have N:=zfG d E G;have K:=z8P d.nodup (i:=0) (j:=k) (by lia) (by lia) (by lia);have L:=z8P d.nodup (i:=0) (j:=k+1) (by lia) (by lia) (by lia);have M:=z8P d.nodup (i:=k) (j:=k+1) (by lia) (by lia) (by lia);have m:∀j,Geo.cy h j∈l:=λj=>C _ (wv (z18 (wY.mpr e)));have H:=m 0;have I:=m k;have J:=m (k+1);have O:=cyw e g 0;have s:=cyw e g k;have Q:=cyw e g (k+1);generalize Geo.cy h 0=a at*;generalize Geo.cy h k=b at*;generalize Geo.cy h (k+1)=c at*;have n:=pc.pos;have f:Qb b c x y t+(Qb c a x y t+Qb a b x y t)=Qa b c a*t:=by simp only[Qb,Qa];grind
 refine⟨by simp[H,I,J],by simp[K,L,M],by simp,?_,?_,?_,?_,?_⟩
 .intro z r;simp only[wm,wE,vO] at r
  rcases r with rfl | rfl | rfl
  .exact u
  .exact w
  .exact A
 .simp only[wA,uT,wQ,jr,ux];rw[f];exact wW N n
 .simp only[wA,uT,wQ,jr,ux];rw[f];have o:=z6M s Q;have q:=z6M s O;exact Bt.le (Bt.mul (Bt.sub (Bt.mul o.1 q.2) (Bt.mul o.2 q.1)) pc.bt)
 .simp only[wA,uT,wQ,jr,ux];rw[f];simp only[Qb,Qa]
  grind
 .simp only[wA,uT,wQ,jr,ux];rw[f];simp only[Qb,Qa]
  grind
end Pu
namespace Rev
open PySem PyProof.Rows
section
variable {prog:Program}{w:World}{A:Around}{E:WvP}{R:Result->Shared->Prop}{r:Addr}{fp wr:List Addr}{G:Array GenState->Array GenState->Prop}{n:Nat}{P:Nat->Value->Prop}{St:Nat->Shared->Prop}{bt:Nat->Nat->Bool}{Ok:Shared->Prop}
def ziQ (prog:Program)(w:World)(A:Around)(Ok:Shared->Prop)(P:Nat->Value->Prop)(bt:Nat->Nat->Bool):Prop:=∀i j x y s Q E,Ok s->P i x->P j y->Q (.bool (bt i j)) s->wpAny (model prog w) A (richCompare .Gt x y) Q E s
def zlB (W:WalksS prog w A.in1 r fp wr G n P St)(t:ziQ prog w A.in1 Ok P bt)(S:Addr)(l:S ∉ fp)(stay:∀s s',Ok s->Moved (S::wr) G s s'->Ok s'):
  ∀left d s a c,n=d+1+left->St (d+1) s->Ok s->P (argBest bt d) a->s.heap.get? S=some { cls :=.type "list",dict:=none,data :=.seq #[a,a] c,slots := #[] }->
   (∀v s',P (argBest bt (n - 1)) v->Moved (S::wr) G s s'->R (.ok (.ret v)) s')->codeAny (model prog w) A (.builtin "max.loop" ⟨[.ref r,.none,.ref S],[]⟩) R s:=by
 have h:S ∉ wr:=λz=>l (W.sub S z);have more:∀b∈wr,b∈S::wr:=λb z=>wo S z;have f:∀{b:Addr},b ∉ S::wr->S≠b:=λz e=>z (by subst e;exact wB);have M:(toString "max"++toString ".loop")="max.loop":=by decide
 intro left
 induction left with
 | zero=>
  intro d s a c E J ok hb hS fin;refine uR F.entry_max_loop ?_;rw[ui ja _];refine wc (m:=seqItems? (.ref S)) (v8 hS rfl ?_);refine wc (m:=tryCatch (pyNext (.ref r)) _) (wpAny_tryCatch (W.done s _ _ (by rw[E];exact J) λs1 mv =>?_));have g:=mv.heap S _ h hS;refine wc (m:=updateSeq S λ_ => #[]) (jL g rfl (wc (jY (wj ?_))));refine fin a _ (by rw[E];exact hb) ((mv.mono more).then_heap (tk:=s1.toks) (wu _) λb o z e =>?_);rw[vC _ _ (f z)];exact e
 | succ left O=>
  intro d s a c E J ok hb hS fin;refine uR F.entry_max_loop ?_;rw[ui ja _];refine wc (m:=seqItems? (.ref S)) (v8 hS rfl ?_);refine wc (m:=tryCatch (pyNext (.ref r)) _) (wpAny_tryCatch (W.item (d+1) s _ _ (by lia) J λv s1 N p mv =>?_));have g:=mv.heap S _ h hS;have i:=mv.mono more;have I:Ok s1:=stay s s1 ok i;show wpAny _ A.in1 (tryCatch (holding [v,v] (richCompare .Gt v a >>= _)) _ >>= _) _ _ s1;refine wc (wpAny_tryCatch (ua (wc (t (d+1) (argBest bt d) v a s1 _ _ I N hb ?_))));refine wc (ua (uG (wc (jY (wj ?_)))));have step:∀s2 u q,Moved (S::wr) G s s2->St (d+2) s2->P (argBest bt (d+1)) u->s2.heap.get? S=some { cls :=.type "list",dict:=none,data :=.seq #[u,u] q,slots := #[] }->codeAny (model prog w) A (.builtin "max.loop" ⟨[.ref r,.none,.ref S],[]⟩) R s2:=λs2 u q j K Q C=>
   O (d+1) s2 u q (by lia) K (stay s s2 ok j) Q C λx U T H=>fin x U T (Moved.trans W.gtrans j H)
  cases L:bt (d+1) (argBest bt d) with
  | true=>
   rw[if_pos rfl];refine wc (jL g rfl (wc (jY ?_)));rw[M];refine wj ⟨uZ ja _,step _ v _ (i.then_heap (wu _) λb o z e =>?_) (W.frame _ s1 _ s1.toks p (wu _) λb z o e =>?_) (by rw[argBest,L];exact N) (vJ _ g rfl)⟩
   .rw[vC _ _ (f z)];exact e
   .rw[vC _ _ λy:S=b=>l (by rw[y];exact z)];exact e
  | false=>
   rw[if_neg (by decide)];refine wc (jY ?_);rw[M];exact wj ⟨uZ ja _,step s1 a c i p (by rw[argBest,L];exact hb) g⟩
def zcY (W:WalksS prog w A.in1 r fp wr G n P St)(j:ziQ prog w A.in1 Ok P bt)(S:Addr)(d:S ∉ fp)(stay:∀s s',Ok s->Moved (S::wr) G s s'->Ok s')(u:0<n){c:Nat}(st:St 0 s)(ok:Ok s)
  (t:s.heap.get? S=some { cls :=.type "list",dict:=none,data :=.seq #[] c,slots := #[] }) (fin:∀v s',P (argBest bt (n - 1)) v->Moved (S::wr) G s s'->R (.ok (.ret v)) s'):codeAny (model prog w) A (.builtin "max.loop" ⟨[.ref r,.none,.ref S],[]⟩) R s:=by
 have h:S ∉ wr:=λz=>d (W.sub S z);have a:∀{b:Addr},b ∉ S::wr->S≠b:=λz e=>z (by subst e;exact wB);have C:(toString "max"++toString ".loop")="max.loop":=by decide
 refine uR F.entry_max_loop ?_;rw[ui ja _];refine wc (m:=seqItems? (.ref S)) (v8 t rfl ?_);refine wc (m:=tryCatch (pyNext (.ref r)) _) (wpAny_tryCatch (W.item 0 s _ _ u st λv i E q mv =>?_));have f:=mv.heap S _ h t;have l:=mv.mono λb z=>wo S z;refine wc (m:=updateSeq S λ_ => #[v,v]) (jL f rfl ?_);rw[C];have g:Moved (S::wr) G s { i with heap:=i.heap.update S (Obj.mapSeq λ_ => #[v,v]) }:=l.then_heap (wu _) λb o z e=>by rw[vC _ _ (a z)];exact e
 refine wj ⟨uZ ja _,zlB W j S d stay (n - 1) 0 _ v _ (by lia) (W.frame _ i _ i.toks q (wu _) λb z o e =>?_) (stay _ _ ok g) E (vJ _ f rfl) λx I H p=>fin x I H (Moved.trans W.gtrans g p)⟩;rw[vC _ _ λy:S=b=>d (by rw[y];exact z)];exact e
def zfm
  (h:wpAny (model prog w) A.in1 (pyIter x) (λit d=>∃r fp wr G n P St bt Ok,it = .ref r/\WalksS prog w A.in1 r fp wr G n P St/\St 0 d/\Ok d/\(∀s s',Ok s->(∀b o,b ∉ wr->b<d.heap.objs.size->s.heap.get? b=some o->s'.heap.get? b=some o)->Ok s')/\(∀b∈fp,b<d.heap.objs.size)/\0<n/\ziQ prog w A.in1 Ok P bt/\
   ∀v s',P (argBest bt (n - 1)) v->Moved wr G d s'->Q v s') E s):wpAny (model prog w) A (call (.builtin "max") [x]) Q E s:=by
 have l:(toString "max"++toString ".loop")="max.loop":=by decide
 refine call_function_tree F.kind_max F.plain_max F.entry_max (F.args_max1 _) ?_;refine wc (m:=Builtin.Builtins.bindParams "max" ["key","default"] 0 ⟨[],[]⟩) (wpAny_of_eq (a:=[none,none]) rfl (wc (wj ?_)));refine wc (vQ h (λit d i =>?_) λ_ _ e=>e);obtain⟨r,fp,wr,G,n,P,St,bt,Ok,rfl,W,q,ok,stay,low,j,f,fin⟩:=i;have g:d.heap.objs.size ∉ fp:=λz=>vN _ (low _ z);refine wc (vj ?_);rw[l];refine wj ⟨uZ ja _,zcY (Ok:=Ok) W f d.heap.objs.size g (λs s' o mv=>stay s s' o λb u t y e=>mv.heap b u (λz =>?_) e) j (W.frame 0 d _ d.toks q (wu _) λb _ o e=>wf _ e) (stay d _ ok λb o _ _ e=>wf _ e) (wq _ rfl) λv s' p mv=>fin v s' p (Moved.drop_new (tk:=d.toks) mv (wu _))⟩
 simp_all
end
end Rev
namespace Pu
open PySem PySem.Spec PyProof.Rows L2 Tab
def LxG (p q:Int × Int):Prop:=q.1<p.1\/p.1=q.1/\q.2<=p.2
def znD (d:D)(Q:DK):Prop:=∃ps,d = .lst (ps.map vec)/\ps≠[]/\ps.length<=1000/\∀m∈ps,(∀x∈ps,LxG m x)->Q (vec m)
def zkU:Fn:=fn1 znD λd Q i m ⟨ps,e,f,g,h⟩=>⟨ps,e,f,g,λk a b=>m _ (h k a b)⟩
def zaA (d:D)(Q:DK):Prop:=∃ps,d = .lst (ps.map vec)/\ps≠[]/\ps.length<=1000/\∀(i:Nat) m,ps[i]? = some m->(∀x∈ps,LxG m x)->Q (.int i)
def zae:Fn:=fn1 zaA λd Q j m ⟨ps,e,f,g,h⟩=>⟨ps,e,f,g,λi k a b=>m _ (h i k a b)⟩
def zlE (a b:Int × Int)(h:HT.z0H [a.1,a.2] [b.1,b.2]=false):LxG a b:=by
 rw[HT.z13] at h;unfold LxG
 by_cases e:a.1=b.1
 .rw[if_pos e,HT.z13] at h
  grind
 grind
set_option tactic.hygienic true in
theorem zdT (f:Nat->List Int):∀k j,j<=k->HT.z0H (f (argBest (λi j=>HT.z0H (f j) (f i)) k)) (f j)=false
 | 0,j,h=>by
  obtain rfl:j=0:=by lia
  exact Tim.z69 _
 | k+1,j,h=>by
  have a:=zdT f k;rw[argBest]
  split
  .rename_i b
   rcases wR j (k+1) with z | z
   .cases q:HT.z0H _ _ with
    | false=>rfl
    | true=>have:=a j (by lia);rw[Tim.zar b q] at this;cases this
   .obtain rfl:j=k+1:=by lia
    exact Tim.z69 _
  .rcases wR j (k+1) with z | z
   .exact a j (by lia)
   .obtain rfl:j=k+1:=by lia
    simp_all
section
variable {X:Cx}
def zdN (hc:X.calm=true)(hu:X.A.units+64<cLine):z0D X (.builtin "max") (λvs H Q=>∃G a xs ks,vs=[.ref a]/\Same G H/\SqL X.K G a xs/\Tis X.K G xs ks/\ks≠[]/\∀(i:Nat) b k,xs[i]? = some (.ref b)->ks[i]? = some k->SqT X.K G b (k.map V.int)->(∀x∈ks,HT.z0H k x=false)->Q (.ref b) H):=by
 rintro a7 s σ H xs us Q I rv ⟨G,a,F,ks,e,g,hS,E,Y,q⟩;subst e;obtain⟨u,rfl,rx⟩:=z32 rv
 cases rx
 have hh:X.A.handled=none:=I.ok.hd hc;have Z:X.A.in1.units<cLine:=by
  have:X.A.in1.units<=X.A.units+1:=by simp
  lia
 have W:F.length=ks.length:=zbI E;have a6:0<ks.length:=wY.mpr Y;obtain⟨l,t,pl,_⟩:=I.list (z1l g hS);obtain⟨o,ho,U,n,hd⟩:=pl.isList;have ha:a<s.heap.objs.size:=ww ho;have a8:l.length=ks.length:=by rw[<- t.length,W]
 have f:∀(i:Nat) b k,F[i]? = some (.ref b)->ks[i]? = some k->SqT X.K G b (k.map V.int):=λi b k m p=>by
  obtain⟨u,e3,ru⟩:=t.get m;obtain⟨b',k',e4,e5,e6,h⟩:=za2 E t e3;rw[m] at e4;cases e4;rw[p] at e5;cases e5;exact h
 let Ok:Shared->Prop:=λs'=>∀(i:Nat) b k,F[i]? = some (.ref b)->ks[i]? = some k->Tim.TI s'.heap (.ref b) k
 have low:∀(i:Nat) b k,F[i]? = some (.ref b)->ks[i]? = some k->b<s.heap.objs.size:=λi b k m p=>by
  obtain⟨o,l,n,C,_⟩:=z9d I g (f i b k m p);exact ww C
 have d:∀w s2:Shared,Ok w->(∀b o,b≠s.heap.objs.size->b<s.heap.objs.size->w.heap.get? b=some o->s2.heap.get? b=some o)->Ok s2:=λw s2 h k i b key m p=>by
  obtain⟨b',o,l,n,e,C,M,O,S⟩:=h i b key m p
  cases e
  have r:=low i b key m p;exact⟨b,o,l,n,rfl,k b o (wJ r) r C,M,O,S⟩
 have a0:Ok s:=λi b k m p=>TK.ti (z9d I g (f i b k m p));refine Rev.zfm (wpAny_pyIter_list pl.isList ⟨_,_,_,_,_,_,_,λi j=>HT.z0H ((ks[j]?).getD []) ((ks[i]?).getD []),Ok,rfl,(Walks.list (show X.A.in1.handled=none from by simp[hh]) _ a (wJ ha) l.toArray).toS,⟨⟨_,wq _ rfl,rfl,rfl⟩,⟨o,wf _ ho,U,n,hd⟩⟩,d s _ a0 (λb o _ _ e=>wf _ e),λw s2 o k=>d w s2 o λb u r hl e=>k b u (by simpa using r) (by rw[v5];lia) e,λb r =>?_,by simp;lia,?_,λv s' pv mv =>?_⟩)
 .rw[v5];simp only[wm,wE,vO] at r
  rcases r with e | e
  .rw[e];exact uX _
  .rw[e];exact uf ha
 .intro i j x y w Q1 E1 ok px py q1;obtain⟨b1,k1,J,z,rfl,a4⟩:=za2 E t (by simpa using px);obtain⟨b2,k2,c1,c2,rfl,c4⟩:=za2 E t (by simpa using py);obtain⟨_,o,a9,n,e,C,M,O,S⟩:=ok i b1 k1 J z
  cases e
  obtain⟨_,o',b0,n',e',L,N,R,T⟩:=ok j b2 k2 c1 c2
  cases e'
  dsimp only at q1;rw[z,c2] at q1;exact HT.z70 ⟨o,C,M,n,O⟩ ⟨o',L,N,n',R⟩ S T Z q1
 .obtain⟨b,k,J,z,rfl,a4⟩:=za2 E t (by simpa using pv);obtain⟨h',g',d',a5,a3⟩:=s';have eg:g'=s.gens:=mv.gens;have ed:d'=s.drawn:=mv.drawn;have eo:a3=s.os:=mv.os;subst eg;subst ed;subst eo;refine⟨.ref b,H,I.kept (t':=a5) λb o e=>mv.heap b o ?_ (wf _ e),rfl,q _ b k J z a4 λx hx =>?_⟩
  .simp only[wg];exact wJ (ww e)
  .obtain⟨j,hj,rfl⟩:=ve.mp hx;have:=zdT (λi=>(ks[i]?).getD []) (l.length - 1) j (by lia);rw[z,wn hj] at this;exact this
def zkz:∀ps:List (Int × Int),ps.map vec=(ps.map λp=>[p.1,p.2]).map tupD:=λps=>by rw[wM];rfl
def ziJ (n:X.calm=true)(t:X.A.units+64<cLine):z0D X (.builtin "max") (rN X.K X.mg zkU):=(zdN n t).imp <| by
 rintro vs H Q ⟨G,E,y,C,g,rds,s,o⟩;obtain⟨d,rfl,h⟩:=z1o s;obtain⟨v,rfl,rd⟩:=rds1 rds;obtain⟨ps,rfl,f,I,q⟩:=h;obtain⟨a,w,rfl,l,j⟩:=z1V rd;rw[zkz] at j;refine⟨G,a,w,_,rfl,g,l,z7i j,by simpa using f,λi b k F e m r =>?_⟩;rw[wO] at e
 cases z:ps[i]? with
 | none=>simp_all
 | some p=>
  rw[z] at e
  cases e
  exact o.now g (q p (wv z) λx u=>zlE _ _ (r _ (we.mpr ⟨x,u,rfl⟩))) (RD.ofT m (z5G [p.1,p.2]))
def zey (X:Cx):V->List V->Hp->VK->Prop:=λx f H Q=>∃(G:Hp) (a:Addr) (b:List V) (l:List D) (d:D) (v:V),x = .ref a/\f=[v]/\Same G H/\SqL X.K G a b/\RDs X.K X.mg G l b/\RD X.K X.mg G d v/\Da 60 d/\(∀e∈l,Da 60 e)/\(∃e∈l,deq e d=true)/\l.length<=1000000/\
 ∀(i:Nat) e,l[i]? = some e->deq e d=true->Q (.int i) H
def z6F (hu:X.A.units+64<cLine):MtR X "list.index" (zey X):=by
 rintro N s σ H x xs v us Q I rx rs ⟨G,a,ys,l,d,w,T,U,g,hT,J,hd,W,Y,Z,hz,q⟩;subst T;subst U
 cases rx
 obtain⟨u,rfl,ru⟩:=rs.one;obtain⟨b,O,pl,_⟩:=I.list (z1l g hT);obtain⟨e,q1,_,q2⟩:=z4S I g hu hd ru W Y J O;obtain⟨⟨R,S,t,sl⟩,K,C,n,f⟩:=id pl.isList;simp only at C f;subst C f;obtain⟨i,x,h,L,p⟩:=z6l (λe=>deq e d) l Z;have il:i<l.length:=by
  rcases wR i l.length with z | z
  .exact z
  .rw[uQ z] at h;cases h
 have len:b.length=l.length:=by rw[<- O.length,J.len]
 have E:i<b.toArray.size:=by simpa[len] using il
 have val:∀(m:Nat) j y,l[m]? = some y->e b.toArray[m]=deq y d:=λm j y r=>q2 m _ y (by rw[wn (by simpa using j)];simp) r;refine call_meets PySem.F.slot_list_index ⟨_,K,rfl⟩ PySem.F.entry_list_index (PySem.F.args_list_index_2 _ _) (SeqAt.list_indexAt a b.toArray n S sl u e i E (by omega) ((val i E x h).trans L) λm j o =>?_) ⟨K,λy r=>q1 y (by simpa using r),?_⟩
 .have M:m<l.length:=by omega
  rw[val m j _ (wn M)];exact p m _ o (wn M)
 .exact⟨.int i,H,I.tok _,⟨_,rfl⟩,q i x h L⟩
end
section
variable {X:Cx}{E:XK}{o e:Expr}{apos cpos:Pos}{i:Nat}
def zb5 (hu:X.A.units+64<cLine)(ho:QE X o (tVar i))(Z:QXA X E [e] [.op zkU [.v i]])
  (h:autoParam (aB o "index" X) jA1)
  (r:autoParam (aG cpos [e] X) jA1)
  (l:autoParam (aL apos cpos) jA1) (hs:autoParam (sE e [] X) jA1) (b:autoParam (bT cpos [] X) jA1):
  QX X E (.Call (.Attribute o "index" apos) [e] [] cpos) (.op zae [.v i]):=
 QE.imp (zhF uY PySem.F.slot_list_index PySem.F.type_list_index (z6F hu) ho Z h r l hs b) <| by
  rintro σ H Q ⟨G,y,U,W,g,M,hr,hk,hx⟩;have f:onV (y.get i) (λd=>zaA d U):=hr
  cases u:y.get i with
  | none=>rw[u] at f;exact f.elim
  | some d=>
   rw[u] at f;obtain⟨ps,rfl,J,hz,q⟩:=f;obtain⟨v,s1,rd⟩:=M i _ u;obtain⟨a,xs,rfl,S,Y⟩:=z1V rd;have N:∀p:Int × Int,Da 60 (vec p):=λp=>Da.vec p;refine⟨.ref a,s1,.inl ⟨rfl,_,z1l g S⟩,G,y,λO=>Ee1 λm=>Aa3 (m∈ps) (∀x∈ps,LxG m x) (O=[vec m]),W,g,M,?_,?_,hx⟩
   .show onV (y.get i) _;rw[u];exact⟨ps,rfl,J,hz,λm I j=>⟨m,I,j,rfl⟩⟩
   .rintro O vs L T ⟨m,I,j,rfl⟩ C R g3 rds;obtain⟨w,rfl,K⟩:=rds1 rds;refine⟨L,a,xs,ps.map vec,vec m,w,rfl,rfl,R,z1l C.1 S,Y.same C.1,K,N m,λe t =>?_,⟨_,we.mpr ⟨m,I,rfl⟩,?_⟩,by rw[wd];omega,λn e s t =>?_⟩
    .obtain⟨p,_,rfl⟩:=we.mp t;exact N p
    .rw[show deq (vec m) (vec m)=decide (m=m) from z2C m m];exact v4 rfl
    .rw[wO] at s
     cases z:ps[n]? with
     | none=>rw[z] at s;cases s
     | some p=>
      rw[z] at s
      cases s
      rw[show deq (vec p) (vec m)=decide (p=m) from z2C p m] at t;rw[uw t] at z;exact hk _ _ L T (q n m z j) C R g3 RD.int'
end
end Pu
namespace L2
open PySem PySem.Spec PyProof.Rows
section
variable {κ:Type}[DecidableEq κ]
noncomputable def valV (kvs:List (κ × V))(k:κ):Option V:=(kvs.find? λa=>decide (a.1=k)).map (·.2)
noncomputable def putK (kvs:List (κ × V))(k:κ)(v:V):List (κ × V):=
 if (kvs.any λa=>decide (a.1=k))=true then kvs.map (λa=>if a.1=k then (a.1,v) else a) else kvs++[(k,v)]
def z5A {k:κ}(e:p.1=k):valV (p::r) k=some p.2:=by simp[valV,jq,e]
def z5B {k:κ}(e:¬ p.1=k):valV (p::r) k=valV r k:=by simp[valV,jq,e]
theorem za0 (k:κ):∀kvs:List (κ × V),(kvs.any λa=>decide (a.1=k))=(valV kvs k).isSome
 | []=>rfl
 | p::r=>by
  rw[List.any_cons]
  by_cases e:p.1=k
  .simp[z5A e,v4 e,Bool.true_or,Option.isSome_some]
  .rw[z5B e,vB e];exact za0 k r
def z6a (kvs:List (κ × V))(k:κ)(v:V):(putK kvs k v).length<=kvs.length+1:=by
 unfold putK
 grind
def RelO.isSome_eq (r:RelO o u):o.isSome=u.isSome:=by
 cases o with
 | none=>cases u with
  | none=>rfl
  | some _=>exact(r).elim
 | some _=>cases u with
  | none=>exact(r).elim
  | some _=>rfl
theorem RelO.getD {o:Option V}{u:Option Value}{d:V}{d':Value}(r:RelO o u)(rd:RelV d d'):RelV (o.getD d) (u.getD d'):=by
 cases o with
 | none=>cases u with
  | none=>exact rd
  | some _=>exact(r).elim
 | some _=>cases u with
  | none=>exact(r).elim
  | some _=>exact r
def KV.val {vs:List (κ × Value)}(r:KV kvs vs)(k:κ):RelO (valV kvs k) (valueAt vs k):=by
 induction r with
 | nil=>exact True.intro
 | @cons p q ps d h t i=>
  obtain⟨f,g⟩:=h
  by_cases e:p.1=k
  .have a  := f.symm.trans e;have b:valueAt (q::d) k=some q.2:=by simp[valueAt,jq,a]
   rw[z5A e,b];exact g
  .have a:¬ q.1=k:=λz=>e (f.trans z);have b:valueAt (q::d) k=valueAt d k:=by simp[valueAt,jq,a]
   rw[z5B e,b];exact i
theorem KV.any {kvs:List (κ × V)}{vs:List (κ × Value)}(r:KV kvs vs)(k:κ):(kvs.any λa=>decide (a.1=k))=vs.any λa=>decide (a.1=k):=by
 induction r with
 | nil=>rfl
 | cons h t b=>simp_all
def KV.repl {vs:List (κ × Value)}(r:KV kvs vs)(k:κ)(f:RelV y u):
  KV (kvs.map λa=>if a.1=k then (a.1,y) else a) (vs.map λa=>if a.1=k then (a.1,u) else a):=by
 induction r with
 | nil=>exact .nil
 | @cons p q ps d h t b=>
  refine .cons ?_ b
  by_cases e:p.1=k
  .simp_all
  simp_all
def KV.put {vs:List (κ × Value)}(r:KV kvs vs)(k:κ)(a:RelV y u):KV (putK kvs k y) (stored vs k u):=by
 unfold putK stored;rw[r.any k]
 by_cases e:(vs.any λb=>decide (b.1=k))=true
 .rw[if_pos e,if_pos e];exact r.repl k a
 .rw[if_neg e,if_neg e];exact Paired.snoc r ⟨rfl,a⟩
theorem KV.length {kvs:List (κ × V)}{vs:List (κ × Value)}(r:KV kvs vs):kvs.length=vs.length:=Paired.length r
end
def zir {P:Program}{k:Key}(r:RelV (kV k) u):(z1i P w).is k u=true:=by
 cases k with
 | inl i=>obtain⟨t,e⟩:=(r);subst e;exact z9C P w i t
 | inr x=>obtain⟨t,e⟩:=(r);subst e;exact z9B P w x t
theorem z8F {P:Program}:∀{ks:List Key}{a:List Value},Vals (ks.map kV) a->ItemsAre (z1i P w) ks a
 | [],_,r=>by cases r;exact .nil
 | k::ks,_,r=>by
  cases r with
  | cons h t=>exact .cons (zir h) (z8F t)
abbrev KT (H:Hp):List (List Key × V)->List (List Key × Addr × Value)->Prop:=Paired λp q=>p.1=q.1/\H q.2.1=some (.tup (p.1.map kV))/\RelV p.2 q.2.2
def KT.val (r:KT H kvs xs)(k:List Key):RelO (valV kvs k) ((atKey xs k).map (·.2)):=by
 induction r with
 | nil=>exact True.intro
 | @cons p q ps d h t i=>
  obtain⟨f,_,g⟩:=h
  by_cases e:p.1=k
  .have a  := f.symm.trans e;have b:atKey (q::d) k=some q.2:=by simp[atKey,jq,a]
   rw[z5A e,b];exact g
  .have a:¬ q.1=k:=λz=>e (f.trans z);have b:atKey (q::d) k=atKey d k:=by simp[atKey,jq,a]
   rw[z5B e,b];exact i
def KT.repl (r:KT H kvs xs)(k:List Key)(i:RelV y u):
  KT H (kvs.map λb=>if b.1=k then (b.1,y) else b) (xs.map (putAt k u)):=by
 induction r with
 | nil=>exact .nil
 | @cons p q ps j h t g=>
  rw[wA];refine .cons ?_ g;obtain⟨a,d,f⟩:=h;unfold putAt
  by_cases e:p.1=k
  .rw[if_pos e,if_pos (a.symm.trans e)];exact⟨a,d,i⟩
  .rw[if_neg e,if_neg (λz=>e (a.trans z))];exact⟨a,d,f⟩
def KT.put (r:KT H kvs xs)(k:List Key)(d:H b=some (.tup (k.map kV)))(a:RelV y u):
  KT H (putK kvs k y) (storedH xs k b u):=by
 have e:(kvs.any λf=>decide (f.1=k))=(atKey xs k).isSome:=by
  rw[za0,(r.val k).isSome_eq,Option.isSome_map]
 unfold putK storedH;rw[e]
 by_cases q:(atKey xs k).isSome=true
 .rw[if_pos q,if_pos q];exact r.repl k a
 .rw[if_neg q,if_neg q];exact Paired.snoc r ⟨rfl,d,a⟩
def KT.keeps (r:KT H kvs xs)(a:∀b ys,H b=some (.tup ys)->H' b=some (.tup ys)):KT H' kvs xs:=
 Paired.mapP r λ_ _ z=>⟨z.1,a _ _ z.2.1,z.2.2⟩
section
variable {P:Program}{w:World}{H:Hp}{h:Heap}{a:Addr}
def zjB (ok:HOk P w H h)(e:Rd H a u):z1G P w H h a u:=e.ok ok
def zdx {kvs:List (Key × V)}(ok:HOk P w H h)(e:Rd H a (.dK kvs)):kvs.length<=sizeLine/\(a == sysModules)=false/\∃vs,KV kvs vs/\h.DictOf (z1i P w) a vs:=
 zjB ok e
def znL (ok:HOk P w H h)(e:H a=some (.dK kvs)):kvs.length<=sizeLine/\(a == sysModules)=false/\∃vs,KV kvs vs/\h.DictOf (z1i P w) a vs:=zdx ok (.inl e)
def zd9 (ok:HOk P w H h)(e:H a=some (.tup (ks.map kV))):(tupleKind (z1i P w)).is h ks a:=by
 obtain⟨_,b,r,⟨o,d,f,n,g⟩,_⟩:=(ok a _ e)
 exact⟨o,b.toArray,n,d,f,g,by simpa using z8F r⟩
def ziB (ok:HOk P w H h)(e:Rd H a (.dT kvs)):kvs.length<=sizeLine/\(a == sysModules)=false/\
  ∃xs,KT H kvs xs/\h.DictOfH (tupleKind (z1i P w)) a xs:=by
 obtain⟨z,y,xs,r,o,f,d,g,i,j,n,s⟩:=(zjB ok e)
 refine⟨z,y,xs,r,o,f,d,g,i,j,n,λx b =>?_,s⟩;have all:∀{l:List _}{m:List _},KT H l m->∀x∈m,(tupleKind (z1i P w)).is h x.1 x.2.1:=by
  intro l m q
  induction q with
  | nil=>simp_all
  | @cons p q ps C A t u=>
   intro x b
   rcases wm.mp b with e | b
   .exact zd9 ok (by simp_all)
   .exact u x b
 exact all r x b
def znK (ok:HOk P w H h)(e:H a=some (.dT kvs)):kvs.length<=sizeLine/\(a == sysModules)=false/\
  ∃xs,KT H kvs xs/\h.DictOfH (tupleKind (z1i P w)) a xs:=ziB ok (.inl e)
end
def DGet (H:Hp)(a:Addr)(y:V)(r:Option V):Prop:=
 (∃d k,Rd H a (.dK d)/\y=kV k/\r=valV d k)\/∃d k b,Rd H a (.dT d)/\y = .ref b/\H b=some (.tup (k.map kV))/\r=valV d k
def DPut (H:Hp)(a:Addr)(y v:V)(e:Hp):Prop:=
 (∃d k,H a=some (.dK d)/\y=kV k/\d.length<sizeLine/\e=upd H a (.dK (putK d k v)))\/
 ∃d k b,H a=some (.dT d)/\y = .ref b/\H b=some (.tup (k.map kV))/\d.length<sizeLine/\e=upd H a (.dT (putK d k v))
theorem DPut.k {H:Hp}{a:Addr}{kvs:List (Key × V)}{k:Key}{v:V}(e:H a=some (.dK kvs))(b:kvs.length<sizeLine):DPut H a (kV k) v (upd H a (.dK (putK kvs k v))) :=.inl ⟨kvs,k,e,rfl,b,rfl⟩
section
variable {X:Cx}{pins:List (Addr × Obj)}{σ:St}{H:Hp}{s:Shared}{a:Addr}{y v:V}{u r:Value}{o:Option V}{A:Around}{E:WvP}
def Inv.big (I:Inv X pins σ H s):sysModules<s.heap.objs.size:=by
 have h  := (I.mod.glob.keeps I.bk).lt;exact Nat.lt_trans (by decide) h
def zdB (I:Inv X pins σ H s)(g:Mut (H a))(f:Heap.SameBut a s.heap h')(e:∃q,h'.get? a=some q)(new:z1G X.prog X.w (upd H a ob) h' a ob):
  Inv X pins σ (upd H a ob) { s with heap:=h',toks:=t' }:=
 I.write g (.inl rfl) (λb q d z=>(f.2 b d).trans z) e new
def zlU {P:Program}{vs:List (Key × Value)}(z:kvs.length<=sizeLine)(e:(a == sysModules)=false)(b:KV kvs vs)(d:h'.DictOf (z1i P w) a vs):
  z1G P w H' h' a (.dK kvs):=⟨z,e,vs,b,d⟩
def zdC (W:A.units+1<cLine)(I:Inv X pins σ H s)(g:DPut H a y v H')(L:RelV y u)(K:RelV v r)(h:∀s',Inv X pins σ H' s'->Q () s'):
  wpAny (model X.prog X.w) A (setItem (.ref a) u r) Q E s:=by
 rcases g with ⟨d,k,e,o,l,n⟩ | ⟨d,k,b,e,o,F,l,n⟩
 .subst o n;obtain⟨z,p,vs,f,m⟩:=znL I.hok e;have C:vs.length<=sizeLine:=by rw[<- f.length];exact z
  have t:(putK d k v).length<=sizeLine:=by have:=z6a d k v;omega
  refine wpAny_setItem_pairs (hsz:=C) (zir L) m λJ i x=>h _ ?_;have U:∃q,J.get? a=some q:=let ⟨q,_,_,j,_⟩:=i;⟨q,j⟩;exact zdB I (by rw[e];exact True.intro) x U (zlU t p (f.put k K) i)
 .subst o n
  cases (show u=Value.ref b from L)
  obtain⟨z,p,Y,f,m⟩:=znK I.hok e;have C:Y.length<=sizeLine:=by rw[<- Paired.length f];exact z
  have t:(putK d k v).length<=sizeLine:=by have:=z6a d k v;omega
  refine wpAny_setItem_heap (hsz:=C) (tupleKind_room_in1 W) (zd9 I.hok F) m λJ i x=>h _ ?_;obtain⟨q,N,M,j,O,R,S,_,T⟩:=i;refine zdB I (by rw[e];exact True.intro) x ⟨q,j⟩ ⟨t,p,_,(f.put k F K).keeps λc Z G =>?_,q,N,M,j,O,R,S,T⟩;rw[z08 (znw G e (λz=>nomatch z))];exact G
end
def zmt (h j i:TE):TS:=λD b H=>i b H λv e=>h b e λx f=>j b f λy g=>∃a d,x = .ref a/\DPut g a y v d/\D.nx b d
section
variable {X:Cx}{o i e value:Expr}{pos pos' tpos:Pos}{td ty tv:TE}
def zhO (z:X.A.units+1<cLine)(t:PE X o td)(q:PE X i ty)(C:PE X value tv)(w:swapsWith value (some (.Subscript o i pos')) pos.line X.env=pure false):
  PS X (.Assign [.Subscript o i pos'] value pos) (zmt td ty tv):=by
 intro d s b H D I h;refine wpAny_Assign_Subscript (thn (C _ s b H _ I h) λr M ⟨v,e,l,J,E⟩=>thn (t _ M b e _ l E) λu N ⟨x,f,m,K,F⟩=>thn (q _ N b f _ m F) λR S O =>?_) w;obtain⟨y,Q,n,L,a,j,ex,g,G⟩:=O;subst ex;obtain rfl:u=Value.ref a:=K;exact zdC z n g L J λT p=>⟨b,j,p,G⟩
end
def zfK {P:Program}(h:Heap)(a:sysModules<h.objs.size):z1G P w H (h.push { cls :=.type "dict",data :=.dict #[] }) h.objs.size (.dK []):=
 ⟨vH _,beq_eq_false_iff_ne.mpr (vP (wJ a)),[],.nil,Heap.DictOf.new h⟩
def zjd:TE:=λ_ H Q=>∀p,H p=none->Q (.ref p) (upd H p (.dK []))
section
variable {X:Cx}{pos:Pos}
def zf1:PE X (.Dict [] [] pos) zjd:=λa s b H Q I h=>
 wpAny_Dict_empty ⟨.ref _,_,I.laid (λ_ _ q=>wf _ q) (wu _) (zfK _ I.big),rfl,h _ (I.hok.fresh (wu _))⟩
end
structure M2 (X:Cx)(o:Expr)(m:Str)(apos:Pos)(e f:Expr)(cpos:Pos):Prop where
 base:aB o m X
 few:aG cpos [e,f] X
 line:aL apos cpos
 trees:backTo cpos (starEach [e,f] X.env)=[(false,eval e X.env),(false,eval f X.env)]
def IsD (H:Hp)(a:Addr):Prop:=(∃b,Rd H a (.dK b))\/∃b,Rd H a (.dT b)
def zgL (I:Inv X pins σ H s)(d:IsD H a):
  s.TypeIs (.ref a) "dict"/\(∀b,Value.ref a = .ref b->∃f,s.heap.get? b=some f/\f.dict=none)/\(a == sysModules)=false:=by
 rcases d with ⟨l,e⟩ | ⟨l,e⟩
 .obtain⟨_,j,vs,_,g⟩:=zdx I.hok e;refine⟨g.typeIs,λb q =>?_,j⟩
  cases q
  obtain⟨f,_,_,h,i,_⟩:=g;exact⟨f,h,i.2.1⟩
 .obtain⟨_,j,m,_,g⟩:=ziB I.hok e;refine⟨g.typeIs,λb q =>?_,j⟩
  cases q
  obtain⟨f,_,_,h,i,_⟩:=g;exact⟨f,h,i.2.1⟩
section
variable {X:Cx}{pins:List (Addr × Obj)}{σ:St}{H:Hp}{s:Shared}{a:Addr}{y d:V}{u r:Value}{o:Option V}{A:Around}{E:WvP}
def zlY (x:A.units+1<cLine)(I:Inv X pins σ H s)(g:DGet H a y o)(p:RelV y u)(rd:RelV d r)(h:∀q s',Inv X pins σ H s'->RelV (o.getD d) q->Q q s'):
  wpAny (model X.prog X.w) A (call (.builtin "dict.get") [.ref a,u,r]) Q E s:=by
 rcases g with ⟨n,k,e,j,l⟩ | ⟨n,k,b,e,j,t,l⟩
 .subst j;obtain⟨z,m,vs,f,i⟩:=zdx I.hok e;refine call_meetsIn PySem.F.slot_dict_get i.typeIs PySem.F.entry_dict_get (PySem.F.args_dict_get_3 _ _ _) (meets_dict_get_default _ a (zir p) m r) ⟨_,i.mapOf,h _ _ (I.tok _) ?_⟩;rw[l];exact(f.val k).getD rd
 .subst j
  cases (p)
  obtain⟨z,m,C,f,i⟩:=ziB I.hok e;refine call_meetsIn PySem.F.slot_dict_get i.typeIs PySem.F.entry_dict_get (PySem.F.args_dict_get_3 _ _ _) (meetsH_dict_get_default _ a b m r) ⟨tupleKind_room_in1 x,k,C,zd9 I.hok t,i,h _ _ (I.tok _) ?_⟩;rw[l];exact(f.val k).getD rd
end
def zje (g h tx:TE):TE:=λb H Q=>g b H λx d=>∃a,x = .ref a/\IsD d a/\h b d λy f=>tx b f λz e=>∃o,DGet e a y o/\Q (o.getD z) e
section
variable {X:Cx}{o e f:Expr}{apos cpos:Pos}{td ty tx:TE}
def zf2 (J:X.A.units+1<cLine)(G:PE X o td)(C:PE X e ty)(E:PE X f tx)(m:M2 X o "get" apos e f cpos):PE X (.Call (.Attribute o "get" apos) [e,f] [] cpos) (zje td ty tx):=by
 intro l s i H Q I h;refine wpAny_Call_method m.base m.few m.line PySem.F.plainAttrs_dict PySem.F.slot_dict_get PySem.F.type_dict_get (thn (G _ s i H _ I h) λu S Y =>?_);obtain⟨x,n,j,N,a,ex,d,K⟩:=Y;subst ex;obtain rfl:u=Value.ref a:=N;obtain⟨U,W,_⟩:=zgL j d;refine⟨U,W,?_⟩;rw[m.trees];refine u7 rfl (Calls.evalArgs_plain (Calls.spliced_cons (thn (C _ S i n _ j K) λiv T ⟨y,p,r,O,L⟩=>
  Calls.spliced_cons (thn (E _ T i p _ r L) λZ s3 ⟨z,q,t,R,ov,g,M⟩=>Calls.spliced_nil ?_))))
 exact zlY J t g O R λw' s4 w b=>⟨_,q,w,b,M⟩
end
end L2
namespace Pu
open PySem PySem.Spec PyProof.Rows L2
def dk (kvs:List (Key × D)):D :=.dct (kvs.map λp=>kD p.1) (kvs.map (·.2))
noncomputable def valD (kvs:List (Key × D))(k:Key):Option D:=(kvs.find? λp=>decide (p.1=k)).map (·.2)
noncomputable def putD (kvs:List (Key × D))(k:Key)(d:D):List (Key × D):=if (kvs.any λp=>decide (p.1=k))=true then kvs.map (λp=>if p.1=k then (p.1,d) else p) else kvs++[(k,d)]
def PK (K:W.Frag)(mg:WmP)(G:Hp):List (Key × D)->List (Key × V)->Prop
 | [],[]=>True
 | (k,d)::r,(a,v)::b=>k=a/\RD K mg G d v/\PK K mg G r b
 | _,_=>False
def zlL:∀{k a:Key},kD k=kD a->k=a
 | .inl _,.inl _,h=>by injection h with h;rw[h]
 | .inr _,.inr _,h=>by injection h with h;rw[h]
 | .inl _,.inr _,h=>by cases h
 | .inr _,.inl _,h=>by cases h
section
variable {K:W.Frag}{mg:WmP}{G G' H:Hp}
theorem PK.of:∀{kvs:List (Key × D)}{a:List (Key × V)},kvs.map (λp=>kD p.1)=a.map (λp=>kD p.1)->RDs K mg G (kvs.map (·.2)) (a.map (·.2))->PK K mg G kvs a
 | [],[],_,_=>trivial
 | [],_::_,h,_=>by cases h
 | _::_,[],h,_=>by cases h
 | (k,d)::r,(g,v)::i,h,q=>by
  simp[wA,List.cons.injEq] at h q;obtain⟨x,y,e,b,f⟩:=q;simp[List.cons.injEq] at e;obtain⟨rfl,rfl⟩:=e;exact⟨zlL h.1,b,PK.of h.2 f⟩
theorem PK.keys:∀{kvs:List (Key × D)}{a:List (Key × V)},PK K mg G kvs a->kvs.map (·.1)=a.map (·.1)
 | [],[],_=>rfl
 | [],_::_,h=>h.elim
 | _::_,[],h=>h.elim
 | (k,d)::r,(b,v)::e,h=>by
  obtain⟨rfl,_,h⟩:=h;simp[PK.keys h]
theorem PK.rds:∀{kvs:List (Key × D)}{a:List (Key × V)},PK K mg G kvs a->RDs K mg G (kvs.map (·.2)) (a.map (·.2))
 | [],[],_=>RDs.nil
 | [],_::_,h=>h.elim
 | _::_,[],h=>h.elim
 | (k,d)::r,(b,v)::e,h=>RDs.cons h.2.1 (PK.rds h.2.2)
theorem PK.same (g:Same G G'):∀{kvs:List (Key × D)}{a:List (Key × V)},PK K mg G kvs a->PK K mg G' kvs a
 | [],[],_=>trivial
 | [],_::_,h=>h.elim
 | _::_,[],h=>h.elim
 | (k,d)::r,(b,v)::e,h=>⟨h.1,h.2.1.same g,PK.same g h.2.2⟩
theorem PK.val:∀{kvs:List (Key × D)}{a:List (Key × V)},PK K mg G kvs a->(valD kvs j=none/\valV a j=none)\/∃d v,valD kvs j=some d/\valV a j=some v/\RD K mg G d v
 | [],[],_ =>.inl ⟨rfl,rfl⟩
 | [],_::_,h=>h.elim
 | _::_,[],h=>h.elim
 | (k,d)::r,(i,v)::l,h=>by
  obtain⟨rfl,f,g⟩:=h
  by_cases e:k=j
  .refine .inr ⟨d,v,?_,z5A e,f⟩;unfold valD;rw[jq,v4 e]
   rfl
  .have b:valD ((k,d)::r) j=valD r j:=by
    unfold valD
    simp_all
   rw[b,z5B e];exact PK.val g
theorem PK.any {j:Key}{kvs:List (Key × D)}{a:List (Key × V)}(h:PK K mg G kvs a):(kvs.any λp=>decide (p.1=j))=(a.any λp=>decide (p.1=j)):=by
 have b:(kvs.any λp=>decide (p.1=j))=((kvs.map (·.1)).any λk=>decide (k=j)):=by rw[List.any_map];rfl
 have d:(a.any λp=>decide (p.1=j))=((a.map (·.1)).any λk=>decide (k=j)):=by rw[List.any_map];rfl
 rw[b,d,h.keys]
theorem PK.repl (a:RD K mg G d0 v0):∀{kvs:List (Key × D)}{f:List (Key × V)},PK K mg G kvs f->PK K mg G (kvs.map λp=>if p.1=j then (p.1,d0) else p) (f.map λp=>if p.1=j then (p.1,v0) else p)
 | [],[],_=>trivial
 | [],_::_,h=>h.elim
 | _::_,[],h=>h.elim
 | (k,d)::r,(i,v)::l,h=>by
  obtain⟨rfl,g,b⟩:=h;simp[wA]
  by_cases e:k=j
  .rw[if_pos e,if_pos e];exact⟨rfl,a,PK.repl a b⟩
  .rw[if_neg e,if_neg e];exact⟨rfl,g,PK.repl a b⟩
theorem PK.snoc (b:RD K mg G d0 v0):∀{kvs:List (Key × D)}{a:List (Key × V)},PK K mg G kvs a->PK K mg G (kvs++[(j,d0)]) (a++[(j,v0)])
 | [],[],_=>⟨rfl,b,trivial⟩
 | [],_::_,h=>h.elim
 | _::_,[],h=>h.elim
 | (k,d)::r,(e,v)::f,h=>⟨h.1,h.2.1,PK.snoc b h.2.2⟩
def PK.put (a:RD K mg G d0 v0)(h:PK K mg G kvs kw):PK K mg G (putD kvs j d0) (putK kw j v0):=by
 unfold putD putK;rw[h.any]
 split
 .exact h.repl a
 .exact h.snoc a
def PK.len {kvs:List (Key × D)}{a:List (Key × V)}(h:PK K mg G kvs a):kvs.length=a.length:=by
 have:=congrArg List.length h.keys;simpa using this
def zkW (h:z5h K mg G H a (dk kvs)):∃kw,H a=some (.dK kw)/\PK K mg G kvs kw:=by
 obtain⟨j,e,⟨kw,q,b,rfl⟩ | ⟨kw,q,n,b,rfl⟩⟩:=h
 .exact⟨kw,q,PK.of b e⟩
 .exfalso
  cases kw with
  | nil=>exact n rfl
  | cons p r=>
   cases kvs with
   | nil=>cases b
   | cons f g=>
    simp[wA,List.cons.injEq] at b;obtain⟨⟨i | x,d⟩,_⟩:=f,g
    all_goals exact absurd b.1 (by simp[kD])
def zgO (h:H a=some (.dK kw))(p:PK K mg G kvs kw):z5h K mg G H a (dk kvs):=by
 refine⟨_,p.rds,.inl ⟨kw,h,?_,rfl⟩⟩;have:kvs.map (λp=>kD p.1)=(kvs.map (·.1)).map kD:=by rw[wM];rfl
 rw[this,p.keys,wM]
 rfl
def zjE {v:V}(h:RD K mg G (dk kvs) v):∃a kw,v = .ref a/\Rd G a (.dK kw)/\PK K mg G kvs kw:=by
 unfold dk at h;obtain⟨a,j,rfl,e,⟨kw,q,b,rfl⟩ | ⟨kw,q,n,b,rfl⟩⟩:=h
 .exact⟨a,kw,rfl,q,PK.of b e⟩
 .exfalso
  cases kw with
  | nil=>exact n rfl
  | cons p r=>
   cases kvs with
   | nil=>cases b
   | cons f g=>
    simp[wA,List.cons.injEq] at b;obtain⟨⟨i | x,d⟩,_⟩:=f,g
    all_goals exact absurd b.1 (by simp[kD])
def zjC {k:Key}{v:V}(h:RD K mg G (kD k) v):v=kV k:=by
 cases k with
 | inl i=>exact(by exact h)
 | inr x=>exact(by exact h)
end
open Tab
def ownD (b:Env)(i:Nat)(P:List (Key × D)->Prop):Prop:=∃a,b[i]? = some (.o (dk a))/\P a
def Sm.dput (i:Nat)(k e:Ex):Sm:=⟨λf N _ X=>ownD f i λa=>e.run f (λd=>Safe d f/\k.run f (λb=>∃j,b=kD j/\a.length<sizeLine/\N (f.set i (.o (dk (putD a j d))))) X) X,λf N s Q t X g r m l ⟨a,h,q⟩=>⟨a,h,e.mono f _ _ X g (λd q=>⟨q.1,k.mono f _ _ X g (λb ⟨j,n,p,q⟩=>⟨j,n,p,r _ q⟩) l q.2⟩) l q⟩⟩
def zkV:Fn:=⟨λ_ Q _=>Q (dk []),λ_ Q a X b m _ q=>m _ q⟩
def Ex.dget2 (x k e:Ex):Ex:=⟨λf Q X=>x.run f (λa=>∃d,a=dk d/\k.run f (λb=>∃j,b=kD j/\e.run f (λc=>Q ((valD d j).getD c)) X) X) X,λf Q l X g m i q=>x.mono f _ _ X g (λa ⟨d,h,q⟩=>⟨d,h,k.mono f _ _ X g (λb ⟨j,h,q⟩=>⟨j,h,e.mono f _ _ X g (λc q=>m _ q) i q⟩) i q⟩) i q⟩
abbrev dkI (rs:List (Int × D)):D:=dk (rs.map λr=>(Sum.inl r.1,r.2))
def zdo (d:D)(Q:DK):Prop:=∃e,d=dkI e/\(e.map (·.1)).Nodup/\e.length<=63/\∀f:List (Int × D),f.Perm e->f.Pairwise (λa b=>a.1<b.1)->Q (.lst (f.map pdD))
def z6W:Fn:=fn1 zdo λd Q j m ⟨i,e,f,g,q⟩=>⟨i,e,f,g,λh a b=>m _ (q h a b)⟩
section
variable {X:Cx}{E:XK}{e f o y:Expr}{x z u:Ex}{pos spos apos cpos p1:Pos}{i:Nat}
def zhn (hu:X.A.units+64<cLine)(S:QE X o (tVar i))(Y:QX X E y z)(Q:QX X E e x)(U:autoParam (swapsWith e (some (.Subscript o y spos)) pos.line X.env=pure false) jA1):QZ X E (.Assign [.Subscript o y spos] e pos) (.dput i z x):=
 QS.imp ⟨zhO (by omega) S.p Y.p Q.p U⟩ <| by
  rintro De σ H ⟨H0,G0,G,ρ,N0,R0,X0,m,⟨a0,t,T⟩,R,hR,C⟩;refine ze6 m T C λd w G1 H1 q N s g3 rd =>?_;obtain⟨h,n⟩:=m.back N s g3;have r:=z3R m s g3 q.1 rd;obtain⟨a,I,ga,h0,W⟩:=h.ow i _ t;refine⟨.ref a,I,?_⟩;refine ze6 h q.2 C λb u G2 H2 q2 k1 k2 F rb =>?_;obtain⟨f,l⟩:=h.back k1 k2 F;obtain⟨j,rfl,Z,O⟩:=q2;rw[zjC rb];obtain⟨kw,w1,J⟩:=zkW W;refine⟨a,_,rfl,DPut.k (F _ _ w1) (by rw[<- J.len];exact Z),?_⟩;refine R _ σ _ _ O (f.wr f.nw Same.refl' f.g Same.refl' (λj' L K M s'=>f.free K ⟨j',L,M,s'⟩) t I (zgO z0c ((J.same l).put (r.same l)))) (z02 n l)
def zhD:QF X E (.Dict [] [] pos) (.op zkV []):=QE.imp ⟨zf1⟩ λl H Q ⟨G,j,f,g,b,h,e,d,i⟩ p a=>
 d _ p G _ e Gr.refl (z02 b (z0o a _)) (z0o a _) a (z1c b a) (zgO z0c trivial)
def z7j {G H:Hp}{a:Addr}{o:HO}(g:Same G H)(h:Rd G a o):Rd H a o:=h.imp (g _ _) λ⟨u,e⟩=>⟨u,g _ _ e⟩
def zeE (hu:X.A.units+64<cLine)(Z:QX X E o x)(T:QX X E e z)(U:QX X E f u)(m:autoParam (aB o "get" X) jA1)
  (hw:autoParam (aG cpos [e,f] X) jA1)
  (Y:autoParam (aL apos cpos) jA1) (ht:autoParam (backTo cpos (starEach [e,f] X.env)=[(false,eval e X.env),(false,eval f X.env)]) jA1):QX X E (.Call (.Attribute o "get" apos) [e,f] [] cpos) (.dget2 x z u):=
 QE.imp ⟨zf2 (by omega) Z.p T.p U.p ⟨m,hw,Y,ht⟩⟩ <| by
 rintro σ H Q ⟨G,t,Q0,h,hs,i,hr,W,n⟩;refine⟨G,t,_,h,hs,i,hr,λd v L H1 ⟨a0,S,q⟩ l F g3 rd =>?_,n⟩;subst S;obtain⟨a,J,rfl,I,R⟩:=zjE rd;refine⟨a,rfl,.inl ⟨J,z7j F I⟩,?_⟩;refine⟨L,t,_,h,F,i.same l.1,q,λb w M H2 ⟨j,m,q2⟩ g k2 r rb =>?_,n.same g3⟩;subst m;rw[zjC rb];refine⟨M,t,_,h,k2,i.same (z02 l.1 g.1),q2,λc v N O q3 s K m3 rc =>?_,n.same (z02 g3 r)⟩;refine⟨_,.inl ⟨J,j,z7j (z02 g.1 (z02 s.1 K)) I,rfl,rfl⟩,?_⟩;refine W _ _ N O q3 (l.trans g3 (g.trans r s)) K (z02 g3 (z02 r m3)) ?_
 rcases R.val (j:=j) with ⟨y,C⟩ | ⟨d,v,y,C,rv⟩
 .simp_all
 .rw[y,C];exact rv.same (z02 g.1 s.1)
def znx {H f:Hp}{a:List (Addr × Obj)}{h:L2.St}{s:Shared}{g:Heap}{t':Nat}(I:Inv X a h H s)(k:∀b u,s.heap.get? b=some u->g.get? b=some u)(d:Same H f)(j:∀b o,f b=some o->H b=some o\/(s.heap.get? b=none/\z1G X.prog X.w f g b o)):
  Inv X a h f { s with heap:=g,toks:=t' }:=
 have i  := λb o e q=>by
  cases z:f b with
  | none=>rfl
  | some v=>
   grind
 I.un ⟨λb o e q _ _=>k b o e,λb o e q _ _=>⟨o.slots,k b o e⟩,λb o e q _=>i b o e q,λb o e _=>⟨o,k b o e⟩,λb l e=>d _ _ e,λb o u e=>d _ _ e,λb ps e=>⟨#[],by exact d _ _ e⟩⟩ λb v e=>by
  rcases j b v e with w | w
  .exact(I.hok b v w).stay (λc v _ q=>k c v q) (λc q=>d _ _ q) (λc l q=>d _ _ q) λc _ _ q=>d _ _ q
  .exact w.2
noncomputable def layP (H:Hp):List (Addr × Int × V)->Hp
 | []=>H
 | r::l=>upd (layP H l) r.1 (.tup [.int r.2.1,r.2.2])
theorem z3l {H:Hp}{b:Addr}:∀{l:List (Addr × Int × V)},(∀r∈l,r.1≠b)->layP H l b=H b
 | [],_=>rfl
 | r::l,h=>by rw[layP,z08 (vP (h r (by simp)))];exact z3l λx a=>h x (by simp[a])
theorem z9G {H:Hp}:∀{l:List (Addr × Int × V)},(l.map (·.1)).Nodup->∀r∈l,layP H l r.1=some (.tup [.int r.2.1,r.2.2])
 | r::l,b,x,a=>by
  rw[wA,vR] at b
  rcases wm.mp a with rfl | a
  .exact z0c
  .rw[layP,z08 (λz=>b.1 (we.mpr ⟨x,a,z⟩))];exact z9G b.2 x a
def z8A (h:∀r∈l,H r.1=none):Same H (layP H l):=λb o e=>by
 rw[z3l λr a z=>by rw[<- z,h r a] at e;cases e];exact e
theorem z8B (g:Same G H):∀{l:List (Addr × Int × V)},Same (layP G l) (layP H l)
 | []=>g
 | r::l=>λb o e=>by
  rw[layP] at e ⊢
  by_cases a:b=r.1
  .subst a;rw[z0c] at e ⊢;exact e
  .rw[z08 a] at e ⊢;exact z8B g b o e
theorem zd8 {K:W.Frag}{mg:WmP}{G:Hp}:∀{a:List (Addr × Int × V)}{m:List (Int × D)},Two (λr p=>r.2.1=p.1/\RD K mg G p.2 r.2.2) a m->(∀r∈a,G r.1=some (.tup [.int r.2.1,r.2.2]))->RDs K mg G (m.map pdD) (a.map λr =>.ref r.1)
 | _,_,.nil,_=>RDs.nil
 | r::_,p::_,.cons h t,k=>RDs.cons (RD.ofT (SqT.of (k r (by simp))) (RDs.cons (by rw[h.1];rfl) (RDs.cons h.2 RDs.nil))) (zd8 t λx b=>k x (by simp[b]))
def zny {P:Program}{k:Int}{v:Value}(h:(z1i P w).is (.inl k) v=true):∃t,v = .int k t:=by
 rw[zbn] at h
 rcases z0Z h with ⟨i,t,e,rfl⟩ | ⟨x,t,e,_⟩
 .grind
 .cases e
theorem zgK {P:Program}{w:World}{h:Heap}:∀{f:List (Int × V)}{vs:List (Key × Value)}{a:List Addr},KV (f.map λp=>(Sum.inl p.1,p.2)) vs->a.length=vs.length->(∀(j:Nat) b,a[j]? = some b->∃key k x,vs[j]? = some (k,x)/\(z1i P w).is k key=true/\h.get? b=some { cls :=.type "tuple",data :=.seq #[key,x] })->
  Two (λv z=>v = .ref z.1/\∃t w,RelV z.2.2 w/\h.get? z.1=some { cls :=.type "tuple",data :=.seq #[.int z.2.1 t,w] }) (a.map Value.ref) (a.zip f)
 | [],_,a,r,d,_=>by
  cases r
  rw[uA.mp d];exact .nil
 | q::f,_,a,r,d,g=>by
  cases r with
  | cons r1 r2=>
   cases a with
   | nil=>simp at d
   | cons b a=>
    refine .cons ?_ (zgK r2 (by simpa using d) λj b l=>g (j+1) b (by simpa using l));obtain⟨key,k,x,e,n,m⟩:=g 0 b rfl;simp at e;rw[e] at r1;have i  := r1.1;subst i;obtain⟨t,rfl⟩:=zny n;exact⟨rfl,t,x,r1.2,m⟩
theorem vals_refs:∀l:List (Addr × Int × V),Vals (l.map λr =>.ref r.1) (l.map λr =>.ref r.1)
 | [] =>.nil
 | _::l =>.cons rfl (vals_refs l)
def ItV (v a:Addr):HO :=.ext λh=>h.IsItemsView v a
def z9R (hc:X.calm=true):z0D X (.builtin "sorted") (λvs H Q=>∃(v a:Addr) (kw:List (Int × V)),vs=[.ref v]/\H v=some (ItV v a)/\Rd H a (.dK (kw.map λp=>(Sum.inl p.1,p.2)))/\(kw.map (·.1)).Nodup/\kw.length<=63/\
  ∀D n,H D=none->(n.map (·.2)).Perm kw->n.Pairwise (λa b=>a.2.1<b.2.1)->(n.map (·.1)).Nodup->(∀r∈n,H r.1=none/\r.1≠D)->Q (.ref D) (upd (layP H n) D (.lst (n.map λr =>.ref r.1)))):=by
 rintro a1 s σ H xs us Q I rv ⟨v,a,kw,e,T,hd,nd,d,q⟩;subst e;obtain⟨u,rfl,rx⟩:=z32 rv
 cases rx
 obtain⟨U,_⟩:=I.hok v _ T;obtain⟨_,_,vs,r,od,es,ep,da⟩:=zdx I.hok hd;have a0:kw.length=vs.length:=by rw[<- KV.length r,wd]
 refine Tim.z5W λE' =>?_;refine W.kdx_collect (knd:=z1i X.prog X.w) (kvs:=vs) (ep:=ep) (by simp[I.ok.hd hc]) U ⟨od,es,da⟩ (wP (show vs.length<=64 by omega) (by decide)) λi tk as keep hl K =>?_;have j:=zgK r hl K.pairs;have tp:∀z∈as.zip kw,Tim.TP i (.ref z.1) z.2.1:=λz d=>by
  obtain⟨v,_,_,t,w,_,g⟩:=j.mem_right d;exact⟨_,_,_,_,t,w,rfl,g,rfl,rfl,rfl⟩
 have zl:(as.zip kw).map (·.1)=as:=List.map_fst_zip (by omega);have zr:(as.zip kw).map (·.2)=kw:=List.map_snd_zip (by omega);have Z:as.Nodup:=K.rise.imp λh=>wJ h;have C:∀v (z:Addr × Int × V),(v = .ref z.1/\∃t w,RelV z.2.2 w/\i.get? z.1=some { cls :=.type "tuple",data :=.seq #[.int z.2.1 t,w] })->Tim.keyP i v=z.2.1:=by
  rintro v z ⟨e,t,w,_,g⟩;rw[e];exact Tim.TP.key ⟨_,_,_,_,t,w,rfl,g,rfl,rfl,rfl⟩
 have x:(as.map Value.ref).map (Tim.keyP i)=kw.map (·.1):=by
  rw[z5M C j, <- zr,wM,zr]
  rfl
 have R:∀v∈as.map Value.ref,Tim.TP i v (Tim.keyP i v):=λv T=>by
  obtain⟨z,d,e,_⟩:=j.mem_left T;rw[e,(tp z d).key];exact tp z d
 have inj:∀u∈as.map Value.ref,∀v∈as.map Value.ref,Tim.keyP i u=Tim.keyP i v->u=v:=zdg (by rw[x];exact nd);refine⟨_,by rw[wd];omega,Tim.z5y.prs R inj,λG p1 p2 h' Y z9 =>?_⟩;obtain⟨e,he⟩:=z9;dsimp only at Y he ⊢;obtain⟨m,l,tm⟩:=j.perm p1.symm;have E:G=m.map λz =>.ref z.1:=by
  have:=z5M (f:=λv=>v) (g:=λz:Addr × Int × V=>Value.ref z.1) (λ_ _ h=>h.1) tm;simpa using this
 have perm:(m.map (·.2)).Perm kw:=by rw[<- zr];exact(l.map (·.2)).symm
 have F:(m.map (·.1)).Nodup:=(l.map (·.1)).nodup_iff.mp (by rw[zl];exact Z);have new:∀z∈m,s.heap.get? z.1=none/\z.1≠i.objs.size:=λz d=>by
  have A:z.1∈as:=by rw[<- zl];exact we.mpr ⟨z,l.mem_iff.mpr d,rfl⟩
  refine⟨?_,wJ (K.there A)⟩
  cases y:s.heap.get? z.1 with
  | none=>rfl
  | some o=>exact absurd (ww y) (Nat.not_lt.mpr (uN (K.above _ A)))
 have O:s.heap.get? i.objs.size=none:=by
  cases y:s.heap.get? i.objs.size with
  | none=>rfl
  | some o=>exact absurd (ww (keep _ _ y)) (vN _)
 have mk:(as.zip kw).Perm m:=l;have hT:∀z∈m,Ee2 λt w=>RelV z.2.2 w/\h'.get? z.1=some { cls :=.type "tuple",data :=.seq #[.int z.2.1 t,w] }:=λz d=>by
  obtain⟨v,_,_,t,w,N,J⟩:=j.mem_right (l.mem_iff.mpr d);exact⟨t,w,N,Y _ _ J⟩
 have S:∀z∈m,z.1≠i.objs.size:=λz d=>(new z d).2;refine⟨.ref i.objs.size,upd (layP H m) i.objs.size (.lst (m.map λr =>.ref r.1)),znx (t':=tk) I (λb o y=>Y b o (keep b o y)) (λb o y =>?_) (λb o y =>?_),rfl,q _ m (I.hok.none_of O) perm ?_ F λz d=>⟨I.hok.none_of (new z d).1,S z d⟩⟩
 .have L:∃u,s.heap.get? b=some u:=z1G.there (I.hok b o y);obtain⟨u,M⟩:=L;rw[z08 (λz=>by rw[z,O] at M;cases M),z3l λz d e=>by rw[<- e,(new z d).1] at M;cases M];exact y
 .by_cases L:b=i.objs.size
  .subst L;rw[z0c] at y
   cases y
   refine .inr ⟨O,by rw[wd, <- l.length_eq,uC];exact wP (show _<=64 by omega) (by decide),G,e,?_,he⟩;rw[E];exact vals_refs m
  .rw[z08 L] at y
   by_cases hm:∃z∈m,z.1=b
   .obtain⟨z,d,rfl⟩:=hm;rw[z9G F z d] at y
    cases y
    obtain⟨t,w,N,J⟩:=hT z d;exact .inr ⟨(new z d).1,by show 2<=sizeLine;decide,[.int z.2.1 t,w],.cons ⟨t,rfl⟩ (.cons N .nil),⟨_,J,rfl,_,rfl⟩,⟨_,J,rfl⟩⟩
   .rw[z3l λz d e=>hm ⟨z,d,e⟩] at y;exact .inl y
 .refine zg6 (h:=i) p1 p2 (g:=λz:Addr × Int × V=>z.2.1) (z5M C tm) ?_;have:=perm.map (·.1);rw[wM] at this;exact this.nodup_iff.mpr nd
theorem zcA {K:W.Frag}{mg:WmP}{G:Hp}:∀{b:List (Int × D)}{d:List (Key × V)},PK K mg G (b.map λr=>(Sum.inl r.1,r.2)) d->∃a:List (Int × V),d=a.map (λp=>(Sum.inl p.1,p.2))/\a.map (·.1)=b.map (·.1)/\Two (λp r=>p.1=r.1/\RD K mg G r.2 p.2) a b
 | [],[],_=>⟨[],rfl,rfl,.nil⟩
 | r::b,(k,v)::d,⟨f,g,h⟩=>by
  obtain⟨a,rfl,e,t⟩:=zcA h;subst f;exact⟨(r.1,v)::a,rfl,by simp[e],.cons ⟨rfl,g⟩ t⟩
def zf0 (y:PE X o td)(q:aB o "items" X)(A:aG cpos [] X)(t:aL apos cpos)(z:backTo cpos (starEach [] X.env)=[]):
  PE X (.Call (.Attribute o "items" apos) [] [] cpos) (λm H Q=>td m H λx i=>∃a l,x = .ref a/\Rd i a (.dK l)/\∀v,i v=none->Q (.ref v) (upd i v (ItV v a))):=by
 intro f s m H Q I h;refine wpAny_Call_method q A t PySem.F.plainAttrs_dict PySem.F.slot_dict_items PySem.F.type_dict_items (thn (y f s m H _ I h) λu g M =>?_);obtain⟨x,i,j,E,a,l,ex,d,C⟩:=M;subst ex;obtain rfl:u=Value.ref a:=E;obtain⟨J,K,L⟩:=zgL j (.inl ⟨l,d⟩);refine⟨J,K,?_⟩;rw[z];refine u7 rfl (PySem.evalArgs_none ?_);obtain⟨_,_,vs,_,n⟩:=zdx j.hok d;refine call_meetsIn PySem.F.slot_dict_items n.typeIs PySem.F.entry_dict_items (PySem.F.args_dict_items_1 _) (meets_dict_items (z1i X.prog X.w) a L) ⟨⟨vs,n⟩,?_⟩;have p:(g.heap.push { cls :=.type "dict_items",data :=.fields #[.ref a] }).get? g.heap.objs.size=some { cls :=.type "dict_items",data :=.fields #[.ref a] }:=wq _ rfl;exact⟨.ref g.heap.objs.size,_,j.laid (o:=ItV g.heap.objs.size a) (t':=g.toks) (λb o e=>wf _ e) (wu _) ⟨⟨_,p,rfl,rfl⟩,⟨_,p⟩,λN O ⟨o,e,r⟩ G=>⟨o,G _ e,r⟩⟩,rfl,C _ (j.hok.fresh (wu _))⟩
def z8e {p4:Pos}(hc:X.calm=true)(hg:Gl X "sorted")(hm:X.mg "sorted"=none)(ho:QX X E o x)(F:autoParam (aB o "items" X) jA1)
  (hw:autoParam (aG cpos [] X) jA1) (hl:autoParam (aL apos cpos) jA1) (ht:autoParam (backTo cpos (starEach [] X.env)=[]) jA1)
  (I:autoParam (starEach [.Call (.Attribute o "items" apos) [] [] cpos] X.env=(false,eval (.Call (.Attribute o "items" apos) [] [] cpos) X.env)::starEach [] X.env) jA1):QF X E (.Call (.Name "sorted" p1) [.Call (.Attribute o "items" apos) [] [] cpos] [] p4) (.op z6W [x]):=
 QE.imp (z4w (z9R hc) hg hm (by rfl) (z4d ⟨zf0 ho.p F hw hl ht⟩ z6U I) (by decide) (by decide) I (by rfl)) <| by
  rintro σ H Q ⟨G,W,Y,X0,I,Z,i,hk,hx⟩;have L:x.run W (λd=>zdo d Y) X0:=i;refine⟨G,W,_,X0,I,Z,L,λd v A s q g1 t g3 rd =>?_,hx⟩;obtain⟨rs,rfl,nd,hz,q⟩:=q;obtain⟨a,kw,rfl,R,h2⟩:=zjE rd;obtain⟨kv,rfl,S,h4⟩:=zcA h2;refine⟨a,_,rfl,z7j t R,λv hv =>?_⟩;have O:Same s (upd s v (ItV v a)):=z0o hv _;refine⟨v,a,kv,rfl,z0c,z7j (z02 t O) R,by rw[S];exact nd,by rw[<- wd (f:=(·.1)),S,wd];exact hz,λw j C pm J M new =>?_⟩;have dn:w≠v:=λz=>by rw[z,z0c] at C;cases C
  have n:∀r∈j,s r.1=none:=λr i=>by
   have:=(new r i).1
   rwa [z08 (λz=>by rw[z,z0c] at this;cases this)] at this
  have u:s w=none:=by rwa [z08 dn] at C
  have nG:∀r∈j,A r.1=none:=λr i=>z1c t (n r i);obtain⟨m,N,K⟩:=Two.perm pm.symm h4;have K:=z9b K;have s2:=z8B (l:=j) (z02 t O);have T:Gr A s (layP A j):=⟨z8A nG,λb o y=>by
   by_cases F:∃r∈j,r.1=b
   .obtain⟨r,i,rfl⟩:=F;exact .inr (n r i)
   .rw[z3l λr i z=>F ⟨r,i,z⟩] at y;exact .inl ⟨o,y⟩⟩
  have lD:layP (upd s v (ItV v a)) j w=none:=by rw[z3l λr i=>(new r i).2];exact C
  have U:=z0o lD (.lst (j.map λr=>V.ref r.1));refine hk (.lst (m.map pdD)) w (layP A j) _ (q m N.symm ?_) (g1.trans g3 T) (z02 s2 U) (z02 g3 (z02 O (z02 (z8A λr i=>(new r i).1) U))) (z1c g3 u) (by rw[z3l λr i=>(new r i).2];exact z1c t u) ⟨_,z0c,zd8 (K.imp λr p h=>⟨h.1,h.2.same T.1⟩) (z9G M)⟩;have e:=z5M (f:=λr:Addr × Int × V=>r.2.1) (g:=λp:Int × D=>p.1) (λr p h=>h.1) K;have J:(j.map λr=>r.2.1).Pairwise (· < ·):=wZ.mpr J;rw[e] at J;exact wZ.mp J
end
end Pu
namespace Pu
open PySem L2
def z2T:Fn:=Fn.mkN 2 4 (.seq (.set 2 (.op z2v [.v 1]))
 (.seq (.set 3 (.comp 1 [2,1] (.nm 0) (.v 0) none (.op pTup [.op z1e [.v 0,.v 1],.op z1e [.v 0,.v 2]])))
 (.ret (.op zae [.v 3]))))
def z1C:Fn:=Fn.mkN 3 7 (.seq (.own 3 (.op zkV []))
 (.seq (.for_ [] (.tp [4,5]) (.v 2) (.seq (.set 6 (.op z2T [.v 0,.op z0F [.op pIx [.v 1,.op pSub [.v 4,.c (.int 1)]],.op pIx [.v 1,.v 4]]]))
 (.dput 3 (.v 6) (.op z5d [.dget2 (.v 3) (.v 6) (.op pTup [.c (.int 0),.c (.int 1)]),.v 5]))))
 (.ret (.op z1J [.op z6W [.v 3]]))))
def z0u:Fn:=Fn.mkN 1 2 (.seq (.ifs (.not (.op (pIsi "tuple") [.v 0])) (.ret (.c (.bl false))) .skip)
 (.seq (.for_ [] (.nm 1) (.v 0) (.seq (.ifs (.or (.not (.op z0l [.v 1])) (.or (.not (.op z07 [.op pIx [.v 1,.c (.int 0)]])) (.not (.op z0l [.op pIx [.v 1,.c (.int 1)]])))) (.ret (.c (.bl false))) .skip)
 (.ifs (.or (.not (.op z07 [.op pIx [.op pIx [.v 1,.c (.int 1)],.c (.int 0)]])) (.not (.op z07 [.op pIx [.op pIx [.v 1,.c (.int 1)],.c (.int 1)]]))) (.ret (.c (.bl false))) .skip)))
 (.ret (.c (.bl true)))))
def z0v:Fn:=Fn.mkN 1 1 (.ret (.and (.op (pIsi "tuple") [.v 0]) (.op pAll [.comp 1 [] (.nm 0) (.v 0) none (.op z0u [.v 0])])))
def z01:Fn:=Fn.mkN 1 5 (.seq (.set 1 (.c (.int 0)))
 (.seq (.for_ [] (.nm 2) (.v 0) (.seq (.set 3 (.op pAbs [.v 2]))
 (.wh (.op pGt [.v 3,.c (.int 0)]) (.seq (.set 4 (.op pMod [.v 1,.v 3]))
 (.seq (.set 1 (.v 3))
 (.set 3 (.v 4)))))))
 (.ret (.op z1J [.comp 1 [1] (.nm 0) (.v 0) none (.op z23 [.v 0,.v 1])]))))
def z0N:Fn:=Fn.mkN 3 6 (.seq (.set 3 (.op pIx [.v 2,.c (.int 0)]))
 (.seq (.set 4 (.op pAdd [.op z0b [.op pIx [.v 0,.c (.int 0)],.op pIx [.v 2,.c (.int 1)]],.op z0b [.op z0b [.op pIx [.v 1,.c (.int 0)],.v 3],.op pIx [.v 0,.c (.int 2)]]]))
 (.seq (.set 5 (.op pAdd [.op z0b [.op pIx [.v 0,.c (.int 1)],.op pIx [.v 2,.c (.int 1)]],.op z0b [.op z0b [.op pIx [.v 1,.c (.int 1)],.v 3],.op pIx [.v 0,.c (.int 2)]]]))
 (.ret (.op z01 [.op pLst [.v 4,.v 5,.op z0b [.op pIx [.v 0,.c (.int 2)],.op pIx [.v 2,.c (.int 1)]]]])))))
def z0x:Fn:=Fn.mkN 2 2 (.ret (.op z01 [.op pLst [.op pAdd [.op z0b [.op pIx [.v 0,.c (.int 0)],.op pIx [.v 1,.c (.int 1)]],.op z0b [.op pIx [.v 1,.c (.int 0)],.op pIx [.v 0,.c (.int 1)]]],.op z0b [.op pIx [.v 0,.c (.int 1)],.op pIx [.v 1,.c (.int 1)]]]]))
def z0y:Fn:=Fn.mkN 2 7 (.seq (.set 2 (.op pTup [.c (.int 0),.c (.int 0),.c (.int 1)]))
 (.seq (.forr [.op pLen [.v 1]] (.nm 3) (.seq (.set 4 (.op pTup [.c (.int 0),.c (.int 1)]))
 (.seq (.for_ [] (.tp [5,6]) (.op pIx [.v 1,.v 3]) (.seq (.set 2 (.op z0N [.v 2,.op pIx [.op pIx [.op pIx [.v 0,.v 3],.c (.int 0)],.v 5],.v 6]))
 (.set 4 (.op z0x [.v 4,.v 6]))))
 (.set 2 (.op z0N [.v 2,.op pIx [.op pIx [.v 0,.v 3],.c (.int 1)],.v 4])))))
 (.ret (.v 2))))
def z1E:Fn:=Fn.mkN 2 6 (.seq (.set 2 (.op pNeg [.c (.int 1)]))
 (.seq (.set 3 (.op pTup [.c (.int 0),.c (.int 1)]))
 (.seq (.for_ [] (.tp [4,5]) (.v 1) (.seq (.ifs (.or (.op pLe [.v 4,.v 2]) (.or (.op pGeI [.v 4,.v 0]) (.or (.op pLt [.op pIx [.v 5,.c (.int 0)],.c (.int 1)]) (.or (.op pLt [.op pIx [.v 5,.c (.int 1)],.c (.int 1)]) (.op pNe [.op z01 [.op zcG [.v 5]],.v 5]))))) (.ret (.c .non)) .skip)
 (.seq (.set 2 (.v 4))
 (.set 3 (.op z0x [.v 3,.v 5])))))
 (.ret (.v 3)))))
def z0r:Fn:=Fn.mkN 1 1 (.ret (.and (.op z0l [.v 0]) (.and (.op z07 [.op pIx [.v 0,.c (.int 0)]]) (.and (.op z07 [.op pIx [.v 0,.c (.int 1)]]) (.op pNe [.v 0,.op pTup [.c (.int 0),.c (.int 0)]])))))
def z0k:Fn:=Fn.mkN 2 5 (.seq (.set 2 (.op pAdd [.op z0b [.c (.int 80),.op pAdd [.v 1,.c (.int 1)]],.c (.int 1)]))
 (.seq (.set 3 (.op pSub [.op pMod [.v 0,.v 2],.op z23 [.v 2,.c (.int 2)]]))
 (.seq (.set 4 (.op pSub [.op pMod [.op z23 [.v 0,.v 2],.v 2],.op z23 [.v 2,.c (.int 2)]]))
 (.ret (.op z01 [.op pLst [.v 3,.v 4,.op pAdd [.c (.int 1),.op pMod [.op z23 [.op z23 [.v 0,.v 2],.v 2],.c (.int 60)]]]])))))
def z1D:Fn:=Fn.mkN 3 9 (.seq (.set 3 (.op z00 [.v 0,.c (.int 31),.op pAdd [.v 2,.c (.int 1)]]))
 (.seq (.set 4 (.op z00 [.v 0,.c (.int 32),.v 1]))
 (.seq (.set 5 (.op z00 [.v 0,.c (.int 33),.v 1]))
 (.seq (.set 6 (.op z00 [.v 0,.c (.int 34),.v 1]))
 (.seq (.set 7 (.op z00 [.v 0,.c (.int 35),.op pAdd [.op pSub [.v 2,.v 3],.c (.int 1)]]))
 (.seq (.own 8 (.comp 1 [] (.nm 0) (.op z5p [.v 1]) none (.c (.int 0))))
 (.seq (.put 8 (.v 4) (.op pAdd [.op pIx [.v 8,.v 4],.v 3]))
 (.seq (.put 8 (.v 5) (.op pAdd [.op pIx [.v 8,.v 5],.v 7]))
 (.seq (.put 8 (.v 6) (.op pSub [.op pSub [.op pAdd [.op pIx [.v 8,.v 6],.v 2],.v 3],.v 7]))
 (.ret (.v 8)))))))))))
def z0B:Fn:=Fn.mkN 2 6 (.seq (.own 2 (.op pLst []))
 (.seq (.forr [.op pLen [.v 0]] (.nm 3) (.seq (.set 4 (.op pAdd [.c (.int 1),.op z00 [.v 1,.op pAdd [.c (.int 40),.v 3],.op pIx [.op pLst [.c (.int 1),.c (.int 6),.c (.int 60)],.op z00 [.v 1,.c (.int 39),.c (.int 3)]]]]))
 (.seq (.setx [] 5 (.op z1D [.op pAdd [.v 1,.op z0b [.c (.int 7),.v 3]],.op pLen [.op pIx [.op pIx [.v 0,.v 3],.c (.int 0)]],.v 4]))
 (.seq (.ifs (.op pEq [.op z00 [.op pAdd [.v 1,.v 3],.c (.int 38),.c (.int 4)],.c (.int 0)]) (.seq (.setx [] 5 (.comp 1 [1,3] (.nm 0) (.op z5p [.op pLen [.op pIx [.op pIx [.v 0,.v 3],.c (.int 0)]]]) none (.op pAdd [.c (.int 1),.op z00 [.op pAdd [.v 1,.v 2],.op pAdd [.c (.int 120),.v 0],.c (.int 5)]])))
 (.set 4 (.op pSum [.v 5]))) .skip)
 (.app 2 (.op z1J [.comp 1 [4,5] (.nm 0) (.op z5p [.op pLen [.v 5]]) (some (.op pGt [.op pIx [.v 2,.v 0],.c (.int 0)])) (.op pTup [.v 0,.op z01 [.op pLst [.op pIx [.v 2,.v 0],.v 1]]])]))))))
 (.ret (.op z1J [.v 2]))))
def z1Q:Fn:=Fn.mkN 3 7 (.seq (.ifs (.op pEq [.op pMod [.v 1,.c (.int 2)],.c (.int 1)]) (.ret (.op z0k [.op z23 [.v 1,.c (.int 2)],.v 2])) .skip)
 (.seq (.set 3 (.op z0y [.v 0,.op z0B [.v 0,.v 1]]))
 (.seq (.set 4 (.op z00 [.v 1,.c (.int 61),.c (.int 6)]))
 (.seq (.ifs (.op pLt [.v 4,.c (.int 3)]) (.ret (.v 3)) .skip)
 (.seq (.set 5 (.op pIx [.op pLst [.c (.int 1),.op pAdd [.c (.int 1),.v 2],.op z0b [.c (.int 40),.op pAdd [.c (.int 1),.v 2]]],.op pSub [.v 4,.c (.int 3)]]))
 (.seq (.set 6 (.op pTup [.op pSub [.op z00 [.v 1,.c (.int 62),.op pAdd [.op z0b [.c (.int 2),.v 5],.c (.int 1)]],.v 5],.op pSub [.op z00 [.v 1,.c (.int 63),.op pAdd [.op z0b [.c (.int 2),.v 5],.c (.int 1)]],.v 5]]))
 (.ret (.op z0N [.v 3,.v 6,.op z01 [.op pLst [.c (.int 1),.op pAdd [.c (.int 1),.op z00 [.v 1,.c (.int 64),.c (.int 3)]]]]]))))))))
open Mth
def gl:Nat->List Int->Nat
 | g,[]=>g
 | g,x::l=>gl (Nat.gcd g x.natAbs) l
def zga (M:row.length<=1000)(J:gl 0 row≠0)(L:Bt 9000 (gl 0 row))(q:Q (.tup (row.map λx =>.int (x / (gl 0 row))))):z01.run [.lst (row.map .int)] Q X:=by
 walk_at "fn";ac_nf;refine z0n (f :=.int) (λu i=>Ee4 λg (m o p)=>(∀b,row=u++b->gl 0 row=gl g b)/\i=[.s (.lst (row.map .int)),.s (.int g),m,o,p]) ⟨0,_,_,_,λb e=>by rw[e];rfl,rfl⟩ ?_ ?_
 .rintro u x r i e ⟨g,m,o,p,hg,rfl⟩;show Sm.run _ _ _ _ _;ac_rfl;ac_nf;rw[zdW];refine z5K (λi=>Ee3 λ(a s:Nat) y=>Aa2 (Nat.gcd a s=Nat.gcd g x.natAbs) (i=[.s (.lst (row.map .int)),.s (.int a),.s (.int x),.s (.int s),y])) (λi=>(nI i 3).toNat) ⟨g,x.natAbs,_,rfl,rfl⟩ ?_;rintro i ⟨a,s,y,j,rfl⟩;ac_nf;refine z0K (λz =>?_) (λz =>?_)
  .ac_nf;have C:a % s=((a % s:Nat):Int):=by simp
   refine⟨⟨s,a % s,_,by rw[<- j,j0 a s,Nat.gcd_rec s a,j0],by rw[C]⟩,?_⟩;show (a % (s:Int)).toNat<(s:Int).toNat
   rw[C];have:=jo a (show 0<s by lia);lia
  .have:s=0:=by lia
   subst this;rw[Nat.gcd_zero_right] at j;refine⟨a,_,_,_,λrest' w =>?_,rfl⟩;have:r=rest':=by
    rw[e,vI] at w;have:=List.append_cancel_left w;simpa using this
   rw[hg _ e, <- this,j]
   rfl
 rintro i ⟨g,m,o,p,hg,rfl⟩;have I:gl 0 row=g:=hg [] (by simp);rw[I] at J L q;ac_nf;refine⟨by rw[wd];exact szl (by lia),?_⟩;refine z17 (g:=λx =>.int (x / g)) (λx _ K k =>?_) ?_
 .have:(0:Int)<g:=by lia
  ac_nf;exact k
 ac_nf;exact q
def gl2 (t b:Int):gl 0 [t,b]=Int.gcd t b:=by
 show Nat.gcd _ _=_;rw[Nat.gcd_zero_left]
 rfl
def z9j {t b:Int}(d:0<b)(a:Bt 8000 b)(q:Q (.tup [.int (t / (Int.gcd t b)),.int (b / (Int.gcd t b))])):z01.run [.lst [.int t,.int b]] Q X:=by
 obtain⟨e,_,_,_,_⟩:=z3J (t:=t) d;refine zga (row:=[t,b]) (by show 2<=1000;decide) (by rw[gl2];lia) (by
  rw[gl2];exact Bt.le (a.of_abs (by
   have:=Nat.le_of_dvd (by lia) (Int.gcd_dvd_natAbs_right t b);lia))) ?_
 rw[gl2];exact q
def z85 {t b:Int}(a:0<b)(d:Bt 8000 b)(q:∀u w,Pl t 0 b u 0 w->Q (.tup [.int u,.int w])):z01.run [.lst [.int t,.int b]] Q X:=z9j a d (q _ _ (Pl.low a))
def zgb (a:0<b)(e:Bt 8000 b)(q:∀u v t,Pl x y b u v t->Q (.tup [.int u,.int v,.int t])):z01.run [.lst [.int x,.int y,.int b]] Q X:=by
 have d:((gl 0 [x,y,b]))=g3 x y b:=by
  show ((Nat.gcd _ _):Int)=_;unfold g3;rw[z3n,Nat.gcd_zero_left];rw[j0, <- Nat.gcd_assoc]
 have g:=zgo (x:=x) (y:=y) a;have h:=zaB (x:=x) (y:=y) a;have f:Bt 9000 _:=Bt.le (e.of_abs (by
  have:=uP.mpr (z5H x y b);exact Nat.le_of_dvd (by lia) this))
 refine zga (row:=[x,y,b]) (by show 3<=1000;decide) (by lia) (by rw[d];exact f) ?_;rw[d];exact q _ _ _ (Pl.of g)
def zcb {u v t a c:Int}{p:P}{Q:DK}{X:XP}(w:0<t)(r:0<c)(x:Bt 3000 u)(y:Bt 3000 v)(f:Bt 3000 t)(g:Bt 3000 a)(m:Bt 3000 c)(o:Vb 150 p)(q:∀i j t',Pl (u*c+p.1*a*t) (v*c+p.2*a*t) (t*c) i j t'->Q (.tup [.int i,.int j,.int t'])):z0N.run [.tup [.int u,.int v,.int t],vec p,.tup [.int a,.int c]] Q X:=by
 obtain⟨I,py⟩:=p;obtain⟨b,e⟩:=o;have z  := Bt.mul b g;have C  := Bt.mul e g;walk_at "fn";ac_nf;refine zgb (wW w r) (Bt.le (Bt.mul f m)) q
def zc9 {a b c d:Int}{Q:DK}{X:XP}(g:0<b)(i:0<d)(j:Bt 3000 a)(e:Bt 3000 b)(m:Bt 3000 c)(f:Bt 3000 d)(q:∀u t,Pl (a*d+c*b) 0 (b*d) u 0 t->Q (.tup [.int u,.int t])):z0x.run [.tup [.int a,.int b],.tup [.int c,.int d]] Q X:=by
 walk_at "fn";ac_nf;refine z85 (wW g i) (Bt.le (Bt.mul e f)) q
noncomputable def wsh (ws:List Int):List Sh:=((List.range ws.length).filter λk=>decide (0<ws.getD k 0)).map λk=>(k,ws.getD k 0 / (Int.gcd (ws.getD k 0) ws.sum),ws.sum / (Int.gcd (ws.getD k 0) ws.sum))
theorem z5U:∀{l:List Int}{i:Nat}{d:Int},i<l.length->(l.set i (l.getD i 0+d)).sum=l.sum+d
 | [],i,d,h=>by simp at h
 | x::l,0,d,_=>by simp;lia
 | x::l,i+1,d,h=>by
  have:=z5U (d:=d) (by simpa using h);simp only[List.getD_cons_succ,List.set_cons_succ,wQ];lia
def zfl {b:Type}{l:List b}{i:Nat}{a x:b}(h:x∈l.set i a):x∈l\/x=a:=by
 rcases List.mem_or_eq_of_mem_set h with z | z
 .exact .inl z
 .exact .inr z
def z7H {l:List Int}{i:Nat}(h:i<l.length):l.getD i 0∈l:=by
 simp_all
def z6e {n:Nat}{k:Int}(a:0<=k)(b:k<n):ixN n k=some k.toNat:=by
 unfold ixN
 simp_all
def z93 {ws:List Int}{k:Int}(a:0<=k)(b:k<ws.length):atI (ws.map D.int) k=some (.int (ws.getD k.toNat 0)):=by
 unfold atI;rw[wd,z6e a b]
 simp_all
def z7z {k:Int}(h : -(2 ^ 62)<=k)(a:k<2 ^ 62)(q:Q (.lst ((List.range k.toNat).map λ(j:Nat)=>D.int j))):z5p.run [.int k] Q X:=⟨⟨h,a⟩,q⟩
def zhc {c:Int}{n:Nat}{m:Int}{Q:DK}{X:XP}(hn:0<n)(Y:n<=100)(hm:0<m)(W:m<=100)(q:∀ts:List Int,ts.length=n->(∀t∈ts,0<=t)->ts.sum=m->Q (.lst (ts.map .int))):z1D.run [.int c,.int n,.int m] Q X:=by
 walk_at "fn";ac_nf;refine z0X (by decide) (by decide) (by lia) λcut O c1 =>?_;ac_nf;refine z0X (by decide) (by decide) (by lia) λa J L =>?_;ac_nf;refine z0X (by decide) (by decide) (by lia) λb M N =>?_;ac_nf;refine z0X (by decide) (by decide) (by lia) λe R U =>?_;ac_nf;refine z0X (by decide) (by decide) (by lia) λr r0 r1 =>?_;ac_nf;refine z7z (by lia) (by lia) ?_;ac_nf;rw[show (n:Int).toNat=n by simp];refine⟨by rw[wd,v6];exact szl (by lia),?_⟩;refine z17 (g:=λ_ =>.int 0) (λx _ K k =>?_) ?_
 .ac_nf;exact k
 rw[show (List.range n).map (λ_=>D.int 0)=((List.range n).map λ_=>(0)).map .int by rw[wM];rfl];obtain⟨ts,f,p,j,h3⟩:Ee1 λts=>Aa4 (ts=(List.range n).map (λ_=>(0:Int))) (ts.length=n) (∀t∈ts,0<=t) (ts.sum=0):=⟨_,rfl,by simp,λt u=>by(obtain⟨_,_,rfl⟩:=we.mp u;decide),by
  have:∀l:List Nat,(l.map λ_=>(0:Int)).sum=0:=λl=>by
   induction l with
   | nil=>rfl
   | cons a l ih=>simp[ih]
  exact this _⟩
 rw[<- f];clear f;refine z22 (λx Z =>?_) ?_
 .obtain⟨w,_,rfl⟩:=we.mp Z;exact Safe.of_noL rfl rfl _
 ac_rfl;have one:∀{ts:List Int}{k:Int}{d:Int},ts.length=n->(∀t∈ts,0<=t)->0<=k->k<n->0<=d->Aa3 ((ts.set k.toNat (ts.getD k.toNat 0+d)).length=n) (∀t∈ts.set k.toNat (ts.getD k.toNat 0+d),0<=t) ((ts.set k.toNat (ts.getD k.toNat 0+d)).sum=ts.sum+d):=λ{ts k d} p j k0 k1 hd=>by
  refine⟨by rw[List.length_set];exact p,λt u =>?_,z5U (by lia)⟩
  rcases zfl u with z | z
  .exact j t z
  .have:=j _ (z7H (l:=ts) (i:=k.toNat) (by lia));lia
 have s1:=one p j J L O;refine z4Z (zha (z0O rfl ?_));ac_nf;refine z0P (z93 (by lia) (by lia)) ?_;ac_nf;rw[wd,z6e (by lia) (by lia)];show Sm.run _ _ _ _ _;ac_rfl;rw[<- List.map_set];generalize ts.set a.toNat (ts.getD a.toNat 0+cut)=I at*;obtain⟨p1,p2,p3⟩:=s1;have s2:=one p1 p2 M N r0;refine z4Z (zha (z0O rfl ?_));ac_nf;refine z0P (z93 (by lia) (by lia)) ?_;ac_nf;rw[wd,z6e (by lia) (by lia)];show Sm.run _ _ _ _ _;ac_rfl;rw[<- List.map_set];generalize I.set b.toNat (I.getD b.toNat 0+r)=o at*;obtain⟨q1,q2,q3⟩:=s2;have s3:=one q1 q2 R U (show 0<=m - cut - r by lia);refine z4Z (zha (z0O rfl ?_));ac_nf;refine z0P (z93 (by lia) (by lia)) ?_;ac_nf;rw[wd,z6e (by lia) (by lia)];show Sm.run _ _ _ _ _;ac_rfl;rw[<- List.map_set,show o.getD e.toNat 0+m - cut - r=o.getD e.toNat 0+(m - cut - r) by lia];generalize o.set e.toNat (o.getD e.toNat 0+(m - cut - r))=t3 at*;obtain⟨y,C,a2⟩:=s3;ac_nf;exact q t3 y C (by lia)
abbrev shsD (sh:List Sh):D :=.tup (sh.map shD)
theorem zgJ:∀{ws:List Int},(∀w∈ws,0<=w)->∀w∈ws,w<=ws.sum
 | [],_,w,h=>by cases h
 | x::ws,h,w,g=>by
  have e:=zgJ (ws:=ws) λy b=>h y (by simp[b]);have d:=h x (by simp);have f  := by
   have:∀(l:List Int),(∀w∈l,0<=w)->0<=l.sum:=λl=>by
    induction l with
    | nil=>intro _;simp
    | cons a l e=>
     intro k;have:=e λx d=>k x (by simp[d]);have:=k a (by simp);rw[wQ];lia
   exact this ws λy b=>h y (by simp[b])
  rw[wQ]
  grind
def zao (l:List Sh):noL (shsD l)=true:=z4H λd a=>by(obtain⟨x,_,rfl⟩:=we.mp a;rfl)
def zap (l:List Sh):noD (shsD l)=true:=z4I λd a=>by(obtain⟨x,_,rfl⟩:=we.mp a;rfl)
def zfO {ts:List Int}{a:Pu.Env}{m:Int}(y:a.get 4=some (.int m))(o:a.get 5=some (.lst (ts.map .int)))(i:a[4]? = some (.s (.int m)))(l:a[5]? = some (.s (.lst (ts.map .int))))(z:ts.length<=100)(u:ts.sum=m)(r:0<m)(t:m<1000)(q:Q (shsD (wsh ts))):
  Ex.run (.op z1J [(.comp 1 [4,5] (.nm 0) (.op z5p [(.op pLen [(.v 5)])]) (some (.op pGt [(.op pIx [(.v 2),(.v 0)]),(.c (.int 0))])) (.op pTup [(.v 0),(.op z01 [(.op pLst [(.op pIx [(.v 2),(.v 0)]),(.v 1)])])]))]) a Q X:=by
 refine zfH (zgN (zfH (zfH (e_v ?_))));rw[o];refine zal ?_;ac_nf;rw[wd];refine z7z (by lia) (by lia) ?_;rw[show (ts.length:Int).toNat=ts.length by simp];ac_nf;refine⟨by rw[wd,v6];exact szl (by lia),?_⟩;rw[show z1r 1 [4,5] a=[.n,.s (.int m),.s (.lst (ts.map .int))] by unfold z1r;simp[i,l]];refine z2V (f:=λ(j:Nat)=>D.int j) (p:=λk=>decide (0<ts.getD k 0)) (g:=λk=>shD (k,ts.getD k 0 / (Int.gcd (ts.getD k 0) ts.sum),ts.sum / (Int.gcd (ts.getD k 0) ts.sum))) (λk d K w x =>?_) ?_
 .have h:k<ts.length:=vK.mp d;ac_nf;refine z0P (z93 (by lia) (by lia)) ?_;rw[show (k:Int).toNat=k by simp];ac_nf;refine z0K (λb =>?_) (λb =>?_)
  .ac_nf;refine z0P (z93 (by lia) (by lia)) ?_;rw[show (k:Int).toNat=k by simp];ac_nf;refine z9j r (Bt.le (m:=10) (z05 (by lia))) ?_;ac_nf;rw[<- u];exact w (v4 b)
  .exact x (vB b)
 ac_nf;rw[show ∀e:List Nat,e.map (λk=>shD (k,ts.getD k 0 / (Int.gcd (ts.getD k 0) ts.sum),ts.sum / (Int.gcd (ts.getD k 0) ts.sum)))=(e.map λk=>((k,ts.getD k 0 / (Int.gcd (ts.getD k 0) ts.sum),ts.sum / (Int.gcd (ts.getD k 0) ts.sum)):Sh)).map shD from λe=>by rw[wM];rfl];exact q
theorem z5z {d e:Type}{x:d}{y:e}:∀{m:List e}{l:List d},l[m.length]? = some x->l.zip (m++[y])=l.zip m++[(x,y)]
 | [],l,h=>by
  cases l with
  | nil=>simp at h
  | cons a l=>simp_all
 | b::m,l,h=>by
  cases l with
  | nil=>simp at h
  | cons a l=>
   have:=z5z (y:=y) (by simpa using h)
   simp_all
def Pl.more {x y W u v t a c p vx vy b f t':Int}(j:0<c)(h:Pl x y W u v t)(e:a*W=p*c)(s:Pl (u*c+vx*a*t) (v*c+vy*a*t) (t*c) b f t'):Pl (x+vx*p) (y+vy*p) W b f t':=by
 have l:t*c≠0:=by have:=wW h.pos j;lia
 have d:∀{b u x vx:Int},b*(t*c)=(u*c+vx*a*t)*t'->u*W=x*t->b*W=(x+vx*p)*t':=λ{b u x vx} g i=>by
  apply w9 l
  calc b*W*(t*c)=(b*(t*c))*W:=by grind
   _=((u*W)*c+vx*(a*W)*t)*t':=by rw[g];grind
   _=(x+vx*p)*t'*(t*c):=by rw[i,e];grind
 exact⟨s.pos,s.cop,d s.cx h.cx,d s.cy h.cy⟩
structure Sw (W:Int)(n:Nat)(s:Sh):Prop where
 top:0<s.2.1
 bot:0<s.2.2
 le:s.2.1<=2*s.2.2
 dv:s.2.2 ∣ W
 ix:s.1<n
def pt (W:Int)(s:Sh):Int:=s.2.1*(W / s.2.2)
def z8f {W:Int}{s:Sh}(h:s.2.2 ∣ W):s.2.1*W=pt W s*s.2.2:=by unfold pt;rw[jc,Int.ediv_mul_cancel h]
def Sw.pt_le (h:Sw W n s)(a:0<W):0<pt W s/\pt W s<=2*W:=by
 have e:=Int.ediv_mul_cancel h.dv;have b  := Int.ediv_pos_of_pos_of_dvd a (wz h.bot) h.dv;unfold pt;generalize W / s.2.2=k at*;refine⟨wW h.top b,?_⟩;rw[<- e,wS k, <- jc];exact wp h.le (by lia)
def Sw.mul (h:Sw W n s):Sw (W*m) n s:=⟨h.top,h.bot,h.le,j4 h.dv (Int.dvd_mul_right _ _),h.ix⟩
def bt2 {k:Nat}(b:Bt k W):Bt (k+1) (W+W):=Bt.le (Bt.add b b) (by lia)
def Sw.bits {W:Int}{n k:Nat}{s:Sh}(h:Sw W n s)(a:0<W)(b:Bt k W):Bt (k+1) s.2.1/\Bt k s.2.2:=by
 have:=h.top;have:=h.bot;have:=h.le;have:=Int.le_of_dvd a h.dv;exact⟨(bt2 b).of_abs (by lia),b.of_abs (by lia)⟩
noncomputable def sw (w:Nat->Int)(W:Int)(l:List Sh):Int:=(l.map λs=>w s.1*pt W s).sum
def z5S {w:Nat->Int}{W:Int}(l:List Sh)(s:Sh):sw w W (l++[s])=sw w W l+w s.1*pt W s:=by simp[sw]
theorem z7C:∀{l:List Int},(∀x∈l,Bt m x)->Bt (m+l.length) l.sum
 | [],_=>Bt.le (m:=0) (z05 (by decide)) (by lia)
 | x::l,h=>by
  exact Bt.le (Bt.add (h x (by simp)) (z7C λy a=>h y (by simp[a]))) (by simp;lia)
def z9f {w:Nat->Int}{W:Int}{n k m:Nat}{l:List Sh}(g:l.length<=14)(a:0<W)(b:Bt k W)(h:∀s∈l,Sw W n s)(e:∀i,Bt m (w i)):Bt (m+k+15) (sw w W l):=by
 refine Bt.le (z7C (m:=m+k+1) λx f =>?_) (by rw[wd];lia);obtain⟨s,d,rfl⟩:=we.mp f;have:=(h s d).pt_le a;exact Bt.le (Bt.mul (e _) ((bt2 b).of_abs (by lia))) (by lia)
def cX (W:Int)(p:(List P × P) × List Sh):Int:=sw (wx p.1.1) W p.2+p.1.2.1*sw (λ_=>1) W p.2
def cY (W:Int)(p:(List P × P) × List Sh):Int:=sw (wy p.1.1) W p.2+p.1.2.2*sw (λ_=>1) W p.2
def zdS {n:Nat}:Bt (n+1) 1:=Bt.le (m:=1) (z05 (by decide)) (by lia)
def cyb {n:Nat}{l:List P}(h:l≠[])(a:Wb n l)(k:Nat):Vb n (Geo.cy l k):=a _ (wv (z18 (wY.mpr h)))
def znM {k:Nat}(d:0<W)(b:Bt k W)(a:Wt4 p.1)(e:p.2.length<=14)(h:∀s∈p.2,Sw W p.1.1.length s):Bt (k+160) (cX W p)/\Bt (k+160) (cY W p):=by
 have f:=z9f (m:=1) e d b h λ_=>zdS;exact⟨Bt.le (Bt.add (z9f e d b h λi=>(cyb a.ne a.wb i).1) (Bt.mul a.vb.1 f)) (by lia),Bt.le (Bt.add (z9f e d b h λi=>(cyb a.ne a.wb i).2) (Bt.mul a.vb.2 f)) (by lia)⟩
def ziT {ts:List Int}(n:∀t∈ts,0<=t)(u:0<ts.sum):(wsh ts≠[]/\(wsh ts).length<=ts.length)/\∀s∈wsh ts,Sw ts.sum ts.length s/\s.2.1<=s.2.2:=by
 refine⟨⟨λz =>?_,by unfold wsh;rw[wd];exact wP (List.length_filter_le _ _) (by simp)⟩,λs j =>?_⟩
 .have no:=List.map_eq_nil_iff.mp z;rw[List.filter_eq_nil_iff] at no;have:ts.sum=0:=by
   have e:∀l:List Int,(∀t∈l,0<=t)->(∀t∈l,¬ 0<t)->l.sum=0:=λl=>by
    induction l with
    | nil=>intros;rfl
    | cons a l w=>
     intro p q;have:=p a (by simp);have:=q a (by simp);rw[wQ,w (λt h=>p t (by simp[h])) (λt h=>q t (by simp[h]))];lia
   refine e ts n λt h =>?_;obtain⟨k,i,rfl⟩:=ud h;have:=no k (vK.mpr i);rw[uh,wn i] at this;simpa using this
  lia
 obtain⟨k,i,rfl⟩:=we.mp j;obtain⟨b,f⟩:=List.mem_filter.mp i;have b:=vK.mp b;have f:=uw f;have d:=zgJ n _ (z7H b);obtain⟨m,x,r,y,A⟩:=z3J (t:=ts.getD k 0) u;generalize (Int.gcd (ts.getD k 0) ts.sum:Int)=g at*;have d:=Int.ediv_le_ediv m d;have o:0<ts.sum / g:=by lia
 refine⟨⟨?_,o,by show ts.getD k 0 / g<=2*(ts.sum / g);lia,⟨g,?_⟩,b⟩,d⟩
 .show 0<ts.getD k 0 / g
  rcases uj 0 (ts.getD k 0 / g) with z | z
  .exact z
  .have:=vp (wz m) z;lia
 .show ts.sum=ts.sum / g*g;rw[wS];exact r
def Pl.eq0 {x p W u t:Int}(h:Pl (x+1*p) (0+0*p) W u 0 t):Pl (x+1*p) 0 W u 0 t:=by simpa using h
structure Gd (W:Int)(n:Nat)(sh:List Sh):Prop where
 each:∀s∈sh,Sw W n s/\Int.gcd s.2.1 s.2.2=1
 up:sh.Pairwise (λa b=>a.1<b.1)
 few:sh.length<=3
def z9i {l:List P}{xs:List (P × Int)}(u:∀x∈xs,x.1∈l)(hz:l.length<=62)(nd:(xs.map (·.1)).Nodup)(h3:xs.length<=3)(h0:∀x∈xs,0<=x.2)(O:0<(xs.map (·.2)).sum)(bW:Bt 1400 (xs.map (·.2)).sum)
  (q:∀sh,Gd (xs.map (·.2)).sum l.length sh->(∀w (f:P->Int),(∀k,w k=f (Geo.cy l k))->sw w (xs.map (·.2)).sum sh=(xs.map λx=>f x.1*x.2).sum)->Q (.tup (sh.map shD))):z15.run [vecs l,vecs (xs.map (·.1)),.tup ((xs.map (·.2)).map .int)] Q X:=by
 walk_at "fe";ac_nf;refine⟨_,rfl,?_⟩;generalize eW:(xs.map (·.2)).sum=W at*;ac_nf;refine zlf ?_;rw[wM,wM,List.zip_map',wM];ac_nf;refine⟨by rw[wd];exact szl' (by lia),?_⟩;refine z2V (f:=λx:P × Int=>D.tup [vec x.1,.int x.2]) (p:=λx=>decide (0<x.2)) (g:=λx=>pdD (rwOf l W x)) (λx i K k1 k2 =>?_) ?_
 .refine⟨rfl,?_⟩;show Ex.run _ _ _ _;unfold z0m z0m z0m;ac_rfl;ac_nf;refine z0K (λz =>?_) (λz =>?_)
  .ac_nf;refine zi9 (u x i) ?_;ac_nf;refine za7 O bW ?_;ac_nf;exact k1 (v4 z)
  .exact k2 (vB z)
 generalize I:(xs.filter λx=>decide (0<x.2))=F;have J:∀x∈F,x∈xs/\0<x.2:=λx i=>by
  rw[<- I] at i;obtain⟨h1,h2⟩:=List.mem_filter.mp i;exact⟨h1,uw h2⟩
 have lF:F.length<=3:=by
  rw[<- I];exact wP (List.length_filter_le _ _) h3
 rw[show (F.map λx=>pdD (rwOf l W x))=(F.map (rwOf l W)).map pdD by rw[wM];rfl];refine⟨⟨trivial,trivial,trivial,trivial,trivial,trivial⟩,?_⟩;ac_rfl;ac_nf;refine⟨F.map (rwOf l W),rfl,?_,by rw[wd];lia,λr pm pw =>?_⟩
 .rw[wM];have n1:(F.map (·.1)).Nodup:=by
   rw[<- I];exact(List.filter_sublist.map _).nodup nd
  unfold List.Nodup at n1 ⊢;rw[wZ] at n1 ⊢;refine n1.imp_of_mem λ{a b} R U j e =>?_;have e:((idx l a.1):Int)=(idx l b.1):=e;exact j (ziu (u a (J a R).1) (u b (J b U).1) (by lia))
 ac_nf;have m:∀y∈r,∃x∈F,y=rwOf l W x:=λy C=>by
  obtain⟨x,i,e⟩:=we.mp (pm.mem_iff.mp C);exact⟨x,i,e.symm⟩
 have e1:r.map pdD=(r.map back).map shD:=by
  rw[wM];apply uv;intro y C;obtain⟨x,i,rfl⟩:=m y C;show pdD (rwOf l W x)=shD (back (rwOf l W x));rw[z7T]
  rfl
 have o:(r.map back).Perm (F.map (shOf l W)):=by
  have:=pm.map back
  rwa [wM,show back ∘ rwOf l W=shOf l W from funext λx=>z7T l W x] at this
 rw[e1];have Y:∀s∈r.map back,∃x∈F,s=shOf l W x:=λs Y=>by
  obtain⟨x,i,e⟩:=we.mp (o.mem_iff.mp Y);exact⟨x,i,e.symm⟩
 have sg:∀s∈r.map back,Sw W l.length s/\Int.gcd s.2.1 s.2.2=1:=λs Z=>by
  obtain⟨x,i,rfl⟩:=Y s Z;obtain⟨L,x2⟩:=J x i;obtain⟨N,f1,M,f3,f4⟩:=z3J (t:=x.2) O;have xW:x.2<=W:=by
   rw[<- eW];exact(z5a λy C=>by obtain⟨z,hz,rfl⟩:=we.mp C;exact h0 z hz).2 _ (ur L)
  have le:=Int.ediv_le_ediv N xW;refine⟨⟨?_,by show 0<W / (Int.gcd x.2 W);lia,by show x.2 / (Int.gcd x.2 W)<=2*(W / (Int.gcd x.2 W));lia,⟨_,M.trans (wS _ _)⟩,zay (u x L)⟩,f4⟩;show 0<x.2 / (Int.gcd x.2 W)
  rcases uj 0 (x.2 / (Int.gcd x.2 W)) with z | z
  .exact z
  .have:=vp (wz N) z;lia
 refine q _ ⟨sg,?_,by rw[o.length_eq,wd];exact lF⟩ λw f hw =>?_
 .rw[wZ];refine pw.imp_of_mem λ{a b} R U j =>?_;obtain⟨x,_,rfl⟩:=m a R;obtain⟨y,_,rfl⟩:=m b U;rw[z7T,z7T];have j:((idx l x.1):Int)<(idx l y.1):=j;show idx l x.1<idx l y.1;lia
 .unfold sw;rw[z8k o,wM, <- zaE (l:=xs) h0 (λx i=>by rw[i,jN]),I]
  congr 1
  apply uv;intro x i;obtain⟨L,x2⟩:=J x i;obtain⟨N,f1,M,f3,f4⟩:=z3J (t:=x.2) O;show w (idx l x.1)*(x.2 / (Int.gcd x.2 W)*(W / (W / (Int.gcd x.2 W))))=f x.1*x.2;rw[hw,zlQ (u x L)];have e2:W / (W / (Int.gcd x.2 W))=(Int.gcd x.2 W):=Int.ediv_eq_of_eq_mul_left (by lia) M;rw[e2,wS (x.2 / _), <- f1]
structure LedW (l:List P)(x y t W:Int)(sh:List Sh):Prop where
 pos:0<W
 bt:Bt 1400 W
 gd:Gd W l.length sh
 one:sw (λ_=>1) W sh=W
 ex:sw (wx l) W sh*t=W*x
 ey:sw (wy l) W sh*t=W*y
def zcd {l:List P}{x y t:Int}{xs:List (P × Int)}(a:l.length<=62)(g:Prt l x y t xs)(b:∀sh W,LedW l x y t W sh->Q (.tup (sh.map shD))):
  z15.run [vecs l,vecs (xs.map (·.1)),.tup ((xs.map (·.2)).map .int)] Q X:=by
 refine z9i g.mem a g.nd g.few g.nn g.pos g.bt λsh G k=>b sh _ ⟨g.pos,g.bt,G,?_,?_,?_⟩
 .rw[k _ (λ_=>1) λ_=>rfl]
  simp_all
 .rw[k (wx l) _ λ_=>rfl];exact g.ex
 .rw[k (wy l) _ λ_=>rfl];exact g.ey
def z84 {x y t:Int}(N:l≠[])(q:l.length<=62)(C:Wb 600 l)(pc:Pc x y t)
  (U:∀b,b≠(0,0)->Vb 700 b->(∀p∈l,dot p b*t<dot (x,y) b)->Q (brD b)) (u:∀sh W,LedW l x y t W sh->Q (swD sh)):z3o.run [vecs l,pcD x y t] Q X:=by
 walk_at "fn";ac_nf;refine z0S (.inl rfl) C.le (by lia) λh o =>?_;have f:=o.is N;have Y:=z2h f.nodup f.sub;have e:Wb 600 h:=λp O=>C p (f.sub p O);have g:h≠[]:=by obtain⟨m,tl,M,_⟩:=f.ex;rw[M];simp
 have R:=pc.pos;refine z0s (Safe.of_noL (z1m _) (z1n _) _) ?_;ac_rfl;ac_nf;refine zcg f e (by lia) pc (λb J K i =>?_) λw =>?_
 .ac_nf;refine z2X rfl ?_;ac_nf;exact U b J K i
 ac_nf;refine z5P rfl ?_;ac_nf;rw[wd];refine z0K (λz =>?_) (λz =>?_)
 .obtain⟨a,b,rfl⟩:Ee2 λa b=>h=[a,b]:=by
   match h,z with
   | [a,b],_=>exact⟨a,b,rfl⟩
  have I:=e a (by simp);have vb:=e b (by simp);ac_nf;refine zjs I vb pc ?_;ac_nf;refine t_no (by simp) ?_;ac_nf;refine zcd q (zhP pc f (f.sub a (by simp)) (f.sub b (by simp)) I vb w) λsh W L =>?_;ac_nf;exact u sh W L
 ac_nf;rw[wd];refine z0K (λj =>?_) (λj =>?_)
 .ac_nf;refine zep e (by lia) (by lia) pc w λk F =>?_;refine z0s (Safe.of_noL (z1m _) (z1n _) _) ?_;ac_rfl;ac_nf;refine zjp (cyw g e _) (cyw g e _) (cyw g e _) pc ?_;ac_nf;refine zcd q (zcq pc f f.sub e F) λsh W L =>?_;ac_nf;exact u sh W L
 .obtain⟨m,rfl⟩:∃m,h=[m]:=by
   match h,g,z,j with
   | [m],_,_,_=>exact⟨m,rfl⟩
   | _::_::r,_,z,j=>simp at z j;lia
  ac_nf;refine zcd q (zhQ (f.sub m (by simp)) w) λsh W L =>?_;ac_nf;exact u sh W L
def ky (st v:P):P:=(dot v (rt st),dot v st)
def z9E {a b c d:P}(h:LxG a b)(k:LxG c d):LxG (Geo.pl a c) (Geo.pl b d):=by
 simp[LxG,Geo.pl] at*;lia
def zbr (st u v:P):ky st (Geo.pl u v)=Geo.pl (ky st u) (ky st v):=by
 simp[ky,Geo.pl,dot,rt,Prod.mk.injEq]
 grind
def Top (S:P->Prop)(st q:P):Prop:=S q/\∀r,S r->LxG (ky st q) (ky st r)
def zg3 {l:List P}{st v s:P}(h:Top (· ∈ l) st v):Top (· ∈ l.map (mv s)) st (mv s v):=by
 refine⟨ur h.1,λr a =>?_⟩;obtain⟨u,b,rfl⟩:=we.mp a;have e:∀v,mv s v=Geo.pl v s:=λv=>rfl;rw[e,e,zbr,zbr];exact z9E (h.2 u b) (.inr ⟨rfl,vL _⟩)
def ze7 {st p q:P}(h:Top (· ∈ d) st p)(k:Top (Ms ds) st q):Top (Ms (d::ds)) st (Geo.pl p q):=by
 refine⟨⟨p,h.1,q,k.1,rfl⟩,λr a =>?_⟩;obtain⟨u,b,v,e,rfl⟩:=a;rw[zbr,zbr];exact z9E (h.2 u b) (k.2 v e)
def zj3 {k:Nat}(x:z03 S h)(n:k<h.length)(t:Top S (stp (Geo.cy h (k+h.length - 1)) (Geo.cy h k)) q):q=Geo.cy h k:=by
 rcases wR 1 h.length with z | z
 .have e:=z31 x (by lia) (k+h.length - 1);rw[show k+h.length - 1+1=k+h.length by lia,show Geo.cy h (k+h.length)=Geo.cy h k by unfold Geo.cy;rw[ug]] at e;generalize Geo.cy h (k+h.length - 1)=a at*;generalize Geo.cy h k=b at*;have f:=t.2 b e.sb;have l:=e.left q t.1;have g:=e.btw q t.1;have E:0<(b.1 - a.1)*(b.1 - a.1)+(b.2 - a.2)*(b.2 - a.2):=sqp λw=>e.ne (ub (by lia) (by lia));simp only[LxG,ky,stp,rt,dot,Qa,Geo.dot] at f l g;have o:(b.1 - a.1)*(q.2 - a.2) - (b.2 - a.2)*(q.1 - a.1)=0:=by
   rcases f with w | w
   .grind
   .grind
  obtain⟨u,y⟩:=g o;have i:(b.1 - a.1)*(q.1 - b.1)+(b.2 - a.2)*(q.2 - b.2)=0:=by
   rcases f with w | w
   .grind
   .grind
  have j:(b.1 - a.1)*(q.2 - b.2) - (b.2 - a.2)*(q.1 - b.1)=0:=by grind
  generalize b.1 - a.1=c at*;generalize b.2 - a.2=d at*;have p:(c*c+d*d)*(q.1 - b.1)=0:=by
   have:(c*c+d*d)*(q.1 - b.1)=c*(c*(q.1 - b.1)+d*(q.2 - b.2)) - d*(c*(q.2 - b.2) - d*(q.1 - b.1)):=by grind
   rw[this,i,j];simp
  have s:(c*c+d*d)*(q.2 - b.2)=0:=by
   have:(c*c+d*d)*(q.2 - b.2)=d*(c*(q.1 - b.1)+d*(q.2 - b.2))+c*(c*(q.2 - b.2) - d*(q.1 - b.1)):=by grind
   rw[this,i,j];simp
  have A:=(wK.mp p).resolve_left (by lia);have C:=(wK.mp s).resolve_left (by lia);exact ub (by lia) (by lia)
 .obtain⟨m,r,rfl,_,_,_,⟨rfl,c⟩ | ⟨c,_⟩⟩:=x.ex
  .have:k=0:=by simpa using n
   subst this;exact c q t.1
  .cases r with
   | nil=>exact absurd rfl c
   | cons=>simp at z
def z88 {st:P}(y:l≠[])(C:l.length<=12)(f:Wb 140 l)(b:Vb 700 st)(q:∀i,i<l.length->Top (· ∈ l) st (Geo.cy l i)->Q (.int i)):z2T.run [vecs l,vec st] Q X:=by
 have hr:Vb 700 (rt st):=⟨b.2,b.1.neg⟩
 walk_at "fn";ac_nf;refine z6P ?_;refine z0s (Safe.of_noL rfl rfl _) ?_;ac_rfl;ac_nf;refine⟨by rw[wd];exact szl' (by lia),?_⟩;refine z17 (g:=λp=>vec (ky st p)) (λp o K w =>?_) ?_
 .ac_nf;refine z3S (f p o).le hr.le ?_;ac_nf;refine z3S (f p o).le b.le ?_;ac_nf;exact w
 ac_rfl;ac_nf;refine⟨l.map (ky st),by rw[wM];rfl,by simpa using y,by rw[wd];lia,λi m e x =>?_⟩;rw[wO] at e
 cases z:l[i]? with
 | none=>rw[z] at e;cases e
 | some v=>
  rw[z] at e
  cases e
  have j:i<l.length:=(wt.mp z).1;have r:Geo.cy l i=v:=by
   have:=z18 (h:=l) (i:=i) (by lia);rw[wV j,z] at this;exact(w5 this).symm
  refine q i j ?_;rw[r];exact⟨wv z,λu hu=>x _ (ur hu)⟩
def stq (h:List P)(s:Sh):P:=stp (Geo.cy h (s.1+h.length - 1)) (Geo.cy h s.1)
abbrev enD (s:Sh):Int × D:=((s.1),vec s.2)
abbrev foD (fs:List Sh):D:=dkI (fs.map enD)
def zhJ {fs:List Sh}{s:Sh}(h:∀x∈fs,x.1≠s.1):putD ((fs.map enD).map λr=>(Sum.inl r.1,r.2)) (.inl (s.1)) (vec s.2)=((fs++[s]).map enD).map λr=>(Sum.inl r.1,r.2):=by
 unfold putD;rw[if_neg]
 .simp
 .simp only[List.any_eq_true,not_exists,not_and];intro p a;obtain⟨r,b,rfl⟩:=we.mp a;obtain⟨x,d,rfl⟩:=we.mp b;have:=h x d;simp;lia
def ze2 {fs:List Sh}(h:∀x∈fs,x.1≠i):valD ((fs.map enD).map λr=>(Sum.inl r.1,r.2)) (.inl i)=none:=by
 unfold valD;rw[List.find?_eq_none.mpr]
 .rfl
 .intro p a;obtain⟨r,b,rfl⟩:=we.mp a;obtain⟨x,d,rfl⟩:=we.mp b;have:=h x d;simp;lia
def ze1 (h:∀x∈A,x.1≠s.1):valD (((A++s::C).map enD).map λr=>(Sum.inl r.1,r.2)) (.inl (s.1))=some (vec s.2):=by
 unfold valD;rw[wD,wD,List.find?_append,List.find?_eq_none.mpr]
 .simp
 .intro p a;obtain⟨r,b,rfl⟩:=we.mp a;obtain⟨x,d,rfl⟩:=we.mp b;have:=h x d;simp;lia
def zhI (e:s'.1=s.1)(h:∀x∈A++C,x.1≠s.1):putD (((A++s::C).map enD).map λr=>(Sum.inl r.1,r.2)) (.inl (s.1)) (vec s'.2)=((A++s'::C).map enD).map λr=>(Sum.inl r.1,r.2):=by
 unfold putD;have b:∀l:List Sh,(∀x∈l,x.1≠s.1)->(((l.map enD).map λr=>((Sum.inl r.1,r.2):Key × D)).map λp=>if p.1=(.inl (s.1)) then (p.1,vec s'.2) else p)=(l.map enD).map λr=>(Sum.inl r.1,r.2):=λl d=>by
  rw[wM,wM,wM];apply uv;intro x a;have:=d x a;show (if (Sum.inl (x.1):Key)=Sum.inl _ then _ else _)=_;rw[if_neg (by grind)]
  rfl
 simp only[wD,wA];rw[b A λx a=>h x (by simp[a]),b C λx a=>h x (by simp[a])];simp[e]
def Sw.pl {W:Int}{n:Nat}{s:Sh}(h:Sw W n s)(g:Int.gcd s.2.1 s.2.2=1):Pl (pt W s) 0 W s.2.1 0 s.2.2:=⟨h.bot,by rw[gcd0];exact g,z8f h.dv,by simp⟩
def zd3 {W p u t:Int}(d:0<W)(h:Pl p 0 W u 0 t)(g:0<p)(j:p<=W)(f:i<n):(Sw W n (i,u,t)/\Int.gcd u t=1)/\pt W (i,u,t)=p:=by
 have a:=h.pos;have e:=h.cx;have b:=h.cop;rw[gcd0] at b;have l:0<u:=by
  rcases uj 0 u with z | z
  .exact z
  .have:=vG z (wz d);have:=wW g a;lia
 have q:u<=t:=by
  rcases uj t u with z | z
  .have m:=u6 z d;have o:=wp j (wz a);lia
  .exact z
 refine⟨⟨⟨l,a,by lia,h.dvd,f⟩,b⟩,?_⟩;show u*(W / t)=p;apply w9 (show t≠0 by lia);rw[jc,Int.ediv_mul_cancel h.dvd,e]
def ziA {x k e:Ex}(q:x.run ρ (λa=>∃kvs,a=dk kvs/\k.run ρ (λb=>∃j,b=kD j/\e.run ρ (λc=>Q ((valD kvs j).getD c)) X) X) X):(Ex.dget2 x k e).run ρ Q X:=q
def zly {A C:List Sh}{y:Sh}(h:((A++y::C).map (·.1)).Nodup):∀z∈A++C,z.1≠y.1:=λz a e=>by
 rw[wD] at h;have:=(jV.nodup_iff.mp h)
 rw[vR, <- wD] at this;exact this.1 (we.mpr ⟨z,a,e⟩)
def z7Y (A C:List Sh)(y:Sh):sw w W (A++y::C)=sw w W A+w y.1*pt W y+sw w W C:=by
 simp[sw];lia
def zaV (a:0<W)(h:∀s∈l,Sw W n s):0<=sw (λ_=>1) W l:=by
 refine(z5a λy d =>?_).1;obtain⟨s,b,rfl⟩:=we.mp d;have:=(h s b).pt_le a;lia
def z9S (s:Sh):back (enD s)=s:=by
 rfl
def zb2 {x:List P × P}{h:List P}{sh:List Sh}{W:Int}{Q:DK}{X:XP}(hx:Wt4 x)(Y:Wb 600 h)(hn:h≠[])(p:0<W)(bW:Bt 1400 W)(G:Gd W h.length sh)(one:sw (λ_=>1) W sh=W)
  (q:∀Z (φ:Sh->P),(∀s∈sh,Top (· ∈ x.1) (stq h s) (φ s))->Gd W x.1.length Z->sw (wx x.1) W Z=(sh.map λs=>(φ s).1*pt W s).sum->sw (wy x.1) W Z=(sh.map λs=>(φ s).2*pt W s).sum->sw (λ_=>1) W Z=W->Q (shsD Z)):z1C.run [vecs x.1,vecs h,shsD sh] Q X:=by
 have zero:Pl 0 0 W 0 0 1:=⟨by decide,by decide,by simp,by simp⟩
 walk_at "fn";refine z4Z (zel ?_);refine⟨λ_ h=>by(cases h),?_⟩;ac_rfl;ac_nf;refine z0n (f:=shD) (λdn ρ=>∃(fs:List Sh) (I:Sh->Nat) (x4 x5 x6:B),(∀s∈dn,Top (· ∈ x.1) (stq h s) (Geo.cy x.1 (I s)))/\(∀w:Nat->Int,sw w W fs=(dn.map λs=>w (I s)*pt W s).sum)/\(∀s∈fs,Sw W x.1.length s/\Int.gcd s.2.1 s.2.2=1)/\(fs.map (·.1)).Nodup/\fs.length<=dn.length/\ρ=[.s (vecs x.1),.s (vecs h),.s (shsD sh),.o (foD fs),x4,x5,x6]) ⟨[],λ_=>0,_,_,_,λ_ h=>by(cases h),λ_=>rfl,λ_ h=>by(cases h),.nil,wu _,rfl⟩ ?_ ?_
 .rintro dn s r ρ e ⟨fs,I,x4,x5,x6,h1,h2,J,U,h5,rfl⟩;obtain⟨R,sg⟩:=G.each s (by rw[e];simp);have sc:=R.bot;obtain⟨b1,b2⟩:=R.bits p bW;have a4:=G.few;have le:=congrArg List.length e;rw[wC,wU] at le;have a0:∀s'∈dn,s'≠s:=λs' g z=>by
   have up:=G.up;rw[e,v9] at up;have:=up.2.2 s' g s (by simp);rw[z] at this;lia
  have v1:=cyb hn Y (s.1+h.length - 1);have v2:=cyb hn Y s.1;refine⟨rfl,?_⟩;show Sm.run _ _ _ _ _;unfold z0m z0m z0m;ac_rfl;ac_nf;refine z0P (z0G (zlZ R.ix)) ?_;ac_nf;refine z0P (z0G (z9P R.ix)) ?_;ac_nf;refine z2g ?_;ac_nf;refine z88 (st:=stq h s) hx.ne hx.len hx.wb ⟨Bt.le (Bt.sub v2.1 v1.1),Bt.le (Bt.sub v2.2 v1.2)⟩ λi hi top =>?_;ac_nf;refine⟨_,rfl,zlT (ziA ?_)⟩;ac_nf;refine⟨_,rfl,?_⟩;ac_nf;refine⟨.inl i,rfl,?_⟩;ac_nf;have p0:=(R.pt_le p).1;have a5:sw (λ_=>1) W fs+pt W s<=W:=by
   have e1:=h2 λ_=>1;have e2:=z7Y (w:=λ_=>1) (W:=W) dn r s;rw[<- e,one] at e2;have e3:(dn.map λs=>(1)*pt W s).sum=sw (λ_=>1) W dn:=rfl;have e4:=zaV (l:=r) p λs' g=>(G.each s' (by rw[e];simp[g])).1;lia
  have fin:∀j:List Sh,(∀w:Nat->Int,sw w W j=sw w W fs+w i*pt W s)->(∀s∈j,Sw W x.1.length s/\Int.gcd s.2.1 s.2.2=1)->(j.map (·.1)).Nodup->j.length<=fs.length+1->
    ∃(fs:List Sh) (I:Sh->Nat) (x4 x5 x6:B),(∀a3∈dn++[s],Top (· ∈ x.1) (stq h a3) (Geo.cy x.1 (I a3)))/\(∀w:Nat->Int,sw w W fs=((dn++[s]).map λs=>w (I s)*pt W s).sum)/\(∀s∈fs,Sw W x.1.length s/\Int.gcd s.2.1 s.2.2=1)/\(fs.map (·.1)).Nodup/\fs.length<=(dn++[s]).length/\[.s (vecs x.1),.s (vecs h),.s (shsD sh),.o (foD j),.s (.int (s.1)),.s (.tup [.int s.2.1,.int s.2.2]),.s (.int i)]=[.s (vecs x.1),.s (vecs h),.s (shsD sh),.o (foD fs),x4,x5,x6]:=λj k1 k2 k3 k4=>by
   refine⟨j,λs'=>if s'=s then i else I s',_,_,_,λs' g =>?_,λw =>?_,k2,k3,by simp;lia,rfl⟩
   .rcases wG.mp g with z | z
    .dsimp only;rw[if_neg (a0 s' z)];exact h1 s' z
    .rw[wg.mp z];dsimp only;rw[if_pos rfl];exact top
   .rw[k1,h2,wD,u5]
    congr 1
    .congr 1
     refine uv λs' g =>?_;dsimp only;rw[if_neg (a0 s' g)]
    .simp
  by_cases K:∃y∈fs,y.1=i
  .obtain⟨y,K,rfl⟩:=K;obtain⟨A,C,eA⟩:=List.append_of_mem K;subst eA;obtain⟨ys,yg⟩:=J y (by simp);have yc:=ys.bot;obtain⟨c1,c2⟩:=ys.bits p bW;have nd:=zly U;rw[ze1 λz hz=>nd z (by simp[hz])];refine z9l yc sc yg sg c1.le c2.le b1.le b2.le λu t M =>?_;have M:=((ys.pl yg).more (vx:=1) (vy:=0) sc (z8f R.dv) (by simpa using M)).eq0;have a1:=zaV (l:=A) p λs' g=>(J s' (by simp[g])).1;have a2:=zaV (l:=C) p λs' g=>(J s' (by simp[g])).1;rw[z7Y] at a5;have y0:=(ys.pt_le p).1;obtain⟨n1,n2⟩:=zd3 (i:=y.1) p M (by lia) (by lia) ys.ix;refine⟨Safe.of_noL rfl rfl _,?_⟩;ac_nf;refine⟨.inl (y.1),rfl,?_,?_⟩
   .rw[wd,wd];exact szl' (by lia)
   have pe:putD (((A++y::C).map enD).map λr=>(Sum.inl r.1,r.2)) (.inl (y.1)) (.tup [.int u,.int t])=_:=zhI (s':=(y.1,u,t)) rfl nd;rw[pe];refine fin (A++(y.1,u,t)::C) (λw =>?_) (λs' g =>?_) ?_ (by simp)
   .rw[z7Y,z7Y,n2];show _+w y.1*(_+1*_)+_=_
    grind
   .rcases wG.mp g with z | z
    .exact J s' (by simp[z])
    .rcases wm.mp z with z | z
     .rw[z];exact n1
     .exact J s' (by simp[z])
   .simpa using U
  .have nd:∀z∈fs,z.1≠i:=λz hz e=>K ⟨z,hz,e⟩;rw[ze2 nd];refine z9l (by decide) sc (by decide) sg (Bt.le (m:=1) (z05 (by decide))) (Bt.le (m:=1) (z05 (by decide))) b1.le b2.le λu t M =>?_;have M:=(zero.more (vx:=1) (vy:=0) sc (z8f R.dv) (by simpa using M)).eq0;have a1:=zaV (l:=fs) p λs' g=>(J s' g).1;obtain⟨n1,n2⟩:=zd3 (i:=i) p M (by lia) (by lia) hi;refine⟨Safe.of_noL rfl rfl _,?_⟩;ac_nf;refine⟨.inl i,rfl,?_,?_⟩
   .rw[wd,wd];exact szl' (by lia)
   have pe:putD ((fs.map enD).map λr=>(Sum.inl r.1,r.2)) (.inl i) (.tup [.int u,.int t])=_:=zhJ (s:=(i,u,t)) nd;rw[pe];refine fin (fs++[(i,u,t)]) (λw =>?_) (λs' g =>?_) ?_ (by simp)
   .rw[z5S,n2];show _+w i*(0+1*_)=_
    grind
   .rcases wG.mp g with z | z
    .exact J s' z
    .rw[wg.mp z];exact n1
   .rw[wD];refine List.nodup_append.mpr ⟨U,by simp,λa ha b Y =>?_⟩;obtain⟨z,hz,rfl⟩:=we.mp ha;rw[wg.mp Y];exact nd z hz
 rintro ρ ⟨fs,I,x4,x5,x6,h1,h2,J,U,h5,rfl⟩;have a4:=G.few;ac_nf;have nd:((fs.map enD).map (·.1)).Nodup:=by
  rw[show (fs.map enD).map (·.1)=(fs.map (·.1)).map λk:Nat=>(k:Int) by rw[wM,wM];rfl];unfold List.Nodup at U ⊢;rw[wZ];exact U.imp λ{a b} h=>by lia
 refine⟨fs.map enD,rfl,nd,by rw[wd];lia,λrl pm pw =>?_⟩;ac_nf;have O:(rl.map back).Perm fs:=by
  have:=pm.map back
  rwa [wM,show (back ∘ enD)=id from funext λs=>z9S s,List.map_id] at this
 have N:∀y∈rl,y=enD (back y):=λy K=>by
  obtain⟨s,_,rfl⟩:=we.mp (pm.mem_iff.mp K);rw[z9S]
 rw[show rl.map pdD=(rl.map back).map shD by
  rw[wM];refine uv λy K =>?_;rw[N y K];show _=shD (back (enD (back y)));rw[z9S]]
 have sp:∀w:Nat->Int,sw w W (rl.map back)=(sh.map λs=>w (I s)*pt W s).sum:=λw=>by rw[<- h2];exact z8k O
 refine q _ (λs=>Geo.cy x.1 (I s)) h1 ⟨λs hs=>J s (O.mem_iff.mp hs),?_,by rw[O.length_eq];lia⟩ (sp _) (sp _) ?_
 .rw[wZ];refine pw.imp_of_mem λ{a b} ha Y L =>?_;rw[N a ha,N b Y] at L;have L:((back a).1:Int)<(back b).1:=L;lia
 .rw[sp];exact one
def Al (s b:P):Prop:=∃i j,0<i/\0<j/\i*s.1=j*b.1/\i*s.2=j*b.2
def Al.refl (b:P):Al b b:=⟨1,1,by decide,by decide,rfl,rfl⟩
def ziD (d:a∈h):∃j,j<h.length/\Geo.cy h (j+h.length - 1)=a:=by
 obtain⟨i,f,e⟩:=ud d;have b:∀k,k % h.length=i->Geo.cy h k=a:=λk g=>by
  unfold Geo.cy
  simp_all
 by_cases c:i+1<h.length
 .exact⟨i+1,c,b _ (by rw[show i+1+h.length - 1=i+h.length by lia,ug,wV f])⟩
 .exact⟨0,by lia,b _ (by rw[wV (by lia)];lia)⟩
def z4x (x:z03 S h)(b:2<=h.length)(a:j<h.length):Edge S (Geo.cy h (j+h.length - 1)) (Geo.cy h j):=
 x.cyc b a (z18 (by lia)) (by rw[<- z18 (by lia),wV a])
def z67 {a b d:Int}(n:(b,d)≠((0),(0)))(f:a*b=0)(g:a*d=0):a=0:=by
 rcases wK.mp f with z | z
 .exact z
 rcases wK.mp g with e | e
 .exact e
 simp_all
def z5k {b:P}(h:b≠(0,0)):0<b.1*b.1+b.2*b.2:=by
 have e:0<=b.1*b.1:=by rcases Int.le_total 0 b.1 with z | z;exact wN z z;exact vZ z z
 have f:0<=b.2*b.2:=by rcases Int.le_total 0 b.2 with z | z;exact wN z z;exact vZ z z
 rcases uW (Int.add_nonneg e f) with z | z
 .exact z
 .have a:b.1*b.1=0:=by omega
  have d:b.2*b.2=0:=by omega
  exact absurd (ub ((wK.mp a).elim id id) ((wK.mp d).elim id id)) h
def zad {a b:Int}(h:0<a*b)(d:0<a):0<b:=by
 by_cases z:0<b
 .exact z
 .have:=wT (jQ.mp z) (wz d);rw[jN] at this;exact absurd (Int.lt_of_lt_of_le h this) (Int.lt_irrefl _)
def z8O (x:z03 S h){a c b:P}(f:a∈h)(g:c∈h)(ne:a≠c)(A:b≠(0,0))(m:∀p∈h,dot p b<=dot a b)(e:dot c b=dot a b):∃s∈z06 h,Al s.1 b:=by
 have M:2<=h.length:=by
  rcases h with _ | ⟨u,_ | ⟨v,r⟩⟩
  .simp at f
  .rw[wg] at f g;exact absurd (f.trans g.symm) ne
  .simp
 have d:∀{a c:P},a∈h->c∈h->a≠c->(∀p∈h,dot p b<=dot a b)->dot c b=dot a b->0<b.1*(c.2 - a.2) - b.2*(c.1 - a.1)->∃s∈z06 h,Al s.1 b:=λ{a c} f g ne m e k=>by
  obtain⟨j,F,C⟩:=ziD f;have E:=z4x x M F;generalize G:Geo.cy h j=v at E;rw[C] at E;have O:v∈h:=G ▸ z2D (by lia);have U:=E.left c (x.sub c g);have W:=m v O;have l:(c.1 - a.1,c.2 - a.2)≠((0),(0)):=λz=>ne (by
   have q:=congrArg Prod.fst z;have t:=congrArg Prod.snd z;dsimp only at q t;exact ub (by lia) (by lia))
  have K:b.1*(c.1 - a.1)+b.2*(c.2 - a.2)=0:=by simp only[dot] at e;grind
  have X:0<=Qa a c v:=by
   have i:=z5k (b:=(c.1 - a.1,c.2 - a.2)) l;have key:(b.1*(c.2 - a.2) - b.2*(c.1 - a.1))*Qa a c v=((c.1 - a.1)*(c.1 - a.1)+(c.2 - a.2)*(c.2 - a.2))*(dot a b - dot v b):=by
    simp only[dot,Qa];grind
   have H:0<=((c.1 - a.1)*(c.1 - a.1)+(c.2 - a.2)*(c.2 - a.2))*(dot a b - dot v b):=wN (wz i) (by lia);rw[<- key] at H;exact uM (by simpa using H) k
  have z:Qa a v c=0:=by
   have:Qa a v c = - Qa a c v:=by simp only[Qa];grind
   lia
  obtain⟨J,Z⟩:=E.btw c (x.sub c g) z;have T:(v.1 - a.1)*(c.2 - a.2)=(v.2 - a.2)*(c.1 - a.1):=by simp only[Qa] at z;lia
  have R:b.1*(v.1 - a.1)+b.2*(v.2 - a.2)=0:=z67 l (by grind) (by grind);have L:0<(c.1 - a.1)*(v.1 - a.1)+(c.2 - a.2)*(v.2 - a.2):=by
   simp only[Geo.dot] at J
   rcases uW J with y | y
   .exact y
   .exfalso
    have Q:(v.1 - a.1,v.2 - a.2)≠((0),(0)):=λw=>E.ne (by
     have q:=congrArg Prod.fst w;have t:=congrArg Prod.snd w;dsimp only at q t;exact ub (by lia) (by lia))
    have i:=z5k (b:=(v.1 - a.1,v.2 - a.2)) Q;dsimp only at i;have n:((v.1 - a.1)*(v.1 - a.1)+(v.2 - a.2)*(v.2 - a.2))*(c.1 - a.1)=0:=by grind
    have o:((v.1 - a.1)*(v.1 - a.1)+(v.2 - a.2)*(v.2 - a.2))*(c.2 - a.2)=0:=by grind
    have:=z67 l n o;lia
  have kf:0<b.1*(v.2 - a.2) - b.2*(v.1 - a.1):=by
   have i:=z5k (b:=(c.1 - a.1,c.2 - a.2)) l;dsimp only at i;have key:((c.1 - a.1)*(c.1 - a.1)+(c.2 - a.2)*(c.2 - a.2))*(b.1*(v.2 - a.2) - b.2*(v.1 - a.1))=(b.1*(c.2 - a.2) - b.2*(c.1 - a.1))*((c.1 - a.1)*(v.1 - a.1)+(c.2 - a.2)*(v.2 - a.2)):=by grind
   have I:=wW k L;rw[<- key] at I;exact zad I i
  refine⟨(rt (stp a v),v),z1K (by lia) F (by rw[<- C, <- G];exact wB ..),b.1*b.1+b.2*b.2,b.1*(v.2 - a.2) - b.2*(v.1 - a.1),z5k A,kf,?_,?_⟩
  .simp only[rt,stp];grind
  .simp only[rt,stp];grind
 rcases Int.lt_trichotomy 0 (b.1*(c.2 - a.2) - b.2*(c.1 - a.1)) with k | k | k
 .exact d f g ne m e k
 .exfalso
  have K:b.1*(c.1 - a.1)+b.2*(c.2 - a.2)=0:=by simp only[dot] at e;grind
  have Y:=z5k A;have n:(c.1 - a.1)*(b.1*b.1+b.2*b.2)=0:=by grind
  have o:(c.2 - a.2)*(b.1*b.1+b.2*b.2)=0:=by grind
  refine ne (ub ?_ ?_)
  .rcases wK.mp n with z | z <;> omega
  .rcases wK.mp o with z | z <;> omega
 .exact d g f (vP ne) (λp N=>by rw[e];exact m p N) e.symm (by grind)
def zdw (a c b:P):dot (Geo.pl a c) b=dot a b+dot c b:=by simp[dot,Geo.pl];grind
def zgr {f d:P}(a:d≠(0,0))(h:f.1*d.2=f.2*d.1)(k:0<f.1*d.1+f.2*d.2):Al f d:=⟨d.1*d.1+d.2*d.2,f.1*d.1+f.2*d.2,z5k a,k,by grind,by grind⟩
def z8y (x:z03 (· ∈ l) l){a c d:P}(i:a∈l)(q:c∈l)(ne:a≠c)(h:d≠(0,0))(e:∀p∈l,d.1*(p.2 - a.2)=d.2*(p.1 - a.1)):∃s∈z06 l,Al s.1 d:=by
 have m:2<=l.length:=by
  rcases l with _ | ⟨u,_ | ⟨v,r⟩⟩
  .simp at i
  .rw[wg] at i q;exact absurd (i.trans q.symm) ne
  .simp
 have b:∀k,Geo.cy l k∈l:=λk=>z2D (by lia);have K:=z5k h
 by_cases F:3<=l.length
 .exfalso
  have t:=z4O (z31 x m 0) (z31 x m 1) (zdD x F 0);have H:=e _ (b 0);have I:=e _ (b 1);have J:=e _ (b 2);have:Qa (Geo.cy l 0) (Geo.cy l (0+1)) (Geo.cy l (1+1))*(d.1*d.1+d.2*d.2)=0:=by
   simp only[Qa];generalize Geo.cy l 0=u at*;rw[show (0+1)=1 from rfl,show (1+1)=2 from rfl];generalize Geo.cy l 1=v at*;generalize Geo.cy l 2=w at*
   grind
  rcases wK.mp this with z | z <;> omega
 have g:l.length=2:=by lia
 have E:=z4x x m (j:=0) (by lia);have f:∀j,j<2->(stp (Geo.cy l (j+l.length - 1)) (Geo.cy l j),Geo.cy l j)∈z06 l:=λj G=>z1K (by rw[g];decide) (by rw[g];exact G) (by unfold z0t;rw[if_pos g];exact wo _ (wg.mpr rfl));have n:=f 0 (by decide);have o:=f 1 (by decide);rw[g] at n o E;have A:Geo.cy l (1+2 - 1)=Geo.cy l 0:=by unfold Geo.cy;rw[g]
 rw[A] at o;rw[show 0+2 - 1=1 from rfl] at n E;have H:=e _ (b 0);have I:=e _ (b 1);generalize Geo.cy l 0=u at*;generalize Geo.cy l 1=v at*;have y:(u.1 - v.1)*d.2=(u.2 - v.2)*d.1:=by grind
 rcases Int.lt_trichotomy 0 ((u.1 - v.1)*d.1+(u.2 - v.2)*d.2) with k | k | k
 .exact⟨_,n,zgr h (by simp only[stp];exact y) (by simp only[stp];exact k)⟩
 .exfalso
  have C:(u.1 - v.1)*(d.1*d.1+d.2*d.2)=0:=by grind
  have g:(u.2 - v.2)*(d.1*d.1+d.2*d.2)=0:=by grind
  refine E.ne (ub ?_ ?_)
  .rcases wK.mp C with z | z <;> omega
  .rcases wK.mp g with z | z <;> omega
 .exact⟨_,o,zgr h (by simp only[stp];grind) (by simp only[stp];grind)⟩
section
variable {l1 l2 R:List P}(x1:z03 (· ∈ l1) l1)(x2:z03 (· ∈ l2) l2)(x:z03 (Sm2 l1 l2) R)
include x1 x2 x
theorem zgY {u v b:P}(r:u∈R)(t:v∈R)(ne:u≠v)(j:b≠(0,0))(m:∀p,Sm2 l1 l2 p->dot p b<=dot u b)(e:dot v b=dot u b):∃s∈z06 l1++z06 l2,Al s.1 b:=by
 obtain⟨a,l,c,n,rfl⟩:=x.sub u r;obtain⟨i,d,c',f,rfl⟩:=x.sub v t;simp only[zdw] at m e;have o:∀p∈l1,dot p b<=dot a b:=λp g=>by
  have:=m _ ⟨p,g,c,n,rfl⟩;rw[zdw] at this;lia
 have q:∀p∈l2,dot p b<=dot c b:=λp g=>by
  have:=m _ ⟨a,l,p,g,rfl⟩;rw[zdw] at this;lia
 have A:=o i d;have C:=q c' f
 by_cases z:a=i
 .have y:c≠c':=λw=>ne (by rw[z,w]);obtain⟨s,h,k⟩:=z8O x2 n f y j q (by lia);exact⟨s,vf _ h,k⟩
 .obtain⟨s,h,k⟩:=z8O x1 l d z j o (by lia);exact⟨s,vE _ h,k⟩
set_option tactic.hygienic true in
theorem zbV (f:s∈z06 R):∃s'∈z06 l1++z06 l2,Al s'.1 s.1:=by
 have q:=zc0 x f;obtain⟨Y,M⟩:=z4s x f
 by_cases l:R.length=1
 .have one:l1.length=1:=by
   obtain⟨m,t,e,_,_,_,k⟩:=x.ex;have N:t=[]:=by rw[e] at l;simpa using l
   rcases k with ⟨_,k⟩ | ⟨k,_⟩
   .obtain⟨c,i⟩:=List.exists_mem_of_ne_nil _ (z14 x2);have all:∀a∈l1,∀a'∈l1,a=a':=λa o a' g=>by
     have F:=(k _ ⟨a,o,c,i,rfl⟩).trans (k _ ⟨a',g,c,i,rfl⟩).symm;have T:=congrArg Prod.fst F;have U:=congrArg Prod.snd F;simp only[Geo.pl] at T U;exact ub (by lia) (by lia)
    have I:=x1.nodup
    rcases l1 with _ | ⟨u,_ | ⟨v,r⟩⟩
    .exact absurd rfl (z14 x1)
    .rfl
    .have:=all u (by simp) v (by simp);rw[this] at I;simp at I
   .exact absurd N k
  unfold z06 at f;rw[if_pos l] at f;obtain⟨b,L,rfl⟩:=we.mp f;refine⟨(b,Geo.cy l1 0),vE _ ?_,Al.refl _⟩;unfold z06;rw[if_pos one];exact we.mpr ⟨b,L,rfl⟩
 .obtain⟨j,G,d⟩:=z3b l f;have H:2<=R.length:=by
   have:=wY.mpr (z14 x);lia
  have E:=z4x x H G;have O:Geo.cy R (j+R.length - 1)∈R:=z2D (by lia);have Q:Geo.cy R j∈R:=z2D (by lia)
  rcases wm.mp d with rfl | d
  .refine zgY x1 x2 x Q O (vP E.ne) q M ?_;simp only[dot,rt,stp]
   grind
  .split at d
   .rename_i n
    rw[wg] at d;subst d;have K:Edge (Sm2 l1 l2) (Geo.cy R j) (Geo.cy R (j+R.length - 1)):=by
     have k:=z4x x H (j:=(j+1) % 2) (by rw[n];exact jo _ (by decide));rw[n] at G k ⊢;have C:j=0\/j=1:=by lia
     rcases C with rfl | rfl
     .have y:Geo.cy R ((0+1) % 2+2 - 1)=Geo.cy R 0:=by unfold Geo.cy;rw[n]
      rw[y] at k;exact k
     .have y:Geo.cy R (1+2 - 1)=Geo.cy R 0:=by unfold Geo.cy;rw[n]
      rw[y];exact k
    generalize Geo.cy R (j+R.length - 1)=u at*;generalize Geo.cy R j=v at*;have J:∀p,Sm2 l1 l2 p->Qa u v p=0:=λp h=>by
     have W:=E.left p h;have X:=K.left p h;have:Qa v u p = - Qa u v p:=by simp only[Qa];grind
     lia
    obtain⟨a,o,c,i,rfl⟩:=E.sa;obtain⟨a',g,c',A,rfl⟩:=E.sb
    by_cases z:a=a'
    .have S:c≠c':=λw=>E.ne (by rw[z,w]);obtain⟨s,f,k⟩:=z8y x2 i A S q λp h=>by
      have:=J _ ⟨a,o,p,h,rfl⟩;simp only[Qa,Geo.pl,stp] at this ⊢
      grind
     exact⟨s,vf _ f,k⟩
    .obtain⟨s,f,k⟩:=z8y x1 o g z q λp h=>by
      have:=J _ ⟨p,h,c,i,rfl⟩;simp only[Qa,Geo.pl,stp] at this ⊢
      grind
     exact⟨s,vE _ f,k⟩
   .simp at d
end
def Al.trans {a b c:P}(h:Al a b)(k:Al b c):Al a c:=by
 obtain⟨i,j,f,g,n,o⟩:=h;obtain⟨l,m,d,e,p,q⟩:=k;exact⟨i*l,j*m,wW f d,wW g e,by grind,by grind⟩
def Al.le {s b u v:P}(h:Al s b)(k:dot u s<=dot v s):dot u b<=dot v b:=by
 obtain⟨i,j,a,g,d,f⟩:=h;have l:=wT k (wz a);have e:∀w,i*dot w s=j*dot w b:=λw=>by simp[dot];grind
 simp_all
def zdE (b:h≠[])(f:P->P)(k:Nat):Geo.cy (h.map f) k=f (Geo.cy h k):=by
 have a:=wY.mpr b;have:=z18 (h:=h.map f) (i:=k) (by simp_all);rw[wd,wO,z18 a] at this
 simp_all
set_option tactic.hygienic true in
def z5C (i:0<m)(g:h≠[])(e:s∈z06 (h.map (Geo.sca m))):∃s'∈z06 h,Al s'.1 s.1/\s.2=Geo.sca m s'.2:=by
 by_cases d:h.length=1
 .unfold z06 at e;rw[if_pos (by rw[wd];exact d)] at e;obtain⟨b,n,rfl⟩:=we.mp e;refine⟨(b,Geo.cy h 0),?_,Al.refl _,zdE g _ _⟩;unfold z06;rw[if_pos d];exact we.mpr ⟨b,n,rfl⟩
 .obtain⟨j,f,a⟩:=z3b (by rw[wd];exact d) e;rw[wd] at f;unfold z0t at a;rw[wd,zdE g,zdE g] at a
  rcases wm.mp a with rfl | a
  .exact⟨_,z1K d f (wB ..),⟨m,1,i,by decide,by simp only[rt,stp,Geo.sca];grind,by simp only[rt,stp,Geo.sca];grind⟩,rfl⟩
  .split at a
   .rename_i l
    rw[wg] at a;subst a;exact⟨_,z1K d f (by unfold z0t;rw[if_pos l];exact wo _ (wg.mpr rfl)),⟨m,1,i,by decide,by simp only[stp,Geo.sca];grind,by simp only[stp,Geo.sca];grind⟩,rfl⟩
   .simp at a
def zdh (x:z03 S h):z03 (· ∈ h) h:=x.of x.sub λ_ a=>a
def zes (t:z03 (· ∈ h) h)(r:z03 (· ∈ d) d)(o:0<p1)(n:0<p0)(i:0<T)(x:z03 (Sm2 (h.map (Geo.sca p1)) (d.map (Geo.sca p0))) R)
  (C:∀s∈z06 h++z06 d,∃a∈h,∃c∈d,dot (X,Y) s.1<=dot (Geo.sca T (Geo.pl (Geo.sca p1 a) (Geo.sca p0 c))) s.1) (b:P):∃c∈R,dot (X,Y) b<=dot c b*T:=by
 have K:=z03.sca i (zdh x);have Rn:=z14 x;have y:∀s∈z06 (R.map (Geo.sca T)),dot (X,Y) s.1<=dot s.2 s.1:=λs m=>by
  obtain⟨L,q,p,w⟩:=z5C i Rn m;obtain⟨J,I,E⟩:=zbV (z03.sca o t) (z03.sca n r) x q;have:∃e∈z06 h++z06 d,Al e.1 J.1:=by
   rcases wG.mp I with z | z
   .obtain⟨e,g,f,_⟩:=z5C o (z14 t) z;exact⟨e,vE _ g,f⟩
   .obtain⟨e,g,f,_⟩:=z5C n (z14 r) z;exact⟨e,vf _ g,f⟩
  obtain⟨e,g,f⟩:=this;obtain⟨a,A,c,j,le⟩:=C e g;have F:=((f.trans E).trans p).le le;have G:=p.le ((z4s x q).2 _ ⟨_,we.mpr ⟨a,A,rfl⟩,_,we.mpr ⟨c,j,rfl⟩,rfl⟩);have H:=wp G (wz i);rw[w];refine jM F ?_;simp only[dot,Geo.sca,Geo.pl] at H ⊢
  grind
 obtain⟨c,j,le⟩:=K.far (z7f (by simpa using Rn) y) b;obtain⟨u,l,rfl⟩:=we.mp j;refine⟨u,l,?_⟩;simp only[Geo.sc,Geo.sca,dot] at le ⊢
 grind
def z3p:Fn:=Fn.mkN 3 7 (.seq (.own 3 (.op pLst []))
 (.seq (.for_ [] (.tp [4,5]) (.op pAdd [.op z25 [.v 0],.op z25 [.v 1]]) (.seq (.set 6 (.op pSub [.op z1e [.v 4,.v 2],.op z0b [.op pIx [.v 2,.c (.int 2)],.op z2w [.v 0,.v 4]]]))
 (.app 3 (.op pTup [.v 4,.v 6,.op z0b [.op pIx [.v 2,.c (.int 2)],.op z2w [.v 1,.v 4]]]))))
 (.ret (.v 3))))
def z0q:Fn:=Fn.mkN 1 3 (.seq (.set 1 (.c .non))
 (.seq (.for_ [] (.nm 2) (.v 0) (.ifs (.and (.op pGt [.op pIx [.v 2,.c (.int 1)],.c (.int 0)]) (.or (.op pIs [.v 1,.c .non]) (.op pGt [.op z0b [.op pIx [.v 2,.c (.int 1)],.op pIx [.v 1,.c (.int 2)]],.op z0b [.op pIx [.v 1,.c (.int 1)],.op pIx [.v 2,.c (.int 2)]]]))) (.set 1 (.v 2)) .skip))
 (.ret (.v 1))))
def z1O:Fn:=Fn.mkN 1 3 (.seq (.set 1 (.c .non))
 (.seq (.for_ [] (.nm 2) (.v 0) (.ifs (.and (.op pGt [.op pIx [.v 2,.c (.int 1)],.op pIx [.v 2,.c (.int 2)]]) (.or (.op pIs [.v 1,.c .non]) (.op pLt [.op z0b [.op pIx [.v 2,.c (.int 1)],.op pIx [.v 1,.c (.int 2)]],.op z0b [.op pIx [.v 1,.c (.int 1)],.op pIx [.v 2,.c (.int 2)]]]))) (.set 1 (.v 2)) .skip))
 (.ret (.v 1))))
def z2c:Fn:=Fn.mkN 1 6 (.seq (.for_ [] (.tp [1,2,3]) (.v 0) (.ifs (.and (.op pGt [.v 2,.c (.int 0)]) (.op pGt [.v 2,.v 3])) (.ret (.op pTup [.v 1])) .skip))
 (.seq (.set 4 (.op z0q [.v 0]))
 (.seq (.set 5 (.op z1O [.v 0]))
 (.seq (.ifs (.and (.op z6X [.v 5,.c .non]) (.op pLt [.op z0b [.op pIx [.v 4,.c (.int 1)],.op pIx [.v 5,.c (.int 2)]],.op z0b [.op pIx [.v 5,.c (.int 1)],.op pIx [.v 4,.c (.int 2)]]])) (.ret (.op pTup [.op pIx [.v 4,.c (.int 0)],.op pIx [.v 5,.c (.int 0)]])) .skip)
 (.ret (.c .non))))))
def z2i:Fn:=Fn.mkN 2 2 (.ret (.op z1J [.comp 1 [1] (.nm 0) (.v 0) none (.op pTup [.op z0b [.op pIx [.v 0,.c (.int 0)],.v 1],.op z0b [.op pIx [.v 0,.c (.int 1)],.v 1]])]))
def z2R:Fn:=Fn.mkN 2 2 (.ret (.op z2r [.op z0b [.op pIx [.v 0,.c (.int 0)],.op pIx [.v 1,.c (.int 0)]],.op z0b [.op pIx [.v 0,.c (.int 1)],.op pIx [.v 1,.c (.int 1)]]]))
def z1B:Fn:=Fn.mkN 4 9 (.seq (.set 4 (.op z2x [.op pIx [.v 0,.op pNeg [.c (.int 1)]]]))
 (.seq (.set 5 (.op z40 [.op z2i [.v 1,.op pIx [.v 2,.c (.int 1)]],.op z2i [.v 4,.op pIx [.v 2,.c (.int 0)]]]))
 (.seq (.set 6 (.op pIx [.op z3o [.v 5,.op z2q [.v 3,.op pTup [.op pIx [.v 2,.c (.int 1)],.c (.int 1)]]],.c (.int 1)]))
 (.seq (.own 7 (.comp 1 [5,6] (.nm 0) (.v 0) none (.op z1C [.op pIx [.v 0,.c (.int 0)],.v 1,.v 2])))
 (.seq (.popTo 8 7)
 (.seq (.app 7 (.op z1J [.comp 2 [2] (.tp [0,1]) (.v 8) none (.op pTup [.v 0,.op z2R [.v 1,.v 2]])]))
 (.ret (.op z1J [.v 7]))))))))
def z4M:Fn:=Fn.mkN 2 11 (.seq (.ifs (.op pEq [.v 1,.op pTup [.c (.int 0),.c (.int 0),.c (.int 1)]]) (.ret (.op pTup [.c (.str "at"),.op pTup [.c (.int 0),.c (.int 1)],.op pTup [],.op pTup []])) .skip)
 (.seq (.own 2 (.op pLst []))
 (.seq (.set 3 (.op pTup [.op pTup [.c (.int 0),.c (.int 0)]]))
 (.seq (.forr [.op pLen [.v 0]] (.nm 4) (.seq (.set 5 (.op z2x [.op pIx [.v 0,.v 4]]))
 (.seq (.setx [] 6 (.op z3p [.v 3,.v 5,.v 1]))
 (.seq (.set 7 (.op z2c [.v 6]))
 (.seq (.ifs (.op pIs [.v 7,.c .non]) (.seq (.set 8 (.op z0q [.v 6]))
 (.seq (.set 9 (.op z2r [.op pIx [.v 8,.c (.int 1)],.op pIx [.v 8,.c (.int 2)]]))
 (.seq (.set 10 (.op z1B [.sl (.v 0) none (some (.op pAdd [.v 4,.c (.int 1)])),.v 3,.v 9,.v 1]))
 (.ret (.op pTup [.c (.str "at"),.op z5d [.op pTup [.v 4,.c (.int 1)],.v 9],.v 10,.op pAdd [.op z1J [.v 2],.op pTup [.op pTup [.op pIx [.v 8,.c (.int 0)]]]]]))))) .skip)
 (.seq (.app 2 (.v 7))
 (.set 3 (.op z40 [.v 3,.v 5]))))))))
 (.ret (.op pTup [.c (.str "never"),.op z1J [.v 2]]))))))
def z16:Fn:=Fn.mkN 2 6 (.seq (.set 2 (.sl (.v 0) none (some (.op z00 [.v 1,.c (.int 81),.op pAdd [.op pLen [.v 0],.c (.int 1)]]))))
 (.seq (.ifs (.op pEq [.v 2,.op pTup []]) (.ret (.v 2)) .skip)
 (.seq (.set 3 (.op pAdd [.c (.int 1),.op z00 [.v 1,.c (.int 82),.c (.int 7)]]))
 (.seq (.set 4 (.op pTup [.op pAdd [.c (.int 1),.op z00 [.v 1,.c (.int 83),.v 3]],.v 3]))
 (.seq (.set 5 (.op z1J [.comp 2 [4] (.tp [0,1]) (.op pIx [.v 2,.op pNeg [.c (.int 1)]]) none (.op pTup [.v 0,.op z01 [.op pLst [.op z0b [.op pIx [.v 1,.c (.int 0)],.op pIx [.v 2,.c (.int 0)]],.op z0b [.op pIx [.v 1,.c (.int 1)],.op pIx [.v 2,.c (.int 1)]]]]])]))
 (.ret (.op pAdd [.sl (.v 2) none (some (.op pNeg [.c (.int 1)])),.op pTup [.v 5]])))))))
open Mth
def sup:List P->P->Int
 | [],_=>0
 | [p],b=>dot p b
 | p::q::r,b=>max (dot p b) (sup (q::r) b)
theorem z2p:∀{l:List P},l≠[]->most l b (sup l b)
 | [],h=>absurd rfl h
 | [p],_=>⟨by simp[sup],λq f=>by rw[wg.mp f];exact vL _⟩
 | p::q::r,_=>by
  obtain⟨d,e⟩:=z2p (l:=q::r) (by simp);show most _ _ (max _ _);refine⟨?_,λu a =>?_⟩
  .rcases Int.le_total _ _ with z | z
   .rw[Int.max_eq_right z];exact wo _ d
   .rw[Int.max_eq_left z];exact wB ..
  .rcases wm.mp a with rfl | a
   .exact Int.le_max_left _ _
   .exact jM (e u a) (Int.le_max_right _ _)
def zju (f:Vb 30000000 b)(g:Wb 30000000 l)(a:l≠[])(h:l.length<=62)(q:Q (.int (sup l b))):z2w.run [vecs l,vec b] Q X:=
 zb3 f g a (szl' (by lia)) λm d e=>by rw[zih ⟨d,e⟩ (z2p a)];exact q
abbrev Lm:=P × Int × Int
abbrev lmD (m:Lm):D :=.tup [vec m.1,.int m.2.1,.int m.2.2]
def lim (h d:List P)(x y t:Int)(s:P × P):Lm:=(s.1,dot (x,y) s.1 - t*sup h s.1,t*sup d s.1)
def lims (h d:List P)(x y t:Int):List Lm:=(z06 h++z06 d).map (lim h d x y t)
def za3 (g:l≠[])(d:Wb n l)(a:Vb m b):Bt (n+m+1) (sup l b):=by
 obtain⟨p,f,e⟩:=we.mp (z2p g).1;rw[<- e];exact Bt.le (Bt.add (Bt.mul (d p f).1 a.1) (Bt.mul (d p f).2 a.2)) (by lia)
def zbZ (o:h≠[])(d:Wb (n+1) h)(g:s∈z06 h):Vb (n+2) s.1:=by
 have one:∀b∈ways,Vb (n+2) b:=λb d=>by
  simp only[ways,wm,wE,vO] at d
  rcases d with rfl | rfl | rfl | rfl <;> exact⟨Bt.le (m:=1) (z05 (by decide)) (by lia),Bt.le (m:=1) (z05 (by decide)) (by lia)⟩
 by_cases l:h.length=1
 .unfold z06 at g;rw[if_pos l] at g;obtain⟨b,i,rfl⟩:=we.mp g;exact one b i
 .obtain⟨j,p,a⟩:=z3b l g;have e:=cyb o d (j+h.length - 1);have f:=cyb o d j;unfold z0t at a
  rcases wm.mp a with rfl | a
  .exact⟨Bt.le (Bt.sub f.2 e.2) (by lia),Bt.le (Bt.sub f.1 e.1).neg (by lia)⟩
  .split at a
   .rw[wg] at a;subst a;exact⟨Bt.le (Bt.sub f.1 e.1) (by lia),Bt.le (Bt.sub f.2 e.2) (by lia)⟩
   .simp at a
def zjv {x y t:Int}(e:Vb n b)(f:n<=3000)(pc:Pc x y t)(q:Q (.int (dot (x,y) b))):z1e.run [vec b,pcD x y t] Q X:=by
 have g  := Bt.le e.1 f;have i  := Bt.le e.2 f;have j:=pc.bx;have m:=pc.bY;walk_at "fn";ac_nf;rw[show b.1*x+b.2*y=dot (x,y) b by simp[dot];grind];exact q
structure Twh (h d:List P):Prop where
 xh:z03 (· ∈ h) h
 xd:z03 (· ∈ d) d
 bh:Wb 165 h
 bd:Wb 165 d
 zh:h.length<=62
 zd:d.length<=62
def Twh.vb (T:Twh h d)(a:s∈z06 h++z06 d):Vb 166 s.1:=by
 rcases wG.mp a with z | z
 .exact zbZ (z14 T.xh) T.bh z
 .exact zbZ (z14 T.xd) T.bd z
def z9k {x y t:Int}(T:Twh h d)(pc:Pc x y t)(q:Q (.lst ((lims h d x y t).map lmD))):z3p.run [vecs h,vecs d,pcD x y t] Q X:=by
 have n1:=z14 T.xh;have g:=z14 T.xd;have z:Wb 10000000 h:=T.bh.le;have C:Wb 10000000 d:=T.bd.le;have K:=T.zh;have L:=T.zd;have R:=z5Y h;have U:=z5Y d;have M:=pc.bt;walk_at "fn";ac_nf;refine z22 (λx J=>by cases J) ?_;ac_rfl;ac_nf;refine z4Y (.inl rfl) z n1 (by lia) λb i =>?_;obtain rfl:b=h:=(i.is n1).unique T.xh;ac_nf;refine z4Y (.inl rfl) C g (by lia) λd' i =>?_;obtain rfl:d'=d:=(i.is g).unique T.xd;refine zam (by rw[wd,wd];exact uN (szl' (by lia))) ?_;rw[<- wD];ac_nf;refine z0n (f:=zee) (λw u=>Ee3 λ(j m p)=>u=[.s (vecs b),.s (vecs d'),.s (pcD x y t),.o (.lst ((w.map (lim b d' x y t)).map lmD)),j,m,p]) ⟨_,_,_,rfl⟩ ?_ ?_
 .rintro w s r u e ⟨j,m,p,rfl⟩;have I:s∈z06 b++z06 d':=by rw[e];simp
  have vb:=T.vb I;have N:Bt 400 (sup b s.1):=Bt.le (za3 n1 T.bh vb);have O:Bt 400 (sup d' s.1):=Bt.le (za3 g T.bd vb);have le:=congrArg List.length e;rw[wC,wC,wU] at le;refine⟨rfl,?_⟩;show Sm.run _ _ _ _ _;unfold z0m z0m z0m;ac_rfl;ac_nf;refine zjv vb (by decide) pc ?_;ac_nf;refine zju vb.le T.bh.le n1 K ?_;ac_nf;refine z5x (l:=[]) (z0O rfl ?_);ac_nf;refine zju vb.le T.bd.le g L ?_;ac_nf;refine⟨by rw[wd,wd];exact szl' (by lia),Safe.of_noL rfl rfl _,?_⟩;ac_rfl;exact⟨_,_,_,by rw[wD,wD];rfl⟩
 rintro u ⟨j,m,p,rfl⟩;ac_nf;exact q
abbrev Rr (a f:Lm):Prop:=a.2.1*f.2.2<=f.2.1*a.2.2
def Rr.tr {a b c:Lm}(h:Rr a b)(k:Rr b c)(s:(0<a.2.2/\0<b.2.2/\0<c.2.2)\/(a.2.2<0/\b.2.2<0/\c.2.2<0)):Rr a c:=by
 rcases s with ⟨d,f,e⟩ | ⟨d,f,e⟩
 .have g:=wp h (wz e);have i:=wp k (wz d);exact uM (by grind) f
 .have g:=vD h (wz e);have i:=vD k (wz d);exact uM (a := - b.2.2) (by grind) (by lia)
def zjt {ls:List Lm}(bt:∀m∈ls,Bt 1400 m.2.1/\Bt 1400 m.2.2)(o:∀m∈ls,0<m.2.1->0<m.2.2)(R:(∀m∈ls,m.2.1<=0)->Q .non)
  (U:∀f∈ls,0<f.2.1->(∀m∈ls,0<m.2.1->Rr m f)->Q (lmD f)):z0q.run [.lst (ls.map lmD)] Q X:=by
 walk_at "fn";ac_nf;refine z0n (f:=lmD) (λq K=>Ee2 λ(w J)=>((w = .s .non/\∀m∈q,m.2.1<=0)\/∃f∈q,w = .s (lmD f)/\0<f.2.1/\∀m∈q,0<m.2.1->Rr m f)/\K=[.s (.lst (ls.map lmD)),w,J]) ⟨_,_,.inl ⟨rfl,λm x=>by cases x⟩,rfl⟩ ?_ ?_
 .rintro q m r K e ⟨w,J,I,rfl⟩;have x:m∈ls:=by rw[e];simp
  have sub:∀{k},k∈q->k∈ls:=λg=>by rw[e];simp[g]
  obtain⟨N,O⟩:=bt m x;show Sm.run _ _ _ _ _
  rcases I with ⟨rfl,y⟩ | ⟨f,p,rfl,u,b⟩
  .ac_rfl;ac_nf;refine z0K (λj =>?_) (λj =>?_)
   .ac_nf;refine z2X rfl ?_;ac_nf;refine⟨_,_,.inr ⟨m,by simp,rfl,j,λk g i =>?_⟩,rfl⟩
    rcases wG.mp g with z | z
    .have:=y k z;lia
    .rw[wg.mp z];exact vL _
   .ac_nf;refine⟨_,_,.inl ⟨rfl,λk g =>?_⟩,rfl⟩
    rcases wG.mp g with z | z
    .exact y k z
    .rw[wg.mp z];lia
  .obtain⟨L,M⟩:=bt f (sub p);ac_rfl;ac_nf;refine z0K (λj =>?_) (λj =>?_)
   .ac_nf;refine z5P rfl ?_;ac_nf;refine z0K (λC =>?_) (λC =>?_)
    .ac_nf;refine⟨_,_,.inr ⟨m,by simp,rfl,j,λk g i =>?_⟩,rfl⟩
     rcases wG.mp g with z | z
     .exact(b k z i).tr (wz C) (.inl ⟨o k (sub z) i,o f (sub p) u,o m x j⟩)
     .rw[wg.mp z];exact vL _
    .ac_nf;refine⟨_,_,.inr ⟨f,by simp[p],rfl,u,λk g i =>?_⟩,rfl⟩
     rcases wG.mp g with z | z
     .exact b k z i
     .rw[wg.mp z];exact jQ.mp C
   .ac_nf;refine⟨_,_,.inr ⟨f,by simp[p],rfl,u,λk g i =>?_⟩,rfl⟩
    rcases wG.mp g with z | z
    .exact b k z i
    .rw[wg.mp z] at i;exact absurd i j
 rintro K ⟨w,J,I,rfl⟩
 rcases I with ⟨rfl,y⟩ | ⟨f,p,rfl,u,b⟩
 .ac_nf;exact R y
 .ac_nf;exact U f p u b
def zmp {ls:List Lm}(bt:∀m∈ls,Bt 1400 m.2.1/\Bt 1400 m.2.2)(o:∀m∈ls,m.2.2<m.2.1->m.2.2<0)(R:(∀m∈ls,m.2.1<=m.2.2)->Q .non)
  (U:∀f∈ls,f.2.2<f.2.1->(∀m∈ls,m.2.2<m.2.1->Rr f m)->Q (lmD f)):z1O.run [.lst (ls.map lmD)] Q X:=by
 walk_at "fn";ac_nf;refine z0n (f:=lmD) (λq K=>Ee2 λ(w J)=>((w = .s .non/\∀m∈q,m.2.1<=m.2.2)\/∃f∈q,w = .s (lmD f)/\f.2.2<f.2.1/\∀m∈q,m.2.2<m.2.1->Rr f m)/\K=[.s (.lst (ls.map lmD)),w,J]) ⟨_,_,.inl ⟨rfl,λm x=>by cases x⟩,rfl⟩ ?_ ?_
 .rintro q m r K e ⟨w,J,I,rfl⟩;have x:m∈ls:=by rw[e];simp
  have sub:∀{k},k∈q->k∈ls:=λg=>by rw[e];simp[g]
  obtain⟨N,O⟩:=bt m x;show Sm.run _ _ _ _ _
  rcases I with ⟨rfl,y⟩ | ⟨f,p,rfl,u,b⟩
  .ac_rfl;ac_nf;refine z0K (λj =>?_) (λj =>?_)
   .ac_nf;refine z2X rfl ?_;ac_nf;refine⟨_,_,.inr ⟨m,by simp,rfl,j,λk g i =>?_⟩,rfl⟩
    rcases wG.mp g with z | z
    .have:=y k z;lia
    .rw[wg.mp z];exact vL _
   .ac_nf;refine⟨_,_,.inl ⟨rfl,λk g =>?_⟩,rfl⟩
    rcases wG.mp g with z | z
    .exact y k z
    .rw[wg.mp z];lia
  .obtain⟨L,M⟩:=bt f (sub p);ac_rfl;ac_nf;refine z0K (λj =>?_) (λj =>?_)
   .ac_nf;refine z5P rfl ?_;ac_nf;refine z0K (λC =>?_) (λC =>?_)
    .ac_nf;refine⟨_,_,.inr ⟨m,by simp,rfl,j,λk g i =>?_⟩,rfl⟩
     rcases wG.mp g with z | z
     .exact Rr.tr (wz C) (b k z i) (.inr ⟨o m x j,o f (sub p) u,o k (sub z) i⟩)
     .rw[wg.mp z];exact vL _
    .ac_nf;refine⟨_,_,.inr ⟨f,by simp[p],rfl,u,λk g i =>?_⟩,rfl⟩
     rcases wG.mp g with z | z
     .exact b k z i
     .rw[wg.mp z];exact jQ.mp C
   .ac_nf;refine⟨_,_,.inr ⟨f,by simp[p],rfl,u,λk g i =>?_⟩,rfl⟩
    rcases wG.mp g with z | z
    .exact b k z i
    .rw[wg.mp z] at i;exact absurd i j
 rintro K ⟨w,J,I,rfl⟩
 rcases I with ⟨rfl,y⟩ | ⟨f,p,rfl,u,b⟩
 .ac_nf;exact R y
 .ac_nf;exact U f p u b
def Fits (p q:Int)(ls:List Lm):Prop:=∀m∈ls,m.2.1*q<=p*m.2.2
def z8J {f l:Lm}(n:∀m∈ls,0<m.2.1->m.2.1<=m.2.2)(i:0<f.2.1)(j:f.2.1<=f.2.2)(a:∀m∈ls,0<m.2.1->Rr m f)(last:∀m∈ls,m.2.2<m.2.1->m.2.2<0/\Rr m f):Fits f.2.1 f.2.2 ls:=λm e=>by
 by_cases c:0<m.2.1
 .exact a m e c
 by_cases g:m.2.2<m.2.1
 .exact(last m e g).2
 by_cases h:0<=m.2.2
 .have b:=wN (wz i) h;have d:=wp (jQ.mp c) (show 0<=f.2.2 by lia);rw[je] at d;exact jM d b
 .have b:=wp (show m.2.1<=m.2.2 by lia) (show 0<=f.2.2 by lia);have d:=vD j (show m.2.2<=0 by lia);rw[wS m.2.2] at b;exact jM b d
def zie (f:m∈ls)(b:0<m.2.1)(d:m.2.2<m.2.1)(p q:Int)(i:0<=p)(j:p<=q)(a:0<q):¬ Fits p q ls:=λh=>by
 have k:=h m f;have e:=wW b a
 by_cases c:0<=m.2.2
 .have g:=wp j c;have l:=uD d a
  grind
 .have g:=wT (show m.2.2<=0 by lia) i
  grind
def zid (b:f∈ls)(d:l∈ls)(a:0<f.2.2)(e:l.2.2<0)(h:f.2.1*l.2.2<l.2.1*f.2.2)(p q:Int)(g:0<q):¬ Fits p q ls:=λk=>by
 have i:=vD (k f b) (wz e);have j:=wp (k l d) (wz a);have m:=uD h g
 grind
def z5n (b:Wb 165 l)(o:l.length<=62)(f:Bt 1000 m)(q:Q (vecs (l.map (Geo.sca m)))):z2i.run [vecs l,.int m] Q X:=by
 walk_at "fn";refine⟨by rw[wd];exact szl' (by lia),?_⟩;refine z17 (g:=λp=>vec (Geo.sca m p)) (λp e K k =>?_) ?_
 .obtain⟨i,j⟩:=b p e;ac_nf;exact k
 rw[show l.map _=(l.map _).map vec by rw[wM];rfl];exact q
theorem zlV:∀l:List P,l.length<=(df l).length+1
 | []=>by simp
 | [_]=>by simp
 | a::b::r=>by
  have:=zlV (b::r);simp[df,wU] at*;lia
def zgh (h:List P)(m:Int):(Geo.rd (h.map (Geo.sca m))).length<=(Geo.rd h).length:=by
 by_cases c:h.length=1
 .exact zet λz=>absurd (by simp_all) z
 .refine zet λ_ =>?_;rw[wd];unfold Geo.rd;rw[if_neg c];have:=zlV (h++h.take 1)
  grind
structure Pd (x y t:Int):Prop where
 pc:Pc x y t
 bx:Bt 300 x
 bY:Bt 300 y
 bt:Bt 100 t
def zfE {x y t p r:Int}(m:h≠[])(l:d≠[])(f:Fits p r (lims h d x y t)):∀s∈z06 h++z06 d,∃a∈h,∃c∈d,dot (x*r,y*r) s.1<=dot (Geo.sca t (Geo.pl (Geo.sca r a) (Geo.sca p c))) s.1:=λs j=>by
 obtain⟨a,g,b⟩:=we.mp (z2p m).1;obtain⟨c,i,e⟩:=we.mp (z2p l).1;refine⟨a,g,c,i,?_⟩;have k:=f _ (we.mpr ⟨s,j,rfl⟩);simp[lim] at k;rw[<- b, <- e] at k;simp only[dot,Geo.sca,Geo.pl] at k ⊢
 grind
def z4W (x:z03 S h)(b:P):Geo.Far S b (sup h b):=by
 obtain⟨a,d⟩:=z2p (z14 x);obtain⟨c,f,e⟩:=we.mp a;refine⟨λp g =>?_,c,x.sub c f,e⟩;obtain⟨u,i,le⟩:=x.far (x.in g) b;exact jM le (d u i)
def z8K (h:Geo.Far S b F)(k:Geo.Far S b G):F=G:=by
 obtain⟨g,u,e,a⟩:=h;obtain⟨i,v,f,d⟩:=k;exact Int.le_antisymm (by rw[<- a];exact i u e) (by rw[<- d];exact g v f)
def Rw (a d:P->Prop)(x y t p r:Int):Prop:=∀b F G,Geo.Far a b F->Geo.Far d b G->r*dot (x,y) b<=t*(r*F+p*G)
def zf7 {x y t:Int}(m:z03 (· ∈ h) h)(f:0<t)(E:t*sup h b<dot (x,y) b):∃s∈z06 h,t*sup h s.1<dot (x,y) s.1:=by
 by_cases c:∃s∈z06 h,t*sup h s.1<dot (x,y) s.1
 .exact c
 exfalso
 have d:=z14 m;have far:∀s∈z06 h,dot (x,y) s.1<=dot (Geo.sca t s.2) s.1:=λs a=>by
  have p:¬ t*sup h s.1<dot (x,y) s.1:=λz=>c ⟨s,a,z⟩;obtain⟨F,r⟩:=z4s m a;obtain⟨u,j,e⟩:=we.mp (z2p (b:=s.1) d).1;have n:=wT (r u j) (wz f);rw[e] at n;have C:dot (Geo.sca t s.2) s.1=t*dot s.2 s.1:=by simp only[dot,Geo.sca];grind
  omega
 have w:=z03.sca f m;have l:In (h.map (Geo.sca t)) (x,y):=z7f (by simpa using d) λs a=>by
  obtain⟨q,i,o,e⟩:=z5C f d a;rw[e];exact o.le (far q i)
 obtain⟨A,g,le⟩:=w.far l b;obtain⟨u,j,rfl⟩:=we.mp g;have p:=wT ((z2p (b:=b) d).2 u j) (wz f);have n:dot (Geo.sca t u) b=t*dot u b:=by simp only[dot,Geo.sca];grind
 have le:dot (x,y) b<=dot (Geo.sca t u) b:=le;omega
def zfF {ws:List (List P × P)}{k:Nat}{b:P}{F G:Int}(l:ws[k]? = some w)(g:Geo.Far (MS (ws.take k)) b F)(h:Geo.Far (· ∈ tr w) b G):Geo.Far (MS (ws.take (k+1))) b (F+G):=by
 rw[jT,l];show Geo.Far (Ms ((ws.take k++[w]).map tr)) b (F+G);rw[wD];have e:∀u v:P,Geo.sc (Geo.pl u v) b=Geo.sc u b+Geo.sc v b:=λu v=>by simp only[Geo.sc,Geo.pl];grind
 obtain⟨q,a,i,d⟩:=g;obtain⟨r,c,j,f⟩:=h;refine⟨λp m =>?_,Geo.pl a c,z7A.mpr ⟨a,i,c,j,rfl⟩,by rw[e,d,f]⟩;obtain⟨u,n,v,o,rfl⟩:=z7A.mp m;have:=q u n;have:=r v o;rw[e];lia
def zjr (m:0<g)(o:g<=n)(b:Bt 432 n)(q:∀p r,0<p->p<=r->Int.gcd p r=1->(∃c,0<c/\g=p*c/\n=r*c)->Bt 434 p->Bt 434 r->Q (.tup [.int p,.int r])):z2r.run [.int g,.int n] Q X:=by
 have l:0<n:=by lia
 refine za7 l b.le ?_;obtain⟨d,i,j,_,e⟩:=z3J (t:=g) l;have f:g / ((Int.gcd g n:Nat))*((Int.gcd g n:Nat))=g:=by rw[wS];exact i.symm
 have h:n / ((Int.gcd g n:Nat))*((Int.gcd g n:Nat))=n:=by rw[wS];exact j.symm
 clear i j;generalize g / ((Int.gcd g n:Nat))=p at*;generalize n / ((Int.gcd g n:Nat))=r at*;generalize ((Int.gcd g n):Int)=c at*;have s:0<p:=zad (a:=c) (by rw[wS,f];exact m) d;have u:p<=r:=vi (by rw[f,h];exact o) d;have w:r<=n:=by
  have:=wT (show 1<=c by omega) (show 0<=r by omega);omega
 exact q p r s u e ⟨c,d,f.symm,h.symm⟩ (Bt.le (b.of_abs (by omega))) (Bt.le (b.of_abs (by omega)))
def Fits.low (h:Fits g n ls)(c:∃c,0<c/\g=p*c/\n=r*c):Fits p r ls:=λm e=>by
 obtain⟨c,a,b,d⟩:=c;have:=h m e;rw[b,d] at this;exact vi (by grind) a
abbrev atD (u v:Int)(ds es:List D):D :=.tup [.str (Str.ofString "at"),.tup [.int u,.int v],.tup ds,.tup es]
abbrev nvD (es:List D):D :=.tup [.str (Str.ofString "never"),.tup es]
structure CrsS (W:Int)(ws:List (List P × P))(co:List (List Sh)):Prop where
 len:co.length<=ws.length
 ok:∀p∈ws.zip co,p.2.length<=14/\∀s∈p.2,Sw W p.1.1.length s
def z7a {k n:Nat}(h:∀x∈ws,Wt4 x)(j:ws.length<=12)(g:0<W)(b:Bt k W)(f:CrsS W ws co):Bt (k+180) (((ws.zip co).take n).map (cX W)).sum/\Bt (k+180) (((ws.zip co).take n).map (cY W)).sum:=by
 have i:((ws.zip co).take n).length<=12:=by grind
 have e:∀p∈(ws.zip co).take n,Bt (k+160) (cX W p)/\Bt (k+160) (cY W p):=λp a=>by
  have a:=vF a;exact znM g b (h _ (jH a).1) (f.ok p a).1 (f.ok p a).2
 constructor
 .refine Bt.le (z7C (m:=k+160) λx d =>?_) (by rw[wd];lia);obtain⟨p,a,rfl⟩:=we.mp d;exact(e p a).1
 .refine Bt.le (z7C (m:=k+160) λx d =>?_) (by rw[wd];lia);obtain⟨p,a,rfl⟩:=we.mp d;exact(e p a).2
def zkt (h:s.2.2 ∣ W):pt (W*m) s=pt W s*m:=by
 unfold pt;rw[wS W m,Int.mul_ediv_assoc _ h]
 grind
theorem z5j:∀{l:List Sh},(∀s∈l,s.2.2 ∣ W)->sw w (W*m) l=sw w W l*m
 | [],_=>by simp[sw]
 | s::l,h=>by
  have b:=z5j (w:=w) (m:=m) (l:=l) λs a=>h s (by simp[a]);unfold sw at*;rw[wA,wQ,wA,wQ,b,zkt (h s (by simp))]
  grind
theorem z72 {f:Nat->Int}{g:Nat->Bool}:∀{l:List Nat},(∀k∈l,g k=false->f k=0)->((l.filter g).map f).sum=(l.map f).sum
 | [],_=>rfl
 | a::l,h=>by
  have d:=z72 (l:=l) λk b=>h k (by simp[b])
  cases c:g a with
  | true=>simp_all
  | false=>simp_all
def zji {ts:List Int}(d:∀t∈ts,0<=t)(j:0<ts.sum):sw (λ_=>1) ts.sum (wsh ts)=ts.sum:=by
 unfold sw wsh;rw[wM];have e:∀l:List Nat,l.map ((λs:Sh=>1*pt ts.sum s) ∘ λk=>(k,ts.getD k 0 / (Int.gcd (ts.getD k 0) ts.sum),ts.sum / (Int.gcd (ts.getD k 0) ts.sum)))=l.map λk=>ts.getD k 0:=λl=>uv λk _=>by
  obtain⟨n,a,b,m,_⟩:=z3J (t:=ts.getD k 0) j;simp only[Function.comp,pt,Int.one_mul];generalize (Int.gcd (ts.getD k 0) ts.sum)=g at*;have:ts.sum / (ts.sum / g)=g:=by
   generalize ts.sum / g=q at*;rw[b];exact Int.mul_ediv_cancel _ (by omega)
  rw[this,wS];exact a.symm
 rw[e,z72 λk h z =>?_]
 .congr 1
  refine List.ext_getElem (by simp) λi o f =>?_;simp[uh,f]
 .have:=d _ (z7H (vK.mp h));have z:=of_decide_eq_false z;omega
def z8a {c:Int}(hw:∀x∈ws,Wt4 x)(hz:ws.length<=12)(q:∀co W,0<W->Bt 85 W->CrsS W ws co->co.length=ws.length->(∀p∈ws.zip co,(p.2.length<=12/\∀s∈p.2,s.2.1<=s.2.2)/\sw (λ_=>1) W p.2=W)->Q (.tup (co.map shsD))):z0B.run [.tup (ws.map wtD),.int c] Q X:=by
 walk_at "fn";ac_nf;refine z22 (λx hx=>by cases hx) ?_;ac_rfl;ac_nf;rw[wd];refine z60 (by lia) (by lia) ?_;rw[show (ws.length:Int).toNat=ws.length by simp];refine z0n (f:=λ(j:Nat)=>D.int j) (λJ ρ=>Ee4 λco (x3 x4 x5:B)=>co.length=J.length/\(∃W,0<W/\Bt (1+7*J.length) W/\∀p∈ws.zip co,(sw (λ_=>1) W p.2=W/\p.2.length<=12)/\∀s∈p.2,Sw W p.1.1.length s/\s.2.1<=s.2.2)/\ρ=[.s (.tup (ws.map wtD)),.s (.int c),.o (.lst (co.map shsD)),x3,x4,x5]) ⟨[],_,_,_,rfl,⟨1,by decide,z05 (by decide),λp C=>by(simp at C)⟩,rfl⟩ ?_ ?_
 .rintro J k r ρ e ⟨co,x3,x4,x5,M,⟨W,W0,U,u⟩,rfl⟩;have hk:k=J.length/\k<ws.length:=by
   have h4:=congrArg List.length e;have h5:(List.range ws.length)[J.length]? = some k:=by rw[e];simp
   rw[List.getElem?_range (by simp at h4;lia)] at h5;simp at h4 h5;lia
  obtain⟨x,hx,ex⟩:=z5s (xs:=ws) (i:=k) (by lia) (by lia);obtain⟨wb,ne,len,vb⟩:=hw x hx;have C:=wY.mpr ne;show Sm.run _ _ _ _ _;ac_rfl;ac_nf;refine z0X (by decide) (by decide) (by decide) λr0 a3 a4 =>?_;ac_nf;refine menu (ns:=[1,6,60]) a3 (by show r0<3;exact a4) λm hm =>?_;have a1:0<m/\m<=60:=by
   simp only[wm,wE,vO] at hm;lia
  clear hm;refine z0X (by lia) (by lia) a1.1 λb b0 b1 =>?_;ac_nf;ac_rfl;ac_nf;refine z0P (z0G ex) ?_;ac_nf;rw[wd];refine zhc C (by lia) (by lia) (by lia) λts h1 Y L =>?_;ac_rfl;refine zjw (λa5=>Ee2 λ(ts:List Int) m=>Aa6 (ts.length=x.1.length) (∀t∈ts,0<=t) (ts.sum=m) (0<m) (m<=60) (a5=[.s (.tup (ws.map wtD)),.s (.int c),.o (.lst (co.map shsD)),.s (.int k),.s (.int m),.s (.lst (ts.map .int))])) ?_ ?_
  .ac_nf;refine z0X (by decide) (by decide) (by decide) λr1 a6 a7 =>?_;ac_nf;refine z0K (λ_ =>?_) (λ_ =>?_)
   .ac_nf;ac_rfl;ac_nf;refine z0P (z0G ex) ?_;ac_nf;rw[wd];refine z7z (by lia) (by lia) ?_;rw[show ((x.1.length:Nat):Int).toNat=x.1.length by simp];ac_nf;refine⟨by rw[wd,v6];exact szl (by lia),?_⟩;refine z4Q (f:=λ(j:Nat)=>D.int (j:Int)) (g:=D.int) (P:=λ_ y=>1<=y/\y<=5) (λj hj K hK =>?_) λZ I O =>?_
    .have:=vK.mp hj;ac_nf;refine z0X (by lia) (by lia) (by decide) λv v0 v1 =>?_;ac_nf;exact hK _ ⟨by lia,by lia⟩
    ac_rfl;ac_nf;refine znk ?_;have R:∀y∈Z,1<=y/\y<=5:=λy a2=>(O y a2).choose_spec.2;have I:Z.length=x.1.length:=by rw[I,v6]
    have bd:∀l:List Int,(∀y∈l,1<=y/\y<=5)->(l.length:Int)<=l.sum/\l.sum<=5*(l.length:Int):=λl=>by
     induction l with
     | nil=>intro _;simp
     | cons a l ih=>
      intro h;have:=ih λy O=>h y (by simp[O]);have:=h a (by simp);rw[wQ,wU];lia
    have:=bd Z R;ac_nf;exact⟨Z,_,I,λy O=>by have:=R y O;lia,rfl,by lia,by lia,rfl⟩
   .ac_nf;exact⟨ts,_,h1,Y,L,by lia,by lia,rfl⟩
  rintro ρ ⟨ts,m,h1,Y,L,m0,m1,rfl⟩;refine z5x (l:=[]) (z0O rfl ?_);refine zfO rfl rfl rfl rfl (by lia) L m0 (by lia) ?_;refine⟨by rw[wd];exact szl' (by lia),Safe.of_noL (zao _) (zap _) _,?_⟩;ac_rfl;refine⟨co++[wsh ts],_,_,_,by simp[M],⟨W*m,wW W0 m0,Bt.le (Bt.mul U (z05 (n:=6) (by lia))) (by simp;lia),λp N =>?_⟩,by rw[wD];rfl⟩;have ok:=ziT Y (by lia);rw[h1,L] at ok;have a0:ws[co.length]? = some x:=by
   unfold atI at ex;rw[z6e (by lia) (by lia)] at ex;have ex:ws[((k:Nat):Int).toNat]? = some x:=ex;rw[show (k:Int).toNat=co.length by lia] at ex;exact ex
  rw[z5z a0] at N
  rcases wG.mp N with z | z
  .exact⟨⟨by rw[z5j λs w=>((u p z).2 s w).1.dv,(u p z).1.1],(u p z).1.2⟩,λs w=>⟨((u p z).2 s w).1.mul,((u p z).2 s w).2⟩⟩
  .rw[wg.mp z];refine⟨⟨by show sw (λ_=>1) (W*m) (wsh ts)=W*m;rw[wS W m,z5j λs w=>(ok.2 s w).1.dv, <- L,zji Y (by lia)],by have:=ok.1.2;show (wsh ts).length<=12;lia⟩,λs w=>⟨?_,(ok.2 s w).2⟩⟩;rw[wS];exact(ok.2 s w).1.mul
 rintro ρ ⟨co,x3,x4,x5,M,⟨W,W0,U,u⟩,rfl⟩;ac_nf;rw[v6] at M U;exact q co W W0 (U.le (by lia)) ⟨Nat.le_of_eq M,λp C=>⟨by have:=(u p C).1.2;lia,λs w=>((u p C).2 s w).1⟩⟩ M λp C=>⟨⟨(u p C).1.2,λs w=>((u p C).2 s w).2⟩,(u p C).1.1⟩
def z97 {f g:Type}{l:List f}{m:List g}(h:m.length<=l.length){a:List Nat}{k:Nat}{r:List Nat}(e:List.range m.length=a++k::r):∃x y,k=a.length/\atI l k=some x/\atI m k=some y/\(l.zip m)[k]? = some (x,y):=by
 have b:=congrArg List.length e;have d:(List.range m.length)[a.length]? = some k:=by rw[e];simp
 rw[List.getElem?_range (by simp at b;lia)] at d;simp at b d;have i:k<m.length:=by lia
 refine⟨l[k],m[k],by lia,?_,?_,?_⟩
 .unfold atI;rw[z6e (by lia) (by lia)]
  simp_all
 .unfold atI;rw[z6e (by lia) (by lia)]
  simp_all
 .rw[wn (by grind),jb]
def za8 {W:Int}(hw:∀x∈ws,Wt4 x)(hz:ws.length<=12)(U:0<W)(L:Bt 1900 W)(hc:CrsS W ws co)(q:∀u v t,Pl ((ws.zip co).map (cX W)).sum ((ws.zip co).map (cY W)).sum W u v t->Q (.tup [.int u,.int v,.int t])):z0y.run [.tup (ws.map wtD),.tup (co.map shsD)] Q X:=by
 have hl:=hc.len;have a3:(ws.zip co).length=co.length:=by rw[uC];lia
 have zero:Pl 0 0 W 0 0 1:=⟨by decide,by decide,by simp,by simp⟩
 walk_at "fn";ac_nf;rw[wd];refine z60 (by lia) (by lia) ?_;rw[show (co.length:Int).toNat=co.length by simp];refine z0n (f:=λ(j:Nat)=>D.int j) (λI ρ=>Ee7 λ(u v t) (x3 x4 Z x6)=>Aa2 (Pl (((ws.zip co).take I.length).map (cX W)).sum (((ws.zip co).take I.length).map (cY W)).sum W u v t) (ρ=[.s (.tup (ws.map wtD)),.s (.tup (co.map shsD)),.s (.tup [.int u,.int v,.int t]),x3,x4,Z,x6])) ⟨0,0,1,_,_,_,_,zero,rfl⟩ ?_ ?_
 .rintro I k r ρ e ⟨u,v,t,x3,x4,Z,x6,g,rfl⟩;obtain⟨x,sh,ek,e1,e2,e3⟩:=z97 hl e;have hm:=wv e3;have y:Wt4 x:=hw x (jH hm).1;obtain⟨J,hs⟩:=hc.ok _ hm;dsimp only at J hs;obtain⟨bA,bB⟩:=z7a (n:=I.length) hw hz U L hc;have nx:(ws.zip co).take (I++[k]).length=(ws.zip co).take I.length++[(x,sh)]:=by rw[wC,vh,jT, <- ek,e3];rfl
  rw[nx,wD,u5,wD,u5];generalize (((ws.zip co).take I.length).map (cX W)).sum=A at g bA ⊢;generalize (((ws.zip co).take I.length).map (cY W)).sum=C at g bB ⊢;have bits:∀l:List Sh,(∀s∈l,s∈sh)->l.length<=14->∀{u v t a b:Int},Pl (A+sw (wx x.1) W l) (C+sw (wy x.1) W l) W u v t->Pl (sw (λ_=>1) W l) 0 W a 0 b->Aa5 (Bt 1900 t) (Bt 2100 u) (Bt 2100 v) (Bt 1900 b) (Bt 1920 a):=λl hl R {u v t a b} h1 h2=>by
   have Y:∀s∈l,Sw W x.1.length s:=λs h=>hs s (hl s h);obtain⟨c1,c2,c3⟩:=h1.bt (n:=1900) (m:=2100) U L (Bt.le (Bt.add bA (z9f R U L Y λi=>(cyb y.ne y.wb i).1))) (Bt.le (Bt.add bB (z9f R U L Y λi=>(cyb y.ne y.wb i).2)));obtain⟨c4,c5,_⟩:=h2.bt (n:=1900) (m:=1920) U L (Bt.le (z9f (w:=λ_=>1) (m:=1) R U L Y λ_=>zdS)) (Bt.le (m:=0) (z05 (by decide)));exact⟨c1,c2,c3,c4,c5⟩
  show Sm.run _ _ _ _ _;ac_rfl;ac_nf;refine z0P (z0G e2) ?_;ac_nf;refine z0n (f:=shD) (λo ρ=>Ee7 λ(u v t a b) (Z x6)=>Aa3 (Pl (A+sw (wx x.1) W o) (C+sw (wy x.1) W o) W u v t) (Pl (sw (λ_=>1) W o) 0 W a 0 b) (ρ=[.s (.tup (ws.map wtD)),.s (.tup (co.map shsD)),.s (.tup [.int u,.int v,.int t]),.s (.int k),.s (.tup [.int a,.int b]),Z,x6])) ⟨u,v,t,0,1,_,_,by simpa[sw] using g,zero,rfl⟩ ?_ ?_
  .rintro o s r' ρ e' ⟨u,v,t,a,b,Z,x6,g,K,rfl⟩;have p:=hs s (by rw[e'];simp);have z:=p.bot;obtain⟨a0,a1⟩:=p.bits U L;have a2:o.length<=14:=by have:=congrArg List.length e';simp at this;lia
   obtain⟨O,bu,bv,N,M⟩:=bits o (λs h=>by rw[e'];simp[h]) a2 g K;refine⟨rfl,?_⟩;show Sm.run _ _ _ _ _;unfold z0m z0m z0m;ac_rfl;ac_nf;refine z0P (z0G e1) ?_;ac_nf;refine z0P (z0G (z9P p.ix)) ?_;ac_nf;refine zcb g.pos z bu.le bv.le O.le a0.le a1.le ⟨(cyb y.ne y.wb s.1).1.le,(cyb y.ne y.wb s.1).2.le⟩ λu' v' t' h' =>?_;refine z0s (Safe.of_noL rfl rfl _) ?_;ac_rfl;ac_nf;refine zc9 K.pos z M.le N.le a0.le a1.le λa' b' h2 =>?_;refine z0s (Safe.of_noL rfl rfl _) ?_;ac_rfl;refine⟨u',v',t',a',b',_,_,?_,?_,rfl⟩
   .rw[z5S,z5S, <- Int.add_assoc, <- Int.add_assoc];exact g.more z (z8f p.dv) h'
   .rw[z5S];exact(K.more (vx:=1) (vy:=0) z (z8f p.dv) (by simpa using h2)).eq0
  rintro ρ ⟨u,v,t,a,b,Z,x6,g,K,rfl⟩;obtain⟨O,bu,bv,N,M⟩:=bits sh (λs h=>h) J g K;ac_nf;refine z0P (z0G e1) ?_;ac_nf;refine zcb g.pos K.pos bu.le bv.le O.le M.le N.le ⟨y.vb.1.le,y.vb.2.le⟩ λu' v' t' h' =>?_;refine z0s (Safe.of_noL rfl rfl _) ?_;ac_rfl;refine⟨u',v',t',_,_,_,_,?_,rfl⟩;have:=g.more K.pos K.cx h';simpa[cX,cY,Int.add_assoc] using this
 rintro ρ ⟨u,v,t,x3,x4,Z,x6,g,rfl⟩;rw[v6,uE (by lia)] at g;ac_nf;exact q u v t g
def z1P:Fn:=Fn.mkN 1 1 (.seq (.ifs (.op pEq [.op pMod [.op z0d [.v 0,.c (.int 0)],.c (.int 2)],.c (.int 1)]) (.ret (.op pIx [.op pLst [.c (.int 3),.c (.int 12),.op pPow [.c (.int 10),.c (.int 9)]],.op pMod [.op z23 [.op pIx [.v 0,.c (.int 0)],.c (.int 2)],.c (.int 3)]])) .skip)
 (.ret (.op pIx [.op pLst [.c (.int 3),.c (.int 3),.c (.int 12),.op pPow [.c (.int 10),.c (.int 9)]],.op z00 [.op z0d [.v 0,.c (.int 0)],.c (.int 1),.c (.int 4)]])))
open Mth
def zb0 {ns:List Int}(hz:ns.length<=63)(q:∀ws:List (List P × P),(∀x∈ws,Wt4 x)->ws.length<=12->tl ws<=60->Q (.tup (ws.map wtD))):z1d.run [.lst (ns.map .int)] Q X:=by
 walk_at "fn";ac_nf;refine za9 (λb hb =>?_);ac_nf;refine z0K (λh =>?_) (λ_ =>?_)
 .ac_nf;exact zhg (hb h) hz q
 clear hb;ac_nf;refine z0X (by decide) (by decide) (by decide) λr r0 r1 =>?_;ac_nf;refine menu (ns:=[3,3,12,10 ^ 9]) r0 r1 λm hm =>?_;have f:0<=m/\m<=10000000000000000000000000000000000000000:=by
  simp only[wm,wE,vO] at hm;lia
 clear hm;ac_nf;refine z0X (by decide) (by decide) (by decide) λr2 a8 a9 =>?_;ac_nf;refine zj8 (λe=>∃d,Ln d/\e=[.s (.lst (ns.map .int)),.s (.int b),.s (.int m),.s d,.n,.n,.n,.n,.n,.n]) ?_ ?_
 .refine z0K (λ_ =>?_) (λ_ =>?_)
  .ac_nf;refine z0X (by decide) (by decide) (by decide) λu u0 u1 =>?_;ac_nf;refine z0X (by decide) (by decide) (by decide) λv v0 v1 =>?_;ac_nf;exact⟨_,.inr ⟨(u - 3,v - 3),rfl,⟨by show -3<=u - 3;lia,by show u - 3<=3;lia⟩,by show -3<=v - 3;lia,by show v - 3<=3;lia⟩,rfl⟩
  .ac_nf;exact⟨_,.inl rfl,rfl⟩
 rintro e ⟨d,hd,rfl⟩;ac_nf;refine z0X (by decide) (by decide) (by decide) λr3 a2 a3 =>?_;ac_nf;refine menu (ns:=[3,3,5,12]) a2 a3 λY O =>?_;have R:0<Y/\Y<=12:=by
  simp only[wm,wE,vO] at O;lia
 clear O;ac_nf;refine z22 (λx j=>by cases j) ?_;ac_rfl;ac_nf;refine z5K (λZ=>Ee5 λws a (x7 x8 x9:B)=>(∀x∈ws,Wt4 x)/\ws.length<=12/\1<=a/\a<=100/\tl ws<a/\tl ws<=60/\Z=[.s (.lst (ns.map .int)),.s (.int b),.s (.int m),.s d,.s (.int Y),.o (.lst (ws.map wtD)),.s (.int a),x7,x8,x9]) (λZ=>(100 - nI Z 6).toNat) ⟨[],1,_,_,_,λ_ z=>by(cases z),by simp,by simp,by simp,by simp[tl],by simp[tl],rfl⟩ ?_;rintro Z ⟨ws,a,x7,x8,x9,M,C,a6,ha,a7,W,rfl⟩;ac_nf;rw[wd,min2];refine z0K (λh =>?_) (λh =>?_)
 .ac_nf;rw[wd];refine z0K (λa0 =>?_) (λa0 =>?_)
  .obtain⟨c,_,J⟩:=z5s (xs:=ns) (i:=a) (by lia) (by lia);ac_nf;refine z0P (z0G J) ?_;ac_nf;refine z0X (by decide) (by decide) R.1 λsz b2 b3 =>?_;ac_nf;obtain⟨k2,N,a4⟩:∃k2:Int,k2=(if 61<a+(1+sz) then 61 else a+(1+sz))/\(a:Int)<k2:=⟨_,rfl,kyC (by lia) b2⟩
   rw[<- N,z2E];have e1:HT.sIx ns.length 0 (some (a:Int))=a:=by
    show (if (a:Int)<0 then (a+(ns.length:Int)).toNat else min (a:Int).toNat ns.length)=_;rw[if_neg (by lia)];lia
   have e2:HT.sIx ns.length ns.length (some k2)=min k2.toNat ns.length:=by
    show (if k2<0 then (k2+(ns.length:Int)).toNat else min k2.toNat ns.length)=_;rw[if_neg (by lia)]
   rw[e1,e2];have key:=kyD N b2 (Int.lt_of_lt_of_le b3 R.2)
   have U:(ns.drop a).take (min k2.toNat ns.length - a)≠[]/\(((ns.drop a).take (min k2.toNat ns.length - a)).length<=12/\((ns.drop a).take (min k2.toNat ns.length - a)).length<=1+sz.toNat/\((ns.drop a).take (min k2.toNat ns.length - a)).length<=61 - a):=by
    refine⟨λw =>?_,key _ (by rw[vA,jB];exact wP (Nat.min_le_left ..) (Nat.sub_le_sub_right (Nat.min_le_left ..) _))⟩;have:=congrArg List.length w;rw[vA,jB,uc] at this;exact kyE (by lia) a4 this
   clear key;generalize (ns.drop a).take (min k2.toNat ns.length - a)=a5 at*;refine⟨by rw[wd];exact szl' (by lia),?_⟩;refine z4Q (g:=vec) (P:=λ_ p=>Far 10000000000000000000000000000000000000000 p) (λc _ K hK =>?_) λI a1 hy =>?_
   .ac_nf;exact zg7 f.1 f.2 hd hK
   refine z22 (λx j =>?_) ?_
   .obtain⟨y,_,rfl⟩:=we.mp j;exact Safe.of_noL rfl rfl _
   ac_rfl;ac_nf;refine z0P (z0G J) ?_;ac_nf;refine z0X (by decide) (by decide) (by decide) λr4 b0 b1 =>?_;ac_nf;refine zj8 (λe=>∃s,Far 10000000000000000000000000000000000000000 s/\e=[.s (.lst (ns.map .int)),.s (.int b),.s (.int m),.s d,.s (.int Y),.o (.lst (ws.map wtD)),.s (.int (a:Int)),.s (.int (1+sz)),.o (.lst (I.map vec)),.s (vec s)]) ?_ ?_
   .refine z0K (λ_ =>?_) (λ_ =>?_)
    .ac_nf;refine z0P (z0G J) ?_;ac_nf;refine zg7 f.1 f.2 hd λs hs =>?_;refine z0s (Safe.of_noL rfl rfl _) ?_;exact⟨s,hs,rfl⟩
    .ac_nf;exact⟨(0,0),by unfold Far;decide,rfl⟩
   rintro e ⟨s,hs,rfl⟩;refine z4Z (z5x (l:=[]) (z0O rfl ?_));ac_nf;refine⟨by rw[wd];exact szl' (by lia),Safe.of_noL (zgx (I,s)) (zgy (I,s)) _,?_⟩;ac_rfl;ac_nf;refine⟨⟨ws++[(I,s)],a+(1+sz.toNat),.s (.int (1+sz)),.o (.lst (I.map vec)),.s (vec s),λx j =>?_,by simp;lia,by lia,by lia,by rw[z5O];show _+I.length<_;lia,by rw[z5O];show _+I.length<=_;lia,?_⟩,?_⟩
   .rcases wG.mp j with j | j
    .exact M x j
    .rw[wg.mp j];refine⟨λp hp =>?_,λz=>U.1 (uA.mp (by rw[<- a1];exact congrArg List.length z)),by show I.length<=12;lia,(hs.vb (n:=134) (by decide)).le⟩;obtain⟨_,_,hf⟩:=hy p hp;exact(hf.vb (n:=134) (by decide)).le
   .rw[wD,show ((a+(1+sz.toNat):Nat):Int)=(a:Int)+(1+sz) by lia]
    rfl
   .show (100 - ((a:Int)+(1+sz))).toNat<(100 - (a:Int)).toNat
    lia
  .ac_nf;exact q ws M C W
 .ac_nf;exact q ws M C W
theorem zip_map {d e:Type}{f:d->D}{g:e->D}:∀{l:List d}{m:List e},((l.map f).zip (m.map g)).map (λp=>D.tup [p.1,p.2])=(l.zip m).map λp=>D.tup [f p.1,g p.2]
 | [],_=>by simp
 | _::_,[]=>by simp
 | a::l,b::m=>by
  have:=zip_map (f:=f) (g:=g) (l:=l) (m:=m)
  simp_all
abbrev one:Nat->Int:=λ_=>1
def z9e (s:Sh)(l:List Sh):sw w W (s::l)=w s.1*pt W s+sw w W l:=by simp[sw]
def zbN (h:w.1≠[])(b:P):∃G,Geo.Far (· ∈ tr w) b G:=by
 obtain⟨a,d⟩:=z2p (l:=tr w) λz=>h (List.map_eq_nil_iff.mp z);obtain⟨c,f,e⟩:=we.mp a;exact⟨_,d,c,f,e⟩
def zcR (co:List (List Sh)):noL (.tup (co.map shsD))=true:=z4H λd a=>by(obtain⟨g,_,rfl⟩:=we.mp a;exact zao g)
def zcS (co:List (List Sh)):noD (.tup (co.map shsD))=true:=z4I λd a=>by(obtain⟨g,_,rfl⟩:=we.mp a;exact zap g)
def zlX (co:List (List Sh)):Da (n+4) (.tup (co.map shsD)):=Da.tup.mpr λd a=>by
 obtain⟨g,_,rfl⟩:=we.mp a;refine Da.tup.mpr λd a =>?_;obtain⟨s,_,rfl⟩:=we.mp a;refine Da.tup.mpr λd a =>?_;simp[wm,wE,vO] at a
 rcases a with rfl | rfl
 .exact Da.int
 .exact Da.vec s.2
def zgU {a:Type}{f:a->D}{l:List a}{x:a}:cutD ((l++[x]).map f) none (some (-1))=l.map f:=by
 rw[z2E,z7N];simp
def Tms (a b:Int)(s y:Sh):Prop:=y.1=s.1/\Pl (s.2.1*a) 0 (s.2.2*b) y.2.1 0 y.2.2
def zbO (d:0<W)(g:0<a)(i:a<=b)(h:Sw W n s)(le:s.2.1<=s.2.2)(k:Tms a b s y):Sw (W*b) n y/\pt (W*b) y=a*pt W s:=by
 obtain⟨e,pl⟩:=k;obtain⟨j,u,t⟩:=y;dsimp only at e pl;subst e;have l:0<b:=by lia
 have m:=z8f h.dv;obtain⟨p,_⟩:=h.pt_le d;have w:=h.bot;have q:pt W s<=W:=by
  have f:=wp le (wz d);rw[m,wS _] at f
  simp_all
 have c:Pl (a*pt W s) 0 (W*b) u 0 t:=by
  refine⟨pl.pos,pl.cop,?_,by simp⟩;have r:=pl.cx;apply w9 (show s.2.2≠0 by omega)
  grind
 obtain⟨⟨f,_⟩,o⟩:=zd3 (wW d l) c (wW g p) (by
  have:=wT q (wz g);have:=wp i (wz d)
  grind) h.ix
 exact⟨f,o⟩
theorem z9c (m:0<W)(g:0<a)(j:a<=b):∀{l ys:List Sh},ys.length=l.length->(∀(i:Nat) h,∃y,ys[i]? = some y/\Tms a b l[i] y)->(∀s∈l,Sw W n s/\s.2.1<=s.2.2)->(∀s∈ys,Sw (W*b) n s)/\∀w,sw w (W*b) ys=a*sw w W l
 | [],[],_,_,_=>⟨(λs d=>by cases d),λw=>by simp[sw]⟩
 | s::l,y::ys,p,h,d=>by
  obtain⟨y',e,k⟩:=h 0 (by simp);obtain rfl:y=y':=by simpa using e
  have k:Tms a b s y:=k;obtain⟨A,q⟩:=z9c m g j (n:=n) (l:=l) (ys:=ys) (by simpa using p) (λi u=>by
   obtain⟨y',e,k⟩:=h (i+1) (by simp;lia);exact⟨y',by simpa using e,by simpa using k⟩) λr f=>d r (by simp[f])
  obtain⟨t,o⟩:=zbO m g j (d s (by simp)).1 (d s (by simp)).2 k;refine⟨λz x =>?_,λw =>?_⟩
  .grind
  .rw[z9e,z9e,q,o,k.1]
   grind
def zem {co:List (List Sh)}{W c:Int}{Q:DK}{X:XP}(hz:co.length<=12)(q:0<W)(z:Bt 90 W)(R:∀g∈co,g.length<=12/\∃n,∀s∈g,Sw W n s/\s.2.1<=s.2.2)(q0:Q (.tup (([]).map shsD)))
  (q1:∀m g a b g',co[m]? = some g->0<a->a<=b->b<=7->g'.length=g.length->(∀n,(∀s∈g,Sw W n s/\s.2.1<=s.2.2)->(∀s∈g',Sw (W*b) n s)/\∀w,sw w (W*b) g'=a*sw w W g)->Q (.tup ((co.take m++[g']).map shsD))):z16.run [.tup (co.map shsD),.int c] Q X:=by
 walk_at "fn";ac_nf;rw[wd];refine z0X (by decide) (by decide) (by lia) λr r0 r1 =>?_;ac_nf;rw[z8Q r0];refine zib (l:=(co.take r.toNat).map shsD) (r:=[]) (zlX _) (zlX []) ?_
 rcases List.eq_nil_or_concat (co.take r.toNat) with e | ⟨co0,g,e⟩
 .rw[e];refine z2X rfl ?_;ac_nf;exact q0
 rw[List.concat_eq_append] at e;obtain⟨m,p⟩:∃m,r.toNat=m+1:=by
  cases h:r.toNat with
  | zero=>rw[h] at e;simp at e
  | succ m=>exact⟨m,rfl⟩
 have j:co[m]? = some g/\co.take m=co0:=by
  have U:=congrArg List.length e;rw[vA,wC,vh,p] at U;have x:m<co.length:=by lia
  rw[p,jT,wn x] at e;obtain⟨M,N⟩:=List.append_inj' e rfl;exact⟨by rw[wn x];exact congrArg some (by simpa using N),M⟩
 rw[e];have hg:=wv j.1;obtain⟨gl,n,L⟩:=R g hg;rw[show deq (.tup ((co0++[g]).map shsD)) (.tup [])=false by cases co0 <;> rfl];refine z4V ?_;ac_nf;refine z0X (by decide) (by decide) (by decide) λb b0 b1 =>?_;ac_nf;refine z0X (by decide) (by decide) (by lia) λa a0 a1 =>?_;ac_nf;have J:atI ((co0++[g]).map shsD) (-1)=some (shsD g):=by
  have e:=zfW (l:=(co0++[g]).map shsD) (k:=0) (by simp);rw[show (((0:Nat):Int) - 1) = -1 by decide] at e;rw[e,wV (by simp)];simp
 refine z0P J ?_;ac_nf;refine⟨by rw[wd];exact szl' (by lia),?_⟩;refine z4P (f:=shD) (g:=shD) (P:=Tms (1+a) (1+b)) (λs Z K O =>?_) λo i hy =>?_
 .obtain⟨y,_⟩:=L s Z;have s0:=y.bot;obtain⟨c1,C⟩:=y.bits q z;have c3:Bt 64 (1+a):=z05 (by omega);have I:Bt 64 (1+b):=z05 (by omega);refine⟨rfl,?_⟩;unfold z0m z0m z0m;ac_rfl;ac_nf;refine z85 (wW s0 (by lia)) (Bt.le (Bt.mul C I)) λu w pl =>?_;ac_nf;exact O (s.1,u,w) ⟨rfl,pl⟩
 ac_nf;rw[zgU];refine zam (by rw[wd];have:=congrArg List.length j.2;rw[vA] at this;exact uN (szl' (by simp;lia))) ?_;rw[show co0.map shsD++[.tup (o.map shD)]=(co.take m++[o]).map shsD by rw[j.2];simp];exact q1 m g (1+a) (1+b) o j.1 (by lia) (by lia) (by lia) i λn Y=>z9c q (by lia) (by lia) i hy Y
def z1X:Fn:=Fn.mkN 3 5 (.seq (.ifs (.op pEq [.op pMod [.v 1,.c (.int 2)],.c (.int 1)]) (.ret (.op z0k [.op z23 [.v 1,.c (.int 2)],.v 2])) .skip)
 (.seq (.set 3 (.op z16 [.op z0B [.v 0,.v 1],.v 1]))
 (.seq (.set 4 (.op z0y [.v 0,.v 3]))
 (.seq (.ifs (.op pEq [.op z00 [.v 1,.c (.int 65),.c (.int 3)],.c (.int 0)]) (.set 4 (.op z1Q [.sl (.v 0) none (some (.op pLen [.v 3])),.op pAdd [.v 1,.c (.int 5)],.v 2])) .skip)
 (.ret (.v 4))))))
open Mth
def Pl.pd {x y b u v t:Int}(h:Pl x y b u v t)(f:0<b)(d:Bt 100 b)(e:Bt 300 x)(a:Bt 300 y):Pd u v t:=by
 obtain⟨g,i,j⟩:=h.bt f d e a;exact⟨h.pc f d.le e.le a.le,i,j,g⟩
def z4v {c m:Int}(C:0<m)(I:m<=10000000000000000000000000000000000000000)(q:∀u v t,Pd u v t->Q (.tup [.int u,.int v,.int t])):z0k.run [.int c,.int m] Q X:=by
 have p:Bt 135 (m+1):=z05 (by lia);walk_at "fn";ac_nf;obtain⟨w,b,e,J⟩:∃w,Aa3 (w=80*(m+1)+1) (0<w) (w<100000000000000000000000000000000000000000000):=⟨_,rfl,by lia,by lia⟩
 rw[<- b];clear b;have r:Bt 9000 w:=Bt.le (m:=150) (z05 (by lia));ac_nf;have f:=j6 c (show w≠0 by lia);have g:=jE c e;have i:=j6 (c / w) (show w≠0 by lia);have j:=jE (c / w) e;have o:0<=c / w / w % 60/\c / w / w % 60<60:=by lia
 generalize c % w=x at*;generalize c / w % w=y at*;generalize c / w / w % 60=z at*;refine zgb (by lia) (Bt.le (m:=10) (z05 (by lia))) λu v t h =>?_;exact q u v t (h.pd (by lia) (Bt.le (m:=10) (z05 (by lia))) (Bt.le (m:=150) (z05 (by lia))) (Bt.le (m:=150) (z05 (by lia))))
def zhf {ws:List (List P × P)}{c m:Int}{Q:DK}{X:XP}(I:∀x∈ws,Wt4 x)(J:ws.length<=12)(Y:0<m)(Z:m<=10000000000000000000000000000000000000000)(q:∀u v t,Pd u v t->Q (.tup [.int u,.int v,.int t])):z1Q.run [.tup (ws.map wtD),.int c,.int m] Q X:=by
 have bm:Bt 135 (1+m):=z05 (by lia);walk_at "fn";ac_nf;refine z0K (λ_ =>?_) (λ_ =>?_)
 .ac_nf;exact z4v Y Z q
 ac_nf;refine z8a I J λco W g j N _ _ =>?_;obtain⟨w,C⟩:=z7a (n:=100) I J g j N;rw[uE (by rw[uC];lia)] at w C;refine za8 I J g j.le N λu v t O =>?_;refine z0s (Safe.of_noL rfl rfl _) ?_;ac_rfl;have K:Pd u v t:=O.pd g j.le w.le C.le;obtain⟨e,L,M⟩:=O.bt g j w C;ac_nf;refine z0X (by decide) (by decide) (by decide) λr r0 r1 =>?_;ac_nf;refine z0K (λ_ =>?_) (λhr =>?_)
 .ac_nf;exact q u v t K
 ac_nf;refine menu (ns:=[1,1+m,40*(1+m)]) (by lia) (by show r - 3<3;lia) λs R =>?_;have a0:0<s/\s<=10000000000000000000000000000000000000000000:=by
  simp only[wm,wE,vO] at R;lia
 clear R;have bs:Bt 145 s:=z05 (by lia);ac_nf;refine z0X (by decide) (by decide) (by lia) λx x0 x1 =>?_;ac_nf;refine z0X (by decide) (by decide) (by lia) λy y0 y1 =>?_;ac_nf;refine z0X (by decide) (by decide) (by decide) λz z0 z1 =>?_;ac_nf;refine z85 (by lia) (Bt.le (m:=10) (z05 (by lia))) λa b f =>?_;obtain⟨i,o,_⟩:=f.bt (n:=10) (m:=10) (by lia) (z05 (by lia)) (z05 (by decide)) (z05 (by decide));have vs:Vb 149 (x - s,y - s):=⟨z05 (by show (x - s).natAbs<2 ^ 149;lia),z05 (by show (y - s).natAbs<2 ^ 149;lia)⟩
 refine zcb (p:=(x - s,y - s)) K.pc.pos f.pos L.le M.le e.le o.le i.le ⟨vs.1.le,vs.2.le⟩ λu' v' t' U =>?_;refine q u' v' t' (U.pd (wW K.pc.pos f.pos) (Bt.le (Bt.mul e i)) (Bt.le (Bt.add (Bt.mul L i) (Bt.mul (Bt.mul vs.1 o) e))) (Bt.le (Bt.add (Bt.mul M i) (Bt.mul (Bt.mul vs.2 o) e))))
def Whl (W:Int)(co:List (List Sh)):Prop:=co=[]\/∃a g,co=a++[g]/\(∀b∈a,sw one W b=W)/\sw one W g<=W
def zej {W c:Int}(hz:ws.length<=12)(E:0<W)(G:Bt 85 W)(r:CrsS W ws co)(hl:co.length=ws.length)(u:∀p∈ws.zip co,(p.2.length<=12/\∀s∈p.2,s.2.1<=s.2.2)/\sw one W p.2=W)
  (q:∀f A,0<A->Bt 95 A->CrsS A ws f->Whl A f->Q (.tup (f.map shsD))):z16.run [.tup (co.map shsD),.int c] Q X:=by
 have j:∀g∈co,∃w,(w,g)∈ws.zip co:=λg t=>by
  obtain⟨i,M,e⟩:=ud t;exact⟨ws[i],wv (i:=i) (by rw[wn (by rw[uC];lia),jb,e])⟩
 have all:∀g∈co,sw one W g=W:=λg t=>by
  obtain⟨w,d⟩:=j g t;exact(u _ d).2
 refine zem (by lia) E G.le (λg t =>?_) ?_ λm g a b C J a0 N b7 gl Y =>?_
 .obtain⟨w,d⟩:=j g t;exact⟨(u _ d).1.1,_,λs h=>⟨(r.ok _ d).2 s h,(u _ d).1.2 s h⟩⟩
 .exact q [] W E G.le ⟨by simp,by simp⟩ (.inl rfl)
 .have O:0<b:=by lia
  obtain⟨hm,T⟩:=wt.mp J;obtain⟨w,H⟩:∃w,ws[m]? = some w:=⟨_,wn (by lia)⟩
  have F:(co.take m).length=m:=by rw[vA];lia
  have U:=z5z (y:=C) (l:=ws) (m:=co.take m) (x:=w) (by rw[F];exact H);have sub:∀p∈ws.zip (co.take m),p∈ws.zip co:=λp d=>by
   have k:=z5z (y:=g) (l:=ws) (m:=co.take m) (x:=w) (by rw[F];exact H);obtain⟨i,M,e⟩:=ud d;rw[uC,F] at M;refine wv (i:=i) ?_;rw[wn (by rw[uC];lia), <- e,jb,jb,List.getElem_take]
  have o:(w,g)∈ws.zip co:=by
   refine wv (i:=m) ?_;have Z:=(wt.mp H).2;rw[wn (by rw[uC];lia),jb,Z,T]
  obtain⟨R,S⟩:=Y w.1.length λs h=>⟨(r.ok _ o).2 s h,(u _ o).1.2 s h⟩
  refine q (co.take m++[C]) (W*b) (wW E O) (Bt.le (Bt.mul G (z05 (n:=3) (by omega)))) ⟨by rw[wC,F,vh];lia,λp d =>?_⟩ (.inr ⟨co.take m,C,rfl,λK I =>?_,?_⟩)
  .rw[U] at d
   rcases wG.mp d with z | z
   .exact⟨(r.ok p (sub p z)).1,λs h=>((r.ok p (sub p z)).2 s h).mul⟩
   .rw[wg.mp z];have:=(u _ o).1.1;exact⟨by show C.length<=14;lia,R⟩
  .have L:=vF I;obtain⟨w2,d⟩:=j K L;rw[z5j λs h=>((r.ok _ d).2 s h).dv,all K L]
  .rw[S,all g (wv J),wS];exact wT N (wz E)
def zms {ws:List (List P × P)}{c m:Int}{Q:DK}{X:XP}(b:∀x∈ws,Wt4 x)(e:ws.length<=12)(I:0<m)(J:m<=10000000000000000000000000000000000000000)(q:∀u v t,Pd u v t->Q (pcD u v t)):z1X.run [.tup (ws.map wtD),.int c,.int m] Q X:=by
 walk_at "fn";ac_nf;refine z0K (λ_ =>?_) (λ_ =>?_)
 .ac_nf;exact z4v I J q
 ac_nf;refine z8a b e λL N o g p w y =>?_;ac_nf;refine zej e o g p w y λi W j f K _ =>?_;refine z0s (Safe.of_noL (zcR _) (zcS _) _) ?_;ac_rfl;ac_nf;refine za8 b e j f.le K λu v t pl =>?_;obtain⟨z,C⟩:=z7a (n:=(ws.zip i).length) b e j f K;rw[List.take_length] at z C;have pd:Pd u v t:=pl.pd j f.le z.le C.le;ac_nf;refine z0X (by decide) (by decide) (by decide) λr _ _ =>?_;ac_nf;refine z0K (λ_ =>?_) (λ_ =>?_)
 .ac_nf;rw[wd,z8Q (by omega),show (i.length:Int).toNat=i.length by simp];refine zhf (λx M=>b x (vF M)) (by rw[vA];lia) I J λu v t pd =>?_;refine z0s (Safe.of_noL rfl rfl _) ?_;ac_rfl;ac_nf;exact q u v t pd
 .ac_nf;exact q u v t pd
theorem z5T {W c:Int}{a b:Sh->Int}:∀l:List Sh,(l.map λs=>(a s+c+b s)*pt W s).sum=(l.map λs=>a s*pt W s).sum+c*sw (λ_=>1) W l+(l.map λs=>b s*pt W s).sum
 | []=>by simp[sw]
 | s::l=>by
  have d:=z5T (W:=W) (c:=c) (a:=a) (b:=b) l;have e:sw (λ_=>1) W (s::l)=pt W s+sw (λ_=>1) W l:=by simp[sw]
  rw[wA,wQ,d,e,wA,wQ,wA,wQ]
  grind
def Flw (W:Int)(h:List P)(sh:List Sh)(x:List P × P)(a:List Sh):Prop:=∃b:Sh->P,(∀s∈sh,Top (· ∈ x.1) (stq h s) (b s))/\sw (wx x.1) W a=(sh.map λs=>(b s).1*pt W s).sum/\sw (wy x.1) W a=(sh.map λs=>(b s).2*pt W s).sum/\sw (λ_=>1) W a=W
theorem zdt {sh:List Sh}(one:sw (λ_=>1) W sh=W):∀{ws:List (List P × P)}{co:List (List Sh)},co.length=ws.length->(∀p∈ws.zip co,Flw W h sh p.1 p.2)->
  ∃ b:Sh->P,(∀s∈sh,Top (MS ws) (stq h s) (b s))/\((ws.zip co).map (cX W)).sum=(sh.map λs=>(b s).1*pt W s).sum/\((ws.zip co).map (cY W)).sum=(sh.map λs=>(b s).2*pt W s).sum
 | [],[],_,_=>by
  have z:∀l:List Sh,(l.map λs=>(0)*pt W s).sum=0:=λl=>by
   induction l with
   | nil=>rfl
   | cons a l A=>simp_all
  refine⟨λ_=>(0,0),λs _=>⟨rfl,λr t =>?_⟩,(z sh).symm,(z sh).symm⟩;rw[t];exact .inr ⟨rfl,vL _⟩
 | x::ws,g::co,o,e=>by
  obtain⟨i,j,m,n,d⟩:=e (x,g) (by simp);obtain⟨b,u,w,y⟩:=zdt one (by simpa using o) λp q=>e p (by simp[q]);refine⟨λs=>Geo.pl _ (b s),λs f=>ze7 (zg3 (j s f)) (u s f),?_,?_⟩
  .rw[uy,wA,wQ,w];show sw (wx x.1) W g+x.2.1*sw _ W g+_=(sh.map λs=>((i s).1+x.2.1+(b s).1)*pt W s).sum;rw[m,d,z5T,one]
  .rw[uy,wA,wQ,y];show sw (wy x.1) W g+x.2.2*sw _ W g+_=(sh.map λs=>((i s).2+x.2.2+(b s).2)*pt W s).sum;rw[n,d,z5T,one]
def za6 (q:Q (.bl true)):z0l.run [.tup [a,b]] Q X:=by
 walk_at "fn";refine z2X rfl ?_;exact q
def z4b (q:Q (.bl true)):z07.run [.int i] Q X:=by
 walk_at "fn";refine z2X rfl ?_;exact q
def znn (q:Q (.bl (!decide (x=y)))):pNe.run [.str x,.str y] Q X:=q
def zc7 {sh:List Sh}(q:Q (.bl true)):z0u.run [shsD sh] Q X:=by
 walk_at "fn";ac_nf;refine z1p (z2X rfl ?_);ac_nf;refine z0n (f:=shD) (λi g=>∃b,g=[.s (shsD sh),b]) ⟨_,rfl⟩ ?_ ?_
 .rintro i s r g e ⟨b,rfl⟩;show Sm.run _ _ _ _ _;ac_rfl;ac_nf;refine za6 ?_;ac_nf;refine z1p (z2z ?_);ac_nf;refine z4b ?_;ac_nf;refine z1p (z2z ?_);ac_nf;refine za6 ?_;ac_nf;refine z1p (z2z ?_);ac_nf;refine z4b ?_;ac_nf;refine z1p (z2z ?_);ac_nf;refine z4b ?_;ac_nf;refine z1p (z2z ?_);ac_nf;exact⟨_,rfl⟩
 rintro g ⟨b,rfl⟩;ac_nf;exact q
def zce {co:List (List Sh)}{Q:DK}{X:XP}(b:co.length<=12)(q:Q (.bl true)):z0v.run [.tup (co.map shsD)] Q X:=by
 walk_at "fn";refine z2X rfl ?_;ac_nf;refine⟨by rw[wd];exact szl' (by lia),?_⟩;refine z17 (g:=λ_ =>.bl true) (λc _ K k =>?_) ?_
 .ac_nf;exact zc7 k
 rw[show co.map _=(co.map λ_=>true).map .bl by simp_all];refine zls ?_;rw[show (co.map _).all id=true by simp];exact q
def zcf (e:b≠(0,0))(q:Q (.bl true)):z0r.run [vec b] Q X:=by
 walk_at "fn";ac_nf;refine za6 ?_;ac_nf;refine z4b ?_;ac_nf;refine z4b ?_;ac_nf;refine zfh (Da.vec b) (Da.vec (0,0)) ?_;rw[z2C b (0,0),vB e];exact q
def zch {ls:List Lm}{Q:DK}{X:XP}(bt:∀m∈ls,Bt 1400 m.2.1/\Bt 1400 m.2.2)(ex:∃m∈ls,0<m.2.1)(U:∀bs:List Lm,bs≠[]->bs.length<=2->(∀m∈bs,m∈ls/\(0<m.2.1\/m.2.2<m.2.1))->(∀p q,0<=p->p<=q->0<q->¬ Fits p q bs)->Q (vecs (bs.map (·.1))))
  (W:(∀m∈ls,0<m.2.1->m.2.1<=m.2.2)->(∀f∈ls,0<f.2.1->(∀m∈ls,0<m.2.1->Rr m f)->Fits f.2.1 f.2.2 ls)->Q .non):z2c.run [.lst (ls.map lmD)] Q X:=by
 walk_at "fn";ac_nf;refine z0n (f:=lmD) (λJ R=>Ee3 λ(M N O)=>(∀m∈J,0<m.2.1->m.2.1<=m.2.2)/\R=[.s (.lst (ls.map lmD)),M,N,O,.n,.n]) ⟨_,_,_,(λm b=>by cases b),rfl⟩ ?_ ?_
 .rintro J m r R e ⟨M,N,O,hd,rfl⟩;have b:m∈ls:=by rw[e];simp
  refine⟨rfl,?_⟩;show Sm.run _ _ _ _ _;unfold z0m z0m z0m z0m;ac_rfl;ac_nf;have snoc:(0<m.2.1->m.2.1<=m.2.2)->∀k∈J++[m],0<k.2.1->k.2.1<=k.2.2:=λz k u=>by
   rcases wG.mp u with w | w
   .exact hd k w
   .rw[wg.mp w];exact z
  refine z0K (λi =>?_) (λi =>?_)
  .ac_nf;refine z0K (λy =>?_) (λy =>?_)
   .ac_nf;exact U [m] (by simp) (by simp) (λk u=>by rw[wg.mp u];exact⟨b,.inl i⟩) (zie (ls:=[m]) (by simp) i y)
   .ac_nf;exact⟨_,_,_,snoc λ_=>jQ.mp y,rfl⟩
  .ac_nf;exact⟨_,_,_,snoc λz=>absurd z i,rfl⟩
 rintro R ⟨M,N,O,nb,rfl⟩;have neg:∀m∈ls,m.2.2<m.2.1->m.2.2<0:=λm b h=>by
  by_cases c:0<m.2.1
  .have:=nb m b c;lia
  .lia
 ac_nf;refine zjt bt (λm b h=>by have:=nb m b h;lia) (λz =>?_) λf C K x =>?_
 .obtain⟨m,b,h⟩:=ex;have:=z m b;lia
 have f1:=nb f C K;ac_nf;obtain⟨Z,a0⟩:=bt f C;have same:∀g∈ls,0<g.2.1->(∀m∈ls,0<m.2.1->Rr m g)->Rr f g/\Rr g f:=λg hg i o=>⟨o f C K,x g hg i⟩
 refine zmp bt neg (λz =>?_) λl I L last =>?_
 .ac_nf;refine z5P rfl ?_;ac_nf;refine W nb λg hg i o=>z8J (l:=g) nb i (nb g hg i) o λm b h =>?_;have:=z m b;lia
 .obtain⟨a4,a5⟩:=bt l I;ac_nf;refine z2X rfl ?_;ac_nf;refine z0K (λi =>?_) (λi =>?_)
  .ac_nf;exact U [f,l] (by simp) (by simp) (λk u=>by
    simp only[wm,wE,vO] at u
    rcases u with rfl | rfl
    .exact⟨C,.inl K⟩
    .exact⟨I,.inr L⟩) λp q _ _ q0=>zid (ls:=[f,l]) (f:=f) (l:=l) (by simp) (by simp) (by lia) (neg l I L) i p q q0
  .ac_nf;refine W nb λg hg j o=>z8J (l:=g) nb j (nb g hg j) o λm b h=>⟨neg m b h,?_⟩
   have y:=nb g hg j;have gm:=neg m b h;have gl:=neg l I L;have r1:Rr l m:=last m b h;have r2:l.2.1*f.2.2<=f.2.1*l.2.2:=jQ.mp i;have r3:=(same g hg j o).2;have a1:=wp r2 (show 0<=g.2.2 by lia);have a2:=vD r3 (wz gl);have Y:l.2.1*g.2.2<=g.2.1*l.2.2:=uM (a:=f.2.2) (by grind) (by lia);have b1:=wp r1 (show 0<=g.2.2 by lia);have b2:=vD Y (wz gm);exact uM (a := - l.2.2) (by grind) (by lia)
def zhd {a b p r:Int}{Q:DK}{X:XP}(j:0<b)(hr:0<r)(m:Bt 3000 a)(g:Bt 3000 b)(x:Bt 3000 p)(i:Bt 3000 r)(q:∀u w,Pl (a*p) 0 (b*r) u 0 w->Q (.tup [.int u,.int w])):z2R.run [.tup [.int a,.int b],.tup [.int p,.int r]] Q X:=by
 have e:=wW j hr;have f:Bt 6000 (b*r):=Bt.le (Bt.mul g i);have z:(Int.gcd (b*r) (a*p))<=b*r:=Int.le_of_dvd e (jC ..);have y  := by
  have:=Int.gcd_pos_of_ne_zero_left (a*p) (show b*r≠0 by omega);omega
 have o:Bt 9000 (Int.gcd (b*r) (a*p)):=Bt.le (f.of_abs (by lia));walk_at "fn";ac_nf;walk_at "fn";ac_nf;refine t_no (by lia) ?_;ac_nf;refine z3T ?_;ac_nf;refine t_no (by lia) ?_;ac_nf;exact q _ _ (by rw[Int.gcd_comm];exact Pl.low e)
theorem Gd.mul {W m:Int}{n:Nat}{sh:List Sh}(h:Gd W n sh):Gd (W*m) n sh:=⟨λs a=>⟨(h.each s a).1.mul,(h.each s a).2⟩,h.up,h.few⟩
def Gd.le1 {W:Int}{n:Nat}{sh:List Sh}(h:Gd W n sh)(b:0<W)(o:sw (λ_=>1) W sh<=W):∀s∈sh,s.2.1<=s.2.2:=λs i=>by
 obtain⟨A,C,rfl⟩:=List.append_of_mem i;rw[z7Y] at o;have j:=zaV (l:=A) b λd a=>(h.each d (by simp[a])).1;have m:=zaV (l:=C) b λd a=>(h.each d (by simp[a])).1;have g:=(h.each s (by simp)).1;have e:=z8f g.dv;have k:pt W s<=W:=by lia
 have f:=wp k (wz g.bot);rw[<- e,wS W] at f;exact vi f b
def zj4 {W a b:Int}(o:0<W)(f:0<a)(g:a<=b){n:Nat}{l ys:List Sh}(w:ys.length=l.length)(h:∀(i:Nat) h,∃y,ys[i]? = some y/\Tms a b l[i] y)(G:Gd W n l)(le:∀s∈l,s.2.1<=s.2.2):Gd (W*b) n ys:=by
 have d:∀i (e:i<l.length),Tms a b l[i] (ys[i]'(by lia)):=λi e=>by
  simp_all
 refine⟨λy p =>?_,?_,by have:=G.few;lia⟩
 .obtain⟨i,e,rfl⟩:=ud p;have t:=d i (by lia);have m:=u9 (show i<l.length by lia);refine⟨(zbO o f g (G.each _ m).1 (le _ m) t).1,?_⟩;have c:=t.2.cop;rw[gcd0] at c;exact c
 .rw[vk];intro i j e r q;have u:=vk.mp G.up i j (by lia) (by lia) q;rw[(d i (by lia)).1,(d j (by lia)).1];exact u
theorem z7b {W r p:Int}{a b:Sh->Int}:∀l:List Sh,(l.map λs=>(r*a s+p*b s)*pt W s).sum=r*(l.map λs=>a s*pt W s).sum+p*(l.map λs=>b s*pt W s).sum
 | []=>by simp
 | s::l=>by
  have d:=z7b (W:=W) (r:=r) (p:=p) (a:=a) (b:=b) l;rw[wA,wQ,d,wA,wQ,wA,wQ]
  grind
theorem z7c {W c:Int}{a:Sh->Int}:∀l:List Sh,(l.map λs=>(a s+c)*pt W s).sum=(l.map λs=>a s*pt W s).sum+c*sw (λ_=>1) W l
 | []=>by simp[sw]
 | s::l=>by
  have b:=z7c (W:=W) (c:=c) (a:=a) l;rw[wA,wQ,b,wA,wQ,z9e]
  grind
def ziz {W:Int}{h:List P}{sh g:List Sh}{x:List P × P}(one:sw (λ_=>1) W sh=W)(f:Flw W h sh x g):∃a:Sh->P,(∀s∈sh,Top (· ∈ tr x) (stq h s) (a s))/\cX W (x,g)=(sh.map λs=>(a s).1*pt W s).sum/\cY W (x,g)=(sh.map λs=>(a s).2*pt W s).sum:=by
 obtain⟨a,d,e,i,b⟩:=f;refine⟨λs=>mv x.2 _,λs j=>zg3 (d s j),?_,?_⟩
 .show sw _ W g+x.2.1*sw _ W g=(sh.map λs=>((a s).1+x.2.1)*pt W s).sum;rw[e,b,z7c,one]
 .show sw _ W g+x.2.2*sw _ W g=(sh.map λs=>((a s).2+x.2.2)*pt W s).sum;rw[i,b,z7c,one]
def Two (b d:P->Prop)(r p:Int)(q:P):Prop:=∃a,b a/\∃c,d c/\q=Geo.pl (Geo.sca r a) (Geo.sca p c)
def zas (st v:P)(r:Int):ky st (Geo.sca r v)=Geo.sca r (ky st v):=by
 simp[ky,Geo.sca,dot,rt,Prod.mk.injEq]
 grind
def zd0 {a b:P}{r:Int}(d:0<r)(h:LxG a b):LxG (Geo.sca r a) (Geo.sca r b):=by
 rcases h with h | ⟨h,k⟩
 .exact .inl (u6 h d)
 .exact .inr ⟨by show a.1*r=b.1*r;rw[h],wp k (wz d)⟩
def zh2 {b d:P->Prop}{st a c:P}{r p:Int}(j:0<r)(i:0<p)(h:Top b st a)(k:Top d st c):Top (Two b d r p) st (Geo.pl (Geo.sca r a) (Geo.sca p c)):=by
 refine⟨⟨a,h.1,c,k.1,rfl⟩,λq e =>?_⟩;obtain⟨u,f,v,g,rfl⟩:=e;rw[zbr,zbr,zas,zas,zas,zas];exact z9E (zd0 j (h.2 u f)) (zd0 i (k.2 v g))
def zfv {o s:P->Prop}{h d R:List P}{r p:Int}(y:0<r)(w:0<p)(l:z03 o h)(j:z03 s d)(x:z03 (λq=>∃a∈h.map (Geo.sca r),∃c∈d.map (Geo.sca p),q=Geo.pl a c) R):z03 (Two o s r p) R:=by
 refine zdi x (λq m =>?_) λq m b =>?_
 .obtain⟨t,e,u,f,rfl⟩:=x.sub q m;obtain⟨a,g,rfl⟩:=we.mp e;obtain⟨c,i,rfl⟩:=we.mp f;exact⟨a,l.sub a g,c,j.sub c i,rfl⟩
 .obtain⟨a,g,c,i,rfl⟩:=m;obtain⟨t,e,le1⟩:=l.far (l.in g) b;obtain⟨u,f,n⟩:=j.far (j.in i) b;refine⟨Geo.pl _ _,⟨_,ur e,_,ur f,rfl⟩,?_⟩;have z:=wT le1 (wz y);have A:=wT n (wz w);simp only[dot,Geo.sc,Geo.pl,Geo.sca] at*
  grind
theorem zaM {W r:Int}:∀{l:List ((List P × P) × List Sh)},(∀p∈l,Gd W p.1.1.length p.2)->(l.map (cX (W*r))).sum=r*(l.map (cX W)).sum/\(l.map (cY (W*r))).sum=r*(l.map (cY W)).sum
 | [],_=>by simp
 | p::l,h=>by
  obtain⟨e,f⟩:=zaM (l:=l) λq b=>h q (by simp[b]);have a  := λs d=>((h p (by simp)).each s d).1.dv;rw[wA,wQ,e,wA,wQ,wA,wQ,f,wA,wQ];simp[cX,cY];rw[z5j a,z5j a,z5j a]
  grind
def zc2 {ws0:List (List P × P)}{w:List P × P}{R h d:List P}{sh:List Sh}{g:List (List Sh)}{last i:List Sh}{W p r x y t u v t':Int}(L:LedW R u v t' W sh)(X:0<t')(pl:Pl (x*r) (y*r) t u v t')(pc:Pc x y t)(z:0<p)(A:0<r)
  (J:z03 (MS ws0) h) (I:z03 (· ∈ tr w) d) (Y:z03 (λq=>∃a∈h.map (Geo.sca r),∃c∈d.map (Geo.sca p),q=Geo.pl a c) R)
  (m:g.length=ws0.length) (o:∀q∈ws0.zip g,Flw W R sh q.1 q.2/\Gd W q.1.1.length q.2) (b:Flw W R sh w last) (j:∀f,sw f (W*r) i=p*sw f W last):
  Pl (((ws0.zip g).map (cX (W*r))).sum+cX (W*r) (w,i)) (((ws0.zip g).map (cY (W*r))).sum+cY (W*r) (w,i)) (W*r) x y t:=by
 obtain⟨Φ,K,M,N⟩:=zdt L.one m λq l=>(o q l).1;obtain⟨φ,F,G,H⟩:=ziz L.one b;have n:=zfv A z J I Y;have eq:∀s∈sh,Geo.pl (Geo.sca r (Φ s)) (Geo.sca p (φ s))=Geo.cy R s.1:=λs e=>zj3 n (L.gd.each s e).1.ix (zh2 A z (K s e) (F s e));obtain⟨O,Q⟩:=zaM (r:=r) λq l=>(o q l).2;have Z:cX (W*r) (w,i)=p*cX W (w,last):=by
  simp only[cX];rw[j,j]
  grind
 have z2:cY (W*r) (w,i)=p*cY W (w,last):=by
  simp only[cY];rw[j,j]
  grind
 have T:r*((ws0.zip g).map (cX W)).sum+p*cX W (w,last)=sw (wx R) W sh:=by
  rw[M,G, <- z7b];exact congrArg List.sum (uv λs e=>by rw[show wx R s.1=(Geo.cy R s.1).1 from rfl, <- eq s e];simp only[Geo.pl,Geo.sca];rw[wS r,wS p])
 have U:r*((ws0.zip g).map (cY W)).sum+p*cY W (w,last)=sw (wy R) W sh:=by
  rw[N,H, <- z7b];exact congrArg List.sum (uv λs e=>by rw[show wy R s.1=(Geo.cy R s.1).2 from rfl, <- eq s e];simp only[Geo.pl,Geo.sca];rw[wS r,wS p])
 have fin:∀{S x u:Int},S*t'=W*u->u*t=x*r*t'->x*(W*r)=S*t:=λ{S x u} C E=>by
  apply w9 (show t'≠0 by omega)
  calc x*(W*r)*t'=W*(x*r*t'):=by grind
   _=W*u*t:=by rw[<- E];grind
   _=S*t*t':=by rw[<- C];grind
 refine⟨pc.pos,pc.cop,?_,?_⟩
 .rw[O,Z,T];exact fin L.ex pl.cx
 .rw[Q,z2,U];exact fin L.ey pl.cy
def zek {ws ws0:List (List P × P)}{w:List P × P}{h d:List P}{x y t p r:Int}{Q:DK}{X:XP}(hw:∀x∈ws,Wt4 x)(hz:ws.length<=12)(J:ws=ws0++[w])(hh:z03 (MS ws0) h)(hd:z03 (· ∈ tr w) d)(T:Twh h d)(zl:(Geo.rd h).length+(Geo.rd d).length<=61)
  (pd:Pd x y t) (p0:0<p) (pr:p<=r) (a5:Int.gcd p r=1) (U:Bt 434 p) (C:Bt 434 r) (f:Fits p r (lims h d x y t)) (q:∀co g W,0<W->Bt 1840 W->co.length=ws0.length->(∀p∈ws.zip (co++[g]),Gd W p.1.1.length p.2)->(∀g'∈co,sw one W g'=W)->Pl (sw one W g) 0 W p 0 r->Pl ((ws.zip (co++[g])).map (cX W)).sum ((ws.zip (co++[g])).map (cY W)).sum W x y t->Q (.tup ((co++[g]).map shsD))):z1B.run [.tup (ws.map wtD),vecs h,.tup [.int p,.int r],pcD x y t] Q X:=by
 have Z:0<r:=by lia
 have nh:=z14 T.xh;have nd:=z14 T.xd;have pc:=pd.pc;have b1:=pd.bx;have b2:=pd.bY;have b3:=pc.bt;have t0:=pc.pos;have I:Wt4 w:=hw w (by rw[J];simp);have ew:atI (ws.map wtD) (-1)=some (wtD w):=by
  have e:=zfW (l:=ws.map wtD) (k:=0) (by rw[J];simp);rw[show (((0:Nat):Int) - 1) = -1 by decide] at e;rw[e,wV (by rw[J];simp),J];simp
 walk_at "fn";ac_nf;refine z0P ew ?_;ac_nf;refine z6R I.wb.le I.vb.le (by have:=I.len;lia) λd' x' =>?_;obtain rfl:d'=d:=(x'.is (by simpa using I.ne)).unique hd;refine z0s (Safe.of_noL (z1m _) (z1n _) _) ?_;ac_rfl;ac_nf;refine z5n T.bh T.zh C.le ?_;ac_nf;refine z5n T.bd T.zd U.le ?_;ac_nf;have w1:Wb 600 (h.map (Geo.sca r)):=λv hv=>by
  obtain⟨u,hu,rfl⟩:=we.mp hv;exact⟨Bt.le (Bt.mul (T.bh u hu).1 C),Bt.le (Bt.mul (T.bh u hu).2 C)⟩
 have w2:Wb 600 (d'.map (Geo.sca p)):=λv hv=>by
  obtain⟨u,hu,rfl⟩:=we.mp hv;exact⟨Bt.le (Bt.mul (T.bd u hu).1 U),Bt.le (Bt.mul (T.bd u hu).2 U)⟩
 have y1:=zgh h r;have y2:=zgh d' p;refine z87 w1 w2 (z03.sca Z T.xh) (z03.sca p0 T.xd) (by rw[wd];exact T.zh) (by rw[wd];exact T.zd) (by lia) λR xR zR =>?_;have nR:=z14 xR;have lR:=zjD R;have bR:Wb 600 R:=λv hv=>by
  obtain⟨a,ha,c,hc,rfl⟩:=xR.sub v hv;obtain⟨u,hu,rfl⟩:=we.mp ha;obtain⟨u',a1,rfl⟩:=we.mp hc;exact⟨Bt.le (Bt.add (Bt.mul (T.bh u hu).1 C) (Bt.mul (T.bd u' a1).1 U)),Bt.le (Bt.add (Bt.mul (T.bh u hu).2 C) (Bt.mul (T.bd u' a1).2 U))⟩
 have a7:=zes T.xh T.xd Z p0 t0 xR (zfE nh nd f);refine z0s (Safe.of_noL (z1m _) (z1n _) _) ?_;ac_rfl;ac_nf;have a8:∀{Q:DK}{X:XP},(∀u v t',Pl (x*r) (y*r) t u v t'->Q (pcD u v t'))->z2q.run [pcD x y t,.tup [.int r,.int 1]] Q X:=λ{Q X} k=>by
  walk_at "fn";ac_nf;rw[Int.mul_one];exact z6v t0 b3.le k
 refine a8 λu v t' pl =>?_;have O:Pc u v t':=pl.pc t0 b3 (Bt.le (Bt.mul b1 C)) (Bt.le (Bt.mul b2 C));ac_nf;refine z84 nR (by lia) bR O (λb _ _ a0 =>?_) λsh W L =>?_
 .exfalso
  obtain⟨c,hc,le⟩:=a7 b;have k:=a0 c hc;have e:dot (u,v) b*t=dot (x*r,y*r) b*t':=by
   have e1:=pl.cx;have e2:=pl.cy;simp only[dot]
   grind
  have k1:=u6 k t0;have k2:=wp le (wz O.pos);rw[e] at k1
  grind
 ac_nf;refine⟨by rw[wd];exact szl' (by lia),?_⟩;refine z4P (f:=wtD) (g:=shsD) (P:=λx gs=>Flw W R sh x gs/\Gd W x.1.length gs) (λx hx K hK =>?_) λys m hy =>?_
 .ac_nf;refine zb2 (hw x hx) bR nR L.pos L.bt L.gd L.one λgs φ k1 k2 k3 k4 k5 =>?_;exact hK gs ⟨⟨φ,k1,k3,k4,k5⟩,k2⟩
 have a2:ys≠[]:=λz=>by rw[z,J] at m;simp at m
 obtain⟨yl,last,rfl⟩:Ee2 λyl last=>ys=yl++[last]:=⟨ys.dropLast,ys.getLast a2,(List.dropLast_concat_getLast a2).symm⟩
 have N:yl.length=ws0.length:=by rw[J] at m;simpa using m
 have o:∀p∈ws.zip (yl++[last]),Flw W R sh p.1 p.2/\Gd W p.1.1.length p.2:=λp hp=>by
  obtain⟨i,hi,e⟩:=ud hp;rw[uC] at hi;obtain⟨y,ey,k⟩:=hy i (by lia);rw[jb] at e;rw[wn (by lia)] at ey;rw[<- e,w5 ey];exact k
 have ez:∀g,ws.zip (yl++[g])=ws0.zip yl++[(w,g)]:=λg=>by rw[J,List.zip_append N.symm];rfl
 rw[ez] at o;obtain⟨hF,hG⟩:=o (w,last) (by simp);have j:sw (λ_=>1) W last=W:=by obtain⟨_,_,_,_,k⟩:=hF;exact k
 have M:∀s∈last,Aa3 (0<s.2.2) (Bt 3000 s.2.1) (Bt 3000 s.2.2):=λs Y=>by
  obtain⟨ss,_⟩:=hG.each s Y;obtain⟨c1,c2⟩:=ss.bits L.pos L.bt;exact⟨ss.bot,c1.le,c2.le⟩
 have a9:last.length<=3:=hG.few;ac_nf;refine z22 (λz hz=>by obtain⟨g,_,rfl⟩:=we.mp hz;exact Safe.of_noL (zao g) (zap g) _) ?_;ac_rfl;ac_nf;refine zhb (z0O rfl ?_);unfold popL;rw[wD,wC,wd];simp only[wA,uT,wU,uc,Nat.zero_add,Nat.add_sub_cancel];rw[wX (by simp),wd,Nat.sub_self];simp only[jz,List.dropLast_concat];ac_rfl;ac_nf;refine z5x (l:=[]) (z0O rfl ?_);ac_nf;refine⟨by rw[wd];exact szl' (by lia),?_⟩;refine z4P (f:=shD) (g:=shD) (P:=Tms p r) (λs Y K hK =>?_) λzs a3 a4 =>?_
 .obtain⟨c0,c1,c2⟩:=M s Y;refine⟨rfl,?_⟩;unfold z0m z0m z0m;ac_rfl;ac_nf;refine zhd c0 Z c1 c2 U.le C.le λu w pl =>?_;ac_nf;exact hK (s.1,u,w) ⟨rfl,pl⟩
 ac_nf;have yz:yl.length<=12:=by simp at m;lia
 refine⟨by rw[wd];exact szl' (by lia),Safe.of_noL (zao zs) (zap zs) _,?_⟩;ac_rfl;ac_nf;rw[show yl.map shsD++[.tup (zs.map shD)]=(yl++[zs]).map shsD by simp];have le1:=hG.le1 L.pos (Int.le_of_eq j);have gz:=zj4 L.pos p0 pr a3 a4 hG le1;have zk:=(z9c L.pos p0 pr a3 a4 λs Y=>⟨(hG.each s Y).1,le1 s Y⟩).2;refine q yl zs (W*r) (wW L.pos Z) (Bt.le (Bt.mul L.bt C)) N (λp hp =>?_) (λg' a6 =>?_) ⟨Z,by rw[gcd0];exact a5,by rw[zk,j];grind,by simp⟩ ?_
 .rw[ez] at hp
  rcases wG.mp hp with z | z
  .exact(o p (by simp[z])).2.mul
  .rw[wg.mp z];exact gz
 .obtain⟨i,hi,e⟩:=ud a6;have hm:(ws0[i]'(by lia),g')∈ws0.zip yl:=wv (i:=i) (by rw[wn (by rw[uC];lia),jb,e]);obtain⟨⟨_,_,_,_,k⟩,G⟩:=o _ (vE _ hm);rw[z5j λs h=>((G.each s h).1).dv];exact congrArg (· * r) k
 .rw[ez,wD,u5,wD,u5];simp only[wA,uT,wQ,jr,ux];exact zc2 L O.pos pl pc p0 Z hh hd xR N (λq hq=>o q (vE _ hq)) hF zk
def Fb (ws:List (List P × P))(w:List P × P)(x y t:Int)(j:Nat)(p r:Int)(b:P):Prop:=∀F G,Geo.Far (MS (ws.take j)) b F->Geo.Far (· ∈ tr w) b G->(dot (x,y) b - t*F)*r<=p*(t*G)
structure Brd (ws:List (List P × P))(x y t:Int)(j:Nat)(bs:List P):Prop where
 ne:bs≠[]
 few:bs.length<=2
 nz:(0,0) ∉ bs
 vb:Wb 166 bs
 no:∀w,ws[j]? = some w->∀p r,0<=p->p<=r->0<r->¬ ∀b∈bs,Fb ws w x y t j p r b
def zgG {h d:List P}{x y t:Int}{s:P × P}(b:z03 (· ∈ h) h)(a:z03 (· ∈ d) d)(k:0<(lim h d x y t s).2.1\/(lim h d x y t s).2.2<(lim h d x y t s).2.1):s.1≠(0,0):=λz=>by
 have e:∀{l:List P},z03 (· ∈ l) l->sup l _=0:=λ{l} f=>by
  obtain⟨_,p,_,e⟩:=z4W f (0,0);rw[<- e];simp[Geo.sc]
 simp only[lim,z,e b,e a,dot] at k;simp at k
def zm8 {ws:List (List P × P)}{w:List P × P}{h d:List P}{x y t:Int}{k:Nat}{f:List Lm}(j:ws[k]? = some w)(A:z03 (MS (ws.take k)) h)(u:z03 (· ∈ tr w) d)(T:Twh h d)(ne:f≠[])(n:f.length<=2)(sub:∀m∈f,m∈lims h d x y t/\(0<m.2.1\/m.2.2<m.2.1))(F:∀p q,0<=p->p<=q->0<q->¬ Fits p q f):Brd ws x y t k (f.map (·.1)):=by
 refine⟨by simpa using ne,by simp_all,λz =>?_,λb o =>?_,λw' g p r G H I l=>F p r G H I λm a =>?_⟩
 .obtain⟨m,a,e⟩:=we.mp z;obtain⟨C,E⟩:=sub m a;obtain⟨s,i,rfl⟩:=we.mp C;exact zgG T.xh T.xd E e
 .obtain⟨m,a,rfl⟩:=we.mp o;obtain⟨s,i,rfl⟩:=we.mp (sub m a).1;exact T.vb (s:=s) i
 .obtain rfl:w=w':=w5 (j.symm.trans g);have e:=l m.1 (we.mpr ⟨m,a,rfl⟩);obtain⟨s,i,rfl⟩:=we.mp (sub m a).1;exact e _ _ (z4W A s.1) (z4W u s.1)
structure AtR (ws:List (List P × P))(x y t:Int)(k:Nat)(p r W:Int)(co:List (List Sh))(g:List Sh)(bars:List (List P))(b:P):Prop where
 p0:0<p
 pr:p<=r
 cop:Int.gcd p r=1
 bp:Bt 434 p
 br:Bt 434 r
 W0:0<W
 bW:Bt 1840 W
 hk:k<ws.length
 lc:co.length=k
 gd:∀q∈ws.zip (co++[g]),Gd W q.1.1.length q.2
 all:∀g'∈co,sw one W g'=W
 lst:Pl (sw one W g) 0 W p 0 r
 pl:Pl ((ws.zip (co++[g])).map (cX W)).sum ((ws.zip (co++[g])).map (cY W)).sum W x y t
 lb:bars.length=k
 brd:∀j bs,bars[j]? = some bs->Brd ws x y t j bs
 nz:b≠(0,0)
 vb:Vb 166 b
 at':∀w,ws[k]? = some w->∀F G,Geo.Far (MS (ws.take k)) b F->Geo.Far (· ∈ tr w) b G->0<t*G/\(dot (x,y) b - t*F)*r=p*(t*G)
theorem z9X {d e:Type}:∀{l:List d}{m:List e}{n:Nat},m.length<=n->(l.take n).zip m=l.zip m
 | [],_,_,_=>by simp
 | _::_,[],_,_=>by simp
 | a::l,b::m,n+1,h=>by
  rw[List.take_succ_cons,uy,uy,z9X (by simpa using h)]
def zb1 {ws:List (List P × P)}{x y t:Int}{Q:DK}{X:XP}(hw:∀x∈ws,Wt4 x)(hz:ws.length<=12)(ht:tl ws<=60)(pd:Pd x y t)(q0:x=0->y=0->t=1->Q (atD 0 1 [] []))
  (q1:∀k p r W co g i b u v,AtR ws x y t k p r W co g i b->Pl (k*r+p*1) 0 (1*r) u 0 v->Q (atD u v ((co++[g]).map shsD) ((i++[[b]]).map vecs)))
  (q2:(x,y)≠((0:Int),(0:Int))->∀i:List (List P),i.length=ws.length->(∀j bs,i[j]? = some bs->Brd ws x y t j bs)->Q (nvD (i.map vecs))):z4M.run [.tup (ws.map wtD),pcD x y t] Q X:=by
 have pc:=pd.pc;have t0:=pc.pos;walk_at "fn";ac_nf;refine zib (l:=[.int x,.int y,.int t]) (r:=[.int 0,.int 0,.int 1]) (Da3 x y t) (Da3 0 0 1) ?_;rw[show deq (.tup [.int x,.int y,.int t]) (.tup [.int 0,.int 0,.int 1])=decide (x=0/\y=0/\t=1) from deq3 x y t 0 0 1];refine z0K (λz =>?_) (λz =>?_)
 .ac_nf;exact q0 z.1 z.2.1 z.2.2
 have ne:(x,y)≠((0:Int),(0:Int)):=λe=>by
  have e1:=congrArg Prod.fst e;have e2:=congrArg Prod.snd e;dsimp only at e1 e2;have c:=pc.cop;rw[e1,e2] at c;simp at c;exact z ⟨e1,e2,by omega⟩
 ac_nf;refine z22 (λx hx=>by cases hx) ?_;ac_rfl;ac_nf;rw[wd];refine z60 (by lia) (by lia) ?_;rw[show (ws.length:Int).toNat=ws.length by simp];refine z0n (f:=λ(j:Nat)=>D.int j) (λJ ρ=>Ee9 λh i (x4 x5 x6 x7 x8 x9 U:B)=>Aa6 (z03 (MS (ws.take J.length)) h) ((Geo.rd h).length<=tl (ws.take J.length)) (i.length=J.length) (∃b,t*sup h b<dot (x,y) b) (∀j bs,i[j]? = some bs->Brd ws x y t j bs) (ρ=[.s (.tup (ws.map wtD)),.s (pcD x y t),.o (.lst (i.map vecs)),.s (vecs h),x4,x5,x6,x7,x8,x9,U])) ⟨[(0,0)],[],_,_,_,_,_,_,_,zlz,by simp[Geo.rd],rfl,⟨(x,y),?_⟩,λj bs O=>by simp at O,rfl⟩ ?_ ?_
 .have:=z5k ne;simp only[sup,dot];dsimp only at this;omega
 .rintro J k0 rr ρ e ⟨h,i,x4,x5,x6,x7,x8,x9,U,N,a2,L,⟨b,hb⟩,q,rfl⟩;have le:=congrArg List.length e;rw[v6,wC,wU] at le;have hi:J.length<ws.length:=by lia
  obtain rfl:k0=J.length:=by
   have:=congrArg (λl=>l[J.length]?) e;simp only[List.getElem?_range hi] at this;simpa using this.symm
  generalize hk:J.length=k at*;obtain⟨w,C⟩:∃w,ws[k]? = some w:=⟨_,wn hi⟩
  have wx:Wt4 w:=hw w (wv C);have tn:tr w≠[]:=λz=>wx.ne (List.map_eq_nil_iff.mp z);have b1:(tr w).length=w.1.length:=by unfold tr;rw[wd]
  have t1:tl (ws.take (k+1))=tl (ws.take k)+w.1.length:=by
   rw[jT,C];exact z5O _ _
  have t2:=zbP ws (k+1);have wl:=wx.len;have h1:=zjD h;have a0:Wb 165 h:=λp hp=>by
   obtain⟨c1,c2⟩:=zig (λd hd=>by obtain⟨x,hx,rfl⟩:=we.mp hd;exact zbM (hw x (vF hx))) (N.sub p hp);rw[wd,vA] at c1 c2;exact⟨Bt.le c1 (by lia),Bt.le c2 (by lia)⟩
  show Sm.run _ _ _ _ _;ac_rfl;ac_nf;refine z0P (z0G ((z6q hi).trans C)) ?_;ac_nf;refine z6R wx.wb.le ⟨wx.vb.1.le,wx.vb.2.le⟩ (by lia) λd hd =>?_;have I:z03 (· ∈ tr w) d:=hd.is tn;have yl:=z2h I.nodup I.sub;have h2:(Geo.rd d).length<=w.1.length:=zet λ_=>by lia
  have T:Twh h d:=⟨z83 N,z83 I,a0,λp hp=>⟨(zbM wx p (I.sub p hp)).1.le,(zbM wx p (I.sub p hp)).2.le⟩,by lia,by lia⟩
  refine z0s (Safe.of_noL (z1m _) (z1n _) _) ?_;ac_rfl;ac_nf;refine z9k T pc ?_;ac_rfl;ac_nf;have nh:=z14 T.xh;have nd:=z14 T.xd;have bm:∀m∈lims h d x y t,Bt 1400 m.2.1/\Bt 432 m.2.2:=λm K=>by
   obtain⟨s,R,rfl⟩:=we.mp K;have vb:=T.vb R;exact⟨Bt.le (Bt.sub (Bt.add (Bt.mul pd.bx vb.1) (Bt.mul pd.bY vb.2)) (Bt.mul pd.bt (za3 nh T.bh vb))),Bt.le (Bt.mul pd.bt (za3 nd T.bd vb))⟩
  have bt:∀m∈lims h d x y t,Bt 1400 m.2.1/\Bt 1400 m.2.2:=λm K=>⟨(bm m K).1,(bm m K).2.le⟩
  have ex:∃m∈lims h d x y t,0<m.2.1:=by
   obtain⟨s,R,k⟩:=zf7 T.xh t0 hb;exact⟨_,we.mpr ⟨s,vE _ R,rfl⟩,by simp only[lim];omega⟩
  refine zch bt ex (λbs ne a5 sub nf =>?_) λnb Z =>?_
  .have bk:=zm8 C N I T ne a5 sub nf;have no:=bk.no w C 1 1 (by decide) (by decide) (by decide);generalize bs.map (·.1)=bs at bk no ⊢;refine z0s (Safe.of_noL (z1m _) (z1n _) _) ?_;ac_rfl;ac_nf;refine z5P rfl ?_;ac_nf;refine z5x (l:=[]) (z0O rfl ?_);ac_nf;refine⟨by rw[wd];exact szl' (by lia),Safe.of_noL (z1m _) (z1n _) _,?_⟩;ac_rfl;ac_nf;refine z87 a0.le T.bd.le T.xh T.xd T.zh T.zd (by lia) λh' a7 b0 =>?_;refine z0s (Safe.of_noL (z1m _) (z1n _) _) ?_;ac_rfl;have a1:z03 (MS (ws.take (k+1))) h':=by
    rw[jT,C];show z03 (Ms ((ws.take k++[w]).map tr)) h';rw[wD];exact zfk N I a7
   have a8:∃b,t*sup h' b<dot (x,y) b:=by
    by_cases c:∃b,t*sup h' b<dot (x,y) b
    .exact c
    .refine absurd (λb _ F G f1 f2 =>?_) no;have h3:¬ t*sup h' b<dot (x,y) b:=λz=>c ⟨b,z⟩;obtain⟨m1,u,hu,eu⟩:=zfF C f1 f2;obtain⟨m2,v,hv,ev⟩:=z4W a1 b;have e:sup h' b=F+G:=Int.le_antisymm (by rw[<- ev];exact m1 v hv) (by rw[<- eu];exact m2 u hu);rw[e,Int.mul_add] at h3;omega
   rw[wC,vh,hk];refine⟨h',i++[bs],_,_,_,_,_,_,_,a1,by lia,by simp[L],a8,λj a3 O =>?_,by rw[wD];rfl⟩
   rcases wR j k with z | z
   .rw[wH (by lia)] at O;exact q j a3 O
   .obtain⟨z',_⟩:=wt.mp O;rw[wC,vh,L] at z';obtain rfl:j=k:=by lia
    rw[<- L,List.getElem?_concat_length] at O;rw[<- w5 O];exact bk
  .ac_nf;refine z2X rfl ?_;ac_nf;refine zjt bt (λm K z=>by have:=nb m K z;lia) (λz =>?_) λf Y f0 bf =>?_
   .exfalso
    obtain⟨m,K,z'⟩:=ex;have:=z m K;lia
   ac_nf;have f1:=nb f Y f0;refine zjr f0 f1 (bm f Y).2 λp r p0 pr M c bp br =>?_;ac_nf;have a6:=(Z f Y f0 bf).low c;rw[z8Q (by lia),show ((k:Int)+1).toNat=k+1 by lia];refine zek (ws0:=ws.take k) (λx hx=>hw x (vF hx)) (by rw[vA];lia) (by rw[jT,C];rfl) N I T (by lia) pd p0 pr M bp br a6 λco g W W0 bW lc gd all lst pl =>?_;rw[vA,Nat.min_eq_left (by lia)] at lc;rw[z9X (l:=ws) (m:=co++[g]) (n:=k+1) (by rw[wC,vh];lia)] at gd pl;refine z0s (Safe.of_noL (zcR _) (zcS _) _) ?_;ac_rfl;ac_nf;refine z9l (by decide) (by lia) (by simp) M (Bt.le (m:=64) (z05 (by omega))) (Bt.le (m:=1) (z05 (by decide))) bp.le br.le λu v a9 =>?_;ac_nf;refine zam (by simp[L];exact uN (szl' (by lia))) ?_;ac_nf;rw[show i.map vecs++[.tup [vec f.1]]=(i++[[f.1]]).map vecs by simp];refine q1 k p r W co g i f.1 u v ⟨p0,pr,M,bp,br,W0,bW,hi,lc,gd,all,lst,pl,L,q,?_,?_,λw' a4 F G e1 e2 =>?_⟩ a9
   .obtain⟨s,R,rfl⟩:=we.mp Y;exact zgG T.xh T.xd (.inl f0)
   .obtain⟨s,R,rfl⟩:=we.mp Y;exact T.vb (s:=s) R
   .obtain rfl:w=w':=w5 (C.symm.trans a4);obtain⟨c,c0,k1,k2⟩:=c;obtain⟨s,R,rfl⟩:=we.mp Y;rw[z8K e1 (z4W N s.1),z8K e2 (z4W I s.1)];simp only[lim] at k1 k2 f0 f1;refine⟨by lia,?_⟩;show (dot (x,y) s.1 - t*sup h s.1)*r=p*(t*sup d s.1);rw[k1,k2]
    grind
 rintro ρ ⟨h,i,x4,x5,x6,x7,x8,x9,U,N,a2,L,hb,q,rfl⟩;ac_nf;exact q2 ne i (by simpa using L) q
open PySem.Spec PyProof.Rows
def Ex.chain (F h:Fn)(a b c:Ex):Ex:=⟨λe Q X=>a.run e (λx=>b.run e (λy=>F.run [x,y] (λd=>tst d (c.run e (λz=>h.run [y,z] Q X) X) (Q (.bl false))) X) X) X,λe Q i X f m g q=>a.mono e _ _ X f (λx q=>b.mono e _ _ X f (λy q=>F.mono _ _ _ X f (λd q=>z2I (λq=>c.mono e _ _ X f (λz q=>h.mono _ Q i X f m g q) g q) (m _) q) g q) g q) g q⟩
section
variable {X:Cx}{E:XK}{a b c o e:Expr}{x y z:Ex}{pos apos cpos:Pos}
def ze3 (lk:Lk2 X.K X.mg F r)(o:Lk2 X.K X.mg F' r')(h:tx X.K X.mg E (.chain F F' x y z) σ H Q):zbU r r' (tx X.K X.mg E x) (tx X.K X.mg E y) (tx X.K X.mg E z) σ H Q:=by
 obtain⟨G,s,T,a,Z,m,Y,A,n⟩:=h;refine⟨G,s,_,a,Z,m,Y,λd v L H1 q g W g3 rd =>?_,n⟩;refine⟨L,s,_,a,W,m.same g.1,q,λw J M O q2 i k2 e f =>?_,n.same g3⟩;refine lk M O d w v J _ a _ k2 (rd.same i.1) f q2 λb u t R q3 j C l rb =>?_;obtain⟨k,rfl,q4,q5⟩:=z5N q3;refine⟨k,rb,?_⟩
 cases k with
 | true=>
  refine iteT ⟨t,s,_,a,C,(m.same g.1).same (z02 i.1 j.1),q4 rfl,λU v3 N S q6 I m2 m3 p =>?_,n.same (z02 g3 (z02 e l))⟩;exact o N S w U J v3 T a Q m2 (f.same (z02 j.1 I.1)) p q6 (A.same ((g.trans g3 i).trans (z02 g3 e) (j.trans l I)) (z02 g3 (z02 e (z02 l m3))))
 | false=>exact iteF (A _ _ t R (q5 rfl) ((g.trans g3 i).trans (z02 g3 e) j) C (z02 g3 (z02 e l)) (by rw[RD]))
def zcn {op d:CmpOp}(m:OpR X (compareOp op) r)(e:OpR X (compareOp d) r')(n:Lk2 X.K X.mg F r)(f:Lk2 X.K X.mg F' r')(g:QX X E a x)(i:QX X E b y)(j:QX X E c z)(l:autoParam (lastMarks [op,d] [b,c]=false) jE1):QXT X E (.Compare a [op,d] [b,c] pos) (.chain F F' x y z):=QT.imp (zeH m e g i j l) λ_ _ _ h=>zbL (λ_ h=>ze3 n f h) h
end
def z0p:Fn:=Fn.mkN 1 2 (.seq (.ifs (.not (.op (pIsi "tuple") [.v 0])) (.ret (.c (.bl false))) .skip)
 (.seq (.for_ [] (.nm 1) (.v 0) (.seq (.ifs (.or (.not (.op (pIsi "tuple") [.v 1])) (.not (.chain pLe pLe (.c (.int 1)) (.op pLen [.v 1]) (.c (.int 2))))) (.ret (.c (.bl false))) .skip)
 (.ifs (.not (.op pAll [.comp 1 [] (.nm 0) (.v 1) none (.op z0r [.v 0])])) (.ret (.c (.bl false))) .skip)))
 (.ret (.c (.bl true)))))
def z0f:Fn:=Fn.mkN 1 1 (.seq (.ifs (.or (.not (.op (pIsi "tuple") [.v 0])) (.or (.op pLt [.op pLen [.v 0],.c (.int 2)]) (.not (.op (pIsi "str") [.op pIx [.v 0,.c (.int 0)]])))) (.ret (.c (.bl false))) .skip)
 (.seq (.ifs (.and (.op pEq [.op pIx [.v 0,.c (.int 0)],.c (.str "never")]) (.op pEq [.op pLen [.v 0],.c (.int 2)])) (.ret (.op z0p [.op pIx [.v 0,.c (.int 1)]])) .skip)
 (.seq (.ifs (.or (.op pNe [.op pIx [.v 0,.c (.int 0)],.c (.str "at")]) (.or (.op pNe [.op pLen [.v 0],.c (.int 4)]) (.not (.op z0l [.op pIx [.v 0,.c (.int 1)]])))) (.ret (.c (.bl false))) .skip)
 (.seq (.ifs (.or (.not (.op z07 [.op pIx [.op pIx [.v 0,.c (.int 1)],.c (.int 0)]])) (.not (.op z07 [.op pIx [.op pIx [.v 0,.c (.int 1)],.c (.int 1)]]))) (.ret (.c (.bl false))) .skip)
 (.ret (.and (.op z0v [.op pIx [.v 0,.c (.int 2)]]) (.op z0p [.op pIx [.v 0,.c (.int 3)]])))))))
def z0a:Fn:=Fn.mkN 2 2 (.ret (.op pLt [.op z0b [.op pIx [.v 0,.c (.int 0)],.op pIx [.v 1,.c (.int 1)]],.op z0b [.op pIx [.v 1,.c (.int 0)],.op pIx [.v 0,.c (.int 1)]]]))
def z0M:Fn:=Fn.mkN 3 5 (.seq (.ifs (.op pGt [.op pLen [.v 1],.op pLen [.v 0]]) (.ret (.c .non)) .skip)
 (.seq (.set 3 (.op pTup [.c (.int 0),.c (.int 1)]))
 (.seq (.forr [.op pLen [.v 1]] (.nm 4) (.seq (.set 3 (.op z1E [.op pLen [.op pIx [.op pIx [.v 0,.v 4],.c (.int 0)]],.op pIx [.v 1,.v 4]]))
 (.ifs (.or (.op pIs [.v 3,.c .non]) (.or (.op pLt [.op pIx [.v 3,.c (.int 0)],.c (.int 1)]) (.or (.op z0a [.op pTup [.c (.int 1),.c (.int 1)],.v 3]) (.and (.op pNe [.v 3,.op pTup [.c (.int 1),.c (.int 1)]]) (.op pLt [.v 4,.op pSub [.op pLen [.v 1],.c (.int 1)]]))))) (.ret (.c .non)) .skip)))
 (.seq (.ifs (.op pNe [.op z0y [.v 0,.v 1],.v 2]) (.ret (.c .non)) .skip)
 (.ret (.v 3))))))
def z0W:Fn:=Fn.mkN 4 9 (.seq (.set 4 (.op pTup [.c (.int 0),.c (.int 1)]))
 (.seq (.set 5 (.op pTup [.c (.int 1),.c (.int 1)]))
 (.seq (.for_ [] (.nm 6) (.v 3) (.seq (.set 7 (.op pSub [.op z0z [.v 6,.v 2],.op z0b [.op z1q [.sl (.v 0) none (some (.v 1)),.v 6],.op pIx [.v 2,.c (.int 2)]]]))
 (.seq (.set 8 (.op z1q [.sl (.v 0) (some (.v 1)) (some (.op pAdd [.v 1,.c (.int 1)])),.v 6]))
 (.seq (.ifs (.and (.op pEq [.v 8,.c (.int 0)]) (.op pGt [.v 7,.c (.int 0)])) (.ret (.c .non)) .skip)
 (.seq (.ifs (.and (.op pGt [.v 8,.c (.int 0)]) (.op z0a [.v 4,.op pTup [.v 7,.op z0b [.op pIx [.v 2,.c (.int 2)],.v 8]]])) (.set 4 (.op z01 [.op pLst [.v 7,.op z0b [.op pIx [.v 2,.c (.int 2)],.v 8]]])) .skip)
 (.ifs (.and (.op pLt [.v 8,.c (.int 0)]) (.op z0a [.op pTup [.op pNeg [.v 7],.op z0b [.op pNeg [.op pIx [.v 2,.c (.int 2)]],.v 8]],.v 5])) (.set 5 (.op z01 [.op pLst [.op pNeg [.v 7],.op z0b [.op pNeg [.op pIx [.v 2,.c (.int 2)]],.v 8]]])) .skip))))))
 (.seq (.ifs (.op z0a [.v 5,.v 4]) (.ret (.c .non)) .skip)
 (.ret (.op pTup [.v 4,.v 5]))))))
def z0V:Fn:=Fn.mkN 3 4 (.seq (.forr [.op pLen [.v 2]] (.nm 3) (.ifs (.or (.op pLt [.op pLen [.op pIx [.v 2,.v 3]],.c (.int 1)]) (.or (.op pIn [.op pTup [.c (.int 0),.c (.int 0)],.op pIx [.v 2,.v 3]]) (.op z6X [.op z0W [.v 0,.v 3,.v 1,.op pIx [.v 2,.v 3]],.c .non]))) (.ret (.c (.bl false))) .skip))
 (.ret (.c (.bl true))))
def z12:Fn:=Fn.mkN 5 7 (.seq (.set 5 (.op z0M [.v 0,.v 3,.v 1]))
 (.seq (.ifs (.or (.op pIs [.v 5,.c .non]) (.op pNe [.op pLen [.v 4],.op pLen [.v 3]])) (.ret (.c (.bl false))) .skip)
 (.seq (.ifs (.op pEq [.op pLen [.v 3],.c (.int 0)]) (.ret (.op pEq [.v 2,.op pTup [.c (.int 0),.c (.int 1)]])) .skip)
 (.seq (.ifs (.or (.op pNe [.v 2,.op z0x [.op pTup [.op pSub [.op pLen [.v 3],.c (.int 1)],.c (.int 1)],.v 5]]) (.not (.op z0V [.v 0,.v 1,.sl (.v 4) none (some (.op pNeg [.c (.int 1)]))]))) (.ret (.c (.bl false))) .skip)
 (.seq (.set 6 (.op z0W [.v 0,.op pSub [.op pLen [.v 3],.c (.int 1)],.v 1,.op pIx [.v 4,.op pNeg [.c (.int 1)]]]))
 (.seq (.ifs (.or (.op pLt [.op pLen [.op pIx [.v 4,.op pNeg [.c (.int 1)]]],.c (.int 1)]) (.op pIn [.op pTup [.c (.int 0),.c (.int 0)],.op pIx [.v 4,.op pNeg [.c (.int 1)]]])) (.ret (.c (.bl false))) .skip)
 (.ret (.or (.op pIs [.v 6,.c .non]) (.not (.op z0a [.op pIx [.v 6,.c (.int 0)],.v 5]))))))))))
def z0h:Fn:=Fn.mkN 3 3 (.seq (.ifs (.and (.op pEq [.op pIx [.v 2,.c (.int 0)],.c (.str "at")]) (.op pEq [.op pLen [.v 2],.c (.int 4)])) (.ret (.op z12 [.v 0,.v 1,.op pIx [.v 2,.c (.int 1)],.op pIx [.v 2,.c (.int 2)],.op pIx [.v 2,.c (.int 3)]])) .skip)
 (.seq (.ifs (.and (.op pEq [.op pIx [.v 2,.c (.int 0)],.c (.str "never")]) (.op pEq [.op pLen [.v 2],.c (.int 2)])) (.ret (.and (.op pNe [.v 1,.op pTup [.c (.int 0),.c (.int 0),.c (.int 1)]]) (.and (.op pEq [.op pLen [.op pIx [.v 2,.c (.int 1)]],.op pLen [.v 0]]) (.op z0V [.v 0,.v 1,.op pIx [.v 2,.c (.int 1)]])))) .skip)
 (.ret (.c (.bl false)))))
def z6m:Fn:=Fn.mkN 1 6 (.seq (.set 1 (.op pIx [.op pLst [.c (.int 5),.c (.int 12)],.op pInt [.op pEq [.op z00 [.op z0d [.v 0,.c (.int 0)],.c (.int 97),.c (.int 16)],.c (.int 3)]]]))
 (.seq (.set 2 (.sl (.op z1d [.v 0]) none (some (.v 1))))
 (.seq (.for_ [] (.nm 3) (.sl (.op pAdd [.op pLst [.c (.int 0)],.v 0]) (some (.op pNeg [.c (.int 3)])) none) (.seq (.set 4 (.op z1X [.v 2,.v 3,.op z1P [.v 0]]))
 (.seq (.set 5 (.op z4M [.v 2,.v 4]))
 (.ifs (.or (.not (.op z0f [.v 5])) (.not (.op z0h [.v 2,.v 4,.v 5]))) (.ret (.c (.bl false))) .skip))))
 (.ret (.c (.bl true))))))
open Mth
def z3U {a b c d:Int}{Q:DK}{X:XP}(e:Bt 2000 a)(f:Bt 2000 b)(g:Bt 2000 c)(i:Bt 2000 d)(q:Q (.bl (decide (a*d<c*b)))):z0a.run [.tup [.int a,.int b],.tup [.int c,.int d]] Q X:=by
 walk_at "fn";ac_nf;exact q
def zhe {b:P}{x y t:Int}{Q:DK}{X:XP}(vb:Vb 700 b)(pc:Pc x y t)(q:Q (.int (dot (x,y) b))):z0z.run [vec b,pcD x y t] Q X:=by
 obtain⟨e,f⟩:=vb;have g:=pc.bx;have i:=pc.bY;walk_at "fn";ac_nf;rw[show b.1*x+b.2*y=dot (x,y) b by simp[dot];grind];exact q
def ziE {a:Type}(f:a->D){l:List a}{n:Nat}{w:a}(h:l[n]? = some w):cutD (l.map f) none (some n)=(l.take n).map f/\cutD (l.map f) (some n) (some (n+1))=[w].map f:=by
 obtain⟨b,e⟩:=wt.mp h;have d:HT.sIx l.length 0 none=0:=rfl;rw[z2E,z2E,z8b (by omega),z8b (by omega),z8b (by omega)];refine⟨by simp_all,?_⟩;rw[show (n:Int).toNat=n by simp,show ((n:Int)+1).toNat=n+1 by omega,Nat.min_eq_left (by omega),Nat.min_eq_left (by omega),show n+1 - n=1 by omega,uK b,e]
 rfl
def zio {g h a b f d:Int}(i:0<b)(e:0<d)(j:0<=g)(k:h*b<=a*g)(l:a*d<=f*b):h*d<=f*g:=by
 have m:=wp k (wz e);have n:=wp l j;exact vi (by grind) i
def zdc {g h e f d a:Int}(i:0<f)(b:0<a)(j:g<=0)(k:h*f<=e*g)(l:d*f<=e*a):h*a<=d*g:=by
 have m:=wp k (wz b);have n:=vD l j;exact vi (by grind) i
def lf1 {u s g v:Int}(h:u*(-s) = -g*v):g*v=u*s:=by grind
def lf2 {u f e v s g:Int}(a:u*s = -g*v)(h : -g*f*v<=e*s*v):u*f*s<=e*v*s:=by
 have b:u*f*s = -g*f*v:=by
  rw[uk,a,uk]
 have d:e*v*s=e*s*v:=uk ..
 simp_all
def lf3 {e f g s:Int}(h:e*(-s) <= -g*f):g*f<=e*s:=by
 grind
def lf4 {a b u v g s:Int}(d:u*s=g*v)(h:a*s*v<=g*b*v):a*v*s<=u*b*s:=by
 have e:u*b*s=g*b*v:=by
  rw[uk,d,uk]
 have f:a*v*s=a*s*v:=uk ..
 simp_all
def Lft (ws:List (List P × P))(w:List P × P)(x y t:Int)(k:Nat)(a b e f:Int)(c:P):Prop:=∀F G,Geo.Far (MS (ws.take k)) c F->Geo.Far (· ∈ tr w) c G->(0<G->(dot (x,y) c - t*F)*b<=a*(t*G))/\(G=0->dot (x,y) c - t*F<=0)/\(G<0->(dot (x,y) c - t*F)*f<=e*(t*G))
def zca {ws:List (List P × P)}{w:List P × P}{k:Nat}{x y t:Int}{bs:List P}{Q:DK}{X:XP}(hw:∀x∈ws,Wt4 x)(hz:ws.length<=12)(ek:ws[k]? = some w)(pd:Pd x y t)(vb:Wb 166 bs)(q0:Q .non)
  (q1:∀a b e f,0<b->0<=a->a<=b->Bt 600 a->Bt 600 b->(∀c∈bs,Fb ws w x y t k a b c)->Q (.tup [.tup [.int a,.int b],.tup [.int e,.int f]])):z0W.run [.tup (ws.map wtD),.int k,pcD x y t,vecs bs] Q X:=by
 have pc:=pd.pc;have t0:=pc.pos;have a1:=pd.bt;obtain⟨hk,_⟩:=wt.mp ek;have Y:Wt4 w:=hw w (wv ek);obtain⟨c1,c2⟩:=ziE wtD ek;walk_at "fn";ac_nf;refine z0n (f:=vec) (λdn ρ=>Ee7 λ(a b e f) (x6 x7 x8)=>0<b/\0<=a/\0<f/\e<=f/\(Bt 600 a/\Bt 600 b)/\(Bt 600 e/\Bt 600 f)/\(∀c∈dn,Lft ws w x y t k a b e f c)/\ρ=[.s (.tup (ws.map wtD)),.s (.int k),.s (pcD x y t),.s (vecs bs),.s (.tup [.int a,.int b]),.s (.tup [.int e,.int f]),x6,x7,x8]) ⟨0,1,1,1,_,_,_,by decide,by decide,by decide,by decide,⟨Bt.le (m:=1) (z05 (by decide)),Bt.le (m:=1) (z05 (by decide))⟩,⟨Bt.le (m:=1) (z05 (by decide)),Bt.le (m:=1) (z05 (by decide))⟩,(λc hc=>by cases hc),rfl⟩ ?_ ?_
 .rintro dn c r ρ e0 ⟨a,b,e,f,x6,x7,x8,i,Z,j,ef,⟨U,W⟩,⟨be,bf⟩,hd,rfl⟩;have hc:c∈bs:=by rw[e0];simp
  have R:=vb c hc;show Sm.run _ _ _ _ _;ac_rfl;ac_nf;refine zhe R.le pc ?_;ac_nf;rw[c1];refine z6Q (λx Y=>hw x (vF Y)) R.le λF hF =>?_;have fF:=z79 hF;have bF:Bt 370 F:=by
   obtain⟨_,p,hp,e⟩:=fF;have v:=zo1 (λx Y=>hw x (vF Y)) (by rw[vA];omega) hp;rw[<- e];exact Bt.le (Bt.add (Bt.mul v.1 R.1) (Bt.mul v.2 R.2))
  ac_nf;have bd:Bt 480 (dot (x,y) c):=Bt.le (Bt.add (Bt.mul pd.bx R.1) (Bt.mul pd.bY R.2));have bl:Bt 500 (dot (x,y) c - F*t):=Bt.le (Bt.sub bd (Bt.mul bF a1));rw[c2];refine z6Q (ws:=[w]) (λx Y=>by rw[wg.mp Y];exact hw w (wv ek)) R.le λG hG =>?_;have fG:Geo.Far (· ∈ tr w) c G:=by
   obtain⟨G',g⟩:=zbN Y.ne c;have M:=z7J (ds:=[]) z9K g;rw[ux] at M;rw[z8K (z79 hG) M];exact g
  have bG:Bt 370 G:=by
   obtain⟨_,p,hp,e⟩:=fG;obtain⟨u,hu,rfl⟩:=we.mp hp;have v1:=zbM Y _ hp;rw[<- e];exact Bt.le (Bt.add (Bt.mul v1.1 R.1) (Bt.mul v1.2 R.2))
  have a5:Bt 101 (-t):=Bt.le (Bt.neg a1);have a2:Bt 480 (t*G):=Bt.le (Bt.mul a1 bG);have q:Bt 480 (-t*G):=Bt.le (Bt.mul a5 bG);have a4:Bt 501 (-(dot (x,y) c - F*t)):=Bt.le (Bt.neg bl);have eF:dot (x,y) c - t*F=dot (x,y) c - F*t:=by rw[wS]
  generalize dot (x,y) c - F*t=g at*;have tG:∀{G:Int},0<G->0<t*G:=λh=>wW t0 h;have tN:G<0->t*G<0:=λh=>by
   have:=uD h t0
   rwa [jN] at this
  have C:∀{K I L J:Int},0<I->0<J->a*I<=K*b->L*f<=e*J->∀c'∈dn,Lft ws w x y t k K I L J c':=λb1 f1 h1 h2 c' a3 F' G' M k2=>by
   obtain⟨l1,l2,l3⟩:=hd c' a3 F' G' M k2;exact⟨λz=>zio i b1 (wz (tG z)) (l1 z) h1,l2,λz=>zdc j f1 (wz (by have:=uD z t0;rwa [jN] at this)) (l3 z) h2⟩
  have new:∀{K I L J:Int},(0<G->g*I<=K*(t*G))->(G=0->g<=0)->(G<0->g*J<=L*(t*G))->Lft ws w x y t k K I L J c:=λh1 h2 h3 F' G' M k2=>by
   rw[z8K M fF,z8K k2 fG,eF];exact⟨h1,h2,h3⟩
  have all:∀{K I L J:Int},(∀c'∈dn,Lft ws w x y t k K I L J c')->Lft ws w x y t k K I L J c->∀c'∈dn++[c],Lft ws w x y t k K I L J c':=λh1 h2 c' a3=>by
   rcases wG.mp a3 with z | z
   .exact h1 c' z
   .rw[wg.mp z];exact h2
  ac_nf
  rcases Int.lt_trichotomy G 0 with z | z | z
  .refine t_no (by omega) ?_;ac_nf;refine t_no (by omega) ?_;ac_nf;refine z2H z ?_;ac_nf;refine z3U (Bt.le a4) (Bt.le q) (Bt.le be) (Bt.le bf) ?_;have N:0 < -t*G:=by have:=tN z;rw[Int.neg_mul];omega
   refine z0K (λo =>?_) (λo =>?_)
   .ac_nf;refine z85 N (Bt.le q) λu v pl =>?_;refine z0s (Safe.of_noL rfl rfl _) ?_;ac_rfl;have O:=pl.pos;have e1:=pl.cx;obtain⟨c3,c4,_⟩:=pl.bt (n:=600) (m:=600) N (Bt.le q) (Bt.le a4) (Bt.le (m:=0) (z05 (by decide)));have e2:g*v=u*(t*G):=lf1 (by rw[<- Int.neg_mul];exact e1);have le:u*f<=e*v:=by
     refine vi (a := -t*G) ?_ N;exact lf2 e1 (wp (wz o) (wz O))
    refine⟨a,b,u,v,_,_,_,i,Z,O,?_,⟨U,W⟩,⟨c4,c3⟩,all (C i O (vL _) le) (new (λh=>by omega) (λh=>by omega) λ_=>Int.le_of_eq e2),rfl⟩;refine vi (a:=f) (jM le ?_) j;rw[wS v];exact wp ef (wz O)
   .ac_nf;refine⟨a,b,e,f,_,_,_,i,Z,j,ef,⟨U,W⟩,⟨be,bf⟩,all (C i j (vL _) (vL _)) (new (λh=>by omega) (λh=>by omega) λ_ =>?_),rfl⟩;exact lf3 (by rw[<- Int.neg_mul];exact jQ.mp o)
  .refine z2H z ?_;ac_nf;refine z0K (λo =>?_) (λo =>?_)
   .ac_nf;exact q0
   ac_nf;refine t_no (by omega) ?_;ac_nf;refine t_no (by omega) ?_;ac_nf;exact⟨a,b,e,f,_,_,_,i,Z,j,ef,⟨U,W⟩,⟨be,bf⟩,all (C i j (vL _) (vL _)) (new (λh=>by omega) (λ_=>by omega) λh=>by omega),rfl⟩
  .refine t_no (by omega) ?_;ac_nf;refine z2H z ?_;ac_nf;have N:=tG z;refine z3U (Bt.le U) (Bt.le W) (Bt.le bl) (Bt.le a2) ?_;refine z0K (λo =>?_) (λo =>?_)
   .ac_nf;refine z85 N (Bt.le a2) λu v pl =>?_;refine z0s (Safe.of_noL rfl rfl _) ?_;ac_rfl;have O:=pl.pos;have e1:=pl.cx;obtain⟨c3,c4,_⟩:=pl.bt (n:=600) (m:=600) N (Bt.le a2) (Bt.le bl) (Bt.le (m:=0) (z05 (by decide)));have u0:0<=u:=by
     have M:=wN Z (wz N);have k2:0<g:=zad (a:=b) (by rw[wS];omega) i;have k3:=wW k2 O;rw[<- e1] at k3;exact wz (zad (a:=t*G) (by rw[wS];exact k3) N)
    have le:a*v<=u*b:=by
     refine vi (a:=t*G) ?_ N;exact lf4 e1 (wp (wz o) (wz O))
    ac_nf;refine t_no (by omega) ?_;ac_nf;exact⟨u,v,e,f,_,_,_,O,u0,j,ef,⟨c4,c3⟩,⟨be,bf⟩,all (C O j le (vL _)) (new (λ_=>Int.le_of_eq e1.symm) (λh=>by omega) λh=>by omega),rfl⟩
   .ac_nf;refine t_no (by omega) ?_;ac_nf;exact⟨a,b,e,f,_,_,_,i,Z,j,ef,⟨U,W⟩,⟨be,bf⟩,all (C i j (vL _) (vL _)) (new (λ_=>jQ.mp o) (λh=>by omega) λh=>by omega),rfl⟩
 rintro ρ ⟨a,b,e,f,x6,x7,x8,i,Z,j,ef,⟨U,W⟩,⟨be,bf⟩,hd,rfl⟩;ac_nf;refine z3U (Bt.le be) (Bt.le bf) (Bt.le U) (Bt.le W) ?_;refine z0K (λo =>?_) (λo =>?_)
 .ac_nf;exact q0
 ac_nf;have g2:=jQ.mp o;refine q1 a b e f i Z ?_ U W λc hc F G M k2 =>?_
 .refine vi (a:=f) (jM g2 ?_) j;rw[wS b];exact wp ef (wz i)
 .obtain⟨l1,l2,l3⟩:=hd c hc F G M k2
  rcases Int.lt_trichotomy G 0 with z | z | z
  .exact zdc j i (wz (by have:=uD z t0;rwa [jN] at this)) (l3 z) g2
  .have:=wp (l2 z) (wz i);rw[z,jN,jN]
   rwa [je] at this
  .exact l1 z
def zia {l:List P}{p:P}{Q:DK}{X:XP}(q:Q (.bl (decide (p∈l)))):pIn.run [vec p,vecs l] Q X:=by
 refine⟨Da.vec p,λd a =>?_,?_⟩
 .obtain⟨y,_,rfl⟩:=we.mp a;exact Da.vec y
 .have e:((l.map vec).any λd=>deq d (vec p))=decide (p∈l):=by
   rw[jm,List.any_eq_true,j7]
   constructor
   .rintro⟨d,a,z⟩;obtain⟨y,b,rfl⟩:=we.mp a;rw[z2C,j7] at z
    simp_all
   .intro z;exact⟨vec p,ur z,by rw[z2C];simp⟩
  rw[e];exact q
def zg9 {ws:List (List P × P)}{x y t:Int}{g:List (List P)}{Q:DK}{X:XP}(W:∀x∈ws,Wt4 x)(Y:ws.length<=12)(pd:Pd x y t)(U:g.length<=ws.length)(O:∀j bs,g[j]? = some bs->Brd ws x y t j bs)(q:Q (.bl true)):z0V.run [.tup (ws.map wtD),pcD x y t,.tup (g.map vecs)] Q X:=by
 walk_at "fn";ac_nf;rw[wd];refine z60 (by lia) (by lia) ?_;rw[show (g.length:Int).toNat=g.length by simp];refine z0n (f:=λ(j:Nat)=>D.int j) (λK o=>∃m,o=[.s (.tup (ws.map wtD)),.s (pcD x y t),.s (.tup (g.map vecs)),m]) ⟨_,rfl⟩ ?_ ?_
 .rintro K k r o e ⟨m,rfl⟩;obtain⟨w,bs,ek,u,i,e3⟩:=z97 U e;have R:k<g.length:=vK.mp (by rw[e];simp);have N:g[k]? = some bs:=by
   rw[z6q R] at i;exact i
  have z:ws[k]? = some w:=by
   rw[z6q (show k<ws.length by lia)] at u;exact u
  have B:=O k bs N;have M:=B.few;have ne:=wY.mpr B.ne;show Sm.run _ _ _ _ _;ac_rfl;ac_nf;refine z0P (z0G i) ?_;ac_nf;rw[wd];refine t_no (by lia) ?_;ac_nf;refine z0P (z0G i) ?_;ac_nf;refine zia (p:=(0,0)) ?_;refine t_no B.nz ?_;ac_nf;refine z0P (z0G i) ?_;ac_nf;refine zca W Y z pd B.vb ?_ λa b Z f J C I _ _ L =>?_
  .ac_nf;refine z5P rfl ?_;ac_nf;exact⟨_,rfl⟩
  .exact absurd L (B.no w z a b C I J)
 rintro o ⟨m,rfl⟩;ac_nf;exact q
def zen {W:Int}{n:Nat}{sh:List Sh}{Q:DK}{X:XP}(hn:n<=12)(p:0<W)(o:Bt 1840 W)(G:Gd W n sh)(q:∀a b,Pl (sw one W sh) 0 W a 0 b->Q (.tup [.int a,.int b])):z1E.run [.int n,shsD sh] Q X:=by
 walk_at "fn";ac_nf;refine z0n (f:=shD) (λj C=>Ee5 λ(l a b) (y z)=>(∀s r,sh=j++s::r->l<(s.1))/\Pl (sw (λ_=>1) W j) 0 W a 0 b/\C=[.s (.int n),.s (shsD sh),.s (.int l),.s (.tup [.int a,.int b]),y,z]) ⟨-1,0,1,_,_,λs r _=>by(have:(0:Int)<=s.1:=Int.natCast_nonneg _;lia),⟨by decide,by decide,by simp[sw],by simp⟩,rfl⟩ ?_ ?_
 .rintro j s r C e ⟨l,a,b,y,z,J,g,rfl⟩;obtain⟨i,sg⟩:=G.each s (by rw[e];simp);have s0:=i.top;have s1:=i.bot;have s2:=i.ix;have s3:=J s r e;obtain⟨N,I⟩:=i.bits p o;have Y:=G.few;have le:=congrArg List.length e;rw[wC,wU] at le;obtain⟨O,R,_⟩:=g.bt (n:=1840) (m:=1870) p o (Bt.le (z9f (w:=λ_=>1) (m:=1) (l:=j) (by lia) p o (λx u=>(G.each x (by rw[e];simp[u])).1) λ_=>zdS)) (Bt.le (m:=0) (z05 (by decide)));refine⟨rfl,?_⟩;show Sm.run _ _ _ _ _;unfold z0m z0m z0m;ac_rfl;ac_nf;refine t_no (by lia) ?_;ac_nf;refine t_no (by lia) ?_;ac_nf;refine t_no (by lia) ?_;ac_nf;refine t_no (by lia) ?_;ac_nf;refine z9j (by lia) (Bt.le I) ?_;rw[sg,show ((1:Nat):Int)=1 from rfl,Int.ediv_one,Int.ediv_one];ac_nf;refine zfh (l:=[.int s.2.1,.int s.2.2]) (r:=[.int s.2.1,.int s.2.2]) (Da.vec s.2) (Da.vec s.2) ?_;rw[show deq (.tup [.int s.2.1,.int s.2.2]) (.tup [.int s.2.1,.int s.2.2])=decide (s.2=s.2) from z2C s.2 s.2];refine z1p (z2H rfl ?_);ac_nf;refine zc9 g.pos (by lia) R.le O.le N.le I.le λL M Z =>?_;refine z0s (Safe.of_noL rfl rfl _) ?_;ac_rfl;refine⟨_,L,M,_,_,λx r' U =>?_,?_,rfl⟩
  .have K:=G.up;rw[U,vI,v9] at K;have:=K.2.1;rw[List.singleton_append,w6] at this;have:=this.1 x (by simp);lia
  .rw[z5S];exact(g.more (vx:=1) (vy:=0) (by lia) (z8f i.dv) (by simpa using Z)).eq0
 rintro C ⟨l,a,b,y,z,J,g,rfl⟩;ac_nf;exact q a b g
def zi6 {a b c d:Int}{Q:DK}{X:XP}(q:Q (.bl (!decide ((a,b)=(c,d))))):pNe.run [.tup [.int a,.int b],.tup [.int c,.int d]] Q X:=by
 refine zfh (Da.vec (a,b)) (Da.vec (c,d)) ?_;rw[z2C (a,b) (c,d)];exact q
def zi7 {a b c:Int}{x y z:Int}{Q:DK}{X:XP}(q:Q (.bl (!decide (a=x/\b=y/\c=z)))):pNe.run [.tup [.int a,.int b,.int c],.tup [.int x,.int y,.int z]] Q X:=by
 refine zfh (Da3 a b c) (Da3 x y z) ?_;rw[deq3 a b c x y z];exact q
def zc8 {ws:List (List P × P)}{x y t p r W:Int}{k:Nat}{co:List (List Sh)}{g:List Sh}{o:List (List P)}{b:P}{Q:DK}{X:XP}(U:∀x∈ws,Wt4 x)(hz:ws.length<=12)(A:AtR ws x y t k p r W co g o b)(q:Q (.tup [.int p,.int r])):z0M.run [.tup (ws.map wtD),.tup ((co++[g]).map shsD),pcD x y t] Q X:=by
 have hk:=A.hk;have Y:=A.lc;have p0:=A.p0;have pr:=A.pr;have hl:(co++[g]).length=k+1:=by rw[wC,vh,Y]
 have C:(co++[g]).length<=ws.length:=by lia
 walk_at "fn";ac_nf;rw[wd,wd];refine t_no (by lia) ?_;ac_nf;rw[wd];refine z60 (by lia) (by lia) ?_;rw[show (((co++[g]).length):Int).toNat=(co++[g]).length by simp];refine z0n (f:=λ(j:Nat)=>D.int j) (λL N=>∃(u v:Int) (K:B),(L.length=k+1->u=p/\v=r)/\N=[.s (.tup (ws.map wtD)),.s (.tup ((co++[g]).map shsD)),.s (pcD x y t),.s (.tup [.int u,.int v]),K]) ⟨0,1,_,λz=>by simp at z,rfl⟩ ?_ ?_
 .rintro L j rr N e ⟨u,v,K,_,rfl⟩;obtain⟨w,sh,ej,Z,M,e3⟩:=z97 C e;have O:=wv e3;have hx:Wt4 w:=U w (jH O).1;have G:=A.gd _ O;have hj:j<k+1:=by have:=vK.mp (show j∈List.range (co++[g]).length by rw[e];simp);lia
  have i:(co++[g])[j]? = some sh:=by
   rw[z6q (show j<(co++[g]).length by lia)] at M;exact M
  show Sm.run _ _ _ _ _;ac_rfl;ac_nf;refine z0P (z0G Z) ?_;ac_nf;rw[wd];refine z0P (z0G M) ?_;ac_nf;refine zen hx.len A.W0 A.bW G λu v pl =>?_;refine z0s (Safe.of_noL rfl rfl _) ?_;ac_rfl;ac_nf;refine z5P rfl ?_;ac_nf
  by_cases z:j<k
  .rw[wH (by lia)] at i;rw[A.all sh (wv i)] at pl;obtain⟨rfl,_,rfl⟩:=pl.eq A.W0 (⟨by decide,by decide,by rw[wS],by simp⟩:Pl W 0 W 1 0 1);refine t_no (by decide) ?_;ac_nf;refine z3U (Bt.le (m:=1) (z05 (by decide))) (Bt.le (m:=1) (z05 (by decide))) (Bt.le (m:=1) (z05 (by decide))) (Bt.le (m:=1) (z05 (by decide))) ?_;refine t_no (by decide) ?_;ac_nf;refine zi6 ?_;refine z1p (z2H rfl ?_);ac_nf;exact⟨_,_,_,λz'=>by rw[wC,vh] at z';lia,rfl⟩
  .obtain rfl:j=k:=by lia
   rw[<- Y,List.getElem?_concat_length] at i;obtain rfl:=w5 i;obtain⟨rfl,_,rfl⟩:=pl.eq A.W0 A.lst;refine t_no (by lia) ?_;ac_nf;refine z3U (Bt.le (m:=1) (z05 (by decide))) (Bt.le (m:=1) (z05 (by decide))) (Bt.le A.bp) (Bt.le A.br) ?_;refine t_no (by lia) ?_;ac_nf;refine zi6 ?_;have fin:∃(I J:Int) (K:B),((L++[j]).length=j+1->I=u/\J=v)/\[B.s (.tup (ws.map wtD)),.s (.tup ((co++[g]).map shsD)),.s (pcD x y t),.s (.tup [.int u,.int v]),.s (.int j)]=[.s (.tup (ws.map wtD)),.s (.tup ((co++[g]).map shsD)),.s (pcD x y t),.s (.tup [.int I,.int J]),K]:=⟨u,v,_,λ_=>⟨rfl,rfl⟩,rfl⟩
   refine z1p (z0K (λ_ =>?_) (λ_ =>?_))
   .ac_nf;exact fin
   .ac_nf;rw[wd];refine t_no (by lia) ?_;ac_nf;exact fin
 rintro N ⟨u,v,K,h,rfl⟩;obtain⟨rfl,rfl⟩:=h (by rw[v6];exact hl);ac_nf;refine za8 U hz A.W0 A.bW.le ⟨C,λq R=>⟨by have:=(A.gd q R).few;lia,λs hs=>((A.gd q R).each s hs).1⟩⟩ λu' v' t' h' =>?_;obtain⟨rfl,rfl,rfl⟩:=h'.eq A.W0 A.pl;ac_nf;refine zi7 ?_;refine z1p (z2H ⟨rfl,rfl,rfl⟩ ?_);ac_nf;exact q
def lf5 {p c s a r g:Int}(b:g*r=p*s)(f:g*c*r<=a*s*r):p*c*s<=a*r*s:=by
 have d:p*c*s=g*c*r:=by
  rw[uk, <- b,uk]
 have e:a*r*s=a*s*r:=uk ..
 simp_all
def z6r {a:Type}{f:a->D}{l:List a}{x:a}:atI ((l++[x]).map f) (-1)=some (f x):=by
 have e:=zfW (l:=(l++[x]).map f) (k:=0) (by simp)
 simp_all
theorem zgB {b:P}:∀{ws:List (List P × P)},(∀x∈ws,x.1≠[])->∃F,Geo.Far (MS ws) b F
 | [],_=>⟨0,z9K⟩
 | w::ws,h=>by
  obtain⟨F,f⟩:=zgB (ws:=ws) λx a=>h x (by simp[a]);obtain⟨G,g⟩:=zbN (h w (by simp)) b;exact⟨G+F,z7J f g⟩
def zfI {F f:Fn}{a b c:Ex}{e:Pu.Env}{Q:DK}{X:XP}(q:a.run e (λx=>b.run e (λy=>F.run [x,y] (λd=>tst d (c.run e (λz=>f.run [y,z] Q X) X) (Q (.bl false))) X) X) X):(Ex.chain F f a b c).run e Q X:=q
def zci {ws:List (List P × P)}{x y t p r W u v:Int}{k:Nat}{co:List (List Sh)}{g:List Sh}{i:List (List P)}{b:P}{Q:DK}{X:XP}(j:∀x∈ws,Wt4 x)(I:ws.length<=12)(pd:Pd x y t)(A:AtR ws x y t k p r W co g i b)(pl:Pl (k*r+p*1) 0 (1*r) u 0 v)(q:Q (.bl true)):z12.run [.tup (ws.map wtD),pcD x y t,.tup [.int u,.int v],.tup ((co++[g]).map shsD),.tup ((i++[[b]]).map vecs)] Q X:=by
 have hk:=A.hk;have lc:=A.lc;have lb:=A.lb;have K:0<r:=by have:=A.p0;have:=A.pr;lia
 have o:(co++[g]).length=k+1:=by rw[wC,vh,lc]
 have Z:(i++[[b]]).length=k+1:=by rw[wC,vh,lb]
 obtain⟨w,C⟩:∃w,ws[k]? = some w:=⟨_,wn hk⟩
 walk_at "fn";ac_nf;refine zc8 j I A ?_;refine z0s (Safe.of_noL rfl rfl _) ?_;ac_rfl;ac_nf;refine z5P rfl ?_;ac_nf;rw[wd,wd,o,Z];refine z1p (z2H rfl ?_);ac_nf;rw[wd,o];refine t_no (by lia) ?_;ac_nf;rw[wd,o,show (((k+1:Nat):Int) - 1)=k by lia];refine zc9 (by decide) K (Bt.le (m:=64) (z05 (by omega))) (Bt.le (m:=1) (z05 (by decide))) A.bp.le A.br.le λu' v' J =>?_;obtain⟨rfl,_,rfl⟩:=J.eq (by rw[Int.one_mul];exact K) pl;ac_nf;refine zi6 ?_;refine z1p (z2H rfl ?_);ac_nf;rw[zgU];refine zg9 j I pd (by lia) A.brd ?_;ac_nf;refine z1p (z2z ?_);ac_nf;rw[wd,o,show (((k+1:Nat):Int) - 1)=k by lia];refine z0P z6r ?_;ac_nf;have vb:Wb 166 [b]:=λc hc=>by rw[wg.mp hc];exact A.vb
 refine zca (bs:=[b]) j I C pd vb ?_ λa c e f c0 a0 ac N O U =>?_
 .ac_nf;refine z0P z6r ?_;ac_nf;refine t_no (by simp) ?_;ac_nf;refine z0P z6r ?_;ac_nf;refine zia (l:=[b]) (p:=(0,0)) ?_;refine t_no (λz=>A.nz (wg.mp z).symm) ?_;ac_nf;refine z2X rfl ?_;ac_nf;exact q
 .refine z0s (Safe.of_noL rfl rfl _) ?_;ac_rfl;ac_nf;refine z0P z6r ?_;ac_nf;refine t_no (by simp) ?_;ac_nf;refine z0P z6r ?_;ac_nf;refine zia (l:=[b]) (p:=(0,0)) ?_;refine t_no (λz=>A.nz (wg.mp z).symm) ?_;ac_nf;refine z5P rfl ?_;ac_nf;refine z3U (Bt.le N) (Bt.le O) (Bt.le A.bp) (Bt.le A.br) ?_;ac_nf;rw[vB]
  .exact q
  .obtain⟨G,M⟩:=zbN (j w (wv C)).ne b;obtain⟨F,L⟩:∃F,Geo.Far (MS (ws.take k)) b F:=zgB λx hx=>(j x (vF hx)).ne;obtain⟨Y,R⟩:=A.at' w C F G L M;have k1:=U b (by simp) F G L M;refine jQ.mpr (vi (a:=t*G) ?_ Y);exact lf5 R (wp k1 (wz K))
def z50 {ws:List (List P × P)}{x y t:Int}{d:D}{Q:DK}{X:XP}(o:∀x∈ws,Wt4 x)(w:ws.length<=12)(pd:Pd x y t)
  (h:(x=0/\y=0/\t=1/\d=atD 0 1 [] [])\/(∃(k:Nat) (p r W:Int) (co:List (List Sh)) (g:List Sh) (i:List (List P)) (b:P) (u v:Int),AtR ws x y t k p r W co g i b/\Pl (k*r+p*1) 0 (1*r) u 0 v/\d=atD u v ((co++[g]).map shsD) ((i++[[b]]).map vecs))\/((x,y)≠((0),(0))/\∃i:List (List P),i.length=ws.length/\(∀j bs,i[j]? = some bs->Brd ws x y t j bs)/\d=nvD (i.map vecs))) (q:Q (.bl true)):z0h.run [.tup (ws.map wtD),pcD x y t,d] Q X:=by
 rcases h with ⟨rfl,rfl,rfl,rfl⟩ | ⟨k,p,r,W,co,g,i,b,u,v,A,pl,rfl⟩ | ⟨ne,i,J,I,rfl⟩
 .walk_at "fn";ac_nf;refine zbm ?_;refine z2H rfl ?_;ac_nf;refine z2X rfl ?_;ac_nf;have K:∀{Q:DK}{X:XP},Q (.tup [.int 0,.int 1])->z0M.run [.tup (ws.map wtD),.tup [],pcD 0 0 1] Q X:=λ{Q X} q=>by
   walk_at "fn";ac_nf;rw[wd];refine t_no (by simp) ?_;ac_nf;refine z60 (by decide) (by decide) ?_;refine z0n (f:=λ(j:Nat)=>D.int j) (λ_ C=>C=[.s (.tup (ws.map wtD)),.s (.tup []),.s (pcD 0 0 1),.s (.tup [.int 0,.int 1]),.n]) rfl ?_ ?_
   .rintro L k r C e;exact absurd e (by simp)
   rintro C rfl;ac_nf;refine za8 (co:=[]) (W:=1) o w (by decide) (Bt.le (m:=1) (z05 (by decide))) ⟨by simp,by simp⟩ λu v t h =>?_;obtain⟨rfl,rfl,rfl⟩:=h.eq (by decide) (⟨by decide,by decide,by simp,by simp⟩:Pl _ _ _ 0 0 1);ac_nf;refine zi7 ?_;refine z1p (z2H ⟨rfl,rfl,rfl⟩ ?_);ac_nf;exact q
  walk_at "fn";ac_nf;refine K ?_;refine z0s (Safe.of_noL rfl rfl _) ?_;ac_rfl;ac_nf;refine z5P rfl ?_;ac_nf;refine z1p (z2H rfl ?_);ac_nf;refine z2H rfl ?_;ac_nf;refine zib (l:=[.int 0,.int 1]) (r:=[.int 0,.int 1]) (Da.vec (0,1)) (Da.vec (0,1)) ?_;rw[show deq (.tup [.int 0,.int 1]) (.tup [.int 0,.int 1])=decide (((0),(1))=(0,1)) from z2C (0,1) (0,1)];exact q
 .walk_at "fn";ac_nf;refine zbm ?_;refine z2H rfl ?_;ac_nf;refine z2X rfl ?_;ac_nf;exact zci o w pd A pl q
 .walk_at "fn";ac_nf;refine zbm ?_;refine t_no (by decide) ?_;ac_nf;refine zbm ?_;refine z2H rfl ?_;ac_nf;refine z2X rfl ?_;ac_nf;refine zi7 ?_;refine z1p (t_no (λz=>ne (by rw[z.1,z.2.1])) ?_);ac_nf;rw[wd,wd,J];refine z2H rfl ?_;ac_nf;exact zg9 o w pd (by lia) I q
def z5o {b:List (List P)}{Q:DK}{X:XP}(w:b.length<=20)(h:∀bs∈b,bs≠[]/\bs.length<=2/\(0,0) ∉ bs)(q:Q (.bl true)):z0p.run [.tup (b.map vecs)] Q X:=by
 walk_at "fn";ac_nf;refine z1p (z2X rfl ?_);ac_nf;refine z0n (f:=vecs) (λm j=>∃i,j=[.s (.tup (b.map vecs)),i]) ⟨_,rfl⟩ ?_ ?_
 .rintro m bs r j e ⟨i,rfl⟩;obtain⟨ne,o,u⟩:=h bs (by rw[e];simp);have x:=wY.mpr ne;show Sm.run _ _ _ _ _;ac_rfl;ac_nf;refine z1p (z2X rfl ?_);ac_nf;refine zfI ?_;ac_nf;rw[wd];refine z2H (by omega) ?_;ac_nf;refine z1p (z2H (by omega) ?_);ac_nf;refine⟨by rw[wd];exact szl' (by lia),?_⟩;refine z17 (f:=vec) (g:=λ_ =>.bl true) (λc p K k =>?_) ?_
  .ac_nf;exact zcf (λz=>u (by rw[<- z];exact p)) k
  rw[show bs.map (λ_=>D.bl true)=(bs.map λ_=>true).map .bl by rw[wM];rfl];refine zls ?_;rw[show (bs.map λ_=>true).all id=true by simp];refine z1p (z2z ?_);ac_nf;exact⟨_,rfl⟩
 rintro j ⟨i,rfl⟩;ac_nf;exact q
def z4c {d:D}{Q:DK}{X:XP}(h:(∃(u v:Int) (co:List (List Sh)) (b:List (List P)),co.length<=12/\b.length<=12/\(∀bs∈b,bs≠[]/\bs.length<=2/\(0,0) ∉ bs)/\d=atD u v (co.map shsD) (b.map vecs))\/∃b:List (List P),b.length<=12/\(∀bs∈b,bs≠[]/\bs.length<=2/\(0,0) ∉ bs)/\d=nvD (b.map vecs))(q:Q (.bl true)):z0f.run [d] Q X:=by
 rcases h with ⟨u,v,co,b,g,f,e,rfl⟩ | ⟨b,f,e,rfl⟩
 .walk_at "fn";ac_nf;refine z1p (z2X rfl ?_);ac_nf;refine t_no (by simp) ?_;ac_nf;refine z1p (z2X rfl ?_);ac_nf;refine zbm ?_;refine t_no (by decide) ?_;ac_nf;refine znn ?_;refine z1p (z2H rfl ?_);ac_nf;refine z1p (z2H rfl ?_);ac_nf;refine za6 ?_;ac_nf;refine z1p (z2z ?_);ac_nf;refine z4b ?_;ac_nf;refine z1p (z2z ?_);ac_nf;refine z4b ?_;ac_nf;refine z1p (z2z ?_);ac_nf;refine zce g ?_;ac_nf;exact z5o (by lia) e q
 .walk_at "fn";ac_nf;refine z1p (z2X rfl ?_);ac_nf;refine t_no (by simp) ?_;ac_nf;refine z1p (z2X rfl ?_);ac_nf;refine zbm ?_;refine z2H rfl ?_;ac_nf;refine z2H rfl ?_;ac_nf;exact z5o (by lia) e q
def zei {ns:List Int}{Q:DK}{X:XP}(q:∀m,0<m->m<=10000000000000000000000000000000000000000->Q (.int m)):z1P.run [.lst (ns.map .int)] Q X:=by
 walk_at "fn";ac_nf;refine za9 λc f =>?_;ac_nf;refine z0K (λh =>?_) (λh =>?_)
 .have j:=wY.mpr (f h);obtain⟨v,_,e⟩:=z5s (xs:=ns) (i:=0) (by decide) (by lia);ac_nf;refine z0P (z0G e) ?_;ac_nf;refine menu (ns:=[3,12,10 ^ 9]) (by lia) (by show v / 2 % 3<3;lia) λm b =>?_;simp only[wm,wE,vO] at b;exact q m (by lia) (by lia)
 .ac_nf;refine za9 λc f =>?_;ac_nf;refine z0X (by decide) (by decide) (by decide) λr g r1 =>?_;ac_nf;refine menu (ns:=[3,3,12,10 ^ 9]) g (by show r<4;exact r1) λm b =>?_;simp only[wm,wE,vO] at b;exact q m (by lia) (by lia)
def zil (ns:List Int)(h:ns.length<=63):z6m.run [.lst (ns.map .int)] (λd=>d = .bl true) (λ_=>False):=by
 walk_at "fn";ac_nf;refine za9 λc0 _ =>?_;ac_nf;refine z0X (by decide) (by decide) (by decide) λr r0 r1 =>?_;ac_nf;refine menu (ns:=[5,12]) (by split <;> decide) (by split <;> decide) λmost hm =>?_;have m0:0<=most:=by
  simp only[wm,wE,vO] at hm;lia
 ac_nf;refine zb0 h λM a1 a2 a0 =>?_;ac_nf;rw[z8Q m0];generalize C:M.take most.toNat=I;have J:∀x∈I,Wt4 x:=λx hx=>a1 x (by rw[<- C] at hx;exact vF hx);have K:I.length<=12:=by rw[<- C,vA];lia
 have ht:tl I<=60:=by rw[<- C];exact wP (zbP M _) a0
 refine zcQ (by simp;exact szl (by lia)) ?_;rw[show D.int 0::([])++ns.map D.int=(0::ns).map .int by simp];ac_nf;rw[z2E];generalize ((0::ns).drop (HT.sIx (0::ns).length 0 (some (-3)))).take (HT.sIx (0::ns).length (0::ns).length none - HT.sIx (0::ns).length 0 (some (-3)))=cs;refine z0n (f :=.int) (λdn U=>∃N O R,U=[.s (.lst (ns.map .int)),.s (.int most),.s (.tup (I.map wtD)),N,O,R]) ⟨_,_,_,rfl⟩ ?_ ?_
 .rintro dn c rr U e ⟨N,O,R,rfl⟩;show Sm.run _ _ _ _ _;ac_rfl;ac_nf;refine zei λm m0 m1 =>?_;ac_nf;refine zms J K m0 m1 λx y t pd =>?_;ac_nf;have fin:∀d:D,noL d=true->noD d=true->(∀{Q:DK}{X:XP},Q (.bl true)->z0f.run [d] Q X)->(∀{Q:DK}{X:XP},Q (.bl true)->z0h.run [.tup (I.map wtD),pcD x y t,d] Q X)->Sm.run (.ifs (.or (.not (.op z0f [(.v 5)])) (.not (.op z0h [(.v 2),(.v 4),(.v 5)]))) (.ret (.c (.bl false))) .skip) [.s (.lst (ns.map .int)),.s (.int most),.s (.tup (I.map wtD)),.s (.int c),.s (pcD x y t),.s d] (λU=>∃N O R,U=[.s (.lst (ns.map .int)),.s (.int most),.s (.tup (I.map wtD)),N,O,R]) (λd=>d = .bl true) (λ_=>False):=λd n1 n2 h1 h2=>by
   ac_nf;refine h1 ?_;ac_nf;refine z1p (z2z ?_);ac_nf;refine h2 ?_;ac_nf;refine z1p (z2z ?_);ac_nf;exact⟨_,_,_,rfl⟩
  have Y:∀i:List (List P),noLs (i.map vecs)=true/\noDs (i.map vecs)=true:=λi=>⟨z4H λd Z=>by(obtain⟨l,_,rfl⟩:=we.mp Z;exact z1m l),z4I λd Z=>by(obtain⟨l,_,rfl⟩:=we.mp Z;exact z1n l)⟩
  have L:∀u v (o:List (List Sh)) (i:List (List P)),noL (atD u v (o.map shsD) (i.map vecs))=true/\noD (atD u v (o.map shsD) (i.map vecs))=true:=λu v o i=>by
   constructor
   .show (true && ((true && (true && true)) && (noLs (o.map shsD) && (noLs (i.map vecs) && true))))=true;rw[(Y i).1,show noLs (o.map shsD)=true from zcR o];rfl
   .show (true && ((true && (true && true)) && (noDs (o.map shsD) && (noDs (i.map vecs) && true))))=true;rw[(Y i).2,show noDs (o.map shsD)=true from zcS o];rfl
  refine zb1 J K ht pd (λz1 z2 z3 =>?_) (λk p r W o g i b u v A pl =>?_) λne i hl hb =>?_
  .have n:=L 0 1 [] [];refine z0s (Safe.of_noL n.1 n.2 _) ?_;ac_rfl;exact fin (atD 0 1 [] []) n.1 n.2 (λq=>z4c (.inl ⟨0,1,[],[],by simp,by simp,by simp,rfl⟩) q) λq=>z50 J K pd (.inl ⟨z1,z2,z3,rfl⟩) q
  .have n:=L u v (o++[g]) (i++[[b]]);refine z0s (Safe.of_noL n.1 n.2 _) ?_;ac_rfl;have hk:=A.hk;have lc:=A.lc;have lb:=A.lb;refine fin _ n.1 n.2 (λq=>z4c (.inl ⟨u,v,o++[g],i++[[b]],by rw[wC,vh];lia,by rw[wC,vh];lia,λbs w =>?_,rfl⟩) q) λq=>z50 J K pd (.inr (.inl ⟨k,p,r,W,o,g,i,b,u,v,A,pl,rfl⟩)) q
   rcases wG.mp w with z | z
   .obtain⟨j,hj,e⟩:=ud z;have B:=A.brd j bs (by rw[wn hj,e]);exact⟨B.ne,B.few,B.nz⟩
   .rw[wg.mp z];exact⟨by simp,by simp,λz=>A.nz (wg.mp z).symm⟩
  .have n:noL (nvD (i.map vecs))=true/\noD (nvD (i.map vecs))=true:=by
    constructor
    .show (true && (noLs (i.map vecs) && true))=true;rw[(Y i).1];rfl
    .show (true && (noDs (i.map vecs) && true))=true;rw[(Y i).2];rfl
   refine z0s (Safe.of_noL n.1 n.2 _) ?_;ac_rfl;refine fin _ n.1 n.2 (λq=>z4c (.inr ⟨i,by lia,λbs w =>?_,rfl⟩) q) λq=>z50 J K pd (.inr (.inr ⟨ne,i,hl,hb,rfl⟩)) q;obtain⟨j,hj,e⟩:=ud w;have B:=hb j bs (by rw[wn hj,e]);exact⟨B.ne,B.few,B.nz⟩
 rintro U ⟨N,O,R,rfl⟩;ac_nf
 rfl
open PySem.Spec PyProof.Rows
def Std (K:W.Frag)(n:Str)(st:Stmt)(f:Addr):Prop:=∃(g:Value) (h:Option Addr) (sl:Array (Option Value)) (kV e i:Value) (b:Option Addr) (a d:Value),
 W.nsIn K mainGlobals n=some (some (.ref f))/\K.lookup f=some ⟨g,h,.func (W.fnOf n n (z3q st) (z1Y st) (z0g st) .none kV e i b a d),sl⟩/\W.codeIn K a n=true/\W.keepIn K (.ref f)=true
def Std.mk {K:W.Frag}{n:Str}{st:Stmt}{f:Addr}{g:Value}{h:Option Addr}{sl:Array (Option Value)}{kV e i:Value}{d:Option Addr}{b ct:Value}(a:W.nsIn K mainGlobals n=some (some (.ref f)))(l:K.lookup f=some ⟨g,h,.func (W.fnOf n n (z3q st) (z1Y st) (z0g st) .none kV e i d b ct),sl⟩)(c:W.codeIn K b n=true)(k:W.keepIn K (.ref f)=true):Std K n st f:=⟨g,h,sl,kV,e,i,d,b,ct,a,l,c,k⟩
section
variable {P:Program}{w:World}{K:W.Frag}{mg:WmP}{h base:Heap}{CX:CXT}{k:Nat}{n:Str}{st:Stmt}{f fa:Addr}{ps:List Str}{sp:Sp}
def zm7 (X:K.In h)(G:h.Ns mainGlobals mg)(d:Std K n st f)
  (p:∀kV i o e g ct b,b.length=ps.length->bindArgs (W.fnOf n n (z3q st) (z1Y st) (z0g st) .none kV i o e g ct) ⟨b,[]⟩=pure (ps.zip b))
  (ok:∀j,Fun K n n st f j->FnOk P w K mg base CX k f j ps sp):Cal P w K mg base CX k n ps sp:=by
 obtain⟨q,r,sl,kV,i,o,e,g,ct,a,l,c,m⟩:=d;have F:=zgM l c m;exact⟨_,_,ok _ F,W.mg_of X G a,m,F.binds p⟩
def zj2 (X:K.In h)(G:h.Ns mainGlobals mg)(d:Std K n st f)(m:mg n=some (.ref fa))
  (p:∀kV j o g i ct s v,BindsTo s (W.fnOf n n (z3q st) (z1Y st) (z0g st) .none kV j o g i ct) ⟨[v],[]⟩ [(x,v)])
  (ok:∀b:Heap,K.In b->b.Ns mainGlobals mg->∀e,Fun K n n st fa e->FnOk P w K mg b CX k fa e [x] sp):
  ∃e,(∀s v,BindsTo s e ⟨[v],[]⟩ [(x,v)])/\∀b:Heap,K.In b->b.Ns mainGlobals mg->FnOk P w K mg b CX k fa e [x] sp:=by
 obtain⟨u,y,sl,kV,j,o,g,i,ct,a,l,c,r⟩:=d
 cases m.symm.trans (W.mg_of X G a)
 exact⟨_,λs v=>p kV j o g i ct s v,λb q t=>ok _ q t _ (zgM l c r)⟩
end
structure Sc (N ps:List Str)(sc:Scope):Prop where
 fs:z5i N ps sc
 nm:∀x∈N,Nm sc x
def Sc.of {N ps:List Str}{sc:Scope}(h:(sc.kind = .function/\sc.isCoroutine=false/\sc.isGenerator=false)/\N.Nodup/\N.take ps.length=ps/\(∀y∈sc.names,y.2 ≠ .free)/\∀x∈N,(sc.names.lookup x=some .local\/sc.names.lookup x=some .cell)/\dB x/\(x == ("__classdict__"))=false):Sc N ps sc:=
 ⟨⟨h.1.1,h.1.2.1,h.1.2.2,h.2.1,h.2.2.1,λx a=>(h.2.2.2.2 x (vF (by rw[h.2.2.1];exact a))).1,h.2.2.2.1⟩,λx a=>⟨(h.2.2.2.2 x a).1,(h.2.2.2.2 x a).2.1,(h.2.2.2.2 x a).2.2⟩⟩
section
variable {CX:CXT}{P:Program}{w:World}{K:W.Frag}{mg:WmP}{base:Heap}{N ps:List Str}{qual:Str}{sc:Scope}{f:Addr}{cdv:Value}{A:Around}{outer:List PySem.Env}{s:Shared}{H:Hp}{E:XK}{xe:WvP}{x:Str}{pos pos2:Pos}{e:Expr}{te:TE}{i:Nat}
def vx (S:Sc N ps sc)(a:N[i]? = some x):QE ((cxOf CX P w K mg base N qual sc f cdv A outer s H E).wish xe) (.Name x pos) (tVar i):=vg i (S.nm x (wv a)) a
def nx (S:Sc N ps sc)(a:N[i]? = some x):QG ((cxOf CX P w K mg base N qual sc f cdv A outer s H E).wish xe) (.Name x pos) (z30 i):=ng i S.fs.nd (S.nm x (wv a)) a
def ax (S:Sc N ps sc)(a:N[i]? = some x)(b:QE ((cxOf CX P w K mg base N qual sc f cdv A outer s H E).wish xe) e te)(d:swapsWith e (some (.Name x pos2)) pos.line ((cxOf CX P w K mg base N qual sc f cdv A outer s H E).wish xe).env=pure false):QS ((cxOf CX P w K mg base N qual sc f cdv A outer s H E).wish xe) (.Assign [.Name x pos2] e pos) (tAsg te (z30 i)):=ag i S.fs.nd (S.nm x (wv a)) b a d
end
def zmM {op:BoolOp}{a:Pos}(h:QXW X E (.BoolOp op es a) x):QXT X E (.BoolOp op es a) x:=QW.pt h
noncomputable def tgN:Expr->List Str
 | .Name x _=>[x]
 | .Tuple a _ _=>a.filterMap fun | .Name x _=>some x | _=>none
 | _=>[]
def z1Z (b:Expr)(a:List Nat)(N:List Str):List Str:=tgN b++a.map λj=>N.getD j ""
section
variable {X:Cx}{E:XK}{N ps:List Str}{sc scope:Scope}{target iter elt c:Expr}{src x y:Ex}{nt iy:Nat}{js:List Nat}{tg:Tg}{pos py spos:Pos}{z:Str}
def zeQ (S:Sc N ps sc)(f:X.N=N)(b:X.env.scope=sc)(g:X.calm=true)(j:QXI X E target iter src)(l:scope.kind = .function)(d:z6p (z1Z target js N) N nt js scope.names sc.names=true/\(z1Z target js N).Nodup)(e:tg.slots.all (· < nt)=true)
  (i:∀C s H a,(z1Z target js N).Nodup->QG (X.compG scope (z1Z target js N) C s H a) target (tgt X.K tg))
  (h:∀C s H a,(z1Z target js N).Nodup->QX (X.compG scope (z1Z target js N) C s H a) E0 elt x) (m:fI iter X):QF X E (.ListComp elt [⟨target,iter,[],0⟩] scope pos) (.comp nt js tg src none x):=
 zcp (ct:=none) g j l (z6p.ok f b d.1) e (λC s H a=>i C s H a d.2) trivial (λC s H a=>h C s H a d.2) m
def zeP (S:Sc N ps sc)(f:X.N=N)(b:X.env.scope=sc)(g:X.calm=true)(j:QXI X E target iter src)(l:scope.kind = .function)(d:z6p (z1Z target js N) N nt js scope.names sc.names=true/\(z1Z target js N).Nodup)(e:tg.slots.all (· < nt)=true)
  (i:∀C s H a,(z1Z target js N).Nodup->QG (X.compG scope (z1Z target js N) C s H a) target (tgt X.K tg))
  (n:∀C s H a,(z1Z target js N).Nodup->QXT (X.compG scope (z1Z target js N) C s H a) E0 c y)
  (h:∀C s H a,(z1Z target js N).Nodup->QX (X.compG scope (z1Z target js N) C s H a) E0 elt x) (m:fI iter X):QF X E (.ListComp elt [⟨target,iter,[c],0⟩] scope pos) (.comp nt js tg src (some y) x):=
 zcp (ct:=some c) g j l (z6p.ok f b d.1) e (λC s H a=>i C s H a d.2) (λC s H a=>n C s H a d.2) (λC s H a=>h C s H a d.2) m
def zeM (S:Sc N ps sc)(d:X.N=N)(a:X.env.scope=sc)(f:N[iy]? = some z)(g:sc.names.lookup z=some .local)(j:X.calm=true)(n:QXI X E target iter src)(o:scope.kind = .function)(e:z6p (z1Z target js N) N nt js scope.names sc.names=true/\(z1Z target js N).Nodup)(i:tg.slots.all (· < nt)=true)
  (m:∀C s H b,(z1Z target js N).Nodup->QG (X.compG scope (z1Z target js N) C s H b) target (tgt X.K tg))
  (l:∀C s H b,(z1Z target js N).Nodup->QX (X.compG scope (z1Z target js N) C s H b) E0 elt x) (h:swapsWith (.ListComp elt [⟨target,iter,[],0⟩] scope pos) (some (.Name z py)) spos.line X.env=pure true) (p:fI iter X):
  QS X (.Assign [.Name z py] (.ListComp elt [⟨target,iter,[],0⟩] scope pos) spos) (tAsg (tf X.K X.mg E (.comp nt js tg src none x)) (z30 iy)):=
 zco (ct:=none) (by rw[d];exact S.fs.nd) (by rw[d];exact f) (by rw[a];exact g) j n o (z6p.ok d a e.1) i (λC s H b=>m C s H b e.2) trivial (λC s H b=>l C s H b e.2) h p
def zeL (S:Sc N ps sc)(d:X.N=N)(b:X.env.scope=sc)(f:N[iy]? = some z)(g:sc.names.lookup z=some .local)(j:X.calm=true)(n:QXI X E target iter src)(o:scope.kind = .function)(e:z6p (z1Z target js N) N nt js scope.names sc.names=true/\(z1Z target js N).Nodup)(i:tg.slots.all (· < nt)=true)
  (m:∀C s H a,(z1Z target js N).Nodup->QG (X.compG scope (z1Z target js N) C s H a) target (tgt X.K tg))
  (q:∀C s H a,(z1Z target js N).Nodup->QXT (X.compG scope (z1Z target js N) C s H a) E0 c y)
  (l:∀C s H a,(z1Z target js N).Nodup->QX (X.compG scope (z1Z target js N) C s H a) E0 elt x) (h:swapsWith (.ListComp elt [⟨target,iter,[c],0⟩] scope pos) (some (.Name z py)) spos.line X.env=pure true) (p:fI iter X):
  QS X (.Assign [.Name z py] (.ListComp elt [⟨target,iter,[c],0⟩] scope pos) spos) (tAsg (tf X.K X.mg E (.comp nt js tg src (some y) x)) (z30 iy)):=
 zco (ct:=some c) (by rw[d];exact S.fs.nd) (by rw[d];exact f) (by rw[b];exact g) j n o (z6p.ok d b e.1) i (λC s H a=>m C s H a e.2) (λC s H a=>q C s H a e.2) (λC s H a=>l C s H a e.2) h p
end
structure Te where
 k:Nat
 x:Str
 i:Nat
 np:Nat
 N:List Str
 F:Fn
abbrev Te.ps (t:Te):List Str:=t.N.take t.np
structure Gx where
 P:Program
 w:World
 K:W.Frag
 mg:Str->Option Value
 base:Heap
abbrev Ct (G:Gx)(t:Te):Prop:=Cal G.P G.w G.K G.mg G.base (CXe G.P G.w) t.k t.x t.ps (spP G.K G.mg t.F)
abbrev Ft (G:Gx)(t:Te)(f:Addr)(fd:FuncData):Prop:=FnOk G.P G.w G.K G.mg G.base (CXe G.P G.w) t.k f fd t.ps (spP G.K G.mg t.F)
section
variable {P:Program}{w:World}{K:W.Frag}{mg:WmP}{base:Heap}{f:Addr}{fd:FuncData}{N ps:List Str}{qual x:Str}{st:Stmt}{k np nn:Nat}{b:Sm}
def fnQ (F:Fun K x qual st f fd)(S:Sc N ps (z0g st))
  (g:∀d A a s H E,Sc N ps (z0g st)->Room k (A.deeper (envOfC qual (z0g st) s.heap.objs.size f d))->(A.deeper (envOfC qual (z0g st) s.heap.objs.size f d)).units+64<cLine->QZs ((cxOf (CXe P w) P w K mg base N qual (z0g st) f d A a s H E).wish λ_ _=>False) E0 (z1Y st) b) (h:autoParam (ps.length=np) jA1) (e:autoParam (N.length=nn) jA1):
  FnOk P w K mg base (CXe P w) (k+1) f fd ps (spP K mg (Fn.mkN np nn b)):=fnM F S.fs (λd A a s H E i j=>g d A a s H E S i j) h e
end
section
variable {G:Gx}{t:Te}{f:Addr}{fd:FuncData}{st:Stmt}{k np nn:Nat}{b:Sm}
def fnT (F:Fun G.K t.x t.x st f fd)(S:Sc t.N t.ps (z0g st))(e:t.F=Fn.mkN np nn b)(i:t.k=k+1)
  (h:∀a A d s H E,Sc t.N t.ps (z0g st)->Room k (A.deeper (envOfC t.x (z0g st) s.heap.objs.size f a))->(A.deeper (envOfC t.x (z0g st) s.heap.objs.size f a)).units+64<cLine->QZs ((cxOf (CXe G.P G.w) G.P G.w G.K G.mg G.base t.N t.x (z0g st) f a A d s H E).wish λ_ _=>False) E0 (z1Y st) b) (j:autoParam (t.ps.length=np) jA1) (g:autoParam (t.N.length=nn) jA1):Ft G t f fd:=by
 show FnOk _ _ _ _ _ _ t.k _ _ _ (spP _ _ t.F);rw[e,i];exact fnQ F S h j g
end
structure Cf (G:Gx)(F:Fn)(t:Te):Prop where
 c:Ct G t
 e:t.F=F
def zjW {a n:Pos}{t:Te}(C:Cf G F t)(h:Ct G t->Cal X.prog X.w X.K X.mg X.base (CXe G.P G.w) t.k f t.ps (spP X.K X.mg t.F))(l:Room t.k X.A)(m:z4U (CXe G.P G.w) X E)(g:QXA X E (e::es) xs)(j:Gl X f)
  (b:dB f) (i:sE e es X) (d:bT a es X):QX X E (.Call (.Name f n) (e::es) [] a) (.op F xs):=by
 have q:=h C.c;rw[C.e] at q;exact zmI q l m g j b i d
def us_s {P:List Value->Prop}(h:∀a us,us.length=n->P (a::us))(us:List Value)(e:us.length=n+1):P us:=by
 cases us with
 | nil=>cases e
 | cons a us=>exact h a us (Nat.succ.inj e)
def us1 {P:List Value->Prop}(h:∀b,P [b]):∀us,us.length=1->P us:=us_s λa us e=>by
 cases us with
 | nil=>exact h a
 | cons _ _=>cases e
def us2 {P:List Value->Prop}(h:∀b d,P [b,d]):∀us,us.length=2->P us:=us_s λa=>us1 (P:=λus=>P (a::us)) (h a)
def us3 {P:List Value->Prop}(h:∀b d e,P [b,d,e]):∀us,us.length=3->P us:=us_s λa=>us2 (P:=λus=>P (a::us)) (h a)
def us4 {P:List Value->Prop}(h:∀b d e f,P [b,d,e,f]):∀us,us.length=4->P us:=us_s λa=>us3 (P:=λus=>P (a::us)) (h a)
def us5 {P:List Value->Prop}(h:∀b d e f g,P [b,d,e,f,g]):∀us,us.length=5->P us:=us_s λa=>us4 (P:=λus=>P (a::us)) (h a)
def Gx.of (P:Program)(w:World)(K:W.Frag)(mg:WmP)(base:Heap):∃G:Gx,G.P=P/\G.w=w/\G.K=K/\G.mg=mg/\G.base=base:=⟨⟨P,w,K,mg,base⟩,rfl,rfl,rfl,rfl,rfl⟩
def ctG {G:Gx}{h:Heap}(X:G.K.In h)(g:h.Ns mainGlobals G.mg)(t:Te){st:Stmt}{f:Addr}(d:Std G.K t.x st f)(ok:∀e,Fun G.K t.x t.x st f e->Ft G t f e)
  (o:∀kV m p i j ct b,b.length=t.ps.length->bindArgs (W.fnOf t.x t.x (z3q st) (z1Y st) (z0g st) .none kV m p i j ct) ⟨b,[]⟩=pure (t.ps.zip b):=by walk_at "c"):Cf G t.F t:=⟨zm7 X g d o ok,rfl⟩
end Pu
end
set_option Elab.async false
set_option linter.all false
set_option maxRecDepth 100000
set_option maxHeartbeats 4000000
namespace My
open PySem L2 Pu
def top (i:Nat):Stmt:=PySem.Challenge.pw_closehaul_k30_whole_soonest.main.body.getD i (.Pass ⟨0,0,0,0⟩)
abbrev Fu (G:Gx)(t:Te)(f:Addr)(fd:FuncData):Prop:=Fun G.K t.x t.x (top t.i) f fd
local macro_rules | `(tactic| walk_at "c") => `(tactic| first | exact λ_ _ _ _ _ _=>us1 λ_=>rfl | exact λ_ _ _ _ _ _=>us2 λ_ _=>rfl | exact λ_ _ _ _ _ _=>us3 λ_ _ _=>rfl | exact λ_ _ _ _ _ _=>us4 λ_ _ _ _=>rfl | exact λ_ _ _ _ _ _=>us5 λ_ _ _ _ _=>rfl)
noncomputable abbrev BL:List Str:=["abs","all","bool","int","isinstance","len","list","max","min","range","reversed","set","sorted","str","sum","tuple","zip"]
structure Txt (K:W.Frag)(mg:WmP):Prop where
 nb:∀b∈BL,mg b=none
 g_EVERY_WAY:zmg K mg "EVERY_WAY" z3m
def znY:bootBuiltins "abs"=some (.builtin "abs"):=by rfl
def znX:bootBuiltins "all"=some (.builtin "all"):=by rfl
def zma:bootBuiltins "bool"=some (.type "bool"):=by rfl
def znW:bootBuiltins "int"=some (.type "int"):=by rfl
def znV:bootBuiltins "len"=some (.builtin "len"):=by rfl
def zm9:bootBuiltins "list"=some (.type "list"):=by rfl
def znU:bootBuiltins "max"=some (.builtin "max"):=by rfl
def znT:bootBuiltins "min"=some (.builtin "min"):=by rfl
def zfV:bootBuiltins "sorted"=some (.builtin "sorted"):=by rfl
def znS:bootBuiltins "str"=some (.type "str"):=by rfl
def znR:bootBuiltins "sum"=some (.builtin "sum"):=by rfl
def ziM:bootBuiltins "tuple"=some (.type "tuple"):=by rfl
open Lean in
set_option hygiene false in
def tq (s:String):MacroM (TSyntax `tactic):=if s="*r0" then `(tactic|((assumption;with_unfolding_all exact λh=>h))) else if s="*r7" then `(tactic|(with_reducible refine zmK (d:=z3m) ?_ ?_ ?_)) else if s="*r10" then `(tactic|(refine ziJ ?_ ?_;with_unfolding_all rfl;with_unfolding_all exact hu)) else if s="*i0" then `(tactic|assumption) else if s="*i4" then `(tactic|decide) else if s="*i6" then `(tactic|decide +kernel) else Macro.throwUnsupported
open Lean in
set_option hygiene false in
def qs (l:List (String × String)):MacroM (TSyntax `tactic):=do
 let a←l.toArray.mapM λ(h,b)=>do
  let t←if b.startsWith ">" then `(tactic|walk_at $(Syntax.mkStrLit (b.drop 1).toString)) else if b.startsWith "*" then tq b else if b.startsWith "=" then `(tactic|with_unfolding_all $(←al (b.drop 1).toString false):tactic) else if b.startsWith "." then `(tactic|with_unfolding_all exact (‹Cf G $(mkIdent (b.drop 1).toString.toName) _›).c) else if b.startsWith "^" then do
    let l:=(b.drop 1).toString.splitOn ";"
    let x←(l.head!.splitOn " ").toArray.mapM λw=>if w="_" then `(_) else `($(mkIdent w.toName):ident)
    let t←al l.getLast! false
    if l.getLast!="" then `(tactic|intro $x*) else `(tactic|(intro $x*;$t:tactic))
   else if b.startsWith "-" then al (b.drop 1).toString false else al b
  if h="" then pure t else if h.startsWith "/" then `(tactic|(with_reducible refine $(←rf (h.drop 2).toString);rotate_left $(Syntax.mkNumLit ((h.drop 1).take 1).toString);$t:tactic)) else if h.startsWith "+" then `(tactic|($(←al (h.drop 1).toString);$t:tactic)) else sh h t
 `(tactic|first $[|$a:tactic]*)
def qT:List (String × List (String × String)):=[("q2",[("QE:___",">e"),("Eq:__",">r"),("QA:___","zeD??? zhp"),("QSs:___","zgj? zcm?? zjL"),("QS:___",">s"),("QT:___","zk6?#??? zht? zcn??##??? zmM? zhu??"),("QW:___","zeG? zhq? zhr?? zk1??"),("QI:____","zb6???? zeN????? qi_x?"),("",">o")]),("r",[("","znY znX zma znW znV zm9 znU znT zfV znS znR ziM"),("","-rfl")]),("e",[("",">r1"),("","zjV zjZ?#?? zmH??? zjP? zjY?#???"),("/2zjW:Gt?????????","*r0"),("",">g")]),("v",[("","-vx!= qv*")]),("g",[("","qx_v? zmL zjQ zjT zmE?%? zjS? zjR? zk0?? zmG?? zmF??? zeQ!?????????? zeP!??????????? zke? zb7????????? z51???????? zjU??????????? zhD zeE???????? z8e????????? zb5???????? zb4????????"),("/2zeF:ck???????","=tb"),("/6zgl:0ckps????",".z3I"),("/6zgl:2ckps????",".z0F"),("","*r7"),("/1zmJ:i?n????????",">r5"),("/1zjX:i?n????????",">r6"),("/1zmP:i?????????",">r5"),("/1zkf:i?????????",">r6"),("","QF.qx?"),("",">v"),("",">r8")]),("s",[("",">r9"),("","zgk? zjH? zmD??? zjK? zho? zjO???????? zjN???????? zjJ???? zez??? zjM?????? zeC????????? zeB zjI????? zeA???? zeM!????????????? zeL!?????????????? zhn?????"),("","-ax!=?= QS.sh?")]),("o",[("","zlb zld zl9 zlc zi5 zla zni? znb? znc? zng? znd? znh zne zfg znf? zkX zhz zhy?"),("","-nx!= zkc~== zkd~== zeO??= zhC zkb=? hr.mono^ zkN hu PassesOwn.never zlu* rfl T.nb*^"),("",">o1")]),("h",[("","-zm3 zm6 zm2$ ziK$"),("","*r10"),("","-ziI$ zm5$ ziH$ ziG$ zfP")]),("r1",[("+qx_v?",">v")]),("r5",[("",">h")]),("r6",[("","-zgV zaK zdG")]),("r8",[("","-zhG=@?=^^")]),("r9",[("+zgk?",">a")]),("a",[("","-ax!=?=")]),("o1",[("","*i0"),("","^_;rfl"),("","^_ _;rfl"),("","^_ _ _ _ n1;"),("","*i4"),("","-S.fs.nd"),("","*i6"),("","^_ _ he hg;zk9<>"),("","^_ he;ax!=<="),("","=rfl"),("","-T.g_EVERY_WAY")])]
open Lean in
local macro_rules | `(tactic| walk_at $s:str) => match qT.lookup s.getString with | some l=>qs l | none=>Macro.throwUnsupported
local macro_rules | `(tactic| walk_at "q") => `(tactic| walk_at "q2" <;> walk_at "q")
set_option hygiene false in
local macro_rules | `(tactic| walk_at "f") => `(tactic| (refine fnT F (Sc.of (by decide +kernel)) rfl rfl (λcdv A outer s H E S hr hu =>?_);first | refine zgj ?_ | refine zcm ?_ ?_) <;> walk_at "q")
def z1x:Te:=⟨1,"_law_cell_at",52,2,["script","k"],z0d⟩
def z1w:Te:=⟨1,"_law_free_vector",55,2,["cell","far","wide"],z0i⟩
def z1j:Te:=⟨2,"_law_free_watches",56,1,["script","far","watches","at","size","first","wind"],z0A⟩
def z0Q:Te:=⟨1,"_law_draw",53,3,["cell","k","many","prime","mixed"],z00⟩
def z2M:Te:=⟨2,"_law_vector",54,3,["cell","far","line","times"],z0Y⟩
def z2n:Te:=⟨3,"_law_watches",57,1,["script","base","far","line","most","watches","at","size","wind","stream"],z1d⟩
def z0w:Te:=⟨1,"_law_lowest",58,1,["row","least","number","one","rest"],z01⟩
def z3f:Te:=⟨2,"_law_short",69,2,["course","cell","first","bottom","part","last"],z16⟩
def z3w:Te:=⟨2,"_law_add",64,3,["place","vector","share","top","x","y"],z0N⟩
def z36:Te:=⟨2,"_law_sum",59,2,["one","other"],z0x⟩
def z39:Te:=⟨3,"_law_end",65,2,["watches","course","place","k","total","j","share"],z0y⟩
def z1g:Te:=⟨2,"_law_free_place",66,2,["cell","far","wide","x","y"],z0k⟩
def z3g:Te:=⟨2,"_law_parts",62,3,["cell","many","bottom","cut","one","two","three","rest","tops"],z1D⟩
def z2f:Te:=⟨3,"_law_course",63,2,["watches","cell","course","k","bottom","tops"],z0B⟩
def z3O:Te:=⟨4,"_law_goal",67,3,["watches","cell","far","place","way","size","step"],z1Q⟩
def z4o:Te:=⟨5,"_law_aim",70,3,["watches","cell","far","short","place"],z1X⟩
def z33:Te:=⟨1,"turn_of",2,2,["one","other"],z1L⟩
def z1U:Te:=⟨1,"step_of",5,2,["start","end"],z0F⟩
def z4l:Te:=⟨2,"turn_by",8,3,["start","middle","end"],z3I⟩
def z3Q:Te:=⟨3,"chain_of",9,2,["spots","turn","kept","spot"],z3c⟩
def z2m:Te:=⟨4,"least_round",10,2,["rising","turn","there","back"],z2t⟩
def z0C:Te:=⟨5,"least_headings",11,1,["wind"],z09⟩
def z1H:Te:=⟨1,"vector_added",4,2,["one","other"],z10⟩
def z3a:Te:=⟨6,"drift_of",27,1,["watch"],z2x⟩
def z35:Te:=⟨1,"right_of",6,1,["step"],z2v⟩
def z1N:Te:=⟨3,"bearings_round",12,2,["corners","step_between","found","number","corner","step"],z1R⟩
def z2P:Te:=⟨1,"dot_of",3,2,["one","other"],z1e⟩
def z34:Te:=⟨6,"sides_of",13,1,["wind","sides"],z25⟩
def z3P:Te:=⟨2,"farthest",7,2,["wind","bearing"],z2w⟩
def z3e:Te:=⟨7,"limits_of",44,3,["ahead","drift","place","limits","bearing","most","gap"],z3p⟩
def z0E:Te:=⟨1,"longest_from_begin",45,1,["limits","found","limit"],z0q⟩
def z1M:Te:=⟨1,"longest_to_end",46,1,["limits","found","limit"],z1O⟩
def z26:Te:=⟨2,"watch_barred",47,1,["limits","bearing","gap","gain","first","last"],z2c⟩
def z2O:Te:=⟨2,"goes_first",24,2,["one","other","one_rises","other_rises"],z2U⟩
def z27:Te:=⟨3,"steps_merged",25,2,["ones","others","steps","taken","other"],z2d⟩
def z2j:Te:=⟨3,"steps_round",23,2,["corners","step_between","behind"],z1W⟩
def z4p:Te:=⟨6,"joined",26,2,["one","other","ones","others","heading","headings","step"],z40⟩
def z0R:Te:=⟨1,"common_divisor",18,2,["one","other","great","small","rest"],z0e⟩
def z3M:Te:=⟨2,"lowest",19,2,["top","bottom","divisor"],z2r⟩
def z2J:Te:=⟨1,"wind_times",48,2,["wind","number"],z2i⟩
def z2l:Te:=⟨1,"lies_beyond",32,3,["place","bearing","most"],z2s⟩
def z1z:Te:=⟨7,"barring_bearing",33,2,["headings","place","bearing","most"],z1F⟩
def z4k:Te:=⟨1,"way_to",34,2,["vector","place"],z3Z⟩
def z2L:Te:=⟨2,"line_parts",35,2,["corners","place","step","whole","second"],z2S⟩
def z1f:Te:=⟨2,"triangle_parts",36,2,["corners","place","one","other","way","whole","second","third"],z0U⟩
def z1s:Te:=⟨3,"triangle_around",37,2,["headings","place","number","corners"],z1A⟩
def z1u:Te:=⟨3,"shares_of_parts",38,3,["wind","corners","parts","whole","shares"],z15⟩
def z3d:Te:=⟨8,"shares_to",39,2,["wind","place","headings","bearing","corners","parts"],z3o⟩
def z2N:Te:=⟨2,"heading_at",41,2,["wind","step","side","ways"],z2T⟩
def z5Q:Te:=⟨2,"added",20,2,["one","other","shared","one_times","other_times","top","rest"],z5d⟩
def z1v:Te:=⟨3,"shares_in_watch",42,3,["wind","reach","shares","found","number","share","heading"],z1C⟩
def z28:Te:=⟨2,"lowest_place",29,3,["x","y","bottom","divisor"],z2e⟩
def z2k:Te:=⟨3,"place_times",30,2,["place","fraction"],z2q⟩
def z2K:Te:=⟨3,"multiplied",21,2,["one","other"],z2R⟩
def z1t:Te:=⟨9,"short_course_to",49,4,["watches","ahead","part","place","drift","reach","shares","course","last"],z1B⟩
def z4m:Te:=⟨10,"soonest",50,2,["watches","place","bars","ahead","number","drift","limits","barred","limit","part","course"],z4M⟩
def z3N:Te:=⟨2,"_law_size",68,1,["script"],z1P⟩
def z2u:Te:=⟨1,"_law_pair",72,1,["found"],z0l⟩
def z21:Te:=⟨1,"_law_whole",71,1,["found"],z07⟩
def z11:Te:=⟨2,"_law_bearing_formed",75,1,["found"],z0r⟩
def z1y:Te:=⟨3,"_law_bars_formed",83,1,["bars","entry"],z0p⟩
def z19:Te:=⟨2,"_law_shares_formed",73,1,["shares","part"],z0u⟩
def z1a:Te:=⟨3,"_law_course_formed",74,1,["course"],z0v⟩
def z1b:Te:=⟨4,"_law_answer_formed",84,1,["found"],z0f⟩
def z3h:Te:=⟨3,"_law_fills",76,2,["many","shares","last","total","j","share"],z1E⟩
def z1S:Te:=⟨1,"_law_before",77,2,["one","other"],z0a⟩
def z2o:Te:=⟨4,"_law_part_of",79,3,["watches","course","place","part","k"],z0M⟩
def z3v:Te:=⟨1,"_law_dot",60,2,["one","other"],z0z⟩
def z4n:Te:=⟨2,"_law_far",61,2,["watches","bearing","total","wind","stream"],z1q⟩
def z38:Te:=⟨3,"_law_left",78,4,["watches","number","place","bearings","least","most","bearing","lacking","drift"],z0W⟩
def z37:Te:=⟨4,"_law_shut",80,3,["watches","place","bars","k"],z0V⟩
def z29:Te:=⟨5,"_law_at_right",81,5,["watches","place","moment","course","bars","part","left"],z12⟩
def z1k:Te:=⟨6,"_law_answer_right",82,3,["watches","place","answer"],z0h⟩
def zj7:Te:=⟨11,"law",85,1,["script","most","watches","cell","place","found"],z6m⟩
section
variable {G:Gx}{f:Addr}{fd:FuncData}(T:Txt G.K G.mg)
include T
theorem z6D (F:Fu G z1x f fd):Ft G z1x f fd:=by walk_at "f"
theorem z4E (F:Fu G z1w f fd):Ft G z1w f fd:=by walk_at "f"
theorem z4e (F:Fu G z1j f fd)(_:Cf G z0i z1w):Ft G z1j f fd:=by walk_at "f"
theorem z9w (F:Fu G z0Q f fd):Ft G z0Q f fd:=by walk_at "f"
theorem z7t (F:Fu G z2M f fd)(_:Cf G z00 z0Q):Ft G z2M f fd:=by walk_at "f"
theorem z6B (F:Fu G z2n f fd)(_:Cf G z0d z1x)(_:Cf G z00 z0Q)(_:Cf G z0Y z2M)(_:Cf G z0A z1j):Ft G z2n f fd:=by walk_at "f"
theorem z7u (F:Fu G z0w f fd):Ft G z0w f fd:=by walk_at "f"
theorem z8s (F:Fu G z3f f fd)(_:Cf G z00 z0Q)(_:Cf G z01 z0w):Ft G z3f f fd:=by walk_at "f"
theorem zbl (F:Fu G z3w f fd)(_:Cf G z01 z0w):Ft G z3w f fd:=by walk_at "f"
theorem zbg (F:Fu G z36 f fd)(_:Cf G z01 z0w):Ft G z36 f fd:=by walk_at "f"
theorem zbi (F:Fu G z39 f fd)(_:Cf G z0x z36)(_:Cf G z0N z3w):Ft G z39 f fd:=by walk_at "f"
theorem z55 (F:Fu G z1g f fd)(_:Cf G z01 z0w):Ft G z1g f fd:=by walk_at "f"
theorem z8t (F:Fu G z3g f fd)(_:Cf G z00 z0Q):Ft G z3g f fd:=by walk_at "f"
theorem z7v (F:Fu G z2f f fd)(_:Cf G z00 z0Q)(_:Cf G z01 z0w)(_:Cf G z1D z3g):Ft G z2f f fd:=by walk_at "f"
theorem z9v (F:Fu G z3O f fd)(_:Cf G z00 z0Q)(_:Cf G z01 z0w)(_:Cf G z0B z2f)(_:Cf G z0N z3w)(_:Cf G z0y z39)(_:Cf G z0k z1g):Ft G z3O f fd:=by walk_at "f"
theorem zbk (F:Fu G z4o f fd)(_:Cf G z00 z0Q)(_:Cf G z0B z2f)(_:Cf G z0y z39)(_:Cf G z0k z1g)(_:Cf G z1Q z3O)(_:Cf G z16 z3f):Ft G z4o f fd:=by walk_at "f"
theorem zbc (F:Fu G z33 f fd):Ft G z33 f fd:=by walk_at "f"
theorem zbe (F:Fu G z1U f fd):Ft G z1U f fd:=by walk_at "f"
theorem zbd (F:Fu G z4l f fd)(_:Cf G z1L z33)(_:Cf G z0F z1U):Ft G z4l f fd:=by walk_at "f"
theorem z9z (F:Fu G z3Q f fd)(tb:FTab G.P G.w G.K G.mg G.base (CXe G.P G.w) 2 z9J):Ft G z3Q f fd:=by walk_at "f"
theorem z6A (F:Fu G z2m f fd)(_:Cf G z3c z3Q):Ft G z2m f fd:=by walk_at "f"
theorem z54 (F:Fu G z0C f fd)(_:Cf G z3I z4l)(_:Cf G z2t z2m):Ft G z0C f fd:=by walk_at "f"
theorem z63 (F:Fu G z1H f fd):Ft G z1H f fd:=by walk_at "f"
theorem z9y (F:Fu G z3a f fd)(_:Cf G z10 z1H)(_:Cf G z09 z0C):Ft G z3a f fd:=by walk_at "f"
theorem z9q (F:Fu G z35 f fd):Ft G z35 f fd:=by walk_at "f"
theorem z57 (F:Fu G z1N f fd)(_:Cf G z2v z35)(tb:FTab G.P G.w G.K G.mg G.base (CXe G.P G.w) 2 z9J):Ft G z1N f fd:=by walk_at "f"
theorem zcN (F:Fu G z2P f fd):Ft G z2P f fd:=by walk_at "f"
theorem z9p (F:Fu G z34 f fd)(_:Cf G z1e z2P)(_:Cf G z0F z1U)(_:Cf G z09 z0C)(_:Cf G z1R z1N):Ft G z34 f fd:=by walk_at "f"
theorem z9x (F:Fu G z3P f fd)(_:Cf G z1e z2P):Ft G z3P f fd:=by walk_at "f"
theorem z8q (F:Fu G z3e f fd)(_:Cf G z1e z2P)(_:Cf G z2w z3P)(_:Cf G z25 z34):Ft G z3e f fd:=by walk_at "f"
theorem z3E (F:Fu G z0E f fd):Ft G z0E f fd:=by walk_at "f"
theorem z53 (F:Fu G z1M f fd):Ft G z1M f fd:=by walk_at "f"
theorem z62 (F:Fu G z26 f fd)(_:Cf G z0q z0E)(_:Cf G z1O z1M):Ft G z26 f fd:=by walk_at "f"
theorem z7y (F:Fu G z2O f fd)(_:Cf G z1L z33):Ft G z2O f fd:=by walk_at "f"
theorem z64 (F:Fu G z27 f fd)(_:Cf G z2U z2O):Ft G z27 f fd:=by walk_at "f"
theorem z6x (F:Fu G z2j f fd)(tb:FTab G.P G.w G.K G.mg G.base (CXe G.P G.w) 2 z9J):Ft G z2j f fd:=by walk_at "f"
theorem zcM (F:Fu G z4p f fd)(_:Cf G z10 z1H)(_:Cf G z0F z1U)(_:Cf G z09 z0C)(_:Cf G z1W z2j)(_:Cf G z2d z27):Ft G z4p f fd:=by walk_at "f"
theorem z56 (F:Fu G z0R f fd):Ft G z0R f fd:=by walk_at "f"
theorem zcL (F:Fu G z3M f fd)(_:Cf G z0e z0R):Ft G z3M f fd:=by walk_at "f"
theorem z7q (F:Fu G z2J f fd):Ft G z2J f fd:=by walk_at "f"
theorem z6z (F:Fu G z2l f fd):Ft G z2l f fd:=by walk_at "f"
theorem z4G (F:Fu G z1z f fd)(_:Cf G z25 z34)(_:Cf G z2s z2l):Ft G z1z f fd:=by walk_at "f"
theorem zcK (F:Fu G z4k f fd):Ft G z4k f fd:=by walk_at "f"
theorem z7s (F:Fu G z2L f fd)(_:Cf G z1e z2P)(_:Cf G z0F z1U)(_:Cf G z3Z z4k):Ft G z2L f fd:=by walk_at "f"
theorem z52 (F:Fu G z1f f fd)(_:Cf G z1L z33)(_:Cf G z0F z1U)(_:Cf G z3Z z4k):Ft G z1f f fd:=by walk_at "f"
theorem z4A (F:Fu G z1s f fd)(_:Cf G z0U z1f):Ft G z1s f fd:=by walk_at "f"
theorem z4C (F:Fu G z1u f fd)(_:Cf G z2r z3M):Ft G z1u f fd:=by walk_at "f"
theorem z8o (F:Fu G z3d f fd)(_:Cf G z09 z0C)(_:Cf G z1F z1z)(_:Cf G z2S z2L)(_:Cf G z0U z1f)(_:Cf G z1A z1s)(_:Cf G z15 z1u):Ft G z3d f fd:=by walk_at "f"
theorem z7x (F:Fu G z2N f fd)(_:Cf G z1e z2P)(_:Cf G z2v z35):Ft G z2N f fd:=by walk_at "f"
theorem zfe (F:Fu G z5Q f fd)(_:Cf G z0e z0R):Ft G z5Q f fd:=by walk_at "f"
theorem z4D (F:Fu G z1v f fd)(_:Cf G z0F z1U)(_:Cf G z5d z5Q)(_:Cf G z2T z2N):Ft G z1v f fd:=by walk_at "f"
theorem z65 (F:Fu G z28 f fd)(_:Cf G z0e z0R):Ft G z28 f fd:=by walk_at "f"
theorem z6y (F:Fu G z2k f fd)(_:Cf G z2e z28):Ft G z2k f fd:=by walk_at "f"
theorem z7r (F:Fu G z2K f fd)(_:Cf G z2r z3M):Ft G z2K f fd:=by walk_at "f"
theorem z4B (F:Fu G z1t f fd)(_:Cf G z2R z2K)(_:Cf G z40 z4p)(_:Cf G z2x z3a)(_:Cf G z2q z2k)(_:Cf G z3o z3d)(_:Cf G z1C z1v)(_:Cf G z2i z2J):Ft G z1t f fd:=by walk_at "f"
theorem zbf (F:Fu G z4m f fd)(_:Cf G z2r z3M)(_:Cf G z5d z5Q)(_:Cf G z40 z4p)(_:Cf G z2x z3a)(_:Cf G z3p z3e)(_:Cf G z0q z0E)(_:Cf G z2c z26)(_:Cf G z1B z1t):Ft G z4m f fd:=by walk_at "f"
theorem z9r (F:Fu G z3N f fd)(_:Cf G z0d z1x)(_:Cf G z00 z0Q):Ft G z3N f fd:=by walk_at "f"
theorem z9t (F:Fu G z2u f fd):Ft G z2u f fd:=by walk_at "f"
theorem z8r (F:Fu G z21 f fd):Ft G z21 f fd:=by walk_at "f"
theorem z3F (F:Fu G z11 f fd)(_:Cf G z07 z21)(_:Cf G z0l z2u):Ft G z11 f fd:=by walk_at "f"
theorem z4F (F:Fu G z1y f fd)(_:Cf G z0r z11):Ft G z1y f fd:=by walk_at "f"
theorem z43 (F:Fu G z19 f fd)(_:Cf G z07 z21)(_:Cf G z0l z2u):Ft G z19 f fd:=by walk_at "f"
theorem z44 (F:Fu G z1a f fd)(_:Cf G z0u z19):Ft G z1a f fd:=by walk_at "f"
theorem z45 (F:Fu G z1b f fd)(_:Cf G z07 z21)(_:Cf G z0l z2u)(_:Cf G z0v z1a)(_:Cf G z0p z1y):Ft G z1b f fd:=by walk_at "f"
theorem z8u (F:Fu G z3h f fd)(_:Cf G z01 z0w)(_:Cf G z0x z36):Ft G z3h f fd:=by walk_at "f"
theorem z7w (F:Fu G z1S f fd):Ft G z1S f fd:=by walk_at "f"
theorem z6C (F:Fu G z2o f fd)(_:Cf G z0y z39)(_:Cf G z1E z3h)(_:Cf G z0a z1S):Ft G z2o f fd:=by walk_at "f"
theorem zbj (F:Fu G z3v f fd):Ft G z3v f fd:=by walk_at "f"
theorem zbh (F:Fu G z4n f fd)(_:Cf G z0z z3v):Ft G z4n f fd:=by walk_at "f"
theorem z9u (F:Fu G z38 f fd)(_:Cf G z01 z0w)(_:Cf G z0z z3v)(_:Cf G z1q z4n)(_:Cf G z0a z1S):Ft G z38 f fd:=by walk_at "f"
theorem z9s (F:Fu G z37 f fd)(_:Cf G z0W z38):Ft G z37 f fd:=by walk_at "f"
theorem z66 (F:Fu G z29 f fd)(_:Cf G z0x z36)(_:Cf G z0a z1S)(_:Cf G z0W z38)(_:Cf G z0M z2o)(_:Cf G z0V z37):Ft G z29 f fd:=by walk_at "f"
theorem z4f (F:Fu G z1k f fd)(_:Cf G z0V z37)(_:Cf G z12 z29):Ft G z1k f fd:=by walk_at "f"
theorem zl7 (F:Fu G zj7 f fd)(_:Cf G z4M z4m)(_:Cf G z0d z1x)(_:Cf G z00 z0Q)(_:Cf G z1d z2n)(_:Cf G z1P z3N)(_:Cf G z1X z4o)(_:Cf G z0h z1k)(_:Cf G z0f z1b):Ft G zj7 f fd:=by walk_at "f"
end
def zmc {l:W.OpenLaw}{w:World}{K:W.Frag}{h:Heap}{mg:WmP}{fa f0 f1 f2 f3 f4 f5 f6 f7 f8 f9 g8 g9 h0 h1 h2 h3 h4 h5 h6 h7 h8 h9 i0 i1 i2 i3 i4 i5 i6 i7 i8 i9 k0 k1 k2 k3 k4 k5 k6 k7 k8 k9 l0 l1 l2 l3 l4 l5 l6 l7 l8 l9 m0 m1 m2 m3 m4 m5 m6 m7 m8 m9 n0 n1 n2 n3 n4 n5 n6 n7 n8 n9 o0 o1:Addr}(X:K.In h)(g:h.Ns mainGlobals mg)(o2:mg "law"=some (.ref fa))
  (d0:Std K "_law_cell_at" (top 52) f0)
  (d1:Std K "_law_free_vector" (top 55) f1)
  (d2:Std K "_law_free_watches" (top 56) f2)
  (d3:Std K "_law_draw" (top 53) f3)
  (d4:Std K "_law_vector" (top 54) f4)
  (d5:Std K "_law_watches" (top 57) f5)
  (d6:Std K "_law_lowest" (top 58) f6)
  (d7:Std K "_law_short" (top 69) f7)
  (d8:Std K "_law_add" (top 64) f8)
  (d9:Std K "_law_sum" (top 59) f9)
  (z:Std K "_law_end" (top 65) g8)
  (A:Std K "_law_free_place" (top 66) g9)
  (C:Std K "_law_parts" (top 62) h0)
  (E:Std K "_law_course" (top 63) h1)
  (H:Std K "_law_goal" (top 67) h2)
  (I:Std K "_law_aim" (top 70) h3)
  (J:Std K "turn_of" (top 2) h4)
  (L:Std K "step_of" (top 5) h5)
  (M:Std K "turn_by" (top 8) h6)
  (N:Std K "chain_of" (top 9) h7)
  (O:Std K "least_round" (top 10) h8)
  (Q:Std K "least_headings" (top 11) h9)
  (R:Std K "vector_added" (top 4) i0)
  (S:Std K "drift_of" (top 27) i1)
  (U:Std K "right_of" (top 6) i2)
  (Y:Std K "bearings_round" (top 12) i3)
  (Z:Std K "dot_of" (top 3) i4)
  (a0:Std K "sides_of" (top 13) i5)
  (a1:Std K "farthest" (top 7) i6)
  (a2:Std K "limits_of" (top 44) i7)
  (a3:Std K "longest_from_begin" (top 45) i8)
  (a4:Std K "longest_to_end" (top 46) i9)
  (a5:Std K "watch_barred" (top 47) k0)
  (a6:Std K "goes_first" (top 24) k1)
  (a7:Std K "steps_merged" (top 25) k2)
  (a8:Std K "steps_round" (top 23) k3)
  (a9:Std K "joined" (top 26) k4)
  (b0:Std K "common_divisor" (top 18) k5)
  (b1:Std K "lowest" (top 19) k6)
  (b2:Std K "wind_times" (top 48) k7)
  (b3:Std K "lies_beyond" (top 32) k8)
  (b4:Std K "barring_bearing" (top 33) k9)
  (b5:Std K "way_to" (top 34) l0)
  (b6:Std K "line_parts" (top 35) l1)
  (b7:Std K "triangle_parts" (top 36) l2)
  (b8:Std K "triangle_around" (top 37) l3)
  (b9:Std K "shares_of_parts" (top 38) l4)
  (c0:Std K "shares_to" (top 39) l5)
  (c1:Std K "heading_at" (top 41) l6)
  (c2:Std K "added" (top 20) l7)
  (c3:Std K "shares_in_watch" (top 42) l8)
  (c4:Std K "lowest_place" (top 29) l9)
  (c5:Std K "place_times" (top 30) m0)
  (c6:Std K "multiplied" (top 21) m1)
  (c7:Std K "short_course_to" (top 49) m2)
  (c8:Std K "soonest" (top 50) m3)
  (c9:Std K "_law_size" (top 68) m4)
  (e0:Std K "_law_pair" (top 72) m5)
  (e1:Std K "_law_whole" (top 71) m6)
  (e2:Std K "_law_bearing_formed" (top 75) m7)
  (e3:Std K "_law_bars_formed" (top 83) m8)
  (e4:Std K "_law_shares_formed" (top 73) m9)
  (e5:Std K "_law_course_formed" (top 74) n0)
  (e6:Std K "_law_answer_formed" (top 84) n1)
  (e7:Std K "_law_fills" (top 76) n2)
  (e8:Std K "_law_before" (top 77) n3)
  (e9:Std K "_law_part_of" (top 79) n4)
  (g0:Std K "_law_dot" (top 60) n5)
  (g1:Std K "_law_far" (top 61) n6)
  (g2:Std K "_law_left" (top 78) n7)
  (g4:Std K "_law_shut" (top 80) n8)
  (g5:Std K "_law_at_right" (top 81) n9)
  (g6:Std K "_law_answer_right" (top 82) o0)
  (g7:Std K "law" (top 85) o1)
  (zb:∀b∈BL,W.nsIn K mainGlobals b=some none)
  (j:W.nsIn K mainGlobals "turn_among"=some none)
  (i:W.nsIn K mainGlobals "step_among"=some none)
  (x:W.nsIn K mainGlobals ""=some none)
  {d:Addr}(o:W.nsIn K mainGlobals "EVERY_WAY"=some (some (.ref d))) (m:z8D K z3m (.ref d)=true)
  : ∃fd:FuncData,(∀(s:Shared) (v:Value),BindsTo s fd ⟨[v],[]⟩ [("script",v)])/\∀p:Heap,K.In p->p.Ns mainGlobals mg->FnOk l.prog w K mg p (CXe l.prog w) 11 fa fd ["script"] (spL K):=by
 refine zj2 X g g7 o2 (λ_ _ _ _ _ _ s v =>.of_eq rfl) λp kb nb fd F =>?_;generalize l.prog=P;obtain⟨G,rfl,rfl,rfl,rfl,rfl⟩:=Gx.of P w K mg p;have T:Txt G.K G.mg:=⟨λb hb=>j8 X g (zb b hb),⟨_,W.mg_of X g o,m⟩⟩
 have a := @ctG G h X g;have q0:=a z1x d0 λ_ F=>z6D T F;have q1:=a z1w d1 λ_ F=>z4E T F;have q3:=a z1j d2 λ_ F=>z4e T F q1;have q:=a z0Q d3 λ_ F=>z9w T F;have q5:=a z2M d4 λ_ F=>z7t T F q;have q6:=a z2n d5 λ_ F=>z6B T F q0 q q5 q3;have r:=a z0w d6 λ_ F=>z7u T F;have q8:=a z3f d7 λ_ F=>z8s T F q r;have q9:=a z3w d8 λ_ F=>zbl T F r;have qa:=a z36 d9 λ_ F=>zbg T F r;have qb:=a z39 z λ_ F=>zbi T F qa q9;have qc:=a z1g A λ_ F=>z55 T F r;have qd:=a z3g C λ_ F=>z8t T F q;have qe:=a z2f E λ_ F=>z7v T F q r qd;have qf:=a z3O H λ_ F=>z9v T F q r qe q9 qb qc;have qg:=a z4o I λ_ F=>zbk T F q qe qb qc qf q8;have qh:=a z33 J λ_ F=>zbc T F;have t:=a z1U L λ_ F=>zbe T F;have qj:=a z4l M λ_ F=>zbd T F qh t;have tb:FTab G.P G.w G.K G.mg G.base (CXe G.P G.w) 2 z9J:=FTab.mk (j8 X g x) λn hn f e=>by
  match n,hn with
  | 0,_=>exact qj.c.tab (by decide) f e
  | 1,_=>rw[show z6k 1="turn_among" from rfl,j8 X g j] at e;cases e
  | 2,_=>exact t.c.tab (by decide) f e
  | 3,_=>rw[show z6k 3="step_among" from rfl,j8 X g i] at e;cases e
 have qk:=a z3Q N λ_ F=>z9z T F tb;have ql:=a z2m O λ_ F=>z6A T F qk;have y:=a z0C Q λ_ F=>z54 T F qj ql;have qn:=a z1H R λ_ F=>z63 T F;have qo:=a z3a S λ_ F=>z9y T F qn y;have qp:=a z35 U λ_ F=>z9q T F;have qq:=a z1N Y λ_ F=>z57 T F qp tb;have u:=a z2P Z λ_ F=>zcN T F;have qs:=a z34 a0 λ_ F=>z9p T F u t y qq;have qt:=a z3P a1 λ_ F=>z9x T F u;have qu:=a z3e a2 λ_ F=>z8q T F u qt qs;have qw:=a z0E a3 λ_ F=>z3E T F;have qy:=a z1M a4 λ_ F=>z53 T F;have qz:=a z26 a5 λ_ F=>z62 T F qw qy;have qA:=a z2O a6 λ_ F=>z7y T F qh;have qB:=a z27 a7 λ_ F=>z64 T F qA;have qC:=a z2j a8 λ_ F=>z6x T F tb;have qD:=a z4p a9 λ_ F=>zcM T F qn t y qC qB;have qE:=a z0R b0 λ_ F=>z56 T F;have qF:=a z3M b1 λ_ F=>zcL T F qE;have qG:=a z2J b2 λ_ F=>z7q T F;have qH:=a z2l b3 λ_ F=>z6z T F;have qI:=a z1z b4 λ_ F=>z4G T F qs qH;have qJ:=a z4k b5 λ_ F=>zcK T F;have qK:=a z2L b6 λ_ F=>z7s T F u t qJ;have qL:=a z1f b7 λ_ F=>z52 T F qh t qJ;have qM:=a z1s b8 λ_ F=>z4A T F qL;have qN:=a z1u b9 λ_ F=>z4C T F qF;have qO:=a z3d c0 λ_ F=>z8o T F y qI qK qL qM qN;have qP:=a z2N c1 λ_ F=>z7x T F u qp;have qQ:=a z5Q c2 λ_ F=>zfe T F qE;have qR:=a z1v c3 λ_ F=>z4D T F t qQ qP
 have qS:=a z28 c4 λ_ F=>z65 T F qE;have qT:=a z2k c5 λ_ F=>z6y T F qS;have qU:=a z2K c6 λ_ F=>z7r T F qF;have qV:=a z1t c7 λ_ F=>z4B T F qU qD qo qT qO qR qG;have qW:=a z4m c8 λ_ F=>zbf T F qF qQ qD qo qu qw qz qV;have qX:=a z3N c9 λ_ F=>z9r T F q0 q;have qY:=a z2u e0 λ_ F=>z9t T F;have qZ:=a z21 e1 λ_ F=>z8r T F;have y0:=a z11 e2 λ_ F=>z3F T F qZ qY;have y1:=a z1y e3 λ_ F=>z4F T F y0;have y2:=a z19 e4 λ_ F=>z43 T F qZ qY;have y3:=a z1a e5 λ_ F=>z44 T F y2;have y4:=a z1b e6 λ_ F=>z45 T F qZ qY y3 y1;have y5:=a z3h e7 λ_ F=>z8u T F r qa;have y6:=a z1S e8 λ_ F=>z7w T F;have y7:=a z2o e9 λ_ F=>z6C T F qb y5 y6;have y8:=a z3v g0 λ_ F=>zbj T F;have y9:=a z4n g1 λ_ F=>zbh T F y8;have ya:=a z38 g2 λ_ F=>z9u T F r y8 y9 y6;have yb:=a z37 g4 λ_ F=>z9s T F ya;have yc:=a z29 g5 λ_ F=>z66 T F qa y6 ya y7 yb;have yd:=a z1k g6 λ_ F=>z4f T F yb yc;exact zlF zil (zl7 T F qW q0 q q6 qX qg yd y4)
def walk {l:W.OpenLaw}{q:Program}{e:List Str}{XP:(Str->Option Value)->Heap->Prop}{g:World->Heap->Prop}{d:DefRec}{K:Params->W.Frag}(A:l.most=some 63)(i:d.params.defaults=[])
  (r:∀(w:World) (h:Heap),g w h->(K w.params).In h) (p:∀(w:World) (h:Heap),g w h->∀P t,(tsOf (K w.params)).lookup P=some t->h.get? P=some { cls :=.none,data :=.fields #[] })
  (F:∀(w:World) (mg:WmP) (j:Addr) (h:Heap),(K w.params).In h->h.Ns mainGlobals mg->mg d.name=some (.ref j)->
   ∃m:FuncData,(∀(s:Shared) (u:Value),BindsTo s m ⟨[u],[]⟩ [("script",u)])/\∀b:Heap,(K w.params).In b->b.Ns mainGlobals mg->FnOk l.prog w (K w.params) mg b (CXe l.prog w) 11 j m ["script"] (spL (K w.params))):
  W.WalkO q e XP g l.row.toRowW d [] (λf vs=>PySem.call f vs):=
 L2.zgX (n:=63) (k:=11) (x:="script") (CX:=λw=>(CXe l.prog w)) (sp:=λw=>spL (K w.params)) A (by decide) i ⟨rfl,by decide,by decide⟩ r p F (λ_ _ a C y o=>⟨a,C,rfl,o,y,λ_=>rfl⟩) λ_ _ _ _ _ ⟨_,_,_,_,_,_,_,_,_,z⟩=>z
end My
open PySem PySem.W PyProof.Rows
local macro_rules | `(tactic| walk_at "ks") => `(tactic| (refine' Pu.Std.mk ?a ?l ?c ?k;(case a=>k_is);(case l=>k_is);(case c=>k_is);(case k=>k_is)))
set_option maxRecDepth 100000 in
set_option maxHeartbeats 0 in
theorem PySem.Challenge.cw_closehaul_k30_whole_soonest_holds : PySem.Challenge.rw_closehaul_k30_whole_soonest.Holds := by
 w_on;o_law;k_head;(case hw=>w_witness2)
 k_fill
 refine My.walk (l:=PySem.Challenge.rw_closehaul_k30_whole_soonest) rfl rfl (λw h Y=>W.kIn_of Y) (λw h Y=>λP t e=>by rw[show L2.tsOf _=[] from by kernel_rfl] at e;cases e) ?F
 case F=>
  intro w mg g h f G b;refine' My.zmc f G b ?_ ?_ ?_ ?_ ?_ ?_ ?_ ?_ ?_ ?_ ?_ ?_ ?_ ?_ ?_ ?_ ?_ ?_ ?_ ?_ ?_ ?_ ?_ ?_ ?_ ?_ ?_ ?_ ?_ ?_ ?_ ?_ ?_ ?_ ?_ ?_ ?_ ?_ ?_ ?_ ?_ ?_ ?_ ?_ ?_ ?_ ?_ ?_ ?_ ?_ ?_ ?_ ?_ ?_ ?_ ?_ ?_ ?_ ?_ ?_ ?_ ?_ ?_ ?_ ?_ ?_ ?_ ?_ ?_ ?_ ?_ ?_ ?_ ?_ ?_ ?_ ?_ ?_ ?_ ?_
  all_goals first | walk_at "ks" | k_is | kernel_rfl | ((repeat refine List.forall_mem_cons.2 ⟨by k_is,?_⟩);intro _ h;cases h) | skip
