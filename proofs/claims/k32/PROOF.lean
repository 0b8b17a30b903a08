import PyProof.Rows.All
import Wide.All
import OpenK.AllK
import Wide.FinOn
import Lean
import PyProof.EqAt
import PyProof.EqKinds
import PyProof.TupleCall
import PyProof.Rows.SortRuns
import KE.KRevIter
import PyProof.SetRoads
import PyProof.ListNew
import PyProof.Rows.ListMulPlace
import PyProof.ZipIter
import PyProof.Rows.ZipGen
import PyProof.Rows.SumGenD
import PySem.Challenge.RW_closehaul_k32_soonest_papers_taken
set_option tactic.hygienic false
set_option compiler.extract_closed false
set_option linter.defProp false
open Lean in
local macro_rules|`(#where)=>do
 let p:=`PySem.Challenge
 let l:=["closehaul_k32_soonest_papers_taken"].flatMap λx=>[p.str ("pw_"++x),p.str ("rw_"++x)]++("env_41 heap_39 heap_46 heap_654 sts_134 sts_149 sts_164 sts_179 sts_229 sts_311 sts_393 sts_473 sts_49 sts_552 sts_633 tree_133 tree_148 tree_163 tree_178 tree_228 tree_310 tree_392 tree_47 tree_472 tree_551 tree_632 tree_653 view_39".splitOn " "++(List.range 611).map λi=>s!"o_{i+43}").map (p.str ("cw_"++x++"_holds")).str
 return mkNullNode (←l.toArray.mapM λn=>`(command|theorem $(mkIdent (.str `PySem.W.Fast s!"tw{n.hash}")):ident:True:=trivial))
#where
theorem jA10(h:True:=by rfl):True:=h
def jA1:=jA10._auto_1
theorem jB10(h:True:=by decide):True:=h
def jB1:=jB10._auto_1
theorem jC10(h:True:=by intro _;rfl):True:=h
def jC1:=jC10._auto_1
theorem jD10(h:True:=by first | exact .inl rfl | exact .inr rfl | assumption):True:=h
def jD1:=jD10._auto_1
noncomputable section
section
set_option hygiene false
abbrev WvP:=PySem.Value->PySem.Shared->Prop
abbrev WmP:=PySem.Str->Option PySem.Value
set_option hygiene true
def wc:=@PySem.wpAny_bind
def we:=@List.length_map
def wf:=@List.mem_map
def wg:=@PySem.Heap.get?_push_of_some
def wj:=@List.mem_singleton
def wm:=@List.getElem?_eq_getElem
def wn:=@List.mem_cons
def wo:=@Int.mul_le_mul_of_nonneg_right
def wp:=@PySem.wpAny_pure
def wq:=@List.mem_cons_of_mem
def wt:=@Int.le_of_lt
def wu:=@List.getElem?_eq_some_iff
def wv:=@PySem.Heap.get?_push_size
def ww:=@Nat.le_refl
def wz:=@List.mem_of_getElem?
def wA:=@List.not_mem_nil
def wB:=@List.mem_append
def wC:=@PySem.Heap.lt_size
def wD:=@List.map_append
def wE:=@List.map_cons
def wF:=@List.mem_cons_self
def wG:=@List.length_append
def wH:=@List.getElem?_set_ne
def wI:=@Int.mul_eq_zero
def wJ:=@Nat.ne_of_lt
def wK:=@Nat.lt_of_lt_of_le
def wL:=@Int.mul_le_mul_of_nonneg_left
def wM:=@List.getElem?_append_left
def wN:=@List.map_map
def wO:=@List.getElem?_map
def wP:=@List.sum_cons
def wQ:=@List.getElem?_set_self
def wR:=@Int.mul_nonneg
def wS:=@Int.mul_pos
def wT:=@Int.mul_comm
def wU:=@Int.eq_of_mul_eq_mul_right
def wV:=@Nat.le_trans
def wW:=@Nat.lt_or_ge
def wX:=@List.getElem?_append_right
def wY:=@Nat.mod_eq_of_lt
def wZ:=@Int.le_of_mul_le_mul_right
def w5:=@List.pairwise_map
def w6:=@Option.some.inj
def w9:=@List.length_pos_iff
def vd:=@List.pairwise_cons
def vf:=@decide_eq_true
def vg:=@List.length_cons
def vh:=@List.mem_append_right
def vi:=@List.length_take
def vj:=@List.mem_iff_getElem
def vk:=@List.pairwise_iff_getElem
def vp:=@Int.mul_nonpos_of_nonneg_of_nonpos
def vq:=@Bool.false_eq_true
def vz:=@List.getElem_of_mem
def vA:=@or_false
def vB:=@List.mem_of_mem_take
def vC:=@PySem.Heap.get?_update_other
def vD:=@Option.map_eq_some_iff
def vE:=@Int.mul_le_mul_of_nonpos_right
def vF:=@List.mem_append_left
def vG:=@Int.mul_nonpos_of_nonpos_of_nonneg
def vH:=@List.append_assoc
def vI:=@Bool.false_ne_true
def vJ:=@PySem.Heap.get?_update_self
def vK:=@List.length_singleton
def vL:=@PySem.wpAny_callSpecial?_slot
def vN:=@Ne.symm
def vO:=@Int.le_refl
def vP:=@Nat.zero_le
def vQ:=@Bool.and_eq_true
def vR:=@decide_eq_false
def vS:=@PySem.wpAny_mono
def vT:=@List.append_nil
def vU:=@List.nodup_cons
def vV:=@PySem.wpAny_field
def vW:=@PySem.wpAny_setState_of
def vX:=@PySem.Heap.size_push
def vY:=@PySem.wpAny_setField_rec
def vZ:=@Nat.lt_irrefl
def v3:=@List.lookup_cons
def v4:=@PySem.wpAny_call_entry
def v5:=@Int.mul_nonneg_of_nonpos_of_nonpos
def v6:=@List.size_toArray
def v7:=@Nat.lt_succ_of_lt
def v8:=@Classical.byContradiction
def v9:=@PySem.wpAny_seqItems
def ua:=@Prod.ext
def ub:=@List.mem_range
def uc:=@PySem.wpAny_holding
def ud:=@Nat.add_mod_right
def ue:=@List.getD_eq_getElem?_getD
def uf:=@List.pairwise_append
def ug:=@PySem.Around.under_plainId
def uh:=@PySem.wpAny_pyIter_tuple
def ui:=@Int.lt_or_le
def uj:=@Int.natAbs_mul
def uk:=@List.length_zip
def ul:=@List.sum_append
def uo:=@Array.length_toList
def uq:=@List.mem_map_of_mem
def ur:=@List.map_congr_left
def uv:=@PySem.wpAny_newObj_type
def uw:=@of_decide_eq_true
def ux:=@List.length_range
def uy:=@Int.add_zero
def uz:=@List.length_eq_zero_iff
def uA:=@PySem.Obj.data_mapFields
def uB:=@Int.mul_lt_mul_of_pos_right
def uC:=@Int.lt_of_lt_of_le
def uD:=@List.take_of_length_le
def uE:=@List.filterMap_cons
def uF:=@List.reverse_cons
def uG:=@Nat.lt_trichotomy
def uH:=@PySem.Heap.SameBut.update
def uI:=@List.drop_eq_getElem_cons
def uJ:=@Array.getElem?_eq_getElem
def uK:=@Int.le_of_mul_le_mul_left
def uL:=@Nat.le_of_lt
def uM:=@List.length_replicate
def uN:=@Int.natAbs_dvd_natAbs
def uO:=@List.getElem?_eq_none
def uP:=@PySem.codeAny_builtin
def uQ:=@Array.getElem?_toList
def uR:=@List.eq_nil_or_concat
def uS:=@Nat.le_of_ble_eq_true
def uT:=@List.mem_filterMap
def uU:=@Int.mul_ediv_cancel_left
def uV:=@Int.lt_or_eq_of_le
def uW:=@Nat.lt_succ_self
def uX:=@List.getElem_zip
def uY:=@PySem.F.plainAttrs_list
def uZ:=@PySem.plainId_quiet
def u3:=@List.getElem?_cons_zero
def u4:=@List.getElem?_cons_succ
def u5:=@List.map_nil
def u6:=@PyProof.Rows.callWith_type1
def u7:=@List.of_mem_zip
def u8:=@Array.getD_eq_getD_getElem?
def u9:=@PySem.Calls.callWith_builtin
def ja:=@PySem.F.slot_tuple_iterator_next
def jb:=@Int.mul_lt_mul_of_pos_left
def jc:=@PySem.F.plain_max_loop
def jd:=@List.zip_cons_cons
def je:=@Int.mul_assoc
def jf:=@Int.zero_mul
def jg:=@List.take_append_drop
def jh:=@List.concat_eq_append
def ji:=@Nat.eq_of_mul_eq_mul_left
def jk:=@List.pairwise_of_forall_mem_list
def jl:=@Int.mul_ediv_cancel'
def jm:=@PySem.wpAny_passesOwn
def jn:=@List.length_nil
def jo:=@PyProof.Rows.slot_tuple_getitem
def jp:=@Nat.mod_lt
def jq:=@List.takeWhile_append_dropWhile
def jr:=@Nat.ne_of_gt
def ju:=@Int.le_trans
def jv:=@Int.mul_zero
def jw:=@List.sum_nil
def jx:=@PySem.mem_of_lookup
def jy:=@List.getElem?_replicate
def jz:=@if_false
def jA:=@Nat.dvd_trans
def jB:=@List.getLast?_cons_cons
def jC:=@PyProof.Rows.F.plain_set_update_loop
def jD:=@List.length_drop
def jE:=@Int.gcd_dvd_left
def jF:=@List.getElem_mem
def jG:=@List.append_eq_nil_iff
def jH:=@Int.emod_lt_of_pos
def jI:=@if_true
def jJ:=@Nat.not_lt_zero
def jK:=@PySem.F.called_set
def jL:=@List.Perm.append_left
def jM:=@PySem.wpAny_updateSeq
def jN:=@PySem.wpAny_letGo
def jO:=@PySem.F.slot_enumerate_next
def jP:=@Int.gcd_dvd_right
def jQ:=@PySem.Heap.get?_push_ne
def jR:=@Int.not_lt
def jS:=@Nat.pow_le_pow_right
def jT:=@List.append_eq_append_iff
def jU:=@List.take_succ
def jV:=@PySem.wpAny_forIn_list
def jW:=@List.perm_middle
def jX:=@PySem.wpAny_askSetting
def jY:=@PySem.wpAny_isInstance
def jZ:=@List.cons_append
def j0:=@Nat.gcd_comm
def j1:=@getElem?_pos
def j2:=@Bool.eq_iff_iff
def j3:=@PySem.wpAny_Call_Name_kw
def j4:=@PySem.wpAny_loadPart'
def j5:=@Int.natAbs_natCast
def j6:=@Int.dvd_trans
def j7:=@Nat.le_of_dvd
def j8:=@PySem.W.KasT.kasWp_bind
def j9:=@PySem.wpAny_attempt
def Wa:=@Int.emod_nonneg
def Wc:=@decide_eq_true_iff
def Wd:=@List.find?_cons
def We:=@Int.mul_right_comm
def Wf:=@PySem.W.mg_none_of
def Wg:=@Nat.dvd_gcd
def Wh:=@PySem.wpAny_setField
def Wi:=@PySem.wpAny_typeOf
def Wj:=@Nat.zero_add
def Wk:=@Int.le_of_eq
set_option autoImplicit true
set_option relaxedAutoImplicit true
set_option linter.all false
inductive Ee1 {a:Type}(P:a->Prop):Prop
 | mk (x0:a) (_:P x0):Ee1 P
inductive Ee2 {a b:Type}(P:a->b->Prop):Prop
 | mk (x0:a) (x1:b) (_:P x0 x1):Ee2 P
inductive Ee3 {a b c:Type}(P:a->b->c->Prop):Prop
 | mk (x0:a) (x1:b) (x2:c) (_:P x0 x1 x2):Ee3 P
inductive Ee4 {a b c d:Type}(P:a->b->c->d->Prop):Prop
 | mk (x0:a) (x1:b) (x2:c) (x3:d) (_:P x0 x1 x2 x3):Ee4 P
inductive Ee5 {a b c d e:Type}(P:a->b->c->d->e->Prop):Prop
 | mk (x0:a) (x1:b) (x2:c) (x3:d) (x4:e) (_:P x0 x1 x2 x3 x4):Ee5 P
inductive Ee6 {a b c d e f:Type}(P:a->b->c->d->e->f->Prop):Prop
 | mk (x0:a) (x1:b) (x2:c) (x3:d) (x4:e) (x5:f) (_:P x0 x1 x2 x3 x4 x5):Ee6 P
inductive Ee7 {a b c d e f g:Type}(P:a->b->c->d->e->f->g->Prop):Prop
 | mk (x0:a) (x1:b) (x2:c) (x3:d) (x4:e) (x5:f) (x6:g) (_:P x0 x1 x2 x3 x4 x5 x6):Ee7 P
inductive Ee9 {a b c d e f g h i:Type}(P:a->b->c->d->e->f->g->h->i->Prop):Prop
 | mk (x0:a) (x1:b) (x2:c) (x3:d) (x4:e) (x5:f) (x6:g) (x7:h) (x8:i) (_:P x0 x1 x2 x3 x4 x5 x6 x7 x8):Ee9 P
structure Aa2 (a b:Prop):Prop where
 (x0:a) (x1:b)
structure Aa3 (a b c:Prop):Prop where
 (x0:a) (x1:b) (x2:c)
structure Aa4 (a b c d:Prop):Prop where
 (x0:a) (x1:b) (x2:c) (x3:d)
structure Aa5 (a b c d e:Prop):Prop where
 (x0:a) (x1:b) (x2:c) (x3:d) (x4:e)
structure Aa6 (a b c d e f:Prop):Prop where
 (x0:a) (x1:b) (x2:c) (x3:d) (x4:e) (x5:f)
set_option Elab.async false
set_option maxRecDepth 100000
namespace L2
open PySem PySem.Spec PyProof.Rows
abbrev Key:=Sum Int Str
def zab:Key->Value->Bool
 | .inl k,v=>Value.isInt k v
 | .inr x,v=>Value.isStrOf x v
def keyH (w:World):Key->Int
 | .inl k=>hashInt k
 | .inr x=>hashStr w x
def z0S:∀{k:Key}{v:Value},zab k v=true->(∃i t,k=Sum.inl i/\v=Value.int i t)\/(∃x t,k=Sum.inr x/\v=Value.str x t)
 | .inl i,v,h=>by
  obtain⟨t,e⟩:=Value.isInt_shape h;exact .inl ⟨i,t,rfl,e⟩
 | .inr x,v,h=>by
  obtain⟨t,e⟩:=Value.isStrOf_shape h;exact .inr ⟨x,t,rfl,e⟩
def zdw (i:Int)(t:Tok):zab (.inl i) (.int i t)=true:=by simp[zab,Value.isInt]
def zdv (x:Str)(t:Tok):zab (.inr x) (.str x t)=true:=by simp[zab,Value.isStrOf]
def zm3 (a b:Int):decide ((Sum.inl a:Key)=Sum.inl b)=(a == b):=by
 grind
def zm0 (a b:Str):decide ((Sum.inr a:Key)=Sum.inr b)=decide (a=b):=by
 grind
def zm2 (a:Int)(b:Str):decide ((Sum.inl a)=Sum.inr b)=false:=vR (λq=>nomatch q)
def zm1 (a:Str)(b:Int):decide ((Sum.inr a)=Sum.inl b)=false:=vR (λq=>nomatch q)
def z2o (prog:Program)(w:World):PySem.KeyKind prog w Key where
 is:=zab
 hash:=keyH w
 inj:=λv a b l g=>by
  rcases z0S l with ⟨i,t,rfl,rfl⟩ | ⟨x,t,rfl,rfl⟩
  .rcases z0S g with ⟨j,u,rfl,e⟩ | ⟨y,u,rfl,e⟩
   .injection e with d _;rw[d]
   .exact nomatch e
  .rcases z0S g with ⟨j,u,rfl,e⟩ | ⟨y,u,rfl,e⟩
   .exact nomatch e
   .injection e with d _;rw[d]
 byValue:=λk v h=>by
  rcases z0S h with ⟨i,t,rfl,rfl⟩ | ⟨x,t,rfl,rfl⟩ <;> rfl
 pyHash:=λf h=>by
  rcases z0S f with ⟨i,t,rfl,rfl⟩ | ⟨x,t,rfl,rfl⟩
  .exact wpAny_pyHash_int h
  .exact wpAny_pyHash_str h
 eqBool:=λm f h=>by
  rcases z0S m with ⟨i,t,rfl,rfl⟩ | ⟨x,t,rfl,rfl⟩
  .rcases z0S f with ⟨j,u,rfl,rfl⟩ | ⟨y,u,rfl,rfl⟩
   .rw[zm3] at h;exact wpAny_eqBool_int h
   .rw[zm2] at h;exact SeqAt.EqAt.int_str i t y u _ _ _ _ h
  .rcases z0S f with ⟨j,u,rfl,rfl⟩ | ⟨y,u,rfl,rfl⟩
   .rw[zm1] at h;exact SeqAt.EqAt.str_int x t j u _ _ _ _ h
   .rw[zm0] at h;exact wpAny_eqBool_str h
 «strs»:=λk x t v h=>by
  rcases z0S h with ⟨i,u,rfl,e⟩ | ⟨y,u,rfl,e⟩
  .exact nomatch e
  .injection e with d _
   subst d
   cases v <;> rfl
def zbH (prog:Program)(w:World)(k:Key)(v:Value):(z2o prog w).is k v=zab k v:=rfl
def za5 (prog:Program)(w:World)(i:Int)(t:Tok):(z2o prog w).is (.inl i) (.int i t)=true:=zdw i t
def za4 (prog:Program)(w:World)(x:Str)(t:Tok):(z2o prog w).is (.inr x) (.str x t)=true:=zdv x t
inductive V where
 | non | bl (b:Bool) | int (i:Int) | str (x:Str) | ref (a:Addr) | ty (n:String)
 deriving DecidableEq
def RelV:V->Value->Prop
 | .non,u=>u=Value.none
 | .bl b,u=>u=Value.bool b
 | .int i,u=>∃t,u=Value.int i t
 | .str x,u=>∃t,u=Value.str x t
 | .ref a,u=>u=Value.ref a
 | .ty n,u=>u=Value.type n
abbrev Vals:List V->List Value->Prop:=Paired RelV
theorem Vals.length {xs:List V}{a:List Value}(r:Vals xs a):xs.length=a.length:=Paired.length r
theorem Vals.get:∀{xs:List V}{a:List Value}{i:Nat}{x:V},Vals xs a->xs[i]? = some x->∃u,a[i]? = some u/\RelV x u
 | _,_,_,_,.nil,e=>by simp at e
 | _,_,0,_,.cons r _,e=>by simp at e;subst e;exact⟨_,rfl,r⟩
 | _,_,i+1,x,.cons _ t,e=>by
  obtain⟨u,b,d⟩:=Vals.get t (by simpa using e);exact⟨u,by simpa using b,d⟩
theorem Vals.set {x:V}{u:Value}(r:RelV x u):∀{xs:List V}{a:List Value} i,Vals xs a->Vals (xs.set i x) (a.set i u)
 | _,_,_,.nil =>.nil
 | _,_,0,.cons _ t =>.cons r t
 | _,_,i+1,.cons q t =>.cons q (Vals.set r i t)
theorem Vals.append:∀{xs ys:List V}{a ws:List Value},Vals xs a->Vals ys ws->Vals (xs++ys) (a++ws)
 | _,_,_,_,.nil,s=>s
 | _,_,_,_,.cons r t,s =>.cons r (Vals.append t s)
theorem Vals.take:∀{xs:List V}{a:List Value} n,Vals xs a->Vals (xs.take n) (a.take n)
 | _,_,0,_ =>.nil
 | _,_,_+1,.nil =>.nil
 | _,_,n+1,.cons r t =>.cons r (Vals.take n t)
theorem Vals.drop:∀{xs:List V}{a:List Value} n,Vals xs a->Vals (xs.drop n) (a.drop n)
 | _,_,0,r=>r
 | _,_,_+1,.nil =>.nil
 | _,_,n+1,.cons _ t=>Vals.drop n t
def RelO:Option V->Option Value->Prop
 | some v,some u=>RelV v u
 | none,none=>True
 | _,_=>False
def KV {κ:Type}:List (κ × V)->List (κ × Value)->Prop:=Paired λp q=>p.1=q.1/\RelV p.2 q.2
noncomputable def kV:Key->V
 | .inl i =>.int i
 | .inr x =>.str x
inductive HO where
 | lst (xs:List V)
 | tup (xs:List V)
 | dK (kvs:List (Key × V))
 | own (x:Addr)
 | frz (o:Obj) (u:HO)
 | tbl (ps:Array Value)
 | ext (φ:Heap->Prop)
abbrev Hp:=Addr->Option HO
def upd (H:Hp)(a:Addr)(o:HO):Hp:=λb=>if b=a then some o else H b
def z0c {H:Hp}{a:Addr}{o:HO}:upd H a o a=some o:=by unfold upd;rw[if_pos rfl]
def z0d {H:Hp}{a b:Addr}{o:HO}(h:b≠a):upd H a o b=H b:=by unfold upd;rw[if_neg h]
def z1P {H:Hp}{a b:Addr}{o:HO}(h:H a=some o)(d:H b=none):a≠b:=by
 grind
def NoD (h:Heap)(a:Addr):Prop:=∃o,h.get? a=some o/\o.dict=none
def zoi (H:Hp)(h:Heap)(a:Addr)(ps:Array Value):Prop:=h.get? a=some { cls :=.none,data :=.fields #[] }\/
 ∃(l c:Value) (q:Str) (t:Tok) (b:Addr) (o:Obj) (vs:Array Value) (u:Tok),ps[0]? = some l/\ps[1]? = some c/\ps[2]? = some (.str q t)/\h.get? a=some { cls :=.none,data :=.fields #[l,c,.ref b] }/\H b=some (.frz o (.own b))/\o.data = .fields vs/\vs[1]? = some (.str q u)
section
variable (P:Program)(w:World)
def z2m (H:Hp)(h:Heap)(a:Addr):HO->Prop
 | .lst e=>e.length<=sizeLine/\∃(b:List Value) (n:Nat),Vals e b/\h.get? a=some { cls :=.type "list",data :=.seq b.toArray n }
 | .tup e=>e.length<=sizeLine/\∃b,Vals e b/\IsTup h a b.toArray/\NoD h a
 | .dK d=>d.length<=sizeLine/\(a == sysModules)=false/\∃vs,KV d vs/\h.DictOf (z2o P w) a vs
 | .own _=>∃o,h.get? a=some o
 | .frz o u=>h.get? a=some o/\z2m H h a u
 | .tbl ps=>zoi H h a ps
 | .ext f=>f h/\(∃o,h.get? a=some o)/\∀g i:Heap,f g->(∀o,g.get? a=some o->i.get? a=some o)->f i
def HOk (H:Hp)(h:Heap):Prop:=∀a o,H a=some o->z2m P w H h a o
end
section
variable {P:Program}{w:World}{H H':Hp}{h h':Heap}{a:Addr}{o:HO}
theorem z2m.lt (x:z2m P w H h a o):a<h.objs.size:=by
 cases o with
 | lst d=>obtain⟨_,_,_,_,e⟩:=x;exact wC e
 | tup d=>obtain⟨_,_,_,p,_⟩:=x;exact p.lt
 | dK b=>obtain⟨_,_,_,_,o,_,_,e,_⟩:=x;exact wC e
 | own y=>obtain⟨_,e⟩:=x;exact wC e
 | frz f u=>obtain⟨e,_⟩:=x;exact wC e
 | tbl ps=>rcases x with e | ⟨_,_,_,_,_,_,_,_,_,_,_,e,_⟩ <;> exact wC e
 | ext g=>obtain⟨_,⟨_,e⟩,_⟩:=x;exact wC e
def z2m.stay (x:z2m P w H h a o)(k:∀u,h.get? a=some u->h'.get? a=some u)(I:∀b o c,H b=some (.frz o (.own c))->H' b=some (.frz o (.own c)):=by first | exact λ_ _ _ q=>q | exact λc _ _ q=>by rw[z0d (z1P q (by assumption))];exact q):z2m P w H' h' a o:=by
 induction o with
 | lst M=>obtain⟨z,f,n,r,e⟩:=x;exact⟨z,f,n,r,k _ e⟩
 | tup M=>obtain⟨z,f,r,⟨d,e,c⟩,L,E,j⟩:=x;exact⟨z,f,r,⟨d,k _ e,c⟩,L,k _ E,j⟩
 | dK K=>obtain⟨z,y,vs,r,d,G,F,e,c⟩:=x;exact⟨z,y,vs,r,d,G,F,k _ e,c⟩
 | own y=>obtain⟨d,e⟩:=x;exact⟨d,k _ e⟩
 | frz d u J=>obtain⟨e,q⟩:=x;exact⟨k _ e,J q⟩
 | tbl ps=>
  rcases x with e | ⟨l,c,q,t,i,d,vs,u,m,s,A,e,C,r⟩
  .exact .inl (k _ e)
  .exact .inr ⟨l,c,q,t,i,d,vs,u,m,s,A,k _ e,I _ _ _ C,r⟩
 | ext N=>obtain⟨p,⟨o,e⟩,g⟩:=x;exact⟨g _ _ p λo q=>k _ q,⟨o,k _ e⟩,g⟩
theorem HOk.lt (x:HOk P w H h)(e:H a=some o):a<h.objs.size:=(x a o e).lt
def HOk.fresh (x:HOk P w H h)(e:h.objs.size<=a):H a=none:=by
 cases q:H a with
 | none=>rfl
 | some u=>exact absurd (wK (x.lt q) e) (vZ _)
def HOk.kept (x:HOk P w H h)(k:∀b u,h.get? b=some u->h'.get? b=some u):HOk P w H h':=λa o e=>
 (x a o e).stay (k a)
def HOk.laid (x:HOk P w H h)(k:∀b u,h.get? b=some u->h'.get? b=some u)(f:h.objs.size<=a)(new:z2m P w (upd H a o) h' a o):HOk P w (upd H a o) h':=λb u e=>by
 have g:=x.fresh f
 by_cases d:b=a
 .subst d;rw[z0c] at e;grind
 .rw[z0d d] at e;exact(x b u e).stay (k b)
end
def Rd (H:Hp)(a:Addr)(u:HO):Prop:=H a=some u\/∃o,H a=some (.frz o u)
def Rd.ok {P:Program}{w:World}{H:Hp}{h:Heap}{a:Addr}{u:HO}(r:Rd H a u)(x:HOk P w H h):z2m P w H h a u:=by
 rcases r with r | ⟨o,r⟩
 .exact x a u r
 .obtain⟨_,q⟩:=x a _ r;exact q
def Mut:Option HO->Prop
 | some (.lst _)=>True
 | some (.dK _)=>True
 | some (.ext _)=>True
 | _=>False
section
variable {P:Program}{w:World}{H:Hp}{h h':Heap}{x e:Addr}{o':HO}
def HOk.write (ok:HOk P w H h)(d:Mut (H x))(k:∀b u,b≠x->h.get? b=some u->h'.get? b=some u)
  (new:z2m P w (upd H x o') h' x o'):HOk P w (upd H x o') h':=λb u q=>by
 by_cases a:b=x
 .subst a;rw[z0c] at q;cases q;exact new
 rw[z0d a] at q;exact(ok b u q).stay (λv r=>k b v a r) λc o u r=>by rw[z0d (λz=>by subst z;rw[r] at d;exact d)];exact r
end
structure Un (fs ex:List Addr)(H H':Hp)(h h':Heap):Prop where
 keep:∀b o,h.get? b=some o->H b=none->b ∉ fs->b ∉ ex->h'.get? b=some o
 slot:∀b o,h.get? b=some o->H b=none->b∈fs->b ∉ ex->∃sl,h'.get? b=some { o with slots:=sl }
 free:∀b o,h.get? b=some o->H b=none->b ∉ ex->H' b=none
 there:∀b o,h.get? b=some o->b ∉ ex->∃o',h'.get? b=some o'
 tups:∀b xs,H b=some (.tup xs)->H' b=some (.tup xs)
 frzs:∀b o u,H b=some (.frz o u)->H' b=some (.frz o u)
 tbls:∀b ps,H b=some (.tbl ps)->∃more,H' b=some (.tbl (ps++more))
section
variable {fs fs' ex ex':List Addr}{H H1 H2:Hp}{h h1 h2 h':Heap}{a x e:Addr}{o:HO}
def Un.any (u:Un fs ex H H1 h h1){b:Addr}{a:Obj}(q:h.get? b=some a)(n:H b=none)(e:b ∉ ex):∃sl,h1.get? b=some { a with slots:=sl }:=by
 by_cases d:b∈fs
 .exact u.slot b a q n d e
 .exact⟨a.slots,u.keep b a q n d e⟩
def Un.kept (k:∀b u,h.get? b=some u->h'.get? b=some u):Un fs ex H H h h':=
 ⟨λb a q _ _ _=>k b a q,λb a q _ _ _=>⟨a.slots,k b a q⟩,λ_ _ _ n _=>n,λb a q _=>⟨a,k b a q⟩,λ_ _ q=>q,λ_ _ _ q=>q,λ_ ps q=>⟨#[],by rw[q];simp⟩⟩
def Un.refl:Un fs ex H H h h:=Un.kept λ_ _ q=>q
def Un.laid (k:∀b u,h.get? b=some u->h'.get? b=some u)(e:h.objs.size<=a)(d:H a=none):Un fs ex H (upd H a o) h h' where
 keep:=λb u q _ _ _=>k b u q
 slot:=λb u q _ _ _=>⟨u.slots,k b u q⟩
 free:=λb u q n _=>by rw[z0d (wJ (wK (wC q) e))];exact n
 there:=λb u q _=>⟨u,k b u q⟩
 tups:=λb f q=>by rw[z0d (z1P q d)];exact q
 frzs:=λb u f q=>by rw[z0d (z1P q d)];exact q
 tbls:=λb ps q=>⟨#[],by rw[z0d (z1P q d),q];simp⟩
def Un.write (f:Mut (H x))(k:∀b u,b≠x->h.get? b=some u->h'.get? b=some u)(g:∃u,h'.get? x=some u):Un fs ex H (upd H x o) h h':=by
 have e:∀b,H b=none->b≠x:=λb n z=>by subst z;rw[n] at f;exact f
 have d:∀b u,H b=some u->¬ Mut (some u)->b≠x:=λb u q j z=>by simp_all
 refine⟨λb u q n _ _=>k b u (e b n) q,λb u q n _ _=>⟨u.slots,k b u (e b n) q⟩,λb u q n _=>by rw[z0d (e b n)];exact n,λb u q _ =>?_,
  λb i q=>by rw[z0d (d b _ q λz=>z)];exact q,λb u i q=>by rw[z0d (d b _ q λz=>z)];exact q,λb ps q=>⟨#[],by rw[z0d (d b _ q λz=>z),q];simp⟩⟩
 by_cases a:b=x
 .simp_all
 .exact⟨u,k b u a q⟩
end
noncomputable def trk (h:Heap)(H:Hp):List Addr:=(List.range h.objs.size).filter λa=>(H a).isSome
def hidT (h:Heap)(H:Hp):Heap:=W.hideAll h (trk h H)
def zdE (h:Heap)(H:Hp):(hidT h H).objs.size=h.objs.size:=W.hideAll_size _ _
def z7X (e:h.get? b=some o)(n:H b=none):(hidT h H).get? b=some o:=
 W.hideAll_get _ e λa=>by
  have q  := (List.mem_filter.mp a).2
  simp_all
def ziu (e:(hidT h H).get? b=some o):h.get? b=some o/\H b=none:=by
 have a  := W.of_hideAll _ e;refine⟨a,?_⟩
 cases q:H b with
 | none=>rfl
 | some x=>
  have d:b∈trk h H:=List.mem_filter.mpr ⟨ub.mpr (wC a),by simp[q]⟩;have z:(hidT h H).get? b=none:=W.hideAll_none _ d
  grind
def BmAt (mg:WmP)(h:Heap):Prop:=∃b a,mg "__builtins__"=some (.ref b)/\b≠builtinsNs/\h.get? b=some a/\a.cls = .type "module"/\a.dict=some builtinsNs/\a.data = .plain
noncomputable def zlZ (d:FuncData):Option Pos:=match d.body with
 | .stmts b=>(match b.getLast? with
  | some (.Return (some (.Call _ _ [⟨_,.Lambda _ _ _ a,_⟩] _)) _)=>some a
  | _=>none)
 | _=>none
noncomputable def zce (K:W.Frag)(c:Addr):Option Addr:=match K.lookup c with
 | some ⟨.type "code",_,.fields vs,_⟩=>(match (vs[11]? : Option Value) with | some (.ref P)=>if (K.lookup P).isNone then some P else none | _=>none)
 | _=>none
noncomputable def tsOf (K:W.Frag):List (Addr × Nat × Nat × Str):=K.filterMap λp=>match p.2.data with
 | .func b=>(match zlZ b,b.code with
  | some a,.ref c=>(zce K c).map λP=>(P,a.line,a.col,b.qualname++".<locals>."++"<lambda>")
  | _,_=>none)
 | _=>none
noncomputable def encT (t:Nat × Nat × Str):Array Value := #[rawInt t.1,rawInt t.2.1,.str t.2.2 0]
def Tbs (K:W.Frag)(H:Hp):Prop:=∀P t,(tsOf K).lookup P=some t->∃more,H P=some (.tbl (encT t++more))
structure Mod (K:W.Frag)(mg:WmP)(base:Heap):Prop where
 kin:K.In base
 glob:base.Ns mainGlobals mg
 blt:∃mb,base.Ns builtinsNs mb/\∀x:Str,x≠"__name__"->mb x=bootBuiltins x
 nolimit:base.NoLimit
 bm:BmAt mg base
structure Cx where
 prog:Program
 w:World
 K:W.Frag
 mg:Str->Option Value
 base:Heap
 A:Around
 N:List Str
 s₀:Shared
 H₀:Hp
 env:Env
 outer:List Env
 stack:List Env
 ex:List Addr
 fn:Str->Bool
 calm:Bool
 pn:List (Addr × Obj)
 xe:Value->Shared->Prop
abbrev sE (e:Expr)(l:List Expr)(X:Cx):Prop:=starEach (e::l) X.env=(false,eval e X.env)::starEach l X.env
abbrev aG (p:Pos)(l:List Expr)(X:Cx):Prop:=((backTo p (starEach l X.env)).all (λx=>!x.1) && (backToKw p (keywordEach [] X.env)).all (λx=>x.1.isSome) && decide (l.length+([]:List Keyword).length+(if ([]:List Keyword).isEmpty then 0 else 1)<30))=true
abbrev bT (p:Pos)(l:List Expr)(X:Cx):Prop:=(backTo p (starEach l X.env)).any (·.1)=false
abbrev dB (x:Str):Prop:=(x == ("__debug__":Str))=false
abbrev aL (a c:Pos):Prop:=(a.endLine == c.line)=true
abbrev fI (i:Expr)(X:Cx):Prop:=∀x,foldedSetIterable i X.env x=pure x
abbrev aB (o:Expr)(n:Str)(X:Cx):Prop:=attributeBase o n X.env (eval o X.env)=eval o X.env
def frs (l:List Env):List Addr:=l.filterMap (·.frame)
abbrev Cx.fs (X:Cx):List Addr:=frs X.outer
def Vis (sc:Scope)(x:Str):Prop:=sc.names.lookup x=some .local\/sc.names.lookup x=some .cell\/sc.names.lookup x=some .free
def Loc (sc:Scope)(x:Str):Prop:=sc.names.lookup x=some .local\/sc.names.lookup x=some .cell
def Look (env:Env)(h:Heap)(m:WmP)(x:Str)(u:Value):Prop:=
 (env.kindOf x=some .local/\m x=some u)\/((env.kindOf x=some .cell\/env.kindOf x=some .free)/\∃c,env.cells.lookup x=some c/\h.IsCell c (some u))
structure Cx.Ok (X:Cx):Prop where
 mod:Mod X.K X.mg X.base
 kind:X.env.scope.kind = .function
 glob:X.env.globals=mainGlobals
 blt:X.env.builtins=builtinsNs
 above:X.s₀.heap.objs.size<=X.env.locals
 inj:∀x y c,X.env.cells.lookup x=some c->X.env.cells.lookup y=some c->x=y
 has:∀x,(X.env.kindOf x=some .cell\/X.env.kindOf x=some .free)->∃c,X.env.cells.lookup x=some c
 cab:∀x c,X.fn x=true->X.env.cells.lookup x=some c->X.s₀.heap.objs.size<=c
 hd:X.calm=true->X.A.handled=none
 frames:X.A.frames=some X.stack
 stk:X.stack=X.outer\/(X.stack=X.env::X.outer/\X.env.frame=some X.env.locals)
 exf:∀b∈X.ex,b≠X.env.locals/\∀x c,X.env.cells.lookup x=some c->c≠b
 bs:∀b o,X.base.get? b=some o->X.s₀.heap.get? b=some o/\X.H₀ b=none
 bsz:X.base.objs.size<=X.s₀.heap.objs.size
 noex:∀b o,X.base.get? b=some o->b ∉ X.ex
 exfs:∀b∈X.ex,b ∉ X.fs
 funs:X.s₀.heap.FunFrames X.base X.outer
 frf:∀b∈X.fs,X.H₀ b=none
 tbs:Tbs X.K X.H₀
structure Inv (X:Cx)(pins:List (Addr × Obj))(σ:List (Option V))(H:Hp)(s:Shared):Prop where
 ok:X.Ok
 os:s.os=X.s₀.os
 bare:AllBare s.gens
 base:Un X.fs X.ex X.H₀ H X.s₀.heap s.heap
 loc:∃m,s.heap.Ns X.env.locals m/\∀(i:Nat) x v,X.N[i]? = some x->σ[i]? = some (some v)->Vis X.env.scope x->∃u,RelV v u/\Look X.env s.heap m x u
 cell:∀x c,X.env.cells.lookup x=some c->∃v,s.heap.IsCell c v
 free:H X.env.locals=none
 freeC:∀x c,X.env.cells.lookup x=some c->H c=none
 pin:∀p∈X.pn++pins,s.heap.get? p.1=some p.2/\H p.1=none/\p.1≠X.env.locals/\p.1 ∉ X.fs/\∀v,p.2.data ≠ .cell v
 hok:HOk X.prog X.w H s.heap
 len:σ.length=X.N.length
section
variable {X:Cx}{pins:List (Addr × Obj)}{σ:List (Option V)}{H H':Hp}{s:Shared}{h':Heap}
def Cx.Ok.nofr (ok:X.Ok)(e:X.base.get? b=some o):b ∉ X.fs:=λa=>by
 have:=(ok.funs.mem a).1
 grind
theorem Inv.bs (I:Inv X pins σ H s):∀b o,X.base.get? b=some o->s.heap.get? b=some o/\H b=none:=λb o e=>
 ⟨I.base.keep b o (I.ok.bs b o e).1 (I.ok.bs b o e).2 (I.ok.nofr e) (I.ok.noex b o e),I.base.free b o (I.ok.bs b o e).1 (I.ok.bs b o e).2 (I.ok.noex b o e)⟩
def Inv.bk (I:Inv X pins σ H s):∀b o,X.base.get? b=some o->s.heap.get? b=some o:=λb o e=>(I.bs b o e).1
theorem Inv.mod (I:Inv X pins σ H s):Mod X.K X.mg X.base:=I.ok.mod
def Inv.kIn (I:Inv X pins σ H s):X.K.In s.heap:=I.ok.mod.kin.keeps I.bk
theorem Inv.lt (I:Inv X pins σ H s):X.env.locals<s.heap.objs.size:=let ⟨_,a,_⟩:=I.loc;a.lt
def Inv.sz (I:Inv X pins σ H s):X.s₀.heap.objs.size<=s.heap.objs.size:=wV I.ok.above (uL I.lt)
def Inv.nofs (I:Inv X pins σ H s)(h:s.heap.objs.size<=a):a ∉ X.fs:=λb=>by
 obtain⟨_,o,d,_⟩:=I.ok.funs.mem b;exact absurd (wK (wC d) (wV I.sz h)) (vZ _)
def Inv.cne (I:Inv X pins σ H s):∀x c,X.env.cells.lookup x=some c->c≠X.env.locals:=λx c e z=>by
 obtain⟨v,o,h,g⟩:=I.cell x c e;obtain⟨m,⟨i,f,d,b,a,_⟩,_⟩:=I.loc
 grind
theorem Inv.funs (I:Inv X pins σ H s):s.heap.FunFrames X.base X.outer:=by
 have all:∀l,(∀b∈frs l,b∈X.fs)->X.s₀.heap.FunFrames X.base l->s.heap.FunFrames X.base l:=by
  intro l
  induction l with
  | nil=>intro _ _;trivial
  | cons h r t=>
   intro g m;obtain⟨j,⟨L,o,f,n,p,i⟩,q⟩:=m;have a  := g L (by unfold frs;simp_all);obtain⟨sl,e⟩:=I.base.slot L o p (I.ok.frf L a) a λz=>I.ok.exfs L z a;exact⟨j,⟨L,_,f,n,e,i⟩,t (λb d=>g b (by unfold frs;rw[uE,f];exact wq _ d)) q⟩
 exact all _ (λ_ d=>d) I.ok.funs
theorem Inv.stack (I:Inv X pins σ H s):s.heap.FunFrames X.base X.stack:=by
 rcases I.ok.stk with e | ⟨e,a⟩
 .rw[e];exact I.funs
 .rw[e];obtain⟨m,b,_⟩:=I.loc;refine .cons (by rw[I.ok.kind];decide) a b ?_ I.funs;exact Heap.get?_none_of_le (wV I.ok.bsz I.ok.above)
def Inv.stkSub (I:Inv X pins σ H s):∀b∈frs X.stack,b∈X.env.locals::X.fs:=λb a=>by
 rcases I.ok.stk with e | ⟨e,d⟩
 .simp_all
 .rw[e] at a;unfold frs at a;rw[uE,d] at a;exact a
def Inv.stkFree (I:Inv X pins σ H s):∀b∈frs X.stack,H b=none:=λb a=>by
 rcases wn.mp (I.stkSub b a) with e | a
 .rw[e];exact I.free
 .obtain⟨_,o,d,_⟩:=I.ok.funs.mem a;exact I.base.free b o d (I.ok.frf b a) λz=>I.ok.exfs b z a
theorem Inv.tbs (I:Inv X pins σ H s):Tbs X.K H:=λP t e=>by
 obtain⟨b,a⟩:=I.ok.tbs P t e;obtain⟨d,f⟩:=I.base.tbls P _ a;exact⟨b++d,by simp_all⟩
def Inv.step {g':Array GenState}{t':Nat}{d':Drawn}{ch:List Addr}(I:Inv X pins σ H s)
  (g:∀b∈ch,(b∈X.ex\/X.s₀.heap.objs.size<=b)/\b≠X.env.locals/\(∀x c,X.env.cells.lookup x=some c->c≠b)/\∀p∈X.pn++pins,p.1≠b)
  (keep:∀b o,b≠X.env.locals->b ∉ X.fs->b ∉ ch->s.heap.get? b=some o->H b=none->h'.get? b=some o)
  (y:∀b o,b≠X.env.locals->b∈X.fs->b ∉ ch->s.heap.get? b=some o->H b=none->∃sl,h'.get? b=some { o with slots:=sl }) (free:∀b o,b ∉ ch->s.heap.get? b=some o->H b=none->H' b=none)
  (there:∀b o,b ∉ ch->s.heap.get? b=some o->∃J,h'.get? b=some J)
  (tups:∀b xs,H b=some (.tup xs)->H' b=some (.tup xs)) (F:∀b o u,H b=some (.frz o u)->H' b=some (.frz o u)) (K:∀b ps,H b=some (.tbl ps)->∃more,H' b=some (.tbl (ps++more)))
  (ns:∀m,s.heap.Ns X.env.locals m->h'.Ns X.env.locals m) (M:HOk X.prog X.w H' h') (T:AllBare g'):
  Inv X pins σ H' { s with heap:=h',gens:=g',drawn:=d',toks:=t' }:=by
 have G:∀b o,X.s₀.heap.get? b=some o->b≠X.env.locals:=λb o e=>wJ (wK (wC e) I.ok.above);have t:∀b o,X.s₀.heap.get? b=some o->b ∉ X.ex->b ∉ ch:=λb o e a A=>by
  rcases(g b A).1 with z | z
  .exact a z
  .exact absurd (wK (wC e) z) (vZ _)
 have f:∀x c,X.env.cells.lookup x=some c->∀v,s.heap.IsCell c v->h'.IsCell c v:=by
  rintro x c e v ⟨o,C,L⟩;have h:c ∉ ch:=λz=>(g c z).2.2.1 x c e rfl
  by_cases O:c∈X.fs
  .obtain⟨sl,q⟩:=y c o (I.cne x c e) O h C (I.freeC x c e);exact⟨_,q,L⟩
  .exact⟨o,keep c o (I.cne x c e) O h C (I.freeC x c e),L⟩
 refine⟨I.ok,I.os,T,⟨λb o e n A a =>?_,λb o e n A a =>?_,λb o e n a =>?_,λb o e a =>?_,λb xs e=>tups b xs (I.base.tups b xs e),λb o xs e=>F b o xs (I.base.frzs b o xs e),λb ps e =>?_⟩,?_,λx c e =>?_,?_,λx c e =>?_,λp Q =>?_,M,I.len⟩
 .exact keep b o (G b o e) A (t b o e a) (I.base.keep b o e n A a) (I.base.free b o e n a)
 .obtain⟨sl,j⟩:=I.base.slot b o e n A a;obtain⟨N,E⟩:=y b _ (G b o e) A (t b o e a) j (I.base.free b o e n a);exact⟨N,E⟩
 .obtain⟨J,j⟩:=I.base.there b o e a;exact free b J (t b o e a) j (I.base.free b o e n a)
 .obtain⟨J,j⟩:=I.base.there b o e a;exact there b J (t b o e a) j
 .obtain⟨Y,j⟩:=I.base.tbls b ps e;obtain⟨Z,E⟩:=K b _ j;exact⟨Y++Z,by rw[E,Array.append_assoc]⟩
 .obtain⟨m,W,U⟩:=I.loc;refine⟨m,ns m W,λi x v j E S =>?_⟩;obtain⟨u,r,l⟩:=U i x v j E S;refine⟨u,r,?_⟩
  rcases l with l | ⟨k,c,e,z⟩
  .exact .inl l
  .exact .inr ⟨k,c,e,f x c e _ z⟩
 .obtain⟨v,z⟩:=I.cell x c e;exact⟨v,f x c e v z⟩
 .obtain⟨m,⟨o,_,_,C,_⟩,_⟩:=I.loc;exact free _ o (λz=>(g _ z).2.1 rfl) C I.free
 .obtain⟨v,o,C,L⟩:=I.cell x c e;exact free c o (λz=>(g c z).2.2.1 x c e rfl) C (I.freeC x c e)
 .obtain⟨e,n,ne,R,d⟩:=I.pin p Q;have h:p.1 ∉ ch:=λz=>(g p.1 z).2.2.2 p Q rfl;exact⟨keep p.1 p.2 ne R h e n,free p.1 p.2 h e n,ne,R,d⟩
def Inv.un {t':Nat}(I:Inv X pins σ H s)(u:Un X.fs [] H H' s.heap h')(h:HOk X.prog X.w H' h'):Inv X pins σ H' { s with heap:=h',toks:=t' }:=by
 obtain⟨m,⟨o,t,q,i,r⟩,_⟩:=id I.loc;obtain⟨sl,j⟩:=u.any i I.free (by simp);exact I.step (ch:=[]) (λ_ z=>nomatch z) (λb o _ g _ e n=>u.keep b o e n g (by simp)) (λb o _ g _ e n=>u.slot b o e n g (by simp)) (λb o _ e n=>u.free b o e n (by simp)) (λb o _ e=>u.there b o e (by simp)) u.tups u.frzs u.tbls (λx l=>by
  obtain⟨y,f,d,a,p⟩:=l;rw[i] at a;cases a;exact⟨_,f,d,j,p⟩) h I.bare
def Inv.call {t':Nat}(I:Inv X pins σ H s)(u:Un (frs X.stack) ch H H' s.heap h')(j:HOk X.prog X.w H' h')(t:AllBare g')
  (d:∀b∈ch,(b∈X.ex\/X.s₀.heap.objs.size<=b)/\b≠X.env.locals/\(∀x c,X.env.cells.lookup x=some c->c≠b)/\∀p∈X.pn++pins,p.1≠b):
  Inv X pins σ H' { s with heap:=h',gens:=g',drawn:=d',toks:=t' }:=by
 obtain⟨m,⟨o,E,C,l,r⟩,_⟩:=id I.loc;obtain⟨sl,i⟩:=u.any l I.free λz=>(d _ z).2.1 rfl;exact I.step d (λb o i q a e n=>u.keep b o e n (λz=>(wn.mp (I.stkSub b z)).elim i q) a) (λb o _ _ a e n=>u.any e n a) (λb o a e n=>u.free b o e n a) (λb o a e=>u.there b o e a) u.tups u.frzs u.tbls (λF y=>by
  obtain⟨G,h,g,f,A⟩:=y;rw[l] at f;cases f;exact⟨_,h,g,i,A⟩) j t
def Inv.turned {t':Nat}(I:Inv X pins σ H s)(k:∀b o,b≠it->s.heap.get? b=some o->h'.get? b=some o)(A:H it=none)(f:it≠X.env.locals)
  (i:it∈X.ex\/X.s₀.heap.objs.size<=it) (j:∀x c,X.env.cells.lookup x=some c->c≠it) (l:∀p∈X.pn++pins,p.1≠it):Inv X pins σ H { s with heap:=h',toks:=t' }:=by
 have d:∀b u,H b=some u->b≠it:=λb u e z=>by grind
 refine I.step (ch:=[it]) (λb t =>?_) (λb o _ _ a e _=>k b o (λz=>a (by simp[z])) e) (λb o _ _ a e _=>⟨o.slots,k b o (λz=>a (by simp[z])) e⟩) (λ_ _ _ _ n=>n)
  (λb o a e=>⟨o,k b o (λz=>a (by simp[z])) e⟩) (λ_ _ e=>e) (λ_ _ _ e=>e) (λb ps e=>⟨#[],by rw[e];simp⟩) (λm w =>?_) (λb u e =>?_) I.bare
 .have e  := by simpa using t
  subst e;exact⟨i,f,j,l⟩
 .obtain⟨o,h,g,y,r⟩:=w;exact⟨o,h,g,k _ o (vN f) y,r⟩
 .exact(I.hok b u e).stay λv q=>k b v (d b u e) q
def Inv.tok (I:Inv X pins σ H s)(t:Nat):Inv X pins σ H { s with toks:=t }:=I.un Un.refl I.hok
theorem Inv.kept (I:Inv X pins σ H s)(k:∀b u,s.heap.get? b=some u->h'.get? b=some u):Inv X pins σ H { s with heap:=h',toks:=t' }:=I.un (Un.kept k) (I.hok.kept k)
theorem Inv.laid {a:Addr}{o:HO}{t':Nat}(I:Inv X pins σ H s)(k:∀b u,s.heap.get? b=some u->h'.get? b=some u)(d:s.heap.objs.size<=a)(new:z2m X.prog X.w (upd H a o) h' a o):
  Inv X pins σ (upd H a o) { s with heap:=h',toks:=t' }:=I.un (Un.laid k d (I.hok.fresh d)) (I.hok.laid k d new)
theorem Inv.write (I:Inv X pins σ H s)(d:Mut (H x))(k:∀b u,b≠x->s.heap.get? b=some u->h'.get? b=some u)(a:∃u,h'.get? x=some u)
  (new:z2m X.prog X.w (upd H x o) h' x o):Inv X pins σ (upd H x o) { s with heap:=h',toks:=t' }:=I.un (Un.write d k a) (I.hok.write d k new)
def Inv.pins_of (I:Inv X pins σ H s)(h:∀p∈pins',s.heap.get? p.1=some p.2/\H p.1=none/\p.1≠X.env.locals/\p.1 ∉ X.fs/\∀v,p.2.data ≠ .cell v):Inv X pins' σ H s:=
 ⟨I.ok,I.os,I.bare,I.base,I.loc,I.cell,I.free,I.freeC,λp a=>(wB.mp a).elim (λz=>I.pin p (vF _ z)) (h p),I.hok,I.len⟩
def zaN {N:List Str}(f:N.Nodup){i j:Nat}{x:Str}(a:N[i]? = some x)(b:N[j]? = some x):i=j:=by
 obtain⟨g,d⟩:=wu.mp a;obtain⟨h,e⟩:=wu.mp b;exact(List.getElem_inj f).mp (d.trans e.symm)
def z8n {E:WvP}{i:Nat}{x:Str}{v:V}{Q:Unit->Shared->Prop}(I:Inv X pins σ H s)(hN:X.N.Nodup)(W:X.N[i]? = some x)(t:Loc X.env.scope x)(r:RelV v u)
  (h:∀s',Inv X pins (σ.set i (some v)) H s'->(∃a,Heap.SameBut a s.heap s'.heap/\(a=X.env.locals\/X.env.cells.lookup x=some a))->Q () s') (hf:autoParam (X.fn x=true\/X.env.scope.names.lookup x=some .local) jD1):wpAny M A (storeName X.env x u) Q E s:=by
 obtain⟨m,hn,hl⟩:=id I.loc;have U:(X.env.scope.kind == .class || (X.env.scope.kind == .module && X.env.locals != X.env.globals))=false:=by rw[I.ok.kind];rfl
 have G:i < σ.length:=by rw[I.len];exact(wu.mp W).1
 have cne:=I.cne;have l:∀{a:Addr}{h':Heap},(∃o,s.heap.get? a=some o/\H a=none)->Heap.SameBut a s.heap h'->HOk X.prog X.w H h':=λ{a h'} ha f b ob e=>by
  obtain⟨_,_,O⟩:=ha;refine(I.hok b ob e).stay λw' q=>(f.2 b ?_).trans q;rintro rfl;rw[O] at e;cases e
 rcases t with J | J
 .refine wpAny_storeName_local J hn (λh' a0 f =>?_) U;obtain⟨oL,_,_,a1,_⟩:=id hn;refine h _ ⟨I.ok,I.os,I.bare,⟨λb o e n K t =>?_,λb o e n K t =>?_,I.base.free,λb o e t =>?_,I.base.tups,I.base.frzs,I.base.tbls⟩,⟨_,a0,λj y v' g F e3 =>?_⟩,λy c e =>?_,I.free,I.freeC,λp hp =>?_,l ⟨oL,a1,I.free⟩ f,by simpa using I.len⟩ ⟨_,f,.inl rfl⟩
  .exact(f.2 b (wJ (wK (wC e) I.ok.above))).trans (I.base.keep b o e n K t)
  .obtain⟨sl,g⟩:=I.base.slot b o e n K t;exact⟨sl,(f.2 b (wJ (wK (wC e) I.ok.above))).trans g⟩
  .obtain⟨o',g⟩:=I.base.there b o e t;exact⟨o',(f.2 b (wJ (wK (wC e) I.ok.above))).trans g⟩
  .by_cases R:j=i
   .subst R;rw[W] at g;cases g;rw[wQ G] at F
    cases F
    exact⟨u,r,.inl ⟨J,by simp⟩⟩
   .rw[wH (vN R)] at F;obtain⟨u',r',q⟩:=hl j y v' g F e3;refine⟨u',r',?_⟩
    rcases q with ⟨k,e⟩ | ⟨k,c,e,z⟩
    .refine .inl ⟨k,?_⟩;have:y≠x:=λe=>R (zaN hN g (e ▸ W));simp[this,e]
    .exact .inr ⟨k,c,e,z.sameBut f (cne y c e)⟩
  .obtain⟨w',z⟩:=I.cell y c e;exact⟨w',z.sameBut f (cne y c e)⟩
  .obtain⟨e,n,ne,nf,d⟩:=I.pin p hp;exact⟨(f.2 p.1 ne).trans e,n,ne,nf,d⟩
 .have L:X.fn x=true:=by
   rcases hf with z | z
   .exact z
   .rw[z] at J;cases J
  obtain⟨c,C⟩:=I.ok.has x (.inl J);obtain⟨w',z⟩:=I.cell x c C;refine wpAny_storeName_cell I.ok.kind J C z (λh' S f =>?_);obtain⟨oc,Y,Z⟩:=id z;refine h { s with heap:=h' } ⟨I.ok,I.os,I.bare,⟨λb o e n K t =>?_,λb o e n K t =>?_,I.base.free,λb o e t =>?_,I.base.tups,I.base.frzs,I.base.tbls⟩,⟨m,hn.sameBut f (vN (cne x c C)),λj y v' g F e3 =>?_⟩,λy c' e =>?_,I.free,I.freeC,λp hp =>?_,l ⟨oc,Y,I.freeC x c C⟩ f,by simpa using I.len⟩ ⟨c,f,.inr C⟩
  .exact(f.2 b (wJ (wK (wC e) (I.ok.cab x c L C)))).trans (I.base.keep b o e n K t)
  .obtain⟨sl,g⟩:=I.base.slot b o e n K t;exact⟨sl,(f.2 b (wJ (wK (wC e) (I.ok.cab x c L C)))).trans g⟩
  .obtain⟨o',g⟩:=I.base.there b o e t;exact⟨o',(f.2 b (wJ (wK (wC e) (I.ok.cab x c L C)))).trans g⟩
  .by_cases R:j=i
   .subst R;rw[W] at g;cases g;rw[wQ G] at F
    cases F
    exact⟨u,r,.inr ⟨.inl J,c,C,S⟩⟩
   .rw[wH (vN R)] at F;obtain⟨u',r',q⟩:=hl j y v' g F e3;refine⟨u',r',?_⟩
    rcases q with q | ⟨k,c',e,z'⟩
    .exact .inl q
    .refine .inr ⟨k,c',e,z'.sameBut f ?_⟩;rintro rfl;exact R (zaN hN g (I.ok.inj _ _ _ e C ▸ W))
  .by_cases T:c'=c
   .subst T;exact⟨_,S⟩
   .obtain⟨w2,z2⟩:=I.cell y c' e;exact⟨w2,z2.sameBut f T⟩
  .obtain⟨e,n,ne,nf,d⟩:=I.pin p hp;refine⟨(f.2 p.1 ?_).trans e,n,ne,nf,d⟩;intro q;rw[q,Y] at e;have q':oc=p.2:=w6 e;exact d w' (by rw[<- q'];exact Z)
def zaw {v:V}(I:Inv X pins σ H s)(b:X.N.Nodup)(e:X.N[i]? = some x)(f:Loc X.env.scope x)(r:RelV v u)
  (h:∀s',Inv X pins (σ.set i (some v)) H s'->Q () s') (d:autoParam (X.fn x=true\/X.env.scope.names.lookup x=some .local) jD1):wpAny M A (storeName X.env x u) Q E s:=
 z8n I b e f r (λs' a _=>h s' a) d
def Inv.call' (I:Inv X pins σ H s)(g:s'.os=s.os)(u:Un (frs X.stack) ch H H' s.heap s'.heap)(d:HOk X.prog X.w H' s'.heap)(f:AllBare s'.gens)
  (a:∀b∈ch,(b∈X.ex\/X.s₀.heap.objs.size<=b)/\b≠X.env.locals/\(∀x c,X.env.cells.lookup x=some c->c≠b)/\∀p∈X.pn++pins,p.1≠b):Inv X pins σ H' s':=by
 obtain⟨j,i,h,m,l⟩:=s';have e  := g;subst e;exact I.call u d f a
end
abbrev XK:=Value->Option Addr->Hp->Prop
abbrev St:=List (Option V)
abbrev VK:=V->Hp->Prop
abbrev TE:=St->Hp->VK->Prop
abbrev TT:=St->Hp->(Bool->Hp->Prop)->Prop
abbrev TA:=St->Hp->(List V->Hp->Prop)->Prop
structure Ends where
 nx:St->Hp->Prop
 rt:VK
 bk:St->Hp->Prop:=λ_ _=>False
 ct:St->Hp->Prop:=λ_ _=>False
abbrev TS:=Ends->St->Hp->Prop
def EP (X:Cx)(a:List (Addr × Obj))(d:St)(Q:VK)(u:Value)(s':Shared):Prop:=∃v b,Inv X a d b s'/\RelV v u/\Q v b
def TP (X:Cx)(a:List (Addr × Obj))(e:St)(Q:Bool->Hp->Prop)(b:Bool)(s':Shared):Prop:=∃d,Inv X a e d s'/\Q b d
def AP (X:Cx)(a:List (Addr × Obj))(e:St)(Q:List V->Hp->Prop)(d:List Value)(s':Shared):Prop:=∃vs b,Inv X a e b s'/\Vals vs d/\Q vs b
def SP (X:Cx)(b:List (Addr × Obj))(D:Ends)(f:Flow)(s':Shared):Prop:=
 match f with
 | .next=>∃a d,Inv X b a d s'/\D.nx a d
 | .brk=>∃a d,Inv X b a d s'/\D.bk a d
 | .cont=>∃a d,Inv X b a d s'/\D.ct a d
 | .ret u=>∃v a d,Inv X b a d s'/\RelV v u/\D.rt v d
def PE (X:Cx)(e:Expr)(t:TE):Prop:=
 ∀a s (b:St) H Q,Inv X a b H s->t b H Q->wpAny (model X.prog X.w) X.A (eval e X.env) (EP X a b Q) X.xe s
def PT (X:Cx)(e:Expr)(t:TT):Prop:=
 ∀a s (b:St) H Q,Inv X a b H s->t b H Q->wpAny (model X.prog X.w) X.A (isTrue e X.env (eval e X.env)) (TP X a b Q) X.xe s
def PW (X:Cx)(e:Expr)(t:TT):Prop:=
 ∀b a s (d:St) H Q,Inv X a d H s->t d H Q->wpAny (model X.prog X.w) X.A (isTrue e X.env b) (TP X a d Q) X.xe s
def PW.pt {X:Cx}{e:Expr}{t:TT}(h:PW X e t):PT X e t:=h _
def PA (X:Cx)(es:List Expr)(t:TA):Prop:=
 ∀b a s (d:St) H Q,Inv X a d H s->t d H Q->wpAny (model X.prog X.w) X.A (spliced (backTo b (starEach es X.env))) (AP X a d Q) X.xe s
def PS (X:Cx)(st:Stmt)(t:TS):Prop:=
 ∀a s (b:St) H D,Inv X a b H s->t D b H->wpAny (model X.prog X.w) X.A (exec st X.env) (SP X a D) X.xe s
def PSs (X:Cx)(st:List Stmt)(t:TS):Prop:=
 ∀a s (b:St) H D,Inv X a b H s->t D b H->wpAny (model X.prog X.w) X.A (execs st X.env) (SP X a D) X.xe s
def thn {b:Type}{t:Sem b}{Q Q':b->Shared->Prop}{M:Model}{A:Around}{E:WvP}{s:Shared}(h:wpAny M A t Q E s)(d:∀a s,Q a s->Q' a s):wpAny M A t Q' E s:=vS h d λ_ _ x=>x
section
variable {X:Cx}
def tVar (i:Nat):TE:=λa H Q=>∃v,a[i]? = some (some v)/\Q v H
def tC (v:V):TE:=λ_ H Q=>Q v H
def zgG {g:Pos}(o:X.N[i]? = some x)(w:Vis X.env.scope x)(f:autoParam (dB x) jB1)(d:autoParam ((x == ("__classdict__"))=false) jB1):PE X (.Name x g) (tVar i):=by
 intro n s y H Q I h;obtain⟨v,e,h⟩:=h;obtain⟨m,t,p⟩:=I.loc;obtain⟨u,r,l⟩:=p i x v o e w;have fin:EP X _ y Q u s:=⟨v,H,I,r,h⟩
 rcases l with ⟨b,q⟩ | ⟨b,c,j,a⟩
 .exact wpAny_Name (wpAny_loadName_local I.ok.kind b t q fin) f
 .rcases b with b | b
  .exact wpAny_Name (wpAny_loadName_cell I.ok.kind b j a fin) f
  .exact wpAny_Name (wpAny_loadName_free I.ok.kind b j a fin d) f
def zkZ {i j a}:PE X (.Constant (.int i) j a) (tC (.int i)):=λ_ _ _ H _ I h=>wpAny_Constant_int ⟨.int i,H,I.tok _,⟨_,rfl⟩,h⟩
def znn {b j a}:PE X (.Constant (.bool b) j a) (tC (.bl b)):=λ_ _ _ H _ I h=>Constant_bool ⟨.bl b,H,I,rfl,h⟩
def zkW {j a}:PE X (.Constant .none j a) (tC .non):=λ_ _ _ H _ I h=>Constant_none ⟨.non,H,I,rfl,h⟩
def zkU {x j a}:PE X (.Constant (.str x) j a) (tC (.str x)):=λ_ _ _ H _ I h=>Calls.Constant_str ⟨.str x,H,I.tok _,⟨_,rfl⟩,h⟩
def Gl (X:Cx)(x:Str):Prop:=X.env.kindOf x=some .globalImplicit
def zds {a:Pos}(I:Inv X pins σ H s)(d:Gl X x)(e:X.mg x=some u)(h:Q u s)
  (b:autoParam (dB x) jB1):wpAny (model X.prog X.w) X.A (eval (.Name x a) X.env) Q E s:=
 Calls.Name_function_global I.ok.kind d (Calls.loadGlobal_global (by rw[I.ok.glob];exact I.mod.glob.keeps I.bk) e h) b
def z95 {a:Pos}(I:Inv X pins σ H s)(f:Gl X x)(g:X.mg x=none)(j:bootBuiltins x=some u)(h:Q u s)
  (i:autoParam (x≠"__name__") jB1) (e:autoParam (dB x) jB1):wpAny (model X.prog X.w) X.A (eval (.Name x a) X.env) Q E s:=by
 obtain⟨l,b,d⟩:=I.mod.blt;exact Calls.Name_function_global I.ok.kind f (Calls.loadGlobal_builtin (by rw[I.ok.glob];exact I.mod.glob.keeps I.bk) g (by rw[I.ok.blt];exact b.keeps I.bk) ((d x i).trans j) h) e
def zcZ {v:V}{a:Pos}(d:Gl X x)(e:X.mg x=some u)(r:RelV v u)(b:autoParam (dB x) jB1):PE X (.Name x a) (tC v):=
 λ_ _ _ H _ I h=>zds I d e ⟨v,H,I,r,h⟩ b
variable {a b:Expr}{ta tb:TE}{pos:Pos}
def tB (t:TE):TT:=λb H Q=>t b H λx a=>∃c,x = .bl c/\Q c a
def zkH {t:TE}(h:PE X e t)(i:autoParam (∀a,isTrue e X.env a=(do let v <- a;standAt e.pos;holding [v] (truthy v))) jC1):PT X e (tB t):=by
 intro b s n H Q I j;refine isTrue_plain (thn (h _ s n H _ I j) λv o m =>?_) (i _);obtain⟨x,f,g,r1,l⟩:=m;obtain⟨d,rfl,q⟩:=l
 cases r1
 exact wpAny_truthy_bool ⟨f,g,q⟩
variable {tA tB':TT}{rest:List Expr}
def tAnd (t u:TT):TT:=λb H Q=>t b H λc a=>if c=true then u b a Q else Q false a
def tOr (t u:TT):TT:=λb H Q=>t b H λc a=>if c=true then Q true a else u b a Q
def tNot (t:TT):TT:=λb H Q=>t b H λc a=>Q (!c) a
def zi4 (d:PT X a tA):PW X (.BoolOp .And [a] pos) tA:=by
 intro wh b s f H Q I h;refine isTrue_and (thn (d _ s f H Q I h) λc g e =>?_)
 cases c with
 | true=>exact isTrue_and_nil e
 | false=>exact e
def zkF (d:PT X a tA):PW X (.BoolOp .Or [a] pos) tA:=by
 intro wh b s f H Q I h;refine isTrue_or (thn (d _ s f H Q I h) λc g e =>?_)
 cases c with
 | false=>exact isTrue_or_nil e
 | true=>exact e
def zkG (j:PT X a tA)(l:PW X (.BoolOp .And (b::rest) pos) tB'):PW X (.BoolOp .And (a::b::rest) pos) (tAnd tA tB'):=by
 intro wh f s i H Q I h;refine isTrue_and (thn (j _ s i H _ I h) λc m n =>?_);obtain⟨d,e,g⟩:=n
 cases c with
 | true=>exact l wh _ m i d Q e g
 | false=>exact⟨d,e,g⟩
def zng (j:PT X a tA)(l:PW X (.BoolOp .Or (b::rest) pos) tB'):PW X (.BoolOp .Or (a::b::rest) pos) (tOr tA tB'):=by
 intro wh f s i H Q I h;refine isTrue_or (thn (j _ s i H _ I h) λc m n =>?_);obtain⟨d,e,g⟩:=n
 cases c with
 | true=>exact⟨d,e,g⟩
 | false=>exact l wh _ m i d Q e g
def zkI (d:PT X a tA):PT X (.UnaryOp .Not a pos) (tNot tA):=by
 intro b s e H Q I h;exact isTrue_not (d _ s e H _ I h)
def zjz (d e:TE):TE:=λb H Q=>d b H λx a=>∃c,x = .bl c/\if c=true then e b a Q else Q (.bl false) a
def zkV {op}{t:TE}(h:PE X a t):PE X (.BoolOp op [a] pos) t:=λb s e H Q I d=>BoolOp_one (h _ s e H Q I d)
def zl1 (j:PE X a ta)(l:PE X (.BoolOp .And (b::rest) pos) tb):PE X (.BoolOp .And (a::b::rest) pos) (zjz ta tb):=by
 intro g s i H Q I h;refine BoolOp_and (thn (j _ s i H _ I h) λv m n =>?_);obtain⟨x,e,f,r1,d⟩:=n;obtain⟨c,rfl,d⟩:=d
 cases r1
 refine wpAny_truthy_bool ?_
 cases c with
 | true=>exact l _ m i e Q f d
 | false=>exact⟨.bl _,e,f,rfl,d⟩
end
def SqL (K:W.Frag)(H:Hp)(a:Addr)(xs:List V):Prop:=
 Rd H a (.lst xs)\/
  ∃(o:Obj) (b:Array Value) (n:Nat),K.lookup a=some o/\o.cls = .type "list"/\o.dict=none/\o.data = .seq b n/\b.size<=sizeLine/\Vals xs b.toList
def SqT (K:W.Frag)(H:Hp)(a:Addr)(xs:List V):Prop:=
 Rd H a (.tup xs)\/
  ∃(o:Obj) (b:Array Value) (n:Nat),K.lookup a=some o/\o.cls = .type "tuple"/\o.data = .seq b n/\b.size<=sizeLine/\Vals xs b.toList/\o.dict=none
noncomputable def absV:Value->Option V
 | .none=>some .non
 | .bool b=>some (.bl b)
 | .int i _=>some (.int i)
 | .str x _=>some (.str x)
 | .ref a=>some (.ref a)
 | .type n=>some (.ty n)
 | _=>none
def RelV.abs (r:RelV x u):absV u=some x:=by
 cases x with
 | non=>cases r;rfl
 | bl _=>cases r;rfl
 | int _=>obtain⟨t,rfl⟩:=r;rfl
 | str _=>obtain⟨t,rfl⟩:=r;rfl
 | ref _=>cases r;rfl
 | ty _=>cases r;rfl
def RelV.inj {x y:V}{u:Value}(r:RelV x u)(q:RelV y u):x=y:=w6 (r.abs.symm.trans q.abs)
theorem Vals.inj:∀{xs ys:List V}{a:List Value},Vals xs a->Vals ys a->xs=ys
 | _,_,_,.nil,.nil=>rfl
 | _,_,_,.cons r t,.cons b d=>by rw[r.inj b,Vals.inj t d]
section
variable {X:Cx}{pins:List (Addr × Obj)}{σ:St}{H:Hp}{s:Shared}{a:Addr}{xs ys:List V}
def SqL.of {K:W.Frag}(h:H a=some (.lst xs)):SqL K H a xs :=.inl (.inl h)
def SqT.of {K:W.Frag}(h:H a=some (.tup xs)):SqT K H a xs :=.inl (.inl h)
def Inv.list (I:Inv X pins σ H s)(h:SqL X.K H a xs):∃b,Vals xs b/\PlainL s.heap a b.toArray/\xs.length<=sizeLine:=by
 rcases h with h | ⟨o,b,n,g,d,f,i,j,r⟩
 .obtain⟨z,b,n,r,e⟩:=h.ok I.hok;exact⟨b,r,⟨_,n,e,rfl,rfl,rfl⟩,z⟩
 .refine⟨b.toList,r,⟨o,n,I.kIn a o g,d,f,by simpa using i⟩,?_⟩;have e:=r.length
  simp_all
def Inv.tuple (I:Inv X pins σ H s)(h:SqT X.K H a xs):∃b,Vals xs b/\IsTup s.heap a b.toArray/\xs.length<=sizeLine:=by
 rcases h with h | ⟨o,b,n,f,d,g,i,r,_⟩
 .obtain⟨z,b,r,p,_⟩:=h.ok I.hok;exact⟨b,r,p,z⟩
 .refine⟨b.toList,r,⟨o,I.kIn a o f,d,n,by simpa using g⟩,?_⟩;have e:=r.length
  simp_all
def Inv.tupNoD (I:Inv X pins σ H s)(h:SqT X.K H a xs):NoD s.heap a:=by
 rcases h with h | ⟨o,e,n,d,f,g,i,r,b⟩
 .exact(h.ok I.hok).2.choose_spec.2.2
 .exact⟨o,I.kIn a o d,b⟩
def Inv.list_inj (I:Inv X pins σ H s)(h:SqL X.K H a xs)(g:SqL X.K H a ys):xs=ys:=by
 obtain⟨b,r,⟨o,n,e,_,_,d⟩,_⟩:=I.list h;obtain⟨its',i,⟨m,l,f,_,_,j⟩,_⟩:=I.list g;rw[e] at f;have:b=its':=by simp_all
 subst this;exact r.inj i
def Inv.tuple_inj (I:Inv X pins σ H s)(h:SqT X.K H a xs)(g:SqT X.K H a ys):xs=ys:=by
 obtain⟨b,r,⟨o,e,_,n,d⟩,_⟩:=I.tuple h;obtain⟨its',i,⟨m,f,_,l,j⟩,_⟩:=I.tuple g;rw[e] at f;have:b=its':=by simp_all
 subst this;exact r.inj i
end
noncomputable abbrev Cx.wish (X:Cx)(E:WvP):Cx:={ X with xe:=E }
abbrev Cx.nox (X:Cx):Cx:=X.wish λ_ _=>False
theorem Cx.Ok.wish {X:Cx}(ok:X.Ok)(E:WvP):(X.wish E).Ok:=
 ⟨ok.mod,ok.kind,ok.glob,ok.blt,ok.above,ok.inj,ok.has,ok.cab,ok.hd,ok.frames,ok.stk,ok.exf,ok.bs,ok.bsz,ok.noex,ok.exfs,ok.funs,ok.frf,ok.tbs⟩
def Cx.Ok.unwish {X:Cx}{E:WvP}(ok:(X.wish E).Ok):X.Ok:=
 ⟨ok.mod,ok.kind,ok.glob,ok.blt,ok.above,ok.inj,ok.has,ok.cab,ok.hd,ok.frames,ok.stk,ok.exf,ok.bs,ok.bsz,ok.noex,ok.exfs,ok.funs,ok.frf,ok.tbs⟩
section
variable {X:Cx}{pins:List (Addr × Obj)}{σ:St}{H:Hp}{s:Shared}{E:WvP}
theorem Inv.wish (I:Inv X pins σ H s)(E:WvP):Inv (X.wish E) pins σ H s:=⟨I.ok.wish E,I.os,I.bare,I.base,I.loc,I.cell,I.free,I.freeC,I.pin,I.hok,I.len⟩
theorem Inv.unwish (I:Inv (X.wish E) pins σ H s):Inv X pins σ H s:=⟨I.ok.unwish,I.os,I.bare,I.base,I.loc,I.cell,I.free,I.freeC,I.pin,I.hok,I.len⟩
theorem SP.unwish {D:Ends}{f:Flow}{s':Shared}(h:SP (X.wish E) pins D f s'):SP X pins D f s':=by
 cases f with
 | next=>obtain⟨a,b,I,q⟩:=h;exact⟨a,b,I.unwish,q⟩
 | brk=>obtain⟨a,b,I,q⟩:=h;exact⟨a,b,I.unwish,q⟩
 | cont=>obtain⟨a,b,I,q⟩:=h;exact⟨a,b,I.unwish,q⟩
 | ret u=>obtain⟨v,a,b,I,r,q⟩:=h;exact⟨v,a,b,I.unwish,r,q⟩
theorem PSs.nox {st:List Stmt}{t:TS}(h:PSs X.nox st t):PSs X st t:=λa s d H D I b=>
 vS (h _ s d H D (I.wish _) b) (λ_ _ q=>q.unwish) λ_ _ z=>False.elim z
end
section
variable {X:Cx}{st:Stmt}{rest:List Stmt}{t u:TS}{e:Expr}{te:TE}{pos:Pos}
def zjt:TS:=λD a H=>D.nx a H
def tSeq (t u:TS):TS:=λD a H=>t { D with nx:=u D } a H
def zi9:PSs X [] zjt:=λ_ _ a H _ I h=>wpAny_execs_nil ⟨a,H,I,h⟩
def zf7 (g:PS X st t)(i:PSs X rest u):PSs X (st::rest) (tSeq t u):=by
 intro b s l H D I h;refine wpAny_execs_cons (thn (g _ s l H _ I h) λf j q =>?_)
 cases f with
 | next=>
  obtain⟨a,d,e,q⟩:=q;exact i _ j a d D e q
 | ret v=>exact q
 | brk=>exact q
 | cont=>exact q
def zi8 (b:PS X st t):PSs X [st] t:=by
 intro a s d H D I h;refine wpAny_execs_cons (thn (b _ s d H D I h) λf e q =>?_)
 cases f with
 | next=>exact wpAny_execs_nil q
 | ret v=>exact q
 | brk=>exact q
 | cont=>exact q
def Inv.quiet {a:List (Addr × Obj)}{b:St}{H:Hp}{s:Shared}(I:Inv X a b H s):interactive X.env=false:=by simp[interactive,I.ok.kind]
def zju (d:TE):TS:=λD a H=>d a H λ_ b=>D.nx a b
def zia (g:PE X e te)(i:autoParam (swapsWith e none pos.line X.env=pure false) jA1):PS X (.Expr e pos) (zju te):=by
 intro a s b H D I h;exact wpAny_Expr_any (thn (g _ s b H _ I h) λv l ⟨x,d,f,r1,j⟩=>⟨b,d,f,j⟩) I.quiet i
def tRet (a:TE):TS:=λD b H=>a b H D.rt
def zkL (g:PE X e te):PS X (.Return (some e) pos) (tRet te):=by
 intro a s b H D I h;exact wpAny_Return_some (thn (g _ s b H _ I h) λv j ⟨x,d,f,r1,i⟩=>⟨x,b,d,f,r1,i⟩)
def tIfS (c:TT)(t u:TS):TS:=λD a H=>c a H λb d=>if b=true then t D a d else u D a d
def znh {c:Expr}(o:PT X c tc)(m:PSs X a t)(n:PSs X b u):PS X (.If c a b pos) (tIfS tc t u):=by
 intro i s e H D I h;refine wpAny_If (thn (o _ s e H _ I h) λd l p =>?_);obtain⟨f,g,j⟩:=p
 cases d with
 | true=>exact m _ l e f D g j
 | false=>exact n _ l e f D g j
def zgg:TS:=λ_ _ _=>False
def zf9:PS X st zgg:=λ_ _ _ _ _ _ h=>h.elim
end
abbrev TG:=V->St->Hp->(St->Hp->Prop)->Prop
abbrev TGs:=List V->St->Hp->(St->Hp->Prop)->Prop
def PG (X:Cx)(a:Expr)(t:TG):Prop:=
 ∀b s (f:St) H v u Q,Inv X b f H s->RelV v u->t v f H Q->
  wpAny (model X.prog X.w) X.A (assign a X.env u) (λ_ g=>∃d e,Inv X b d e g/\Q d e) X.xe s
def PGs (X:Cx)(ts:List Expr)(t:TGs):Prop:=
 ∀a s (f:St) H vs e Q,Inv X a f H s->Vals vs e->t vs f H Q->
  wpAny (model X.prog X.w) X.A (assignInOrder ((assignEach ts X.env).map (·.2)) e) (λ_ g=>∃b d,Inv X a b d g/\Q b d) X.xe s
abbrev TSet:=V->V->V->Hp->(Hp->Prop)->Prop
def PSet (X:Cx)(t:TSet):Prop:=
 ∀a s (f:St) H o i v e d u Q,Inv X a f H s->RelV o e->RelV i d->RelV v u->t o i v H Q->
  wpAny (model X.prog X.w) X.A (setItem e d u) (λ_ g=>∃b,Inv X a f b g/\Q b) X.xe s
section
variable {X:Cx}{pos:Pos}
def z3t (i:Nat):TG:=λv a H Q=>Q (a.set i (some v)) H
def zcY (d:X.N.Nodup)(f:X.N[i]? = some x)(g:Loc X.env.scope x)(e:autoParam (X.fn x=true\/X.env.scope.names.lookup x=some .local) jD1):PG X (.Name x pos) (z3t i):=by
 intro a s l H v u Q I r h;exact wpAny_assign_Name (zaw I d f g r (λj b=>⟨_,H,b,h⟩) e)
def gNil:TGs:=λvs a H Q=>vs=[]/\Q a H
def zfM (t:TG)(u:TGs):TGs:=λvs d H Q=>∃v r,vs=v::r/\t v d H λa b=>u r a b Q
def zih:PGs X [] gNil:=by
 intro a s b H vs d Q I r h;obtain⟨e,h⟩:=h;subst e;exact assignInOrder_nil ⟨b,H,I,h⟩
def zfb {t:TG}(i:PG X e t)(j:PGs X es u)
  (l:autoParam ((assignEach (e::es) X.env).map (·.2)=assign e X.env::(assignEach es X.env).map (·.2)) jA1):PGs X (e::es) (zfM t u):=by
 intro b s q H vs w Q I r h;obtain⟨v,x,g,h⟩:=h;subst g
 cases r with
 | cons r n=>
  rw[l];refine assignInOrder_cons (thn (i _ s q H _ _ _ I r h) λ_ o p =>?_);obtain⟨a,d,f,m⟩:=p;exact j _ o a d _ _ Q f n m
def gTup (K:W.Frag)(n:Nat)(t:TGs):TG:=λv d H Q=>∃a b,v = .ref a/\SqT K H a b/\b.length=n/\t b d H Q
def zkR {k:Nat}{t:TGs}(m:X.calm=true)(h:PGs X es t)
  (q:autoParam ((assignEach es X.env).length=n) jA1) (d:autoParam ((assignEach es X.env).findIdx? (·.1)=none) jA1):PG X (.Tuple es k pos) (gTup X.K n t):=by
 intro g s C H v u Q I r f;obtain⟨a,A,l,w,p,f⟩:=f;subst l
 cases r
 obtain⟨z,i,x,F⟩:=I.tuple w;refine assign_Tuple_tuple (I.ok.hd m) x (by simp[q, <- p,i.length]) d λE y =>?_;have j  := I.kept (t':=s.toks) λb o e=>y b o (wJ (wC e)) e;exact h _ _ C H A _ Q j (by simpa using i) f
def gSub (f ti:TE)(t:TSet):TG:=λv a H Q=>f a H λo b=>ti a b λi d=>t o i v d λe=>Q a e
def zkS {g ti:TE}{t:TSet}(A:PE X o g)(z:PE X i ti)(C:PSet X t)
  (w:autoParam (∀v,assign (.Subscript o i pos) X.env v=(do
   let a <- holding [v] (eval o X.env)
   let b <- holding [v,a] (eval i X.env)
   standAt pos
   holding [v,a,b] (setItem a b v)
   release [v,a,b] [])) jC1):PG X (.Subscript o i pos) (gSub g ti t):=by
 intro f s e H v u Q I r h;rw[w];refine wc (uc (thn (A _ s e H _ I h) λa J d =>?_));obtain⟨x,j,n,r1,E⟩:=d;refine wc (uc (thn (z _ J e j _ n E) λb K d =>?_));obtain⟨y,l,p,r2,F⟩:=d;refine wc (wpAny_standAt (wc (uc (thn (C _ K e l x y v a b u _ p r1 r2 r F) λ_ L d =>?_))));obtain⟨m,q,G⟩:=d;exact wpAny_release ⟨e,m,q,G⟩
def tAsg (d:TE)(g:TG):TS:=λD a H=>d a H λx b=>g x a b D.nx
def zkO (j:PE X e te)(l:PG X tg g)(m:autoParam (swapsWithSole [tg] e pos.line X.env=pure false) jA1)(n:autoParam (swappedStores [tg] e X.env=pure none) jA1)
  (i:autoParam ((assignEach [tg] X.env).map (·.2)=[assign tg X.env]) jA1):PS X (.Assign [tg] e pos) (tAsg te g):=by
 intro a s b H D I h;refine wpAny_Assign_stores (thn (j _ s b H _ I h) λv p r =>?_) m n;obtain⟨x,d,f,r1,o⟩:=r;rw[i];exact thn (l _ p b d x v _ f r1 o) λ_ t q=>q
def zkK {i:Nat}{x:Str}(g:X.N.Nodup)(m:X.N[i]? = some x)(o:Loc X.env.scope x)(j:PE X e te)(n:autoParam (swapsWith e (some (.Name x pos')) pos.line X.env=pure false) jA1)(l:autoParam (X.fn x=true\/X.env.scope.names.lookup x=some .local) jD1):
  PS X (.Assign [.Name x pos'] e pos) (tAsg te (z3t i)):=by
 intro a s r H D I h;refine wpAny_Assign_Name (thn (j _ s r H _ I h) λv t q =>?_) n;obtain⟨y,b,d,r1,p⟩:=q;exact zaw d g m o r1 (λu f=>⟨_,b,f,p⟩) l
def zgf (c:TT)(h:TS):TS:=λD a H=>∃W:Nat->St->Hp->Prop,(∃m,W m a H)/\∀m a H,W m a H->
 c a H λb f=>if b=true then ∃N,(∀d e,N d e->∃g,g<m/\W g d e)/\h { D with nx:=N,ct:=N,bk:=D.nx } a f else D.nx a f
def zf8 {c:Expr}(C:PassesOwn (model X.prog X.w) X.A X.env X.xe)(J:PT X c tc)(G:PSs X body tb):PS X (.While c body [] pos) (zgf tc tb):=by
 intro E s T H D I h;obtain⟨W,⟨K,Q⟩,g⟩:=h;refine wpAny_While (codeAny_whileLoop (λn L=>Ee2 λi t=>Inv X _ i t L/\W n i t) ?_ K ⟨T,H,I,Q⟩);rintro n M ⟨d,u,F,R⟩;refine jm C (thn (J _ M d u _ F (g n d u R)) λb O S =>?_);obtain⟨x,y,j⟩:=S
 cases b with
 | true=>
  obtain⟨N,z,j⟩:=j;refine jm C (thn (G _ O d x _ y j) λf U l =>?_)
  cases f with
  | next=>
   obtain⟨a,e,m,q⟩:=l;obtain⟨p,o,r⟩:=z a e q;exact⟨p,o,a,e,m,r⟩
  | cont=>
   obtain⟨a,e,m,q⟩:=l;obtain⟨p,o,r⟩:=z a e q;exact⟨p,o,a,e,m,r⟩
  | brk=>exact l
  | ret v=>exact l
 | false=>
  exact wpAny_execs_nil ⟨d,x,y,j⟩
end
structure It where
 go:Nat->Hp->Prop
 yld:Nat->Hp->V->Hp->Prop
 stop:Nat->Hp->Prop
def FpOk (X:Cx)(a:List (Addr × Obj))(H:Hp)(b:Addr):Prop:=
 H b=none/\b≠X.env.locals/\b ∉ X.fs/\(b∈X.ex\/X.s₀.heap.objs.size<=b)/\(∀x c,X.env.cells.lookup x=some c->c≠b)/\∀p∈X.pn++a,p.1≠b
def Inv.fpOk (I:Inv X pins σ H s)(a:s.heap.objs.size<=b)(d:H' b=none):FpOk X pins H' b:=by
 refine⟨d,jr (wK I.lt a),I.nofs a,.inr (wV I.sz a),λx c e z =>?_,λp f z =>?_⟩
 .obtain⟨v,q⟩:=I.cell x c e;exact absurd (wK q.lt (by rw[z];exact a)) (vZ _)
 .exact absurd (wK (wC (I.pin p f).1) (by rw[z];exact a)) (vZ _)
structure Turn (P:Program)(w:World)(K:W.Frag)(tg:Expr)(J:It)(fp:List Addr)(it:Addr)(tn:Nat->Heap->Prop):Prop where
 mem:it∈fp
 obj:∀i h,tn i h->∀b∈fp,∃o,h.get? b=some o/\∀v,o.data ≠ .cell v
 keep:∀i h h',tn i h->(∀b∈fp,∀o,h.get? b=some o->h'.get? b=some o)->tn i h'
 item:∀X,X.prog=P->X.w=w->X.K=K->X.calm=true->∀i pins s (σ:St) H E,Inv X pins σ H s->(∀b∈fp,FpOk X pins H b)->tn i s.heap->J.go i H->
  wpAny (model P w) X.A (pyNext (.ref it)) (λr s1=>∃u,r=some u/\
   wpAny (model P w) X.A (letOwnedTupleGo tg (.ref it) u) (λ_ s2=>∃x H',Inv X pins σ H' s2/\RelV x u/\J.yld i H x H'/\tn (i+1) s2.heap/\∀b∈fp,H' b=none) E s1) E s
 done:∀X,X.prog=P->X.w=w->X.K=K->X.calm=true->∀i pins s (σ:St) H E,Inv X pins σ H s->(∀b∈fp,FpOk X pins H b)->tn i s.heap->J.stop i H->
  wpAny (model P w) X.A (pyNext (.ref it)) (λr s1=>r=none/\Inv X pins σ H s1) E s
 self:∀A i s Q E,tn i s.heap->Q (.ref it) s->wpAny (model P w) A (pyIter (.ref it)) Q E s
abbrev TI:=St->Hp->(It->Hp->Prop)->Prop
def PIE (X:Cx)(a:List (Addr × Obj))(l:St)(j:Expr)(R:It->Hp->Prop)(e:Value)(h:Shared):Prop:=
 ∃(g:Addr) (f:List Addr) (i:Nat->Heap->Prop) (J:It) (d:Hp),e = .ref g/\Inv X a l d h/\Turn X.prog X.w X.K j J f g i/\i 0 h.heap/\(∀b∈f,FpOk X a d b)/\R J d
def PI (X:Cx)(f b:Expr)(g:TI):Prop:=
 ∀a s (d:St) H R,Inv X a d H s->g d H R->
  wpAny (model X.prog X.w) X.A (eval b X.env) (λv e=>wpAny (model X.prog X.w) X.A (pyIter v) (PIE X a d f R) X.xe e) X.xe s
def ziR {vs:Array Value}(e:s.heap.get? it=some o)(b:o.cls = .type n)(d:o.data = .fields vs)
  (f:["enumerate","zip","dict_itemiterator","dict_reverseitemiterator","odict_iterator","itertools.zip_longest","itertools.pairwise"].contains n=false) (a:Q () s):wpAny M A (letOwnedTupleGo tg (.ref it) u) Q E s:=by
 cases tg <;> first
  | exact wp a
  | (cases u <;> first
    | exact wp a
    | (refine wc (wpAny_load e ?_)
       rw[b,d];show wpAny M A (if (["enumerate","zip","dict_itemiterator","dict_reverseitemiterator","odict_iterator","itertools.zip_longest","itertools.pairwise"].contains n && vs[0]? == some (rawInt _))=true then _ else _) Q E s;rw[if_neg (by grind)];exact wp a))
def Itl (K:W.Frag)(a:Addr):It:=
 ⟨λi H=>∃b x,SqL K H a b/\b[i]? = some x,λi H x d=>d=H/\∀b,SqL K H a b->b[i]? = some x,λi H=>∃b,SqL K H a b/\b.length<=i⟩
def Itt (K:W.Frag)(a:Addr):It:=
 ⟨λi H=>∃b x,SqT K H a b/\b[i]? = some x,λi H x d=>d=H/\∀b,SqT K H a b->b[i]? = some x,λi H=>∃b,SqT K H a b/\b.length<=i⟩
def Itr (b:Int)(n:Nat):It:=⟨λi _=>i<n,λi H x a=>a=H/\x = .int (b+i),λi _=>n<=i⟩
def zc7 {P:Program}{w:World}{K:W.Frag}{tg:Expr}(a it:Addr):Turn P w K tg (Itl K a) [it] it (λi h=>h.IsListIter it a i) where
 mem:=by simp
 obj:=λi h f b j=>by
  have e:b=it:=by simpa using j
  subst e;obtain⟨o,e,c,d⟩:=f;exact⟨o,e,λv z=>by rw[d] at z;cases z⟩
 keep:=λi h m f k=>f.at λo e=>k it (by simp) o e
 item:=by
  intro X G L F Q i g s R H E I n f J;subst G L F;obtain⟨xs,x,q,M⟩:=J;obtain⟨N,O,p,hz⟩:=I.list q;obtain⟨u,Y,ru⟩:=O.get M;obtain⟨r,t,U,y,A,C⟩:=n it (by simp);refine wpAny_pyNext_list_item f p.isList (x:=u) (by simpa using Y) λm l sb =>?_;have S:Inv X g R H { s with heap:=m }:=I.turned (t':=s.toks) (λb o j e=>(sb.2 b j).trans e) r t y A C;obtain⟨o,e,c,d⟩:=id l;exact⟨u,rfl,ziR (s:={ s with heap:=m }) e c d (by decide) ⟨x,H,S,ru,⟨rfl,λys Z=>by rw[I.list_inj Z q];exact M⟩,l,λb j=>(n b j).1⟩⟩
 done:=by
  intro X G L F Q i g s R H E I n f J;subst G L F;obtain⟨xs,q,M⟩:=J;obtain⟨N,O,p,hz⟩:=I.list q;obtain⟨r,t,U,y,A,C⟩:=n it (by simp);have hl:=O.length;exact wpAny_pyNext_list_end (I.ok.hd Q) f p.isList (by simp;lia) λm T=>⟨rfl,I.turned (t':=s.toks) (λb o j e=>T b o j e) r t y A C⟩
 self:=λ_ _ _ _ _ f h=>wpAny_pyIter_listiter f h
def zbe {P:Program}{w:World}{K:W.Frag}{tg:Expr}(a it:Addr):Turn P w K tg (Itt K a) [it] it (λi h=>h.IsTupleIter it a i) where
 mem:=by simp
 obj:=λi h f b j=>by
  have e:b=it:=by simpa using j
  subst e;obtain⟨o,e,c,d⟩:=f;exact⟨o,e,λv z=>by rw[d] at z;cases z⟩
 keep:=λi h n f k=>f.at λo e=>k it (by simp) o e
 item:=by
  intro X J M G Q i g s R H E I q f L;subst J M G;obtain⟨xs,x,r,N⟩:=L;obtain⟨l,O,p,hz⟩:=I.tuple r;obtain⟨u,Y,ru⟩:=O.get N;obtain⟨t,y,U,A,C,F⟩:=q it (by simp);refine wpAny_pyNext_tuple_item f (show s.heap.IsTuple a l.toArray from p) (x:=u) (by simpa using Y) λn m sb =>?_;have S:Inv X g R H { s with heap:=n }:=I.turned (t':=s.toks) (λb o j e=>(sb.2 b j).trans e) t y A C F;obtain⟨o,e,c,d⟩:=id m;exact⟨u,rfl,ziR (s:={ s with heap:=n }) e c d (by decide) ⟨x,H,S,ru,⟨rfl,λys Z=>by rw[I.tuple_inj Z r];exact N⟩,m,λb j=>(q b j).1⟩⟩
 done:=by
  intro X J M G Q i g s R H E I q f L;subst J M G;obtain⟨xs,r,N⟩:=L;obtain⟨l,O,p,hz⟩:=I.tuple r;obtain⟨t,y,U,A,C,F⟩:=q it (by simp);have hl:=O.length;exact wpAny_pyNext_tuple_end (I.ok.hd Q) f (show s.heap.IsTuple a l.toArray from p) (by simp;lia) λn T=>⟨rfl,I.turned (t':=s.toks) (λb o j e=>T b o j e) t y A C F⟩
 self:=λ_ _ _ _ _ f h=>wpAny_pyIter_tupleiter f h
def zbf {P:Program}{w:World}{K:W.Frag}{Q:Expr}(it:Addr)(l:Int)(n:Nat):Turn P w K Q (Itr l n) [it] it (λi h=>IsRangeIter h it (l+i*1) (n - i) 1) where
 mem:=by simp
 obj:=λi h d b f=>by
  simp_all
 keep:=λi h x d k=>k it (by simp) _ d
 item:=by
  intro X C F A y i a s G H E I j d z;subst C F A;obtain⟨m,p,M,q,r,u⟩:=j it (by simp);have W:=Walks.range (prog:=X.prog) (w:=X.w) (I.ok.hd y) it l 1 n;refine W.item i s _ _ z d λv x R N g O =>?_;obtain⟨t,rfl⟩:=N;have J:Inv X a G H { s with heap:=x,toks:=R }:=I.turned (λb o f e=>O b o (by simpa using f) e) m p q r u;refine⟨_,rfl,ziR g rfl rfl (by decide) ⟨.int (l+i),H,J,⟨t,?_⟩,⟨rfl,rfl⟩,g,λb f=>(j b f).1⟩⟩;rw[Int.mul_one]
 done:=by
  intro X C F A y i a s G H E I j d z;obtain⟨m,p,M,q,r,u⟩:=j it (by simp);exact wpAny_pyNext_range_end (I.ok.hd y) d (by have:n<=i:=z;lia) λx L=>⟨rfl,I.turned (t':=s.toks) (λb o f e=>L b o f e) m p q r u⟩
 self:=λ_ _ _ _ _ d h=>wpAny_pyIter_rangeiter d h
section
variable {X:Cx}{tg:Expr}
def zeL {lo a:Int}{t u v:Tok}(I:Inv X pins σ H s)(h : -(2 ^ 62)<=lo)(i:lo<2 ^ 62)(j : -(2 ^ 62)<=a)(l:a<2 ^ 62)
  (q:R (Itr lo (a - lo).toNat) H):wpAny (model X.prog X.w) X.A (pyIter (.ref s.heap.objs.size)) (PIE X pins σ tg R) E { s with heap:=s.heap.push { cls :=.type "range",data :=.fields #[.int lo t,.int a u,.int 1 v] },toks:=tk }:=by
 refine wpAny_pyIter_range (IsRange.new ..) (small_one h i j l) ?_;have d:Inv X _ σ H { s with heap:=s.heap.push { cls :=.type "range",data :=.fields #[.int lo t,.int a u,.int 1 v] },toks:=tk }:=I.kept λb o e=>wg _ e;refine⟨(s.heap.push _).objs.size,[(s.heap.push _).objs.size],_,_,H,rfl,
  d.kept λb o e=>wg _ e,zbf _ lo _,?_,λb m =>?_,q⟩
 .have f:lo+((0:Nat))*1=lo:=by simp
  have g:(((a - lo).toNat)) - ((0:Nat))=Builtin.Range.rangeSize lo a 1:=by rw[rangeSize_one];split <;> lia
  rw[f,g];exact wv _ rfl
 .have e:b=(s.heap.push { cls :=.type "range",data :=.fields #[.int lo t,.int a u,.int 1 v] }).objs.size:=by simpa using m
  subst e;exact d.fpOk (ww _) (d.hok.fresh (ww _))
def zm9 (b:TA):TI:=λd H R=>b d H λvs a=>∃j,vs=[.int j] /\ -(2 ^ 62)<=j/\j<2 ^ 62/\R (Itr 0 j.toNat) a
def zcX {p b:Pos}(l:Gl X "range")(m:X.mg "range"=none)(i:PA X [a] ta)(n:autoParam (starEach [a] X.env=[(false,eval a X.env)]) jA1):PI X tg (.Call (.Name "range" p) [a] [] b) (zm9 ta):=by
 intro f s x H R I h;refine Call_ (z95 I l m boot_range (u6 (thn (i b _ s x H _ I h) λA z w =>?_) n rfl));obtain⟨vs,y,g,r1,d⟩:=w;obtain⟨j,e,d,o,q⟩:=d;subst e
 cases r1 with
 | cons r u=>
  cases u
  obtain⟨t,rfl⟩:=r;exact call_range_1 (zeL g (by lia) (by lia) d o (by simpa using q))
def tFor (n:TI)(g:TG)(l:TS):TS:=λD a H=>n a H λJ h=>∃W:Nat->Nat->St->Hp->Prop,(∃m,W 0 m a h)/\∀i m a H,W i m a H->
 (J.stop i H/\D.nx a H)\/(J.go i H/\∃N,(∀d b,N d b->∃f,f<m/\W (i+1) f d b)/\∀x b,J.yld i H x b->g x a b λe j=>l { D with nx:=N,ct:=N,bk:=D.nx } e j)
def z8K (a:List Addr)(h:Heap):List (Addr × Obj):=a.filterMap λb=>(h.get? b).map λo=>(b,o)
def z45 (a:b∈fp)(e:h.get? b=some o):(b,o)∈z8K fp h:=uT.mpr ⟨b,a,by rw[e];rfl⟩
def zd9 (f:p∈z8K fp h):p.1∈fp/\h.get? p.1=some p.2:=by
 obtain⟨b,d,e⟩:=uT.mp f
 cases q:h.get? b with
 | none=>simp_all
 | some o=>
  rw[q] at e;have a  := w6 e;subst a;exact⟨d,q⟩
def Inv.pinned (I:Inv X pins σ H s)(f:∀b∈fp,FpOk X pins H b)(g:∀b∈fp,∃o,s.heap.get? b=some o/\∀v,o.data ≠ .cell v):Inv X (pins++z8K fp s.heap) σ H s:=
 I.pins_of λp h=>(wB.mp h).elim (λz=>I.pin p (vh _ z)) λz=>by
  obtain⟨a,e⟩:=zd9 z;obtain⟨j,l,m,_⟩:=f p.1 a;obtain⟨o,i,d⟩:=g p.1 a
  simp_all
def Inv.unpinned {a pl:List (Addr × Obj)}(I:Inv X (a++pl) σ H s):Inv X a σ H s:=I.pins_of λp b=>I.pin p (vh _ (vF _ b))
def zkN {Z:Pos}(L:PassesOwn (model X.prog X.w) X.A X.env X.xe)(hc:X.calm=true)(hi:PI X tg iter wi)(hg:PG X tg g)(t:PSs X body tb)
  (hs:autoParam (fI iter X) jC1):PS X (.For tg iter body [] Z) (tFor wi g tb):=by
 intro a s σ H D I h;refine wpAny_For (thn (hi a s σ H _ I h) λv s1 h1=>thn h1 λa2 s2 h2 =>?_) hs;obtain⟨it,G,tn,J,H2,e,I2,T,a0,f2,W,⟨m0,w0⟩,Q⟩:=h2;subst e;have y:∀{H':Hp},(∀b∈G,H' b=none)->∀b∈G,FpOk X a H' b:=λhn b t=>⟨hn b t,(f2 b t).2⟩
 refine codeAny_forLoop_any (λn s'=>∃i z H',Inv X a z H' s'/\tn i s'.heap/\(∀b∈G,H' b=none)/\W i n z H') ?_ m0 ⟨0,σ,H2,I2,a0,λb t=>(f2 b t).1,w0⟩;rintro n s3 ⟨i,C,R,I3,O,K,w3⟩
 rcases Q i n C R w3 with ⟨stop,qn⟩ | ⟨go,N,hN,step⟩
 .refine jm L (thn (T.done X rfl rfl rfl hc i a s3 C R X.xe I3 (y K) O stop) λr s4 ⟨Y,I4⟩ =>?_);subst Y;exact wpAny_execs_nil ⟨C,R,I4,qn⟩
 .refine jm L (thn (T.item X rfl rfl rfl hc i a s3 C R X.xe I3 (y K) O go) λr s4 ⟨u,Y,h4⟩ =>?_);subst Y;refine jm L (thn h4 λ_ s5 z9 =>?_);obtain⟨x,H5,I5,r5,y5,F,U⟩:=z9;have S:=I5.pinned (y U) (T.obj _ _ F);refine jm L (thn (hg _ s5 C H5 x u _ S r5 (step x H5 y5)) λ_ s6 z9 =>?_);obtain⟨a1,H6,I6,q6⟩:=z9;refine jm L (thn (t _ s6 a1 H6 _ I6 q6) λf s7 E =>?_);have q:∀{j:St}{l:Hp},Inv X (a++z8K G s5.heap) j l s7->N j l->∃m,m<n/\∃i z H',Inv X a z H' s7/\tn i s7.heap/\(∀b∈G,H' b=none)/\W i m z H':=λ{j l} p M=>by
   obtain⟨m',hm,w7⟩:=hN j l M;refine⟨m',hm,i+1,j,l,p.unpinned,T.keep _ _ _ F λb t o e=>(p.pin (b,o) (vh _ (vh _ (z45 t e)))).1,λb t =>?_,w7⟩;obtain⟨o,e,d⟩:=T.obj _ _ F b t;exact(p.pin (b,o) (vh _ (vh _ (z45 t e)))).2.1
  cases f with
  | next=>obtain⟨j,l,p,M⟩:=E;exact q p M
  | cont=>obtain⟨j,l,p,M⟩:=E;exact q p M
  | brk=>obtain⟨j,l,p,E⟩:=E;exact⟨j,l,p.unpinned,E⟩
  | ret v=>obtain⟨x7,j,l,p,r7,E⟩:=E;exact⟨x7,j,l,p.unpinned,r7,E⟩
end
abbrev R2:=V->V->Hp->VK->Prop
def OpR (X:Cx)(f:Value->Value->Sem Value)(r:R2):Prop:=
 ∀a s (b:St) H x y v u Q,Inv X a b H s->RelV x v->RelV y u->r x y H Q->
  wpAny (model X.prog X.w) X.A (f v u) (EP X a b Q) X.xe s
def UnR (X:Cx)(f:Value->Sem Value)(r:V->Hp->VK->Prop):Prop:=
 ∀a s (b:St) H x v Q,Inv X a b H s->RelV x v->r x H Q->
  wpAny (model X.prog X.w) X.A (f v) (EP X a b Q) X.xe s
def z15 (X:Cx)(f:Value)(r:List V->Hp->VK->Prop):Prop:=
 ∀a s (e:St) H d b Q,Inv X a e H s->Vals d b->r d H Q->
  wpAny (model X.prog X.w) X.A (call f b) (EP X a e Q) X.xe s
def tOp (r:R2)(e f:TE):TE:=λa H Q=>e a H λx b=>f a b λy d=>r x y d Q
def tUn (r:V->Hp->VK->Prop)(b:TE):TE:=λd H Q=>b d H λx a=>r x a Q
def rI (C:Int->Int->Prop)(g:Int->Int->V):R2:=λx y H Q=>∃i j,x = .int i/\y = .int j/\C i j/\Q (g i j) H
def rI0 (g:Int->Int->V):R2:=λx y H Q=>∃i j,x = .int i/\y = .int j/\Q (g i j) H
def rU (g:Int->V):V->Hp->VK->Prop:=λx H Q=>∃i,x = .int i/\Q (g i) H
section
variable {X:Cx}{a b c:Expr}{ta tb tc:TE}{pos:Pos}
def binT (q:PE X a ta)(r:PE X b tb){d:List (Addr × Obj)}{s:Shared}{g:St}{H:Hp}{R:V->V->Hp->Prop}(I:Inv X d g H s)
  (h:ta g H λx m=>tb g m λy e=>R x y e) {Q:WvP}{f:Value->Value->Sem Value}
  (t:∀v u l x y e,Inv X d g e l->RelV x v->RelV y u->R x y e->wpAny (model X.prog X.w) X.A (f v u) Q X.xe l):
  wpAny (model X.prog X.w) X.A (eval a X.env) (λv i=>wpAny (model X.prog X.w) X.A (eval b X.env) (λu j=>wpAny (model X.prog X.w) X.A (f v u) Q X.xe j) X.xe i) X.xe s:=by
 refine thn (q _ s g H _ I h) λv E n =>?_;obtain⟨x,m,o,r1,z⟩:=n;refine thn (r _ E g m _ o z) λu l n =>?_;obtain⟨y,e,p,r2,C⟩:=n;exact t v u l x y e p r1 r2 C
def znj {op:Operator}(j:OpR X (binaryOp op) r)(g:PE X a ta)(i:PE X b tb):PE X (.BinOp a op b pos) (tOp r ta tb):=by
 intro d s o H Q I h;exact wpAny_BinOp (binT g i I h λv u n x y e f l m q=>j _ n o e x y v u Q f l m q)
def zni {op:UnaryOp}(i:UnR X (unaryOp op) r)(g:PE X a ta):PE X (.UnaryOp op a pos) (tUn r ta):=by
 intro b s d H Q I h;exact UnaryOp_ (thn (g _ s d H _ I h) λv l ⟨x,e,f,r1,j⟩=>i _ l d e x v Q f r1 j)
def opI {f:Value->Value->Sem Value}{C:Int->Int->Prop}{g:Int->Int->Int}
  (a:∀i j t u s Q E,C i j->Q (.int (g i j) s.toks) { s with toks:=s.toks+1 }->wpAny (model X.prog X.w) X.A (f (.int i t) (.int j u)) Q E s):
  OpR X f (rI C λi j =>.int (g i j)):=by
 intro b s n H x y v u Q I e l h;obtain⟨i,j,rfl,rfl,d,q⟩:=h;obtain⟨t,rfl⟩:=e;obtain⟨m,rfl⟩:=l;exact a i j t m s _ _ d ⟨.int _,H,I.tok _,⟨_,rfl⟩,q⟩
def opI0 {f:Value->Value->Sem Value}{g:Int->Int->Int}
  (a:∀i j t u s Q E,Q (.int (g i j) s.toks) { s with toks:=s.toks+1 }->wpAny (model X.prog X.w) X.A (f (.int i t) (.int j u)) Q E s):
  OpR X f (rI0 λi j =>.int (g i j)):=by
 intro b s m H x y v u Q I d e h;obtain⟨i,j,rfl,rfl,q⟩:=h;obtain⟨t,rfl⟩:=d;obtain⟨l,rfl⟩:=e;exact a i j t l s _ _ ⟨.int _,H,I.tok _,⟨_,rfl⟩,q⟩
def opB0 {f:Value->Value->Sem Value}{g:Int->Int->Bool}
  (a:∀i j t u s Q E,Q (.bool (g i j)) s->wpAny (model X.prog X.w) X.A (f (.int i t) (.int j u)) Q E s):
  OpR X f (rI0 λi j =>.bl (g i j)):=by
 intro b s m H x y v u Q I d e h;obtain⟨i,j,rfl,rfl,q⟩:=h;obtain⟨t,rfl⟩:=d;obtain⟨l,rfl⟩:=e;exact a i j t l s _ _ ⟨.bl _,H,I,rfl,q⟩
def CPow (i j:Int):Prop:=0<=j/\j<=1000000/\i.natAbs<2 ^ 64
def zlk:OpR X (binaryOp .Add) (rI0 λi j =>.int (i+j)):=opI0 λ_ _ _ _ _ _ _ q=>add_int q
def zld:OpR X (binaryOp .Sub) (rI0 λi j =>.int (i - j)):=opI0 λ_ _ _ _ _ _ _ q=>sub_int q
def ziq:OpR X (binaryOp .Mod) (rI (λ_ j=>j≠0) λi j =>.int (i.fmod j)):=opI λ_ _ _ _ _ _ _ a q=>mod_int' a q
def zle:OpR X (binaryOp .Pow) (rI CPow λi j =>.int (i ^ j.toNat)):=opI λ_ _ _ _ _ _ _ a q=>pow_int_small a.1 a.2.1 a.2.2 q
def unI {f:Value->Sem Value}{g:Int->Int}
  (a:∀i t s Q E,Q (.int (g i) s.toks) { s with toks:=s.toks+1 }->wpAny (model X.prog X.w) X.A (f (.int i t)) Q E s):
  UnR X f (rU λi =>.int (g i)):=by
 intro b s e H x v Q I d h;obtain⟨i,rfl,q⟩:=h;obtain⟨t,rfl⟩:=d;exact a i t s _ _ ⟨.int _,H,I.tok _,⟨_,rfl⟩,q⟩
def zjg:UnR X (unaryOp .USub) (rU λi =>.int (-i)):=unI λ_ _ _ _ _ q=>neg_int q
end
noncomputable def scal:V->V->Bool
 | .non,.non=>true | .non,.int _=>true | .int _,.non=>true | .non,.bl _=>true | .bl _,.non=>true | .non,.str _=>true | .str _,.non=>true
 | .int _,.int _=>true | .bl _,.bl _=>true | .str _,.str _=>true
 | .int _,.str _=>true | .str _,.int _=>true | .bl _,.str _=>true | .str _,.bl _=>true
 | _,_=>false
def rEq:R2:=λx y H Q=>scal x y=true/\Q (.bl (decide (x=y))) H
def rNe:R2:=λx y H Q=>scal x y=true/\Q (.bl (!decide (x=y))) H
def zdU:decide (V.int i=V.int j)=(i == j):=by
 rw[j2];simp
def zh9:decide (V.bl i=V.bl j)=(i == j):=by
 rw[j2];simp
def zdT:decide (V.str i=V.str j)=(i == j):=by
 rw[j2];simp
section
variable {X:Cx}{a b c:Expr}{ta tb tc:TE}{pos:Pos}
def z0I {k a:Bool}(I:Inv X pins σ H s)(q:Q (.bl k) H)(e:k=a):EP X pins σ Q (.bool a) s:=by
 subst e;exact⟨.bl k,H,I,rfl,q⟩
def znt:OpR X (compareOp .Eq) rEq:=by
 intro f s g H x y v u Q I e a h;obtain⟨d,q⟩:=h
 cases x with
 | non=>
  cases e
  cases y with
  | non=>cases a;exact PySem.EqNone.eq_none_none (z0I I q (by simp))
  | bl j=>cases a;exact PySem.EqNone.eq_none_bool (z0I I q (by simp))
  | int j=>obtain⟨b,rfl⟩:=a;exact PySem.EqNone.eq_none_int (z0I I q (by simp))
  | str j=>obtain⟨b,rfl⟩:=a;exact PySem.EqNone.eq_none_str (z0I I q (by simp))
  | _=>exact absurd (show false=true from d) vI
 | bl i=>
  cases e
  cases y with
  | non=>cases a;exact PySem.EqNone.eq_bool_none (z0I I q (by simp))
  | bl j=>cases a;exact eq_bool (z0I I q zh9)
  | str j=>obtain⟨b,rfl⟩:=a;exact PySem.EqMixed.eq_bool_str (z0I I q (by simp))
  | _=>exact absurd (show false=true from d) vI
 | int i=>
  obtain⟨t,rfl⟩:=e
  cases y with
  | non=>cases a;exact PySem.EqNone.eq_int_none (z0I I q (by simp))
  | int j=>obtain⟨b,rfl⟩:=a;exact eq_int (z0I I q zdU)
  | str j=>obtain⟨b,rfl⟩:=a;exact PySem.EqMixed.eq_int_str (z0I I q (by simp))
  | _=>exact absurd (show false=true from d) vI
 | str i=>
  obtain⟨t,rfl⟩:=e
  cases y with
  | non=>cases a;exact PySem.EqNone.eq_str_none (z0I I q (by simp))
  | bl j=>cases a;exact PySem.EqMixed.eq_str_bool (z0I I q (by simp))
  | int j=>obtain⟨b,rfl⟩:=a;exact PySem.EqMixed.eq_str_int (z0I I q (by simp))
  | str j=>obtain⟨b,rfl⟩:=a;exact eq_str (z0I I q zdT)
  | _=>exact absurd (show false=true from d) vI
 | _=>cases y <;> exact absurd (show false=true from d) vI
def zno:OpR X (compareOp .NotEq) rNe:=by
 intro f s g H x y v u Q I e a h;obtain⟨d,q⟩:=h
 cases x with
 | non=>
  cases e
  cases y with
  | non=>cases a;exact PySem.EqNone.ne_none_none (z0I I q (by simp))
  | bl j=>cases a;exact PySem.EqNone.ne_none_bool (z0I I q (by simp))
  | int j=>obtain⟨b,rfl⟩:=a;exact PySem.EqNone.ne_none_int (z0I I q (by simp))
  | str j=>obtain⟨b,rfl⟩:=a;exact PySem.EqNone.ne_none_str (z0I I q (by simp))
  | _=>exact absurd (show false=true from d) vI
 | bl i=>
  cases e
  cases y with
  | non=>cases a;exact PySem.EqNone.ne_bool_none (z0I I q (by simp))
  | bl j=>cases a;exact ne_bool (z0I I q (congrArg not zh9))
  | str j=>obtain⟨b,rfl⟩:=a;exact PySem.EqMixed.ne_bool_str (z0I I q (by simp))
  | _=>exact absurd (show false=true from d) vI
 | int i=>
  obtain⟨t,rfl⟩:=e
  cases y with
  | non=>cases a;exact PySem.EqNone.ne_int_none (z0I I q (by simp))
  | int j=>obtain⟨b,rfl⟩:=a;exact ne_int (z0I I q (congrArg not zdU))
  | str j=>obtain⟨b,rfl⟩:=a;exact PySem.EqMixed.ne_int_str (z0I I q (by simp))
  | _=>exact absurd (show false=true from d) vI
 | str i=>
  obtain⟨t,rfl⟩:=e
  cases y with
  | non=>cases a;exact PySem.EqNone.ne_str_none (z0I I q (by simp))
  | bl j=>cases a;exact PySem.EqMixed.ne_str_bool (z0I I q (by simp))
  | int j=>obtain⟨b,rfl⟩:=a;exact PySem.EqMixed.ne_str_int (z0I I q (by simp))
  | str j=>obtain⟨b,rfl⟩:=a;exact ne_str (z0I I q (congrArg not zdT))
  | _=>exact absurd (show false=true from d) vI
 | _=>cases y <;> exact absurd (show false=true from d) vI
def znp:OpR X (compareOp .Lt) (rI0 λi j =>.bl (decide (i<j))):=opB0 λ_ _ _ _ _ _ _ q=>lt_int q
def znq:OpR X (compareOp .LtE) (rI0 λi j =>.bl (decide (i<=j))):=opB0 λ_ _ _ _ _ _ _ q=>le_int q
def znr:OpR X (compareOp .Gt) (rI0 λi j =>.bl (decide (j<i))):=opB0 λ_ _ _ _ _ _ _ q=>gt_int q
def zns:OpR X (compareOp .GtE) (rI0 λi j =>.bl (decide (j<=i))):=opB0 λ_ _ _ _ _ _ _ q=>ge_int q
def zlh:OpR X (compareOp .Is) (λx y H Q=>y = .non/\Q (.bl (decide (x = .non))) H):=by
 intro a s e H x y v u Q I b d h;obtain⟨rfl,q⟩:=h
 cases d
 refine is_none_gen (z0I I q ?_)
 cases x <;> first
  | rfl
  | (obtain⟨t,rfl⟩:=b;rfl)
def zin:OpR X (compareOp .IsNot) (λx y H Q=>y = .non/\Q (.bl (!decide (x = .non))) H):=by
 intro a s e H x y v u Q I b d h;obtain⟨rfl,q⟩:=h
 cases d
 refine isnot_none_gen (z0I I q ?_)
 cases x <;> first
  | rfl
  | (obtain⟨t,rfl⟩:=b;rfl)
def zlN (b:Expr){op:CmpOp}(h:autoParam (op ≠ .In) jB1)(e:autoParam (op ≠ .NotIn) jB1):behindInMarks op b=false:=by
 have a:(op == CmpOp.In)=false:=by grind
 have d:(op == CmpOp.NotIn)=false:=by grind
 cases b <;> simp[behindInMarks,a,d]
def zii {op:CmpOp}(l:OpR X (compareOp op) r)(g:PE X a ta)(i:PE X b tb)(j:behindInMarks op b=false):PE X (.Compare a [op] [b] pos) (tOp r ta tb):=by
 intro d s p H Q I h;exact wpAny_Compare1 (binT g i I h λv u o x y e f m n q=>l _ o p e x y v u Q f m n q) j
def zhp (t:TE):TT:=λb H Q=>t b H λx a=>∃k,x = .bl k/\Q k a
def zi7 {op:CmpOp}(t:OpR X (compareOp op) r)(o:PE X a ta)(p:PE X b tb)(q:behindInMarks op b=false):PT X (.Compare a [op] [b] pos) (zhp (tOp r ta tb)):=by
 intro f s d H Q I h;refine wpAny_isTrue_Compare1 (thn (o _ s d H _ I h) λv F ⟨x,g,l,r1,w⟩=>thn (p _ F d g _ l w) λu G ⟨y,i,m,r2,A⟩=>
  thn (t _ G d i x y v u _ m r1 r2 A) λc J ⟨z,j,n,E,k,e,C⟩ =>?_) q
 subst e
 cases E
 exact wpAny_truthy_bool ⟨j,n,C⟩
def z94:sizeLine<2 ^ 63:=by decide
def z4p {x:V}{a:List Value}(r:Vals [x] a):∃u,a=[u]/\RelV x u:=by
 cases r with
 | cons r1 r2=>cases r2;exact⟨_,rfl,r1⟩
def zmE (r:Vals [x,y] us):∃u w',us=[u,w']/\RelV x u/\RelV y w':=by
 cases r with
 | cons r1 r2=>
  cases r2 with
  | cons a b=>cases b;exact⟨_,_,rfl,r1,a⟩
def zg5:z15 X (.builtin "abs") (λxs H Q=>∃i,xs=[.int i]/\Q (.int (if i<0 then -i else i)) H):=by
 intro a s e H xs d Q I r h;obtain⟨i,rfl,q⟩:=h;obtain⟨u,rfl,t,rfl⟩:=z4p r;exact call_abs_int λu b=>⟨.int _,H,I.tok _,⟨_,rfl⟩,q⟩
def ze6 (d:X.calm=true):z15 X (.builtin "min") (λxs H Q=>∃i j,xs=[.int i,.int j]/\Q (.int (if j<i then j else i)) H):=by
 intro b s n H xs l Q I r h;obtain⟨i,j,rfl,q⟩:=h;obtain⟨u,m,rfl,⟨t,rfl⟩,⟨f,rfl⟩⟩:=zmE r;refine min_two_ints (I.ok.hd d) λe g k=>⟨_,H,I.kept k,?_,q⟩
 by_cases a:j<i
 .rw[if_pos a,if_pos a];exact⟨_,rfl⟩
 .rw[if_neg a,if_neg a];exact⟨_,rfl⟩
end
structure Room (k:Nat)(A:Around):Prop where
 hd:A.handled=none
 dp:A.depth+3*k+5<recursionLimit
 un:A.units+16*k+200<cLine
def Room.mono {j k:Nat}{A:Around}(r:Room k A)(h:j<=k):Room j A:=⟨r.hd,by have:=r.dp;lia,by have:=r.un;lia⟩
theorem Room.deeper {k:Nat}(r:Room (k+1) A)(env:Env):Room k (A.deeper env):=
 ⟨r.hd,by have:=r.dp;show A.depth+1+3*k+5<_;lia,by have:=r.un;show A.units+3+16*k+200<_;lia⟩
theorem Room.depth {k:Nat}(r:Room k A):A.depth<recursionLimit:=by have:=r.dp;lia
theorem Room.units {k:Nat}{A:Around}(r:Room k A):A.units+64<cLine:=by have:=r.un;lia
def tNil:TA:=λ_ H Q=>Q [] H
def zjx (e:TE)(tr:TA):TA:=λa H Q=>e a H λx b=>tr a b λf d=>Q (x::f) d
section
variable {X:Cx}{e:Expr}{es:List Expr}{te:TE}{t:TA}{pos:Pos}
def zl4:PA X [] tNil:=λ_ _ _ _ H Q I h=>Calls.spliced_nil ⟨[],H,I,.nil,h⟩
def zil (l:PE X e te)(m:PA X es t)(n:autoParam (sE e es X) jA1):PA X (e::es) (zjx te t):=by
 intro a b s d H Q I h;rw[n];refine Calls.spliced_cons (thn (l _ s d H _ I h) λu q w =>?_);obtain⟨x,f,i,r1,o⟩:=w;exact thn (m a _ q d f _ i o) λz y ⟨r,g,j,r2,p⟩=>⟨x::r,g,j,.cons r1 r2,p⟩
def tTup (t:TA):TE:=λd H Q=>t d H λb a=>b.length<=sizeLine/\∀p,a p=none->Q (.ref p) (upd a p (.tup b))
def tLst (t:TA):TE:=λd H Q=>t d H λb a=>b.length<=sizeLine/\∀p,a p=none->Q (.ref p) (upd a p (.lst b))
def zkT {l}(h:PA X es t):PE X (.Tuple es l pos) (tTup t):=by
 intro d s m H Q I i;refine wpAny_Tuple_spliced (thn (h pos _ s m H _ I i) λj n ⟨o,f,a,r,z,q⟩=>⟨by rw[<- r.length];exact z,?_⟩);have g  := a.hok.fresh (ww _);refine⟨.ref _,upd f _ _,a.laid (λb u e=>wg _ e) (ww _) ?_,rfl,q _ g⟩;exact⟨z,j,r,⟨_,wv _ rfl,rfl,_,rfl⟩,_,wv _ rfl,rfl⟩
def zkX (h:PA X es t):PE X (.List es pos) (tLst t):=by
 intro d s l H Q I i;refine wpAny_List_spliced (thn (h pos _ s l H _ I i) λj m ⟨n,f,a,r,z,q⟩=>⟨by rw[<- r.length];exact z,?_⟩);have g  := a.hok.fresh (ww _);refine⟨.ref _,upd f _ _,a.laid (λb u e=>wg _ e) (ww _) ?_,rfl,q _ g⟩;exact⟨z,j,0,r,wv _ rfl⟩
end
abbrev Sp:=List V->Hp->VK->XK->Prop
abbrev CXT:=List Env->Hp->Shared->XK->Value->Shared->Prop
structure Env0 (P:Program)(w:World)(K:W.Frag)(mg:WmP)(base:Heap)(A:Around)(outer:List Env)(s:Shared)(H:Hp):Prop where
 frames:A.frames=some outer
 mod:Mod K mg base
 bs:∀b o,base.get? b=some o->s.heap.get? b=some o/\H b=none
 bsz:base.objs.size<=s.heap.objs.size
 funs:s.heap.FunFrames base outer
 frf:∀b∈frs outer,H b=none
 tbs:Tbs K H
 hok:HOk P w H s.heap
 bare:AllBare s.gens
def CE (a:List Env)(P:Program)(w:World)(H:Hp)(s:Shared)(Q:VK)(u:Value)(s':Shared):Prop:=
 ∃v b,s'.os=s.os/\AllBare s'.gens/\Un (frs a) [] H b s.heap s'.heap/\HOk P w b s'.heap/\RelV v u/\Q v b
def CR (CX:CXT)(a:List Env)(P:Program)(w:World)(H:Hp)(s:Shared)(Q:VK)(E:XK)(r:Result)(s':Shared):Prop:=
 match r with
 | .ok (.ret u)=>CE a P w H s Q u s'
 | .ok _=>False
 | .error e=>CX a H s E e s'
structure FnOk (P:Program)(w:World)(K:W.Frag)(mg:WmP)(base:Heap)(CX:CXT)(k:Nat)(f:Addr)(fd:FuncData)(ps:List Str)(sp:Sp):Prop where
 len:∀vs H Q E,sp vs H Q E->vs.length=ps.length
 run:∀A outer s H args us vs Q E,Room k A->Env0 P w K mg base A outer s H->BindsTo s fd args (ps.zip us)->Vals vs us->sp vs H Q E->
  codeAny (model P w) A (.call (.ref f) args) (CR CX outer P w H s Q E) s
def FnOk.imp {P:Program}{w:World}{K:W.Frag}{mg:WmP}{a:Heap}{CX:CXT}{k:Nat}{f:Addr}{e:FuncData}{ps:List Str}{sp sp':Sp}(F:FnOk P w K mg a CX k f e ps sp)
  (h:∀vs H Q E,sp' vs H Q E->sp vs H Q E):FnOk P w K mg a CX k f e ps sp':=
 ⟨λvs H Q E q=>F.len vs H Q E (h _ _ _ _ q),λA b s H d n vs Q E j i g m l=>F.run A _ s H _ n vs Q E j i g m (h _ _ _ _ l)⟩
section
variable {X:Cx}{pins:List (Addr × Obj)}{σ:St}{H:Hp}{s s':Shared}
def Inv.env0 (I:Inv X pins σ H s):Env0 X.prog X.w X.K X.mg X.base X.A X.stack s H:=
 ⟨I.ok.frames,I.ok.mod,I.bs,wV I.ok.bsz I.sz,I.stack,I.stkFree,I.tbs,I.hok,I.bare⟩
def Inv.after (I:Inv X pins σ H s)(h:CE X.stack X.prog X.w H s Q u s'):EP X pins σ Q u s':=by
 obtain⟨v,i,j,a,un,e,r,q⟩:=h;obtain⟨l,g,d,t,f⟩:=s';obtain rfl:f=s.os:=j;exact⟨v,i,I.call un e a (λb z=>absurd z (by simp)),r,q⟩
end
def zhq (sp:Sp)(a:List V)(E:XK)(t:TA):TE:=λd H Q=>t d H λvs b=>sp (vs++a) b Q E
def z6S (K:W.Frag)(b:FuncData)(ps:List Str)(ds:List Value):Prop:=
 ∀s a,K.In s.heap->(a++ds).length=ps.length->BindsTo s b ⟨a,[]⟩ (ps.zip (a++ds))
def z6S.all {K:W.Frag}{b:FuncData}{ps:List Str}(h:∀a:List Value,a.length=ps.length->bindArgs b ⟨a,[]⟩=pure (ps.zip a)):z6S K b ps []:=λs a _ d=>by
 rw[vT] at d ⊢;exact .of_eq (h a d)
def z53 (CX:CXT)(X:Cx)(E:XK):Prop:=∀a (d:St) H s e b,Inv X a d H s->CX X.stack H s E e b->X.xe e b
section
variable {X:Cx}{CX:CXT}{k:Nat}{f C:Addr}{fd:FuncData}{ps:List Str}{sp:Sp}{dvs:List V}{ds:List Value}{E:XK}{x m:Str}{p pos apos:Pos}{e o:Expr}{es:List Expr}{ta:TE}{t:TA}
def zgr {vs:List V}(F:FnOk X.prog X.w X.K X.mg X.base CX k f fd ps sp)(j:Room k X.A)(d:z6S X.K fd ps ds)(g:Vals dvs ds)(l:z53 CX X E)
  (I:Inv X pins σ H s) (r:Vals vs us) (h:sp (vs++dvs) H Q E):wpAny (model X.prog X.w) X.A (call (.ref f) us) (EP X pins σ Q) X.xe s:=by
 have r2  := r.append g;have i:(us++ds).length=ps.length:=by rw[<- r2.length];exact F.len _ _ _ _ h
 refine wpAny_call (codeAny_mono (F.run X.A _ s H _ _ _ Q E j I.env0 (d s us I.kIn i) r2 h) λr m a =>?_)
 cases r with
 | error e=>exact l _ σ H s e m I a
 | ok b=>
  cases b with
  | ret u=>exact I.after a
  | next=>exact False.elim a
  | brk=>exact False.elim a
  | cont=>exact False.elim a
def zij (F:FnOk X.prog X.w X.K X.mg X.base CX k f fd ps sp)(y:Room k X.A)(n:Gl X x)(u:X.mg x=some (.ref f))(o:W.keepIn X.K (.ref f)=true)(j:z6S X.K fd ps ds)(l:Vals dvs ds)(z:z53 CX X E)
  (i:PA X (e::es) t) (a:autoParam (dB x) jB1) (m:autoParam (sE e es X) jA1) (b:autoParam (bT pos es X) jA1):
  PE X (.Call (.Name x p) (e::es) [] pos) (zhq sp dvs E t):=by
 intro g s C H Q I h;refine j3 (zds I n u ?_ a);refine W.callWith_K I.ok.mod.kin o (thn (i pos _ s C H _ I h) λL J ⟨vs,G,d,r,q⟩=>⟨d.kIn,?_⟩) m b;exact zgr F y j l z d r q
end
def PK (X:Cx)(b:List Keyword)(t:TA):Prop:=
 ∀d a s (e:St) H Q,Inv X a e H s->t e H Q->wpAny (model X.prog X.w) X.A (evalAll ((backToKw d (keywordEach b X.env)).map (·.2))) (AP X a e Q) X.xe s
structure z5p (N P:List Str)(sc:Scope):Prop where
 kind:sc.kind = .function
 co:sc.isCoroutine=false
 gen:sc.isGenerator=false
 nd:N.Nodup
 pre:N.take P.length=P
 par:∀x∈P,sc.names.lookup x=some .local\/sc.names.lookup x=some .cell
 nofree:∀y∈sc.names,y.2 ≠ .free
theorem z9u {a:Str->Option NameKind}{x:Str}:∀{binds:List (Str × Value)}{m:WmP},(∀v,(x,v) ∉ binds)->bindL a binds m x=m x
 | [],_,_=>rfl
 | (n,v)::r,m,h=>by
  unfold bindL;rw[z9u λw b=>h w (wq _ b)]
  split
  .have:x≠n:=by rintro rfl;exact h v wF
   simp[this]
  .rfl
theorem z9w {a:Str->Option NameKind}{x:Str}:∀{binds:List (Str × Value)}{m:WmP},(∀v,(x,v) ∉ binds)->bindC a binds m x=m x
 | [],_,_=>rfl
 | (n,v)::r,m,h=>by
  unfold bindC;rw[z9w λw b=>h w (wq _ b)]
  split
  .rfl
  grind
theorem z9v {a:Str->Option NameKind}{x:Str}{v:Value}:∀{P:List Str}{vs:List Value}{i:Nat}{m:WmP},P.Nodup->P[i]? = some x->vs[i]? = some v->a x=some .local->
  bindL a (P.zip vs) m x=some v
 | [],_,_,_,_,h,_,_=>by simp at h
 | _::_,[],_,_,_,_,h,_=>by simp at h
 | p::P,w::vs,0,m,f,b,d,e=>by
  simp at b d;subst b;subst d;show bindL _ ((p,w)::P.zip vs) m p=_;unfold bindL;rw[z9u λv g=>(vU.mp f).1 (u7 g).1,if_pos e];simp
 | p::P,w::vs,i+1,m,f,b,d,e=>by
  unfold bindL;exact z9v (vU.mp f).2 (by simpa using b) (by simpa using d) e
theorem z9x {a:Str->Option NameKind}{x:Str}{v:Value}:∀{P:List Str}{vs:List Value}{i:Nat}{m:WmP},P.Nodup->P[i]? = some x->vs[i]? = some v->a x≠some .local->
  bindC a (P.zip vs) m x=some v
 | [],_,_,_,_,h,_,_=>by simp at h
 | _::_,[],_,_,_,_,h,_=>by simp at h
 | p::P,w::vs,0,m,f,b,d,e=>by
  simp at b d;subst b;subst d;show bindC _ ((p,w)::P.zip vs) m p=_;unfold bindC;rw[z9w λv g=>(vU.mp f).1 (u7 g).1,if_neg e];simp
 | p::P,w::vs,i+1,m,f,b,d,e=>by
  unfold bindC;exact z9x (vU.mp f).2 (by simpa using b) (by simpa using d) e
noncomputable def z55 (N:List Str)(vs:List V):St:=vs.map some++List.replicate (N.length - vs.length) none
noncomputable def cxOf (CX:CXT)(P:Program)(w:World)(K:W.Frag)(mg:WmP)(base:Heap)(N:List Str)(b:Str)(a:Scope)(f:Addr)(g:Value)(A:Around)(outer:List Env)(s:Shared)(H:Hp)(E:XK):Cx where
 prog:=P
 w:=w
 K:=K
 mg:=mg
 base:=base
 A:=A.deeper (envOfC b a s.heap.objs.size f g)
 N:=N
 s₀:=s
 H₀:=H
 env:=envOfC b a s.heap.objs.size f g
 outer:=outer
 stack:=envOfC b a s.heap.objs.size f g::outer
 ex:=[]
 calm:=true
 fn:=λ_=>true
 pn:=[]
 xe:=λe i=>wpAny (model P w) (A.deeper (envOfC b a s.heap.objs.size f g)) (leaving (envOfC b a s.heap.objs.size f g) e) (λ_ d=>CX outer H s E e d) (λh d=>CX outer H s E h d) i
def zb9 {sc:Scope}(h:sc.names.lookup x=some .cell):∃c,(cellsFrom n sc.names []).lookup x=some c:=by
 have q:=W.cellsFrom_some _ n [] (.inl h);exact Option.isSome_iff_exists.mp q
def zdA {CX:CXT}{P:Program}{w:World}{K:W.Frag}{mg:WmP}{m:Heap}{N ps:List Str}{j:Str}{d:Scope}{f:Addr}{I:Value}{A:Around}{g:List Env}{s s1:Shared}{H:Hp}{E:XK}{M:List Value}{vs:List V}
  (S:z5p N ps d) (T:A.handled=none) (o:Env0 P w K mg m A g s H) (Z:vs.length=ps.length) (r:Vals vs M)
  (x:InCallC s s.heap.objs.size (bindL (envOfC j d s.heap.objs.size f I).kindOf (ps.zip M) λ_=>none) (cellsFrom (s.heap.objs.size+1) d.names []) (bindC (envOfC j d s.heap.objs.size f I).kindOf (ps.zip M) λ_=>none) s1):
  Inv (cxOf CX P w K mg m N j d f I A g s H E) [] (z55 N vs) H s1:=by
 have U:ps.length<=N.length:=by have:=congrArg List.length S.pre;rw[vi] at this;lia
 obtain⟨J,tk,rfl,O⟩:=x.done;have C:∀b:Addr,b ∉ (cxOf CX P w K mg m N j d f I A g s H E).ex:=λb z=>absurd (show b∈([]) from z) (by simp);refine⟨⟨o.mod,S.kind,rfl,rfl,ww _,λy z c J l =>?_,λy t =>?_,λy c _ h =>?_,λ_=>T,Around.frames_deeper o.frames,.inr ⟨rfl,rfl⟩,λb z=>absurd z (C b),o.bs,o.bsz,λb _ _=>C b,λb z=>absurd z (C b),o.funs,o.frf,o.tbs⟩,
  rfl,o.bare,Un.kept O,⟨_,x.toInCall.ns,λi y v J l Y =>?_⟩,λy c h=>⟨_,x.cell y c h⟩,o.hok.fresh (ww _),λy c h =>?_,λp F=>absurd (show p∈([]) from F) (by simp),o.hok.kept O,?_⟩
 .exact name_of_addr x.apart (jx J) (jx l)
 .have t:d.names.lookup y=some .cell\/d.names.lookup y=some .free:=t
  rcases t with t | t
  .exact zb9 t
  .exact absurd rfl (S.nofree _ (jx t))
 .exact uL (x.above y c (jx h))
 .have L:i<vs.length:=by
   unfold z55 at l
   by_cases L:i<vs.length
   .exact L
   .rw[wX (by simpa using L)] at l;rw[jy] at l
    split at l <;> cases l
  have R:vs[i]? = some v:=by
   unfold z55 at l;rw[wM (by simpa using L),wO] at l
   cases e:vs[i]? with
   | none=>rw[e] at l;cases l
   | some a=>rw[e] at l;cases l;rfl
  obtain⟨u,Q,X⟩:=r.get R;have F:ps[i]? = some y:=by
   rw[<- S.pre,List.getElem?_take_of_lt (by lia)];exact J
  have G:ps.Nodup:=by rw[<- S.pre];exact S.nd.sublist (List.take_sublist _ _)
  refine⟨u,X,?_⟩
  rcases S.par y (wz F) with k | k
  .exact .inl ⟨k,z9v G F Q k⟩
  .obtain⟨c,e⟩:=zb9 (n:=s.heap.objs.size+1) k;refine .inr ⟨.inl k,c,e,?_⟩;have q:=x.cell y c e;rw[z9x G F Q (by show d.names.lookup y≠_;rw[k];decide)] at q;exact q
 .exact o.hok.fresh (uL (x.above y c (jx h)))
 .unfold z55;show _=N.length;rw[wG,we,uM];lia
def znY {P:Program}{K:W.Frag}{mg:WmP}{k:Nat}{name d:Str}{R kV p T g ct oc:Value}
     {N ps:List Str}(lk:K.lookup f=some ⟨oc,od,.func (W.fnOf name d params body scope R kV p T an g ct),osl⟩) (F:W.codeIn K g d=true) (S:z5p N ps scope)
  (len:∀vs H Q E,sp vs H Q E->vs.length=ps.length)
  (j:∀A a s H vs Q E,Room k (A.deeper (envOfC d scope s.heap.objs.size f g))->sp vs H Q E->
   ∃t,PSs (cxOf CX P w K mg base N d scope f g A a s H E) body t/\t { nx:=λ_ i=>Q .non i,rt:=Q } (z55 N vs) H):
  FnOk P w K mg base CX (k+1) f (W.fnOf name d params body scope R kV p T an g ct) ps sp:=by
 refine⟨len,λA a s H O us vs Q E G z Y r C =>?_⟩;have hl:=len _ _ _ _ C;have M  := z.mod.kin.keeps λb o e=>(z.bs b o e).1;have lim  := z.mod.nolimit.keeps λb o e=>(z.bs b o e).1;have l:∀y∈ps.zip us,scope.names.lookup y.1=some .local\/(scope.names.lookup y.1=some .cell/\((cellsFrom (s.heap.objs.size+1) scope.names []).lookup y.1).isSome=true):=by
  rintro⟨n,v⟩ hy
  rcases S.par n (u7 hy).1 with q | q
  .exact .inl q
  .exact .inr ⟨q,W.cellsFrom_some _ _ _ (.inl q)⟩
 refine codeAny_call_function G.depth (M _ _ lk) rfl S.co S.gen rfl (W.codeRec_of M F) (Y _ _ _ _ ?_);refine wpAny_newFunctionEnv_cells S.kind l λU Z s1 x =>?_;subst Z;refine⟨lim.keeps x.toInCall.keep,codeAny_func ?_⟩;obtain⟨t,ht,hq⟩:=j A a s H vs Q E (G.deeper _) C;have I:Inv (cxOf CX P w K mg base N d scope f g A a s H E) [] (z55 N vs) H s1:=zdA S G.hd z hl r x;refine vS (ht [] s1 (z55 N vs) H _ I hq) (λX s' m =>?_) λe s' m=>m;have fin:∀{h:St}{i:Hp}{v:V}{u:Value},Inv (cxOf CX P w K mg base N d scope f g A a s H E) [] h i s'->RelV v u->Q v i->CE a P w H s Q u s':=
  λ{h i v u} J L q=>⟨v,i,J.os,J.bare,J.base,J.hok,L,q⟩
 cases X with
 | ret u=>
  obtain⟨v,h,i,J,L,q⟩:=m;exact fin J L q
 | next=>
  obtain⟨h,i,J,q⟩:=m;exact fin (v:=V.non) J rfl q
 | brk=>
  obtain⟨_,_,_,q⟩:=m;exact False.elim q
 | cont=>
  obtain⟨_,_,_,q⟩:=m;exact False.elim q
section
variable {X:Cx}{x:Str}{p pos:Pos}{e:Expr}{es:List Expr}{t:TA}{id T:String}{r:List V->Hp->VK->Prop}
def tCB (r:List V->Hp->VK->Prop)(t:TA):TE:=λb H Q=>t b H λvs a=>r vs a Q
def zfh (l:z15 X (.builtin id) r)(n:Gl X x)(o:X.mg x=none)(u:bootBuiltins x=some (.builtin id))(j:PA X (e::es) t)(q:autoParam (x≠"__name__") jB1)(a:autoParam (dB x) jB1)
  (m:autoParam (sE e es X) jA1) (b:autoParam (bT pos es X) jA1):PE X (.Call (.Name x p) (e::es) [] pos) (tCB r t):=by
 intro d s f H Q I h;refine j3 (z95 I n o u ?_ q a);exact PyProof.Rows.callWith_builtin1 (thn (j pos _ s f H _ I h) λz y ⟨vs,g,i,r1,w⟩=>l _ y f g vs z Q i r1 w) m b
def zd0 (l:z15 X (.type T) r)(n:Gl X x)(o:X.mg x=none)(u:bootBuiltins x=some (.type T))(j:PA X (e::es) t)(q:autoParam (x≠"__name__") jB1)(a:autoParam (dB x) jB1)
  (m:autoParam (sE e es X) jA1) (b:autoParam (bT pos es X) jA1):PE X (.Call (.Name x p) (e::es) [] pos) (tCB r t):=by
 intro d s f H Q I h;refine j3 (z95 I n o u ?_ q a);exact u6 (thn (j pos _ s f H _ I h) λz y ⟨vs,g,i,r1,w⟩=>l _ y f g vs z Q i r1 w) m b
end
end L2
namespace HT
open PySem PyProof.Rows
def z0P:List Int->List Int->Bool
 | [],[]=>false
 | [],_::_=>true
 | _::_,[]=>false
 | x::a,y::b=>if x=y then z0P a b else decide (x<y)
def z0L (x y:Int)(xs ys:List Int):z0P (x::xs) (y::ys)=if x=y then z0P xs ys else decide (x<y):=rfl
def z7T:z0P [] []=false:=rfl
def zfS (A:Around)(s:Shared)(a:Int)(t:Tok)(c:Int)(u:Tok):∃e,SeqAt.EqAt A s (.int a t) (.int c u) e/\(e=true↔a=c):=
 ⟨(a == c),SeqAt.EqAt.int_int a t c u,by simp⟩
def zeJ (A:Around)(s:Shared)(a:Int)(t:Tok)(c:Int)(u:Tok)(prog:Program)(w:World)(E:WvP)(Q:WvP)(h:Q (.bool (decide (a<c))) s):
  wpAny (model prog w) A (richCompare .Lt (.int a t) (.int c u)) Q E s:=
 (PyProof.Rows.lt_int h)
section
open PySem.SeqAt
open PySem.AutoSeq1 (wpAny_loadPart')
open PySem.MeetsSeq PySem.MeetsSeq2 PySem.MeetsSeq3
def zeK (A:Around)(s:Shared)(a:Int)(t:Tok)(c:Int)(u:Tok)(prog:Program)(w:World)(E:WvP)(Q:WvP)(h:Q (.bool (decide (c<a))) s):
  wpAny (model prog w) A (richCompare .Gt (.int a t) (.int c u)) Q E s:=
 (PyProof.Rows.gt_int h)
def z8h:∃C:String->CmpOp->Builtin,Builtin.«tuple.__lt__»=C "__lt__" .Lt/\Builtin.«tuple.__gt__»=C "__gt__" .Gt/\∀(op:CmpOp) (L:List Int->List Int->Bool),(op = .Lt/\L=z0P)\/(op = .Gt/\L=λn m=>z0P m n)->
  ∀(f:String) (l b:Addr) (z06 i:Array Value) (n n2:Nat) (dd M:Option Addr) (sl U:Array (Option Value)) (ns S:List Int),IntsAre z06.toList ns->IntsAre i.toList S->
  Meets (C f op ⟨[.ref l,.ref b],[]⟩)
   (λ_ R s=>s.heap.get? l=some { cls :=.type "tuple",dict:=dd,data :=.seq z06 n,slots:=sl }/\s.heap.get? b=some { cls :=.type "tuple",dict:=M,data :=.seq i n2,slots:=U }/\
    R (.ok (.ret (.bool (L ns S)))) s):=by
 refine⟨_,rfl,rfl,λop L Y f l b z06 i n n2 dd M sl U ns S hi hj =>.of_wp λr w A R s h =>?_⟩;obtain⟨N,g,d,W,T⟩:=s;obtain⟨hl,hb,h⟩:=h;have f2:=AutoSeq1.sub_tuple_tuple;have z1:z06.size=ns.length:=by rw[<- hi.length];simp
 have z2:i.size=S.length:=by rw[<- hj.length];simp
 wp_walk using j4 hl,j4 hb,jV _ (λG b s'=>b.1=none/\s'=⟨N,g,d,W,T⟩/\(∃(vs X:List Value) (o j:List Int),G=vs.zip X/\
   IntsAre vs o/\IntsAre X j/\o.length+i.size=j.length+z06.size/\R (.ok (.ret (.bool (L o j)))) ⟨N,g,d,W,T⟩)) _
 case turn=>
  rintro⟨y,x⟩ G b s' ⟨H,rfl,vs,X,o,j,F,J,K,p,z⟩
  cases J with
  | nil=>rw[List.zip_nil_left] at F;cases F
  | cons a t O=>
   cases K with
   | nil=>rw[List.zip_nil_right] at F;cases F
   | cons c u Q=>
    rw[jd] at F
    injection F with a1 I
    injection a1 with hy hx
    subst hy hx;obtain⟨e,he,E⟩:=zfS A.in1 ⟨N,g,d,W,T⟩ a t c u;simp only[vg] at p;refine wc (he r w _ _ ?_)
    cases e with
    | true=>
     cases E.mp rfl
     wp_walk
     refine⟨rfl,rfl,_,_,_,_,I,O,Q,by lia,?_⟩
     rcases Y with ⟨_,k⟩ | ⟨_,k⟩ <;> (simp only[k,z0L,jI] at z ⊢;exact z)
    | false=>
     have ne:a≠c:=λq=>by simp[q] at E
     have Z := @zeJ A.in1 ⟨N,g,d,W,T⟩ a t c u r w;have a0 := @zeK A.in1 ⟨N,g,d,W,T⟩ a t c u r w
     rcases Y with ⟨rfl,rfl⟩ | ⟨rfl,rfl⟩
     .simp only[z0L,if_neg ne] at z
      wp_walk using Z
      exact⟨_,rfl,by simpa using z⟩
     .simp only[z0L,if_neg ne.symm] at z
      wp_walk using a0
      exact⟨_,rfl,by simpa using z⟩
 case fin=>
  rintro⟨b1,b2⟩ s' ⟨H,rfl,vs,X,o,j,F,J,K,p,z⟩;simp only at H;subst H;have hv:Builtin.Tuple.tupleCompareSizes op z06.size i.size = .bool (L o j):=by
   rcases Y with ⟨rfl,rfl⟩ | ⟨rfl,rfl⟩ <;> cases J <;> cases K <;> first | cases F;done | (simp only[z0P,jn,vg] at p ⊢;simp[Builtin.Tuple.tupleCompareSizes];lia)
  rw[<- hv] at z
  wp_walk
  exact⟨_,rfl,z⟩
 case h=>
  exact⟨rfl,rfl,z06.toList,i.toList,ns,S,rfl,hi,hj,by lia,h⟩
end
section
variable {prog:Program}{w:World}{A:Around}{E:WvP}{s:Shared}
def zbK {z06 a:Array Value}(J:IsTup s.heap l z06)(y:IsTup s.heap b a)(H:IntsAre z06.toList ns)(I:IntsAre a.toList ms)
  (K:A.units<cLine) (h:Q (.bool (z0P ns ms)) s):wpAny (model prog w) A (compareOp .Lt (.ref l) (.ref b)) Q E s:=by
 obtain⟨⟨t,u,p,sl⟩,r,z,n,G⟩:=id J;obtain⟨⟨o,g,f,m⟩,d,i,L,j⟩:=id y;subst z G i j;obtain⟨C,e,_,q⟩:=z8h;exact richCompare_meets_room (op :=.Lt) ⟨_,r,rfl⟩ ⟨_,d,rfl⟩ PySem.F.slot_tuple_lt PySem.F.entry_tuple_lt (PySem.F.args_tuple_lt_2 _ _) (e ▸ q _ _ (.inl ⟨rfl,rfl⟩) _ l b _ _ n L u g sl m ns ms H I)
  ⟨r,d,⟨(λx=>nomatch x),h⟩⟩ K
def zj5 {t b:Addr}{vs ws:List Value}(C:IsTup s.heap t vs.toArray)(x:IsTup s.heap b ws.toArray)(p:vs≠[])
  (r:ws=[]->Q (.ref t) s) (u:ws≠[]->Q (.ref s.heap.objs.size) { s with heap:=s.heap.push { cls :=.type "tuple",data :=.seq (vs++ws).toArray } })
  (hsz:vs.length+ws.length<=sizeLine):wpAny (model prog w) A (binaryOp .Add (.ref t) (.ref b)) Q E s:=by
 obtain⟨⟨cls,o,data,sl⟩,g,y,n,z⟩:=id C;obtain⟨⟨m,d,i,f⟩,a,j,q,l⟩:=id x;subst y z j l;have e:vs.toArray++ws.toArray=(vs++ws).toArray:=by simp
 by_cases h:ws=[]
 .exact concat_meets ⟨_,g,rfl⟩ ⟨_,a,rfl⟩ noFill_tuple_add seq_tuple_add PySem.F.slot_tuple_add PySem.F.entry_tuple_add (PySem.F.args_tuple_add_2 _ _)
   (tuple_addW1 t b _ _ n q o d sl f (by simpa using p) (by simp[h])) ⟨g,a,r h⟩
 .refine concat_meets ⟨_,g,rfl⟩ ⟨_,a,rfl⟩ noFill_tuple_add seq_tuple_add PySem.F.slot_tuple_add PySem.F.entry_tuple_add (PySem.F.args_tuple_add_2 _ _)
   (tuple_addW2 t b _ _ n q o d sl f (by simpa using p) (by simpa using h) (by omega)) ⟨g,a,?_⟩
  rw[e];exact u h
noncomputable def sIx (n d:Nat):Option Int->Nat
 | none=>d
 | some v=>if v<0 then (v+n).toNat else min v.toNat n
def zjS (n d:Nat)(b:d<=n)(o:Option Int):sIx n d o<=n:=by
 cases o with
 | none=>exact b
 | some v=>
  show (if v<0 then (v+n).toNat else min _ n)<=n
  by_cases a:v<0
  .rw[if_pos a];lia
  .rw[if_neg a];exact Nat.min_le_right _ _
def ze1 (v:Int)(n d:Nat):(if v<0 then max (v+n) 0 else min v n)=((sIx n d (some v):Nat)):=by
 show (if v<0 then max _ 0 else min v _)=(((if v<0 then (v+n).toNat else min _ n):Nat))
 grind
def zbZ (b a:Option Int)(n:Nat):Builtin.Slice.sliceAdjust b a 1 n=(((sIx n 0 b):Int),((sIx n n a):Int)):=by
 have d:¬ ((1:Int)<0):=by lia
 unfold Builtin.Slice.sliceAdjust;refine ua ?_ ?_
 .cases b with
  | none=>rfl
  | some v=>exact ze1 v n 0
 .cases a with
  | none=>rfl
  | some v=>exact ze1 v n n
def zbv (i j:Nat):Builtin.Slice.slicePlaces i j 1=j - i:=by
 unfold Builtin.Slice.slicePlaces;have a:(1) > 0:=by lia
 simp[a,jI,Int.ediv_one]
 split <;> lia
def z6V {v:Value}(p:IsPart v o)(h:Q o s):wpAny (model prog w) A (Builtin.Slice.slicePartIndex v) Q E s:=by
 cases p with
 | none=>exact slicePart_none h
 | int i t=>exact slicePart_int h
def z5C {sl:Addr}{a e:Option Int}{n:Nat}(g:s.heap.IsSliceOf sl vl vu .none)(pl:IsPart vl a)(i:IsPart vu e)
  (h:Q (((sIx n 0 a):Int),1,sIx n n e - sIx n 0 a) s):wpAny (model prog w) A (Builtin.Slice.sliceApplied (.ref sl) (pure n)) Q E s:=by
 obtain⟨j,d,f,b⟩:=id g;refine wc (wc (vV d b (x:=vl) rfl (wc (vV d b (x:=vu) rfl (wc (vV d b rfl (wp ?_)))))));refine wc (slicePart_none ?_);refine wc (z6V pl (wc (z6V i (wc (wp ?_)))));show wpAny _ _ (match Builtin.Slice.sliceAdjust a e 1 n with | (a,e)=>pure (a,(1:Int),Builtin.Slice.slicePlaces a e 1)) _ _ s;rw[zbZ a e n];show wpAny _ _ (pure _) _ _ s;rw[zbv];exact wp h
def zfa (xs:Array Value)(i k:Nat):((List.range k).filterMap λ(m:Nat)=>xs[(i+(m:Int)*1).toNat]?).toArray=((xs.toList.drop i).take k).toArray:=by
 have e:(λ(m:Nat)=>xs[((i:Int)+m*1).toNat]?)=λm=>xs[i+m]? := by
  funext m
  have:(i+(m:Int)*1).toNat=i+m:=by lia
  rw[this]
 rw[e];have:=pick_run xs i k;rw[List.filterMap_map] at this;have a:((λx=>xs[x]?) ∘ λx=>i+x)=λm=>xs[i+m]? := rfl
 simp_all
end
end HT
namespace L2
open PySem PySem.Spec PyProof.Rows
abbrev TO:=St->Hp->(Option Int->Hp->Prop)->Prop
def PO (X:Cx)(e:Option Expr)(t:TO):Prop:=
 ∀a s (b:St) H Q,Inv X a b H s->t b H Q->
  wpAny (model X.prog X.w) X.A (evalPart e X.env) (λu f=>∃o d,Inv X a b d f/\IsPart u o/\Q o d) X.xe s
def zcf:TO:=λ_ H Q=>Q none H
def zjs (t:TE):TO:=λb H Q=>t b H λx a=>∃i,x = .int i/\Q (some i) a
def z46:∀{a:List Value},Vals (ns.map V.int) a->IntsAre a ns:=by
 induction ns with
 | nil=>intro a r;cases r;exact .nil
 | cons n ns b=>
  intro a r
  cases r with
  | cons r1 r2=>
   obtain⟨t,e⟩:=r1;subst e;exact .cons n t (b r2)
section
variable {X:Cx}{e:Expr}{te:TE}{lo hi:Option Expr}{tl th:TO}{pos p2:Pos}
def zif:PO X none zcf:=by
 intro a s b H Q I h;exact wp ⟨none,H,I,.none,h⟩
def zie (h:PE X e te):PO X (some e) (zjs te):=by
 intro a s l H Q I f;refine thn (h _ s l H _ I f) λu m j =>?_;obtain⟨x,b,d,r1,g⟩:=j;obtain⟨i,rfl,q⟩:=g;obtain⟨t,rfl⟩:=r1;exact⟨some i,b,d,.int i t,q⟩
def SlR (X:Cx)(r:V->Option Int->Option Int->Hp->VK->Prop):Prop:=
 ∀a s (g:St) H x v e f d b sl Q,Inv X a g H s->RelV x v->s.heap.IsSliceOf sl e f .none->IsPart e d->IsPart f b->r x d b H Q->
  ∃T h,typeLookup (.type T) "__getitem__"=pure (some (.builtin h))/\s.TypeIs v T/\wpAny (model X.prog X.w) X.A (getItem v (.ref sl)) (EP X a g Q) X.xe s
def SlR.or (h:SlR X r)(m:SlR X r'):SlR X (λx b a H Q=>r x b a H Q\/r' x b a H Q):=by
 intro e s l H x v i j b a sl Q I g d pl f q
 rcases q with q | q
 .exact h _ s l H x v i j b a sl Q I g d pl f q
 .exact m _ s l H x v i j b a sl Q I g d pl f q
def tSl (r:V->Option Int->Option Int->Hp->VK->Prop)(f:TE)(tl g:TO):TE:=λa H Q=>f a H λx b=>tl a b λl d=>g a d λu e=>r x l u e Q
def zfc (F:SlR X r)(A:PE X e te)(E:PO X lo tl)(J:PO X hi th):PE X (.Subscript e (.Slice lo hi none p2) pos) (tSl r te tl th):=by
 intro g s a H Q I h;refine Subscript_ (thn (A _ s a H _ I h) λv O d =>?_);obtain⟨x,n,p,r1,L⟩:=d;refine wpAny_Slice (thn (E _ O a n _ p L) λj R ⟨l,o,t,pl,M⟩=>thn (J _ R a o _ t M) λm i d =>?_);obtain⟨u,f,w,K,N⟩:=d;refine wp ?_;have y:Inv X _ a f { i with heap:=i.heap.push { cls :=.type "slice",data :=.fields #[j,m,.none] } }:=w.kept λb U q=>wg _ q;obtain⟨T,S,z,G,C⟩:=F _ _ a f x v j m l u _ Q y r1 (Heap.IsSliceOf.new ..) pl K N;exact tail_any G z C (by rfl)
def cutV (xs:List V)(a b:Option Int):List V:=(xs.drop (HT.sIx xs.length 0 a)).take (HT.sIx xs.length xs.length b - HT.sIx xs.length 0 a)
def z6v (xs:List V)(b a:Option Int):(cutV xs b a).length<=xs.length:=by
 unfold cutV;rw[vi,jD];lia
def rLtT (K:W.Frag):R2:=λx y H Q=>∃a b e d,x = .ref a/\y = .ref b/\SqT K H a (e.map V.int)/\SqT K H b (d.map V.int)/\Q (.bl (HT.z0P e d)) H
def zlg (i:X.A.units<cLine):OpR X (compareOp .Lt) (rLtT X.K):=by
 intro e s z H x y v u Q I p r h;obtain⟨a,b,w,t,rfl,rfl,f,g,q⟩:=h
 cases p
 cases r
 obtain⟨m,r1,n,_⟩:=I.tuple f;obtain⟨d,r2,o,_⟩:=I.tuple g;have j  := z46 r1;have l  := z46 r2;exact HT.zbK n o j l i ⟨.bl _,H,I,rfl,q⟩
def zmX (K:W.Frag):R2:=λx y H Q=>∃a b e d,x = .ref a/\y = .ref b/\SqT K H a e/\SqT K H b d/\e≠[]/\e.length+d.length<=sizeLine/\
 (d=[]->Q (.ref a) H)/\(d≠[]->∀p,H p=none->Q (.ref p) (upd H p (.tup (e++d))))
def Vals.nil_iff (r:Vals xs us):us=[]↔xs=[]:=by
 cases r with
 | nil=>simp
 | cons _ _=>simp
def zir:OpR X (binaryOp .Add) (zmX X.K):=by
 intro e s F H x y v u Q I r t h;obtain⟨a,b,C,E,rfl,rfl,f,g,i,j,o,p⟩:=h
 cases r
 cases t
 obtain⟨l,r1,m,_⟩:=I.tuple f;obtain⟨d,r2,n,_⟩:=I.tuple g;refine HT.zj5 m n (λz=>i (r1.nil_iff.mp z)) (λz=>⟨.ref a,H,I,rfl,o (r2.nil_iff.mp z)⟩) (λz =>?_) (by rw[<- r1.length, <- r2.length];exact j);refine⟨.ref _,_,I.laid (λb A q=>wg _ q) (ww _) ?_,rfl,p (λw=>z (r2.nil_iff.mpr w)) _ (I.hok.fresh (ww _))⟩;exact⟨by simp_all,_,r1.append r2,IsTup.new _ _,_,wv _ rfl,rfl⟩
end
noncomputable def ixN (n:Nat)(i:Int):Option Nat:=if 0<=i then (if i<n then some i.toNat else none) else if -n<=i then some (i+n).toNat else none
def atI {α:Type}(xs:List α)(i:Int):Option α:=(ixN xs.length i).bind λj=>xs[j]?
def zdy (h:ixN n i=some j):seqIndex? i n=some j/\j<n /\ -n<=i/\i<n:=by
 unfold ixN at h
 by_cases b:0<=i
 .rw[if_pos b] at h
  by_cases a:i<n
  .rw[if_pos a] at h;have e  := w6 h;exact⟨by rw[seqIndex_of b a,e],by lia,by lia,a⟩
  simp_all
 .rw[if_neg b] at h
  by_cases a : -n<=i
  .rw[if_pos a] at h;have e  := w6 h;exact⟨by rw[seqIndex_neg (by lia) a,e],by lia,a,by lia⟩
  simp_all
def zeb {a:Type}{xs:List a}{i:Int}{v:a}(h:atI xs i=some v):∃j,seqIndex? i xs.length=some j/\xs[j]? = some v/\j<xs.length /\ -xs.length<=i/\i<xs.length:=by
 unfold atI at h
 cases e:ixN xs.length i with
 | none=>simp_all
 | some j=>
  rw[e] at h;obtain⟨b,d,f,g⟩:=zdy e;exact⟨j,b,h,d,f,g⟩
def zj9 {a:Type}{xs:List a}{j:Nat}{v:a}(h:xs[j]? = some v):atI xs j=some v:=by
 have b  := (wu.mp h).1;have e:ixN xs.length j=some j:=by
  unfold ixN
  simp_all
 unfold atI;rw[e];exact h
def zap (b:Expr):Prop:=∀o i,subscripted b false o i=operate [o,i] (getItem o i)
def IxR (X:Cx)(r:R2):Prop:=
 ∀d a b s (e:St) H x y v u Q,Inv X b e H s->RelV x v->RelV y u->r x y H Q->
  subscripted a false v u=operate [v,u] (getItem v u)->wpAny (model X.prog X.w) X.A (subscriptTail d a v u) (EP X b e Q) X.xe s
def MtR (X:Cx)(id:String)(r:V->List V->Hp->VK->Prop):Prop:=
 ∀a s (e:St) H x d v b Q,Inv X a e H s->RelV x v->Vals d b->r x d H Q->
  wpAny (model X.prog X.w) X.A (call (.builtin id) (v::b)) (EP X a e Q) X.xe s
section
variable {X:Cx}{a b:Expr}{ta tb:TE}{pos:Pos}
def IxR.or (h:IxR X r)(j:IxR X r'):IxR X (λx y H Q=>r x y H Q\/r' x y H Q):=by
 intro b a e s i H x y v u Q I f g q d
 rcases q with q | q
 .exact h _ _ _ s i H x y v u Q I f g q d
 .exact j _ _ _ s i H x y v u Q I f g q d
def znk (j:IxR X r)(g:PE X a ta)(i:PE X b tb)(l:zap b):PE X (.Subscript a b pos) (tOp r ta tb):=by
 intro d s p H Q I h;exact Subscript_ (binT g i I h λv u o x y e f m n q=>j a b _ o p e x y v u Q f m n q (l _ _))
def rIxL (K:W.Frag):R2:=λx y H Q=>∃p a i v,x = .ref p/\y = .int i/\SqL K H p a/\atI a i=some v/\Q v H
def rIxT (K:W.Frag):R2:=λx y H Q=>∃p a i v,x = .ref p/\y = .int i/\SqT K H p a/\atI a i=some v/\Q v H
def ziN:IxR X (rIxL X.K):=by
 intro l g a s M H x y v u Q I J L h o;obtain⟨p,T,i,z,rfl,rfl,G,F,q⟩:=h
 cases J
 obtain⟨t,rfl⟩:=L;obtain⟨e,r,pl,S⟩:=I.list G;obtain⟨j,b,A,N,C,E⟩:=zeb F;obtain⟨w,m,f⟩:=r.get A;have O:=r.length;have R:=z94;have fin:EP X a M Q w s:=⟨z,H,I,f,q⟩
 by_cases n:0<=i
 .have d:i.toNat=j:=by
   rw[seqIndex_of n E] at b;exact w6 b
  exact item_listR pl.isList n (by lia) (by rw[d];simpa using m) fin o
 .have d:(i+e.toArray.size).toNat=j:=by
   rw[seqIndex_neg (by lia) C] at b
   simp_all
  exact subscriptTail_builtinR (x:=w) pl.isList.typeIs slot_list_getitem.lookup
   (wpAny_getItem_list_neg pl.isList (by lia) (by simp_all) (by lia) (by rw[d];simpa using m) ⟨rfl,fin⟩) o
def zm6:IxR X (rIxT X.K):=by
 intro d b e s E H x y v u Q I A C h n;obtain⟨p,R,i,z,rfl,rfl,m,l,q⟩:=h
 cases A
 obtain⟨t,rfl⟩:=C;obtain⟨o,r,pl,O⟩:=I.tuple m;obtain⟨j,F,g,G,J,L⟩:=zeb l;obtain⟨w,f,a⟩:=r.get g;have M:=r.length;have N:=z94;have fin:EP X _ E Q w s:=⟨z,H,I,a,q⟩
 exact subscriptTail_builtinR pl.typeIs slot_tuple_getitem.lookup
  (getItem_tuple (j:=j) pl (by lia) (by lia) (by simp_all) (by simpa using f) ⟨rfl,fin⟩) n
def zbI (a:List Value)(n j:Nat)(u:Value):Obj.mapSeq (·.setIfInBounds j u) { cls :=.type "list",data :=.seq a.toArray n }={ cls :=.type "list",data :=.seq (a.set j u).toArray n }:=by
 simp[Obj.mapSeq]
theorem Inv.lst {b:List (Addr × Obj)}{d:St}{H:Hp}{s:Shared}{p:Addr}{xs:List V}(I:Inv X b d H s)(h:H p=some (.lst xs)):
  ∃(a:List Value) (n:Nat),Vals xs a/\s.heap.get? p=some { cls :=.type "list",data :=.seq a.toArray n }/\xs.length<=sizeLine:=by
 obtain⟨z,a,n,r,e⟩:=I.hok p _ h;exact⟨a,n,r,e,z⟩
def Inv.lstUpd {s:Shared}{xs ys:List V}{d a:List Value}{n g:Nat}{f:Obj->Obj}(I:Inv X pins σ H s)(h:H p=some (.lst xs))
  (l:s.heap.get? p=some { cls :=.type "list",data :=.seq d.toArray n }) (i:f { cls :=.type "list",data :=.seq d.toArray n }={ cls :=.type "list",data :=.seq a.toArray g }) (r:Vals ys a) (m:ys.length<=sizeLine) (t:Nat):
  Inv X pins σ (upd H p (.lst ys)) { s with heap:=s.heap.update p f,toks:=t }:=by
 have e:(s.heap.update p f).get? p=some { cls :=.type "list",data :=.seq a.toArray g }:=by
  rw[vJ f l (by rw[i] <;> rfl),i]
 refine I.write (by rw[h];trivial) (λb u j q=>(vC _ _ (vN j)).trans q) ⟨_,e⟩ ?_;exact⟨m,a,g,r,e⟩
def zmV:V->V->V->Hp->(Hp->Prop)->Prop:=λo i v H Q=>∃p a k j,o = .ref p/\i = .int k/\H p=some (.lst a)/\ixN a.length k=some j/\Q (upd H p (.lst (a.set j v)))
def zes:PSet X zmV:=by
 intro m s N H o i v L K u Q I A z C h;obtain⟨p,M,k,j,rfl,rfl,l,y,q⟩:=h
 cases A
 obtain⟨t,rfl⟩:=z;obtain⟨a,n,r,d,J⟩:=I.lst l;obtain⟨g,E,w,x⟩:=zdy y;have F:=r.length;have G:=z94;have e  :=
  I.lstUpd l d (zbI a n j u) (r.set C j) (by simp_all) s.toks
 by_cases f:0<=k
 .have b:k.toNat=j:=by
   rw[seqIndex_of f x] at g
   simp_all
  exact W.ki_setAt d f (by lia) (by simp_all) (by rw[b];exact⟨_,e,q⟩)
 .have b:(k+a.toArray.size).toNat=j:=by
   rw[seqIndex_neg (by lia) w] at g
   simp_all
  exact W.ki_setBack d (by lia) (by simp_all) (by lia) (by rw[b];exact⟨_,e,q⟩)
def z8p (b a:Option Int)(n:Nat):(sliceBounds b a none n).1=((HT.sIx n 0 b:Nat))/\(sliceBounds b a none n).2.1=((HT.sIx n n a:Nat))/\(sliceBounds b a none n).2.2=1:=by
 refine⟨?_,?_,rfl⟩
 .cases b with
  | none=>rfl
  | some i=>
   simp[sliceBounds,HT.sIx,Option.getD_none,show (1) > 0 by decide,jI]
   by_cases h:i<0
   .simp only[h,jI] <;> lia
   .simp only[h,jz] <;> lia
 .cases a with
  | none=>rfl
  | some i=>
   simp[sliceBounds,HT.sIx,Option.getD_none,show (1) > 0 by decide,jI]
   by_cases h:i<0
   .simp only[h,jI] <;> lia
   .simp only[h,jz] <;> lia
def z7q (a:List Value)(b d:Option Int):slicePick a.toArray b d none=((a.drop (HT.sIx a.length 0 b)).take (HT.sIx a.length a.length d - HT.sIx a.length 0 b)).toArray:=by
 obtain⟨e,f,g⟩:=z8p b d _;unfold slicePick;rw[e,f,g];simp only[sliceRange_one,pick_run,v6] <;> rfl
def rSlL (K:W.Frag):V->Option Int->Option Int->Hp->VK->Prop:=λx e d H Q=>∃a b,x = .ref a/\SqL K H a b/\∀p,H p=none->Q (.ref p) (upd H p (.lst (cutV b e d)))
def zhs:SlR X (rSlL X.K):=by
 intro f s z H x v w y n g sl Q I p i pl o h;obtain⟨a,t,rfl,j,q⟩:=h
 cases p
 obtain⟨m,r,e,l⟩:=I.list j;have d:=r.length;refine⟨"list",_,slot_list_getitem.lookup,e.isList.typeIs,?_⟩;refine wpAny_getItem_list_slice e.isList i pl o .none (by simp) ?_ (by simp_all);rw[z7q, <- d];refine⟨.ref _,_,I.laid (λb u q=>wg _ q) (ww _) ?_,rfl,q _ (I.hok.fresh (ww _))⟩;exact⟨wV (z6v t n g) l,_,0,(r.drop _).take _,wv _ rfl⟩
def z9t:z15 X (.builtin "len") (λxs H Q=>∃p ys,xs=[.ref p]/\(SqL X.K H p ys\/SqT X.K H p ys)/\Q (.int ys.length) H):=by
 intro f s m H xs l Q I r h;obtain⟨p,ys,rfl,b,q⟩:=h;obtain⟨u,rfl,i⟩:=z4p r
 cases i
 have j:=z94
 rcases b with b | b
 .obtain⟨d,e,pl,g⟩:=I.list b;have a:=e.length;exact Calls.call_len_list pl.isList (by simp only[v6] <;> lia) ⟨.int _,H,I.tok _,⟨s.toks+1,by rw[v6,a]⟩,q⟩
 .obtain⟨d,e,pl,g⟩:=I.tuple b;have a:=e.length;exact len_tuple pl (by simp only[v6] <;> lia) ⟨.int _,H,I.tok _,⟨s.toks+1,by rw[v6,a]⟩,q⟩
def z15.or (h:z15 X f r)(g:z15 X f r'):z15 X f (λxs H Q=>r xs H Q\/r' xs H Q):=by
 intro a s e H xs d Q I b q
 rcases q with q | q
 .exact h _ s e H xs d Q I b q
 .exact g _ s e H xs d Q I b q
def z8a:z15 X (.type "tuple") (λxs H Q=>∃p ys,xs=[.ref p]/\((SqL X.K H p ys/\∀l,H l=none->Q (.ref l) (upd H l (.tup ys)))\/(SqT X.K H p ys/\Q (.ref p) H))):=by
 intro m s A H xs z Q I r h;obtain⟨p,ys,rfl,h⟩:=h;obtain⟨u,rfl,x⟩:=z4p r
 cases x
 rcases h with ⟨d,q⟩ | ⟨d,q⟩
 .obtain⟨a,f,pl,j⟩:=I.list d;have i:=f.length;refine call_tuple_list pl.isList (λy t =>?_) (by grind);have g  := I.kept (t':=s.toks) t;have n  :=
   g.laid (t':=s.toks) (λb o e=>wg _ e) (ww _) (show z2m _ X.w _ _ _ (.tup ys) from ⟨j,a,f,IsTup.new _ _,_,wv _ rfl,rfl⟩)
  exact⟨.ref _,_,n,rfl,q _ (g.hok.fresh (ww _))⟩
 .obtain⟨a,f,pl,j⟩:=I.tuple d;exact call_tuple_same pl ⟨.ref p,H,I,rfl,q⟩
def tyV (K:W.Frag)(T:String)(x:V)(H:Hp):Prop:=T="list"/\∃p a,x = .ref p/\SqL K H p a
def zgd {v:Value}(I:Inv X pins σ H s)(r:RelV x v)(h:tyV X.K T x H):
  s.TypeIs v T/\∀a,v = .ref a->∃b,s.heap.get? a=some b/\b.dict=none:=by
 obtain⟨rfl,p,i,rfl,f⟩:=h
 cases r
 obtain⟨g,_,pl,_⟩:=I.list f;refine⟨pl.isList.typeIs,λa e =>?_⟩
 cases e
 obtain⟨o,n,e,c,d,_⟩:=pl;exact⟨o,e,d⟩
def tBM0 (K:W.Frag)(T:String)(r:V->List V->Hp->VK->Prop)(b:TE):TE:=λd H Q=>b d H λx a=>tyV K T x a/\r x [] a Q
def tBM (K:W.Frag)(T:String)(r:V->List V->Hp->VK->Prop)(e:TE)(t:TA):TE:=λb H Q=>e b H λx a=>tyV K T x a/\t b a λf d=>r x f d Q
variable {o e:Expr}{es:List Expr}{to:TE}{t:TA}{name:Str}{apos cpos:Pos}{T id:String}{r:V->List V->Hp->VK->Prop}
def zl0 (q:PlainAttrs T)(d:Slot T name id)(e:typeOf (.builtin id)=pure (.type "method_descriptor"))(n:MtR X id r)(p:PE X o to)
  (a:autoParam (aB o name X) jA1) (b:autoParam (aL apos cpos) jA1):PE X (.Call (.Attribute o name apos) [] [] cpos) (tBM0 X.K T r to):=by
 intro g s i H Q I h;refine wpAny_Call_method0_late a b (thn (p _ s i H _ I h) λv u y =>?_);obtain⟨x,j,f,r1,w,t⟩:=y;obtain⟨l,m⟩:=zgd f r1 w;exact⟨T,id,q,d,e,l,m,u9 rfl (PySem.evalArgs_none (n _ u i j x [] v [] Q f r1 .nil t))⟩
def znm (F:PlainAttrs T)(g:Slot T name id)(i:typeOf (.builtin id)=pure (.type "method_descriptor"))(A:MtR X id r)(C:PE X o to)(z:PA X (e::es) t)
  (b:autoParam (aB o name X) jA1)
  (f:autoParam (aG cpos (e::es) X) jA1)
  (d:autoParam (aL apos cpos) jA1) (E:autoParam (sE e es X) jA1) (a:autoParam (bT cpos es X) jA1):
  PE X (.Call (.Attribute o name apos) (e::es) [] cpos) (tBM X.K T r to t):=by
 intro n s j H Q I h;refine wpAny_Call_method_late b f d rfl (thn (C _ s j H _ I h) λv L R =>?_);obtain⟨x,p,l,r1,N,G⟩:=R;obtain⟨w,y⟩:=zgd l r1 N;refine⟨T,id,F,g,i,w,y,?_⟩;have m:=z cpos _ L j p _ l G;rw[E] at m ⊢;refine u9 (by show (false || (backTo _ _).any _)=false;rw[a] <;> rfl) (Calls.evalArgs_plain ?_);exact thn m λO M ⟨vs,q,u,r2,J⟩=>A _ M j q x vs v O Q u r1 r2 J
end
def MtM (X:Cx)(id:String)(r:V->List V->Hp->VK->Prop):Prop:=
 ∀a s (e:St) H x d v b Q,Inv X a e H s->RelV x v->Vals d b->r x d H Q->
  wpAny (model X.prog X.w) X.A (call (.builtin id) (v::b)) (EP X a e Q) X.xe s
def Vals.one:∀{x:V}{a:List Value},Vals [x] a->∃u,a=[u]/\RelV x u
 | _,_,.cons r .nil=>⟨_,rfl,r⟩
def Vals.zero:∀{a:List Value},Vals [] a->a=[]
 | _,.nil=>rfl
theorem Vals.dropLast {xs:List V}{a:List Value}(h:Vals xs a):Vals xs.dropLast a.dropLast:=by
 induction h with
 | nil=>exact .nil
 | cons r t b=>
  cases t with
  | nil=>exact .nil
  | cons q d=>exact .cons r b
theorem Vals.reverse {xs:List V}{a:List Value}(h:Vals xs a):Vals xs.reverse a.reverse:=by
 induction h with
 | nil=>exact .nil
 | cons r t b=>rw[uF,uF];exact Vals.append b (.cons r .nil)
section
variable {X:Cx}{pins:List (Addr × Obj)}{σ:St}{H:Hp}{s:Shared}{l b:Addr}{xs ys zs:List V}
def Inv.lset {b a:List Value}{n:Nat}{f:Array Value->Array Value}{t':Nat}(I:Inv X pins σ H s)(d:H l=some (.lst xs))
  (e:s.heap.get? l=some { cls :=.type "list",data :=.seq b.toArray n }) (h:f b.toArray=a.toArray) (j:Vals ys a) (m:ys.length<=sizeLine):
  Inv X pins σ (upd H l (.lst ys)) { s with heap:=s.heap.update l (Obj.mapSeq f),toks:=t' }:=by
 have q:=PySem.IsL.update e f;rw[h] at q;refine I.write (by rw[d];exact trivial) (λo u g i=>(vC _ _ (vN g)).trans i) ⟨_,q⟩ ?_;exact⟨m,a,_,j,q⟩
def Inv.lnew (I:Inv X pins σ H s)(a:Vals ys its)(b:ys.length<=sizeLine):
  Inv X pins σ (upd H s.heap.objs.size (.lst ys)) { s with heap:=s.heap.push { cls :=.type "list",data :=.seq its.toArray },toks:=t' }:=
 I.laid (λ_ _ q=>wg _ q) (ww _) ⟨b,its,0,a,wv _ rfl⟩
theorem Inv.fresh (I:Inv X pins σ H s):H s.heap.objs.size=none:=I.hok.fresh (ww _)
def Inv.lstM (I:Inv X pins σ H s)(b:H l=some (.lst xs)):xs.length<=sizeLine/\∃(a:List Value) (n:Nat),Vals xs a/\xs.length=a.length/\s.heap.get? l=some { cls :=.type "list",data :=.seq a.toArray n }:=by
 obtain⟨z,a,n,r,e⟩:=I.hok l _ b;exact⟨z,a,n,r,r.length,e⟩
def zfw {n:Nat}(h:n<=sizeLine):Builtin.List.listTooLong n=false:=by
 exact vR (by lia)
end
section
variable {X:Cx}
def zcH:V->List V->Hp->VK->Prop:=λx vs H Q=>∃l a y,x = .ref l/\vs=[y]/\H l=some (.lst a)/\a.length<sizeLine/\Q .non (upd H l (.lst (a++[y])))
def zdi:MtM X "list.append" zcH:=by
 intro b s t H x vs v o Q I i g h;obtain⟨l,p,y,rfl,rfl,a,m,q⟩:=h
 cases i
 obtain⟨u,rfl,f⟩:=g.one;obtain⟨z,d,n,r,j,e⟩:=I.lstM a;refine call_meets F.slot_list_append ⟨_,e,rfl⟩ F.entry_list_append (F.args_list_append_2 _ _) (PySem.list_append l _ n u (by simp_all)) ⟨e,?_⟩;refine⟨.non,_,I.lset a e (by simp) (r.append (.cons f .nil)) ?_,rfl,q⟩;rw[wG,vK];lia
def zhJ:V->List V->Hp->VK->Prop:=λx vs H Q=>∃l b a d,x = .ref l/\vs=[.ref b]/\H l=some (.lst a)/\H b=some (.lst d)/\a.length+d.length<=sizeLine/\Q .non (upd H l (.lst (a++d)))
def zdh:MtM X "list.extend" zhJ:=by
 intro j s M H x vs v G Q I A y h;obtain⟨l,b,J,L,rfl,rfl,i,o,E,q⟩:=h
 cases A
 obtain⟨u,rfl,w⟩:=y.one
 cases w
 obtain⟨z,f,n,r,C,e⟩:=I.lstM i;obtain⟨K,a,t,r2,p,m⟩:=I.lstM o;have g:f.toArray.size+a.toArray.size<=sizeLine:=by grind
 have d:¬ (!f.toArray.isEmpty && Builtin.List.listTooLong (f.toArray.size+a.toArray.size))=true:=by
  rw[zfw g]
  simp_all
 refine call_meets F.slot_list_extend ⟨_,e,rfl⟩ F.entry_list_extend (F.args_list_extend_2 _ _)
  (AutoSeq1.list_extend_list_list_0 l _ n b _ t d (by lia) (by lia)) ⟨e,m,?_⟩
 refine⟨.non,_,I.lset i e (by simp) (r.append r2) ?_,rfl,q⟩
 simp_all
def rPop:V->List V->Hp->VK->Prop:=λx vs H Q=>∃l a y,x = .ref l/\vs=[]/\H l=some (.lst a)/\a[a.length - 1]? = some y/\Q y (upd H l (.lst a.dropLast))
def zgR:MtM X "list.pop" rPop:=by
 intro g s C H x vs v w Q I o m h;obtain⟨l,A,y,rfl,rfl,f,i,q⟩:=h
 cases o
 have b:=m.zero;subst b;obtain⟨z,a,n,r,p,e⟩:=I.lstM f;obtain⟨u,t,j⟩:=r.get i;have d:a.toArray[a.toArray.size - 1]? = some u:=by
  simp_all
 refine call_meets F.slot_list_pop ⟨_,e,rfl⟩ F.entry_list_pop (F.args_list_pop_1 _) (MeetsSeq.list_pop_last l _ n u d (by simp_all)) ⟨e,?_⟩;refine⟨y,_,I.lset f e ?_ r.dropLast ?_,j,q⟩
 .simp_all
 .rw[List.length_dropLast];lia
end
end L2
namespace Att
open PySem PySem.W PySem.Calls PyProof.Rows
def z6m {P:Params}:∀ns vs,WellAll P h vs (ns.map WData.int)->IntsAre vs ns:=by
 intro ns
 induction ns with
 | nil=>
  intro vs w
  cases w
  exact .nil
 | cons n ns d=>
  intro vs w
  cases w with
  | cons a b=>
   cases a
   exact .cons _ _ (d _ b)
def zcp {l:OpenLaw}{n:Nat}(s:l.most=some n){P:Params}{h:Heap}
  (b:l.row.toRowW.claim.pre args=true) (j:WellAll P h vals args):
  ∃a vs ns,vals=[Value.ref a]/\args=[WData.list (ns.map WData.int)]/\h.get? a=some { cls :=.type "list",data :=.seq vs.toArray }/\IntsAre vs ns/\ns.length<=n:=by
 have i:WShape.hasAll [] _ _=true:=(pre_splitW b).1;have m:l.pre.holds [] _=true:=(pre_splitW b).2;obtain⟨d,r,rfl,o,p⟩:=hasAllW_cons i;obtain rfl:=hasAllW_nil p;obtain⟨y,rfl,q⟩:=hasW_list o;obtain⟨ns,rfl⟩:=items_int q;have f:ns.length<=n:=by
  unfold OpenLaw.pre at m;have g  := by
   have g:=(holds_andW m).1;rw[s] at g;exact g
  have x:=condW_of g (w_not (w_lt w_lit (w_len_list (w_arg rfl))))
  grind
 cases j with
 | cons u w=>
  cases w
  cases u with
  | list t e=>exact⟨_,_,ns,rfl,rfl,t,z6m ns _ e,f⟩
def zcN (l:OpenLaw)(a:List WData):l.row.toRowW.claim.post a (.bool true) a=true:=
 postW_of
  (rfl)
  (w_eq_bool (w_res rfl) w_lit) rfl
def zan {l:OpenLaw}{n:Nat}{XP:(Str->Option Value)->Heap->Prop}{C:World->Heap->Prop}{d:DefRec}
  (S:l.most=some n) (u:d.params.defaults=[])
  (call:∀w e b mg z i o A s g a vs ns,
   Ground q loose [] XP w e mg z b.heap->C w b.heap->
   b.heap.get? i=some o->o.data = .func (docDef d.name d.params d.body d.scope A s g)->b.heap.CodeRec s d.name->mg d.name=some (.ref i)->
   b.heap.get? a=some { cls :=.type "list",data :=.seq vs.toArray }->IntsAre vs ns->ns.length<=n->b.gens = #[]->
   codeAny (model l.prog w) callerA (.call (.ref i) ⟨[.ref a],[]⟩) (λr s'=>r = .ok (.ret (.bool true))/\OldK b.heap s'.heap/\s'.os=b.os/\AllBare s'.gens) b):
  WalkO q loose XP C l.row.toRowW d [] (λf vs=>PySem.call f vs):=by
 intro w e b mg z G Y i o A s g J kV T N t F x O E I X p H W y Q;obtain rfl:J = .none:=Dflts.none F u;obtain rfl:kV = .none:=Dflts.noKw F;obtain⟨a,vs,ns,rfl,rfl,m,h,j⟩:=zcp S p y;refine enter_call (codeAny_mono (call w _ _ mg z i o A s g a vs ns G Y T (fd_plain N) t x m h j O) λr s' U =>?_);obtain⟨rfl,K,L,M⟩:=U;exact⟨.inl ⟨.bool _,.bool _,[],rfl,λ_=>rfl,.bool _,zcN l _,λ_=>⟨List.Pairwise.nil,λ_ R=>(nomatch R)⟩⟩,K,L,M⟩
end Att
namespace L2
open PySem PySem.Spec PyProof.Rows
theorem z8g:∀{vs:List Value}{ns:List Int},IntsAre vs ns->Vals (ns.map V.int) vs
 | _,_,.nil =>.nil
 | _,_,.cons n t h =>.cons ⟨t,rfl⟩ (z8g h)
theorem zgX {f g:Type}[BEq f][LawfulBEq f]{a:f}{b:g}:∀{l:List (f × g)},l.lookup a=some b->(a,b)∈l
 | [],h=>by cases h
 | (c,d)::r,h=>by
  rw[v3] at h
  cases e:a == c with
  | true=>simp_all
  | false=>rw[e] at h;exact .tail _ (zgX h)
set_option tactic.hygienic true in
def z6T {K:W.Frag}{c P:Addr}(h:zce K c=some P):K.lookup P=none/\∃o vs,K.lookup c=some o/\o.cls = .type "code"/\o.data = .fields vs/\vs[11]? = some (.ref P):=by
 unfold zce at h
 split at h
 .rename_i vs _ b
  split at h
  .rename_i e a
   split at h
   .rename_i d
    cases h
    exact⟨by simpa using d,_,vs,b,rfl,rfl,a⟩
   .cases h
  .cases h
 .cases h
set_option tactic.hygienic true in
def z8j {K:W.Frag}{P:Addr}{t:Nat × Nat × Str}(h:(tsOf K).lookup P=some t):∃c,zce K c=some P:=by
 obtain⟨p,_,e⟩:=uT.mp (zgX h)
 split at e
 .split at e
  .rename_i c _ _
   cases q:zce K c with
   | none=>simp_all
   | some a=>grind
  .cases e
 .cases e
def zfC {P:Program}{K:W.Frag}{mg mb:WmP}{k:Nat}{x:Str}{s₁:Shared}{vs:List Value}{ns:List Int}
  (R:K.In s₁.heap) (N:s₁.heap.Ns mainGlobals mg) (p:s₁.heap.Ns builtinsNs mb) (T:∀x:Str,x≠"__name__"->mb x=bootBuiltins x) (M:s₁.heap.NoLimit) (U:BmAt mg s₁.heap) (hg:s₁.gens = #[])
  (C:s₁.heap.get? a=some { cls :=.type "list",data :=.seq vs.toArray }) (hi:IntsAre vs ns) (hl:ns.length<=sizeLine) (hr:Room k callerA)
  (L:∀P t,(tsOf K).lookup P=some t->s₁.heap.get? P=some { cls :=.none,data :=.fields #[] })
  (F:∀i:Heap,K.In i->i.Ns mainGlobals mg->FnOk P w K mg i CX k fa fd [x] sp) (E:∀s u,BindsTo s fd ⟨[u],[]⟩ [(x,u)])
  (a0:∀H:Hp,SqL K H a (ns.map V.int)->sp [.ref a] H (λv _=>v = .bl true) λ_ _ _=>False)
  (S:∀H e s',CX [] H s₁ (λ_ _ _=>False) e s'->False):
  codeAny (model P w) callerA (.call (.ref fa) ⟨[.ref a],[]⟩) (λr s'=>r = .ok (.ret (.bool true))/\OldK s₁.heap s'.heap/\s'.os=s₁.os/\AllBare s'.gens) s₁:=by
 have rv:=z8g hi;have O:=hi.length;have aT:(tsOf K).lookup a=none:=by
  cases q:(tsOf K).lookup a with
  | none=>rfl
  | some t=>
   have e:=L a t q;rw[C] at e;cases e
 have n:∀u:Option HO,SqL K (λb=>if b=a then u else ((tsOf K).lookup b).map λt =>.tbl (encT t)) a (ns.map V.int)->((u=none)\/(K.lookup a=none/\u=some (.frz { cls :=.type "list",data :=.seq vs.toArray } (.lst (ns.map V.int)))))->
   codeAny (model P w) callerA (.call (.ref fa) ⟨[.ref a],[]⟩) (λr s'=>r = .ok (.ret (.bool true))/\OldK s₁.heap s'.heap/\s'.os=s₁.os/\AllBare s'.gens) s₁:=by
  intro u hS f;generalize hH:(λb=>if b=a then u else ((tsOf K).lookup b).map λt=>HO.tbl (encT t))=H at hS;have g:∀{b v},H b=some v->(b=a/\u=some v)\/(b≠a/\∃t,(tsOf K).lookup b=some t/\v = .tbl (encT t)):=λ{b v} e=>by
   rw[<- hH] at e
   by_cases p:b=a
   .exact .inl ⟨p,by rw[<- e];exact(if_pos p).symm⟩
   .have Q:=(if_neg p).symm.trans e
    cases q:(tsOf K).lookup b with
    | none=>rw[q] at Q;cases Q
    | some t=>rw[q] at Q;cases Q;exact .inr ⟨p,t,rfl,rfl⟩
  have Z:HOk P w H s₁.heap:=λb v e=>by
   rcases g e with ⟨rfl,z⟩ | ⟨_,t,q,rfl⟩
   .rcases f with f | ⟨_,f⟩
    .rw[f] at z;cases z
    .rw[f] at z
     cases z
     exact⟨C,by rw[we];exact hl,vs,_,rv,C⟩
   .exact .inl (L b t q)
  have a1:∀{b:Addr}{o:Obj}{G:Array DictEntry}{ep:Nat},s₁.heap.get? b=some o->o.data = .dict G ep->H b=none:=λ{b o G ep} e d=>by
   cases q:H b with
   | none=>rfl
   | some v=>
    rcases g q with ⟨rfl,_⟩ | ⟨_,t,q,_⟩
    .rw[C] at e;cases e;have A:Data.seq vs.toArray _=Data.dict G ep:=d
     cases A
    .have:=L b t q;rw[e] at this;cases this;have A:Data.fields _=Data.dict G ep:=d
     cases A
  have a2:∀{b:Addr}{o:Obj},s₁.heap.get? b=some o->o.data = .plain->H b=none:=λ{b o} e d=>by
   cases q:H b with
   | none=>rfl
   | some v=>
    rcases g q with ⟨rfl,_⟩ | ⟨_,t,q,_⟩
    .rw[C] at e;cases e;have A:Data.seq vs.toArray _=Data.plain:=d
     cases A
    .have:=L b t q;rw[e] at this;cases this;have A:Data.fields _=Data.plain:=d
     cases A
  have j:∀{b:Addr}{m:WmP},s₁.heap.Ns b m->(hidT s₁.heap H).Ns b m:=λ{b m} ⟨o,G,ep,e,d,r⟩=>⟨o,G,ep,z7X e (a1 e d),d,r⟩
  have J:K.In (hidT s₁.heap H):=λb o e=>z7X (R b o e) (by
   cases q:H b with
   | none=>rfl
   | some v=>
    rcases g q with ⟨rfl,z⟩ | ⟨_,t,q,_⟩
    .rcases f with f | ⟨f,_⟩
     .rw[f] at z;cases z
     .rw[f] at e;cases e
    .obtain⟨c,X⟩:=z8j q;rw[(z6T X).1] at e;cases e)
  have hM:Mod K mg (hidT s₁.heap H):=⟨J,j N,⟨mb,j p,T⟩,let ⟨mc,h1,h2⟩:=M;⟨mc,j h1,h2⟩,let ⟨bm,ob,b1,b2,b3,b4,b5,b6⟩:=U;⟨bm,ob,b1,b2,z7X b3 (a2 b3 b6),b4,b5,b6⟩⟩
  have e0:Env0 P w K mg (hidT s₁.heap H) callerA [] s₁ H:=⟨rfl,hM,λb o e=>ziu e,Nat.le_of_eq (zdE _ _),trivial,λb p=>absurd (show b∈([]) from p) (by simp),λPt t e=>⟨#[],by
   rw[<- hH];show (if Pt=a then u else ((tsOf K).lookup Pt).map λt=>HO.tbl (encT t))=_;rw[if_neg (λz=>by rw[z,aT] at e;cases e),e];simp⟩,Z,.of_eq hg⟩
  refine codeAny_mono ((F _ J (j N)).run callerA [] s₁ H ⟨[.ref a],[]⟩ [.ref a] [.ref a] _ _ hr e0 (E s₁ (.ref a)) (.cons rfl .nil) (a0 H hS)) λr s' h =>?_
  cases r with
  | error e=>exact(S H e s' h).elim
  | ok fl=>
   cases fl with
   | next=>exact False.elim h
   | brk=>exact False.elim h
   | cont=>exact False.elim h
   | ret v0=>
    obtain⟨v,H',os,I,un,y,r',q⟩:=h;have q':v = .bl true:=q;subst q';obtain rfl:v0=Value.bool true:=r';refine⟨rfl,⟨λb o e =>?_,λb o e=>un.there b o e (by simp)⟩,os,I⟩
    cases q:H b with
    | none=>exact .inl (un.keep b o e q (by intro z;exact absurd (show b∈([]) from z) (by simp)) (by simp))
    | some v=>
     rcases g q with ⟨rfl,z⟩ | ⟨_,t,q2,rfl⟩
     .rcases f with f | ⟨_,f⟩
      .rw[f] at z;cases z
      .rw[f] at z
       cases z
       obtain⟨e2,_⟩:=y _ _ (un.frzs _ _ _ q);rw[C] at e
       cases e
       exact .inl e2
     .have e1:=L b t q2;rw[e] at e1
      cases e1
      obtain⟨more,q3⟩:=un.tbls b _ q;obtain⟨c,X⟩:=z8j q2;obtain⟨_,oc,vc,c1,c2,c3,c4⟩:=z6T X
      rcases y b _ q3 with z | ⟨l,c,_,_,c',_,_,_,_,_,_,z,_⟩
      .exact .inl z
      .exact .inr (.inl ⟨⟨_,oc,vc,R _ _ c1,c2,c3,c4⟩,rfl, #[], #[l,c,.ref c'],rfl,by rw[z];simp⟩)
 cases Y:K.lookup a with
 | some o=>
  have e:=R a o Y;rw[C] at e
  cases e
  exact n none (.inr ⟨_,vs.toArray,_,Y,rfl,rfl,rfl,by rw[v6,O];exact hl,by simpa using rv⟩) (.inl rfl)
 | none=>exact n _ (.inl (.inr ⟨_,if_pos rfl⟩)) (.inr ⟨Y,rfl⟩)
def zhf {l:W.OpenLaw}{n k:Nat}{XP:(Str->Option Value)->Heap->Prop}{y:World->Heap->Prop}{d:DefRec}{K:Params->W.Frag}{CX:World->CXT}{sp:World->Sp}{x:Str}
  (hn:l.most=some n) (I:n<=sizeLine) (C:d.params.defaults=[]) (hr:Room k callerA)
  (U:∀w h,y w h->(K w.params).In h) (S:∀w h,y w h->∀P t,(tsOf (K w.params)).lookup P=some t->h.get? P=some { cls :=.none,data :=.fields #[] })
  (F:∀w mg r h,(K w.params).In h->h.Ns mainGlobals mg->mg d.name=some (.ref r)->
   ∃z,(∀s u,BindsTo s z ⟨[u],[]⟩ [(x,u)])/\
    ∀i:Heap,(K w.params).In i->i.Ns mainGlobals mg->FnOk l.prog w (K w.params) mg i (CX w) k r z [x] (sp w))
  (J:∀w H a (ns:List Int),ns.length<=n->SqL (K w.params) H a (ns.map V.int)->sp w [.ref a] H (λv _=>v = .bl true) λ_ _ _=>False)
  (A:∀w H s e s',CX w [] H s (λ_ _ _=>False) e s'->False):
  W.WalkO q loose XP y l.row.toRowW d [] (λf vs=>PySem.call f vs):=by
 refine Att.zan hn C λw M N mg mb r o pm cd O a vs ns G Y ho hd Z E p m j hg =>?_;have L:=U w _ Y;obtain⟨z,X,Q⟩:=F w mg r _ L G.T.g E;exact zfC L G.T.g G.T.b G.T.builtins G.T.nolimit G.T.bmain hg p m (wV j I) hr (S w _ Y) Q X (λH R=>J w H a ns j R) λH e s'=>A w H _ e s'
def z3z (s:Stmt):Arguments:=match s with
 | .FunctionDef _ a _ _ _ _ _ _ _ _=>a
 | _=>{ posonlyargs:=[],args:=[],vararg:=none,kwonlyargs:=[],kw_defaults:=[],kwarg:=none,defaults:=[] }
def z21 (s:Stmt):List Stmt:=match s with
 | .FunctionDef _ _ b _ _ _ _ _ _ _=>b
 | _=>[]
def z0e (s:Stmt):Scope:=match s with
 | .FunctionDef _ _ _ _ _ _ sc _ _ _=>sc
 | _=>{ kind :=.function,names:=[],isGenerator:=false,isCoroutine:=false }
abbrev E0:XK:=λ_ _ _=>False
structure Fun (K:W.Frag)(x qual:Str)(st:Stmt)(f:Addr)(fd:FuncData):Prop where
 ex:∃(oc:Value) (od:Option Addr) (kV doc pm:Value) (an:Option Addr) (cdv ct:Value) (osl:Array (Option Value)),
  fd=W.fnOf x qual (z3z st) (z21 st) (z0e st) .none kV doc pm an cdv ct/\K.lookup f=some ⟨oc,od,.func fd,osl⟩/\W.codeIn K cdv qual=true
 kp:W.keepIn K (.ref f)=true
section
variable {P:Program}{w:World}{K:W.Frag}{mg:WmP}{base:Heap}
def Fun.binds {st:Stmt}{ps:List Str}(F:Fun K x qual st f fd)
  (h:∀kV b e d a ct g,g.length=ps.length->bindArgs (W.fnOf x qual (z3z st) (z21 st) (z0e st) .none kV b e d a ct) ⟨g,[]⟩=pure (ps.zip g)):z6S K fd ps []:=by
 obtain⟨m,n,kV,b,e,d,a,ct,j,rfl,l,i⟩:=F.ex;exact .all (h kV b e d a ct)
def zh4 {st:Stmt}{kV b d a ct:Value}(l:K.lookup f=some ⟨oc,od,.func (W.fnOf x qual (z3z st) (z21 st) (z0e st) .none kV b d an a ct),osl⟩)
  (c:W.codeIn K a qual=true) (k:W.keepIn K (.ref f)=true):Fun K x qual st f (W.fnOf x qual (z3z st) (z21 st) (z0e st) .none kV b d an a ct):=⟨⟨oc,od,kV,b,d,an,a,ct,osl,rfl,l,c⟩,k⟩
end
def iteF {A B:Prop}(h:B):if false=true then A else B:=by
 grind
def iteT {A B:Prop}(h:A):if true=true then A else B:=by
 exact h
def Same (H a:Hp):Prop:=∀b o,H b=some o->a b=some o
def Same.seq {K:W.Frag}{H b:Hp}{a:Addr}{xs:List V}(e:Same H b)(h:SqL K H a xs):SqL K b a xs:=by
 rcases h with (h | ⟨o,h⟩) | h
 .exact .inl (.inl (e _ _ h))
 .exact .inl (.inr ⟨o,e _ _ h⟩)
 .exact .inr h
end L2
set_option maxHeartbeats 4000000
namespace L2
open PySem PySem.Spec PyProof.Rows
open Builtin.Int (intBits)
abbrev Bt (n:Nat)(i:Int):Prop:=intBits i<=n
def Bt.le {m n:Nat}{i:Int}(h:Bt m i)(q:autoParam (m<=n) jB1):Bt n i:=wV h q
def z04 {n:Nat}{i:Int}(h:i.natAbs<2 ^ n):Bt n i:=PySem.intBits_le_iff.mpr h
def Bt.of_abs {n:Nat}{i j:Int}(h:Bt n j)(q:i.natAbs<=j.natAbs):Bt n i:=PySem.intBits_le_of_natAbs q h
def Bt.add {m n:Nat}{i j:Int}(h:Bt m i)(q:Bt n j):Bt (max m n+1) (i+j):=PySem.intBits_add_le h q
def Bt.sub {m n:Nat}{i j:Int}(h:Bt m i)(q:Bt n j):Bt (max m n+1) (i - j):=PySem.intBits_sub_le h q
def Bt.mul {m n:Nat}{i j:Int}(h:Bt m i)(q:Bt n j):Bt (m+n) (i*j):=PySem.intBits_mul_le h q
def Bt.neg {m:Nat}{i:Int}(h:Bt m i):Bt m (-i):=PySem.intBits_neg_le h
def zjc (i j:Int):Prop:=Bt 60000000 i/\Bt 60000000 j
def zmD (_ j:Int):Prop:=j≠0/\Bt 9000 j
def zdr (a:j≠0)(h:Bt 9000 j):j.natAbs.log2<9000:=by
 have e:intBits j=j.natAbs.log2+1:=by
  unfold Builtin.Int.intBits
  simp_all
 omega
section
variable {X:Cx}{a b c:Expr}{ta tb tc:TE}{pos:Pos}
def zio:OpR X (binaryOp .Mult) (rI zjc λi j =>.int (i*j)):=opI λ_ _ _ _ _ _ _ a q=>mul_int q (IntMulOk.of_le a.1 a.2 (by decide))
def zfl:OpR X (binaryOp .FloorDiv) (rI zmD λi j =>.int (i.fdiv j)):=opI λ_ _ _ _ _ _ _ a q=>floordiv_int a.1 q (.inl (PyProof.noPylong_of_log2 (zdr a.1 a.2)))
end
mutual
def Rp (K:W.Frag)(H:Hp):PyData->V->Prop
 | .none,v=>v = .non
 | .bool b,v=>v = .bl b
 | .int i,v=>v = .int i
 | .str x,v=>v = .str x
 | .list e,v=>∃a d,v = .ref a/\SqL K H a d/\RpL K H e d
 | .tuple e,v=>∃a d,v = .ref a/\SqT K H a d/\RpL K H e d
 | .dict _,_=>False
def RpL (K:W.Frag)(H:Hp):List PyData->List V->Prop
 | [],a=>a=[]
 | d::b,a=>∃x r,a=x::r/\Rp K H d x/\RpL K H b r
end
def Same.seqT {K:W.Frag}{H b:Hp}{a:Addr}{xs:List V}(e:Same H b)(h:SqT K H a xs):SqT K b a xs:=by
 rcases h with (h | ⟨o,h⟩) | h
 .exact .inl (.inl (e _ _ h))
 .exact .inl (.inr ⟨o,e _ _ h⟩)
 .exact .inr h
mutual
theorem Rp.same {K:W.Frag}{H l:Hp}(e:Same H l):∀(d:PyData) {v:V},Rp K H d v->Rp K l d v
 | .none,_,h=>by simpa[Rp] using h
 | .bool _,_,h=>by simpa[Rp] using h
 | .int _,_,h=>by simpa[Rp] using h
 | .str _,_,h=>by simpa[Rp] using h
 | .list b,_,h=>by
  rw[Rp] at h ⊢;obtain⟨a,j,f,g,i⟩:=h;exact⟨a,j,f,e.seq g,RpL.same e b i⟩
 | .tuple b,_,h=>by
  rw[Rp] at h ⊢;obtain⟨a,j,f,g,i⟩:=h;exact⟨a,j,f,e.seqT g,RpL.same e b i⟩
 | .dict _,_,h=>by simp[Rp] at h
theorem RpL.same {K:W.Frag}{H a:Hp}(e:Same H a):∀(ds:List PyData) {xs:List V},RpL K H ds xs->RpL K a ds xs
 | [],_,h=>by simpa[RpL] using h
 | d::ds,_,h=>by
  rw[RpL] at h ⊢;obtain⟨x,r,b,f,g⟩:=h;exact⟨x,r,b,Rp.same e d f,RpL.same e ds g⟩
end
section
variable {X:Cx}{pins:List (Addr × Obj)}{σ:St}{H:Hp}{s:Shared}
mutual
theorem Rp.reads (I:Inv X pins σ H s):∀(d:PyData) {v:V}{u:Value},Rp X.K H d v->RelV v u->∃f,Reads s.heap u d f
 | .none,v,u,h,r=>by
  rw[Rp] at h;subst h
  cases (show u=Value.none from r);exact⟨_,.none⟩
 | .bool b,v,u,h,r=>by
  rw[Rp] at h;subst h
  cases (show u=Value.bool b from r);exact⟨_,.bool b⟩
 | .int i,v,u,h,r=>by
  rw[Rp] at h;subst h;obtain⟨t,rfl⟩:=(show ∃t,u=Value.int i t from r);exact⟨_,.int i t⟩
 | .str x,v,u,h,r=>by
  rw[Rp] at h;subst h;obtain⟨t,rfl⟩:=(show ∃t,u=Value.str x t from r);exact⟨_,.str x t⟩
 | .list g,v,u,h,r=>by
  rw[Rp] at h;obtain⟨a,z,rfl,j,l⟩:=h
  cases (show u=Value.ref a from r)
  obtain⟨y,w,⟨o,n,e,m,_,p⟩,_⟩:=I.list j;obtain⟨f,q⟩:=RpL.reads I g l w;exact⟨_,.list e m p (by simpa using q)⟩
 | .tuple g,v,u,h,r=>by
  rw[Rp] at h;obtain⟨a,z,rfl,j,l⟩:=h
  cases (show u=Value.ref a from r)
  obtain⟨y,w,⟨o,e,m,n,p⟩,_⟩:=I.tuple j;obtain⟨f,q⟩:=RpL.reads I g l w;exact⟨_,.tuple e m p (by simpa using q)⟩
 | .dict _,v,u,h,r=>by simp[Rp] at h
theorem RpL.reads (I:Inv X pins σ H s):∀(ds:List PyData) {xs:List V}{a:List Value},RpL X.K H ds xs->Vals xs a->∃b,ReadsAll s.heap a ds b
 | [],xs,a,h,r=>by
  rw[RpL] at h;subst h
  cases r;exact⟨_,.nil⟩
 | d::ds,xs,a,h,r=>by
  rw[RpL] at h;obtain⟨x,t,rfl,e,f⟩:=h
  cases r with
  | cons r1 r2=>
   obtain⟨b,q⟩:=Rp.reads I d e r1;obtain⟨bs,g⟩:=RpL.reads I ds f r2;exact⟨_,.cons q g⟩
end
end
section
variable {X:Cx}
def rEqD (K:W.Frag)(neg:Bool):R2:=λx y H Q=>∃d e,Rp K H d x/\Rp K H e y/\PySem.SeqAt.shaped d=true/\PySem.SeqAt.shaped e=true/\Q (.bl (if neg then !PyData.eqv d e else PyData.eqv d e)) H
def zlj (j:X.A.units+64<cLine):OpR X (compareOp .Eq) (rEqD X.K false):=by
 intro a s o H x y v u Q I l m h;obtain⟨d,e,b,f,g,i,q⟩:=h;obtain⟨n,r1⟩:=Rp.reads I d b l;obtain⟨bs,r2⟩:=Rp.reads I e f m;exact eq_dataH r1 r2 g i j ⟨.bl _,H,I,rfl,q⟩
def zlf (j:X.A.units+64<cLine):OpR X (compareOp .NotEq) (rEqD X.K true):=by
 intro a s o H x y v u Q I l m h;obtain⟨d,e,b,f,g,i,q⟩:=h;obtain⟨n,r1⟩:=Rp.reads I d b l;obtain⟨bs,r2⟩:=Rp.reads I e f m;exact ne_dataH r1 r2 g i j ⟨.bl _,H,I,rfl,q⟩
end
structure Cal (P:Program)(w:World)(K:W.Frag)(mg:WmP)(base:Heap)(CX:CXT)(k:Nat)(x:Str)(ps:List Str)(sp:Sp):Prop where
 ex:∃f fd,FnOk P w K mg base CX k f fd ps sp/\mg x=some (.ref f)/\W.keepIn K (.ref f)=true/\z6S K fd ps []
section
variable {X:Cx}{CX:CXT}{k:Nat}{ps:List Str}{sp:Sp}{E:XK}{x:Str}{p pos:Pos}{e:Expr}{es:List Expr}{t:TA}
def znl (C:Cal X.prog X.w X.K X.mg X.base CX k x ps sp)(m:Room k X.A)(n:z53 CX X E)(d:PA X (e::es) t)(i:autoParam (Gl X x) jA1)
  (a:autoParam (dB x) jB1) (h:autoParam (sE e es X) jA1) (b:autoParam (bT pos es X) jA1):
  PE X (.Call (.Name x p) (e::es) [] pos) (zhq sp [] E t):=by
 obtain⟨f,o,F,l,j,g⟩:=C.ex;exact zij F m i l j g .nil n d a h b
end
end L2
namespace L2
open PySem PySem.Spec PyProof.Rows
section
variable {P:Program}{w:World}{H:Hp}{h h':Heap}{a:Addr}{o:HO}
def HOk.track (x:HOk P w H h)(f:H a=none)(new:z2m P w (upd H a o) h a o):HOk P w (upd H a o) h:=λb u e=>by
 by_cases d:b=a
 .subst d;rw[z0c] at e;grind
 .rw[z0d d] at e;exact(x b u e).stay λ_ q=>q
end
end L2
namespace Mth
def z3x {t b:Int}(h:0<b):(0)<(Int.gcd t b:Int)/\t=(Int.gcd t b)*(t / (Int.gcd t b))/\b=(Int.gcd t b)*(b / (Int.gcd t b))/\1<=b / (Int.gcd t b)/\Int.gcd (t / (Int.gcd t b)) (b / (Int.gcd t b))=1:=by
 have p:=(Int.gcd_pos_iff (a:=t) (b:=b)).mpr (.inr (by lia));have d:t=(Int.gcd t b)*(t / (Int.gcd t b)):=(jl (jE t b)).symm;have e:b=(Int.gcd t b)*(b / (Int.gcd t b)):=(jl (jP t b)).symm;refine⟨by lia,d,e,?_,?_⟩
 .rcases(show b / (Int.gcd t b)<1\/1<=b / (Int.gcd t b) by lia) with q | q
  .have:(Int.gcd t b)*(b / (Int.gcd t b))<=0:=vp (by lia) (by lia);lia
  .exact q
 .have q:=Int.gcd_mul_left (Int.gcd t b) (t / (Int.gcd t b)) (b / (Int.gcd t b));rw[<- d, <- e,j5] at q;have f:Int.gcd t b*1=Int.gcd t b*Int.gcd (t / (Int.gcd t b)) (b / (Int.gcd t b)):=by rw[Nat.mul_one];exact q
  exact(ji p f).symm
def z0u {a b:Int}(d:0<b):(a / b).natAbs<=a.natAbs:=by
 rw[<- Int.fdiv_eq_ediv_of_nonneg a (wt d)];exact PySem.natAbs_fdiv_le a b
end Mth
namespace L2
open PySem PySem.Spec PyProof.Rows
def zba (a : -(2 ^ 64)<i)(b:i<2 ^ 64):Bt 9000 i:=wV (PySem.intBits_le_64 a b) (by decide)
def bt_k (h:i.natAbs<2 ^ 640):Bt 640 i:=z04 h
def bt_n (a:0<=i)(h:i<2 ^ 640):Bt 640 i:=z04 (by lia)
def z0n {H:Hp}{p:Addr}(h:H p=none)(o:HO):Same H (upd H p o):=λb u q=>by rw[z0d (z1P q h)];exact q
def PE.imp {X:Cx}{e:Expr}{t t':TE}(h:PE X e t)(i:∀a H Q,t' a H Q->t a H Q):PE X e t':=λb s a H Q I q=>h _ s a H Q I (i a H Q q)
def OpR.imp {X:Cx}{f:Value->Value->Sem Value}{r r':R2}(h:OpR X f r)(i:∀x y H Q,r' x y H Q->r x y H Q):OpR X f r':=λa s e H x y v u Q I b d q=>h _ s e H x y v u Q I b d (i x y H Q q)
section
variable {X:Cx}{es:List Expr}{t:TA}{pos:Pos}
def SlR.imp {r r':V->Option Int->Option Int->Hp->VK->Prop}(h:SlR X r)(i:∀x b a H Q,r' x b a H Q->r x b a H Q):SlR X r':=by
 unfold SlR at h ⊢
 intros
 apply h
 all_goals first | assumption | simp_all
end
structure QE (X:Cx)(e:Expr)(t:TE):Prop where
 p:PE X e t
structure QT (X:Cx)(e:Expr)(t:TT):Prop where
 p:PT X e t
structure QW (X:Cx)(e:Expr)(t:TT):Prop where
 p:PW X e t
structure QA (X:Cx)(es:List Expr)(t:TA):Prop where
 p:PA X es t
structure QS (X:Cx)(st:Stmt)(t:TS):Prop where
 p:PS X st t
structure QSs (X:Cx)(st:List Stmt)(t:TS):Prop where
 p:PSs X st t
structure QG (X:Cx)(e:Expr)(t:TG):Prop where
 p:PG X e t
structure QGs (X:Cx)(es:List Expr)(t:TGs):Prop where
 p:PGs X es t
structure QI (X:Cx)(tg e:Expr)(t:TI):Prop where
 p:PI X tg e t
structure QO (X:Cx)(e:Option Expr)(t:TO):Prop where
 p:PO X e t
section
variable {X:Cx}{a b c e f o:Expr}{ta tb tc te:TE}{pos pos2 p2:Pos}{tA tB':TT}{rest:List Expr}{es:List Expr}{aa:TA}
def zkC {i j a}:QE X (.Constant (.int i) j a) (tC (.int i)):=⟨zkZ⟩
def znf {i j a}:QE X (.Constant (.bool i) j a) (tC (.bl i)):=⟨znn⟩
def zkz {j a}:QE X (.Constant .none j a) (tC .non):=⟨zkW⟩
def zkx {x j a}:QE X (.Constant (.str x) j a) (tC (.str x)):=⟨zkU⟩
def qv (i:Nat){b:Pos}(d:autoParam (X.N[i]? = some x) jA1)(f:Vis X.env.scope x:=by first | exact Or.inl rfl | exact Or.inr (Or.inl rfl) | exact Or.inr (Or.inr rfl))(e:autoParam (dB x) jB1)
  (a:autoParam ((x == ("__classdict__"))=false) jB1):QE X (.Name x b) (tVar i):=⟨zgG d f e a⟩
def znc {op:Operator}(f:OpR X (binaryOp op) r)(d:QE X a ta)(e:QE X b tb):QE X (.BinOp a op b pos) (tOp r ta tb):=⟨znj f d.p e.p⟩
def znb {op:UnaryOp}(d:UnR X (unaryOp op) r)(b:QE X a ta):QE X (.UnaryOp op a pos) (tUn r ta):=⟨zni d b.p⟩
def zky {op}{t:TE}(h:QE X a t):QE X (.BoolOp op [a] pos) t:=⟨zkV h.p⟩
def zkE (d:QE X a ta)(e:QE X (.BoolOp .And (b::rest) pos) tb):QE X (.BoolOp .And (a::b::rest) pos) (zjz ta tb):=⟨zl1 d.p e.p⟩
def zi2 {op:CmpOp}(g:OpR X (compareOp op) r)(d:QE X a ta)(e:QE X b tb)(f:behindInMarks op b=false):QE X (.Compare a [op] [b] pos) (tOp r ta tb):=⟨zii g d.p e.p f⟩
def zhT {op:CmpOp}(g:OpR X (compareOp op) r)(d:QE X a ta)(e:QE X b tb)(f:behindInMarks op b=false):QT X (.Compare a [op] [b] pos) (zhp (tOp r ta tb)):=⟨zi7 g d.p e.p f⟩
def zkm {t:TE}(h:QE X e t)(b:autoParam (∀a,isTrue e X.env a=(do let v <- a;standAt e.pos;holding [v] (truthy v))) jC1):QT X e (tB t):=⟨zkH h.p b⟩
def zkn (b:QT X a tA):QT X (.UnaryOp .Not a pos) (tNot tA):=⟨zkI b.p⟩
def zhQ (b:QT X a tA):QW X (.BoolOp .And [a] pos) tA:=⟨zi4 b.p⟩
def zkk (b:QT X a tA):QW X (.BoolOp .Or [a] pos) tA:=⟨zkF b.p⟩
def zkl (d:QT X a tA)(e:QW X (.BoolOp .And (b::rest) pos) tB'):QW X (.BoolOp .And (a::b::rest) pos) (tAnd tA tB'):=⟨zkG d.p e.p⟩
def zn8 (d:QT X a tA)(e:QW X (.BoolOp .Or (b::rest) pos) tB'):QW X (.BoolOp .Or (a::b::rest) pos) (tOr tA tB'):=⟨zng d.p e.p⟩
theorem QW.pt {t:TT}(h:QW X e t):QT X e t:=⟨h.p.pt⟩
def z8F:QA X [] tNil:=⟨zl4⟩
def z67 (a:QE X e te)(b:QA X es aa)(d:autoParam (sE e es X) jA1):QA X (e::es) (zjx te aa):=⟨zil a.p b.p d⟩
def zne {k:Nat}{ps:List Str}(C:Cal X.prog X.w X.K X.mg X.base CX k x ps sp)(h:Room k X.A)(i:z53 CX X E)(d:QA X (e::es) aa)(g:autoParam (Gl X x) jA1)
  (a:autoParam (dB x) jB1) (f:autoParam (sE e es X) jA1) (b:autoParam (bT pos es X) jA1):QE X (.Call (.Name x pp) (e::es) [] pos) (zhq sp [] E aa):=⟨znl C h i d.p g a f b⟩
def z5K {x:Str}{m:Pos}{id:String}{r:List V->Hp->VK->Prop}(f:z15 X (.builtin id) r)(h:Gl X x)(i:X.mg x=none)(l:bootBuiltins x=some (.builtin id))(d:QA X (e::es) aa)(j:autoParam (x≠"__name__") jB1)(a:autoParam (dB x) jB1)
  (g:autoParam (sE e es X) jA1) (b:autoParam (bT pos es X) jA1):QE X (.Call (.Name x m) (e::es) [] pos) (tCB r aa):=⟨zfh f h i l d.p j a g b⟩
def z4E {x:Str}{m:Pos}{id:String}{r:List V->Hp->VK->Prop}(f:z15 X (.type id) r)(h:Gl X x)(i:X.mg x=none)(l:bootBuiltins x=some (.type id))(d:QA X (e::es) aa)(j:autoParam (x≠"__name__") jB1)(a:autoParam (dB x) jB1)
  (g:autoParam (sE e es X) jA1) (b:autoParam (bT pos es X) jA1):QE X (.Call (.Name x m) (e::es) [] pos) (tCB r aa):=⟨zd0 f h i l d.p j a g b⟩
def znd (f:IxR X r)(d:QE X a ta)(e:QE X b tb)(g:zap b):QE X (.Subscript a b pos) (tOp r ta tb):=⟨znk f d.p e.p g⟩
def zhZ:QO X none zcf:=⟨zif⟩
def zhY (h:QE X e te):QO X (some e) (zjs te):=⟨zie h.p⟩
def zf5 {b a:Option Expr}{tl d:TO}(h:SlR X r)(f:QE X e te)(g:QO X b tl)(i:QO X a d):QE X (.Subscript e (.Slice b a none p2) pos) (tSl r te tl d):=⟨zfc h f.p g.p i.p⟩
def zgC {T id:String}{name:Str}{a b:Pos}{r:V->List V->Hp->VK->Prop}(j:PlainAttrs T)(f:Slot T name id)(g:typeOf (.builtin id)=pure (.type "method_descriptor"))(h:MtR X id r)(i:QE X o te)
  (d:autoParam (aB o name X) jA1) (e:autoParam (aL a b) jA1):QE X (.Call (.Attribute o name a) [] [] b) (tBM0 X.K T r te):=⟨zl0 j f g h i.p d e⟩
def zi3 {T id:String}{name:Str}(n:PlainAttrs T)(g:Slot T name id)(h:typeOf (.builtin id)=pure (.type "method_descriptor"))(j:MtR X id r)(l:QE X o te)(i:QA X (e::es) aa)
  (b:autoParam (aB o name X) jA1)
  (f:autoParam (aG cpos (e::es) X) jA1)
  (d:autoParam (aL apos cpos) jA1) (m:autoParam (sE e es X) jA1) (a:autoParam (bT cpos es X) jA1):
  QE X (.Call (.Attribute o name apos) (e::es) [] cpos) (tBM X.K T r te aa):=⟨znm n g h j l.p i.p b f d m a⟩
end
section
variable {X:Cx}{st:Stmt}{rest body a b:List Stmt}{t u tb:TS}{e tg c iter:Expr}{te:TE}{tc:TT}{pos:Pos}{g:TG}{wi:TI}{aa:TA}
def zhV:QSs X [] zjt:=⟨zi9⟩
def zeW (a:QS X st t)(b:QSs X rest u):QSs X (st::rest) (tSeq t u):=⟨zf7 a.p b.p⟩
def zhU (a:QS X st t):QSs X [st] t:=⟨zi8 a.p⟩
def zeY:QS X st zgg:=⟨zf9⟩
def zkp (a:QE X e te):QS X (.Return (some e) pos) (tRet te):=⟨zkL a.p⟩
def z9R (a:QE X e te)(b:autoParam (swapsWith e none pos.line X.env=pure false) jA1):QS X (.Expr e pos) (zju te):=⟨zia a.p b⟩
def zn9 (f:QT X c tc)(d:QSs X a t)(e:QSs X b u):QS X (.If c a b pos) (tIfS tc t u):=⟨znh f.p d.p e.p⟩
def zeX (d:PassesOwn (model X.prog X.w) X.A X.env X.xe)(b:QT X c tc)(a:QSs X body tb):QS X (.While c body [] pos) (zgf tc tb):=⟨zf8 d b.p a.p⟩
def zgB (f:PassesOwn (model X.prog X.w) X.A X.env X.xe)(b:X.calm=true)(e:QI X tg iter wi)(d:QG X tg g)(a:QSs X body tb)
  (h:autoParam (fI iter X) jC1):QS X (.For tg iter body [] pos) (tFor wi g tb):=⟨zkN f b e.p d.p a.p h⟩
def zkr (b:QE X e te)(d:QG X tg g)(f:autoParam (swapsWithSole [tg] e pos.line X.env=pure false) jA1)(h:autoParam (swappedStores [tg] e X.env=pure none) jA1)
  (a:autoParam ((assignEach [tg] X.env).map (·.2)=[assign tg X.env]) jA1):QS X (.Assign [tg] e pos) (tAsg te g):=⟨zkO b.p d.p f h a⟩
def zi0:QGs X [] gNil:=⟨zih⟩
def zf2 {es:List Expr}{t:TG}{u:TGs}(a:QG X e t)(b:QGs X es u)
  (d:autoParam ((assignEach (e::es) X.env).map (·.2)=assign e X.env::(assignEach es X.env).map (·.2)) jA1):QGs X (e::es) (zfM t u):=⟨zfb a.p b.p d⟩
def zkt {es:List Expr}{k:Nat}{t:TGs}{n:Nat}(b:X.calm=true)(h:QGs X es t)
  (d:autoParam ((assignEach es X.env).length=n) jA1) (a:autoParam ((assignEach es X.env).findIdx? (·.1)=none) jA1):QG X (.Tuple es k pos) (gTup X.K n t):=⟨zkR b h.p d a⟩
def z8D {a:Expr}{p:Pos}(d:Gl X "range")(e:X.mg "range"=none)(b:QA X [a] aa)(f:autoParam (starEach [a] X.env=[(false,eval a X.env)]) jA1):QI X tg (.Call (.Name "range" p) [a] [] pos) (zm9 aa):=⟨zcX d e b.p f⟩
end
def eqv2 {a b c d:Int}:PyData.eqv (.tuple [.int a,.int b]) (.tuple [.int c,.int d])=decide (a=c/\b=d):=by
 simp[PyData.eqv,PyData.eqvAll]
 by_cases e:a=c <;> by_cases f:b=d <;> simp[e,f]
end L2
namespace Mth
def g3 (x y b:Int):Int:=((Int.gcd ((Int.gcd b x):Int) y:Nat):Int)
def z5P (x y b:Int):g3 x y b ∣ b:=j6 (jE _ _) (jE b x)
def zb1 (x y b:Int):g3 x y b ∣ x:=j6 (jE _ _) (jP b x)
def zb0 (x y b:Int):g3 x y b ∣ y:=jP _ _
def zaZ {x y b:Int}(h:0<b):0<g3 x y b:=by
 have p:=(Int.gcd_pos_iff (a:=b) (b:=x)).mpr (.inl (by lia));have d:=(Int.gcd_pos_iff (a:=((Int.gcd b x))) (b:=y)).mpr (.inl (by lia));unfold g3;lia
structure Plc (x y b u v t:Int):Prop where
 pos:1<=t
 cop:Int.gcd ((Int.gcd u v):Int) t=1
 cx:u*b=x*t
 cy:v*b=y*t
 lu:u.natAbs<=x.natAbs
 lv:v.natAbs<=y.natAbs
 lt:t.natAbs<=b.natAbs
def z3s (a b c:Int):Int.gcd ((Int.gcd a b):Int) c=Nat.gcd (Nat.gcd a.natAbs b.natAbs) c.natAbs:=rfl
def zgD (h:0<b):Plc x y b (x / g3 x y b) (y / g3 x y b) (b / g3 x y b):=by
 have f:=zaZ (x:=x) (y:=y) h;have ex:x=g3 x y b*(x / g3 x y b):=(jl (zb1 x y b)).symm;have d:y=g3 x y b*(y / g3 x y b):=(jl (zb0 x y b)).symm;have a:b=g3 x y b*(b / g3 x y b):=(jl (z5P x y b)).symm;have m:g3 x y b=((Nat.gcd (Nat.gcd b.natAbs x.natAbs) y.natAbs):Int):=rfl;refine⟨?_,?_,?_,?_,z0u f,z0u f,z0u f⟩
 .generalize b / g3 x y b=t at a
  rcases(show t<1\/1<=t by lia) with q | q
  .have:g3 x y b*t<=0:=vp (by lia) (by lia);lia
  .exact q
 .rw[z3s];generalize p:x / g3 x y b=u at ex;generalize r:y / g3 x y b=v at d;generalize o:b / g3 x y b=t at a;have nx:=congrArg Int.natAbs ex;have i:=congrArg Int.natAbs d;have g:=congrArg Int.natAbs a;rw[uj] at nx i g;have ng:(g3 x y b).natAbs=Nat.gcd (Nat.gcd b.natAbs x.natAbs) y.natAbs:=by rw[m,j5]
  generalize n:(g3 x y b).natAbs=G at nx i g ng;have e:0<G:=by lia
  rw[nx,i,g,Nat.gcd_mul_left,Nat.gcd_mul_left] at ng;have j:G*1=G*Nat.gcd (Nat.gcd t.natAbs u.natAbs) v.natAbs:=by rw[Nat.mul_one];exact ng
  have l:=ji e j;rw[j0 (Nat.gcd u.natAbs v.natAbs), <- Nat.gcd_assoc];exact l.symm
 .have:x / g3 x y b*b=x / g3 x y b*(g3 x y b*(b / g3 x y b)):=congrArg _ a;rw[this,Int.mul_left_comm, <- je, <- ex]
 .have:y / g3 x y b*b=y / g3 x y b*(g3 x y b*(b / g3 x y b)):=congrArg _ a;rw[this,Int.mul_left_comm, <- je, <- d]
end Mth
namespace L2
open PySem PySem.Spec PyProof.Rows
def CXe (P:Program)(w:World):CXT:=λ_ _ _ _ _ _=>False
section
variable {P:Program}{w:World}{outer:List Env}{H H':Hp}{h0 h h2:Heap}{Cv:Value}{ea t:Addr}{B:Heap}
def z2m.there {a:Addr}{o:HO}(x:z2m P w H h a o):∃ob,h.get? a=some ob:=by
 cases o with
 | lst d=>obtain⟨_,_,_,_,e⟩:=x;exact⟨_,e⟩
 | tup d=>obtain⟨_,_,_,⟨ob,e,_⟩,_⟩:=x;exact⟨_,e⟩
 | dK b=>obtain⟨_,_,_,_,o,_,_,e,_⟩:=x;exact⟨_,e⟩
 | own y=>obtain⟨_,e⟩:=x;exact⟨_,e⟩
 | frz ob u=>obtain⟨e,_⟩:=x;exact⟨_,e⟩
 | tbl ps=>rcases x with e | ⟨_,_,_,_,_,_,_,_,_,_,_,e,_⟩ <;> exact⟨_,e⟩
 | ext f=>obtain⟨_,⟨_,e⟩,_⟩:=x;exact⟨_,e⟩
end
section
variable {P:Program}{w:World}{K:W.Frag}{mg:WmP}{base:Heap}{N:List Str}{qual:Str}{sc:Scope}{f:Addr}{cdv:Value}{A:Around}{outer:List Env}{s:Shared}{H:Hp}{E:XK}
def Fun.okN {st:Stmt}{ps:List Str}{k:Nat}(F:Fun K x qual st f fd)(S:z5p N ps (z0e st))(len:∀vs H Q E,sp vs H Q E->vs.length=ps.length)
  (d:∀b A a s H vs Q E,Room k (A.deeper (envOfC qual (z0e st) s.heap.objs.size f b))->sp vs H Q E->
   ∃t,QSs ((cxOf (CXe P w) P w K mg base N qual (z0e st) f b A a s H E).wish λ_ _=>False) (z21 st) t/\t { nx:=λ_ i=>Q .non i,rt:=Q } (z55 N vs) H):FnOk P w K mg base (CXe P w) (k+1) f fd ps sp:=by
 obtain⟨u,y,kV,j,z,o,b,r,n,rfl,m,e⟩:=F.ex;refine znY m e S len λA a s H vs Q E l g =>?_;obtain⟨t,h,q⟩:=d b A _ s H vs Q E l g;exact⟨t,h.p.nox,q⟩
def zl2:z53 (CXe P w) X E0:=λ_ _ _ _ _ _ _ q=>q.elim
end
section
variable {X:Cx}
theorem vals_refs:∀(a:List Addr) {b:List Value},Vals (a.map V.ref) b->b=a.map Value.ref
 | [],_,r=>by cases r;rfl
 | c::a,_,r=>by
  cases r with
  | cons r1 r2=>
   rw[vals_refs a r2]
   cases (show _=Value.ref c from r1)
   rfl
end
open Builtin.Str
section
variable {X:Cx}
variable {tg:Expr}
def zkA {a:Pos}(h:QA X es aa):QE X (.List es a) (tLst aa):=⟨zkX h.p⟩
def z6O:MtR X "list.append" zcH:=zdi
end
end L2
namespace Mth
def z5h {a b:Nat}(h:∀p,p ∣ a->p ∣ b->p ∣ 1):Nat.Coprime a b:=
 Nat.dvd_one.mp (h _ (Nat.gcd_dvd_left a b) (Nat.gcd_dvd_right a b))
def zah {p:Nat}{x:Int}:p ∣ x.natAbs↔(p:Int) ∣ x:=by rw[<- uN,j5]
def z83 {p z c:Nat}{x a:Int}(b:Nat.Coprime z c)(d:p ∣ z)(h:(p:Int) ∣ x*c+a*z):p ∣ x.natAbs:=by
 have e:(p:Int) ∣ a*z:=j6 (Int.natCast_dvd_natCast.mpr d) (Int.dvd_mul_left _ _);have f  := (Int.dvd_add_left e).mp h;have g  := by
  have:=zah.mpr f;rw[uj] at this;exact this
 exact(Nat.Coprime.coprime_dvd_left d b).dvd_of_dvd_mul_right g
def z8J {x y z a b c:Int}(hz:0<z)(hc:0<c)(W:Int.gcd ((Int.gcd x y:Nat)) z=1)(X:Int.gcd ((Int.gcd a b:Nat)) c=1)
  {g u v r:Int}(T:g=((Int.gcd z c:Nat))) (H:u=x*(c / g)+a*(z / g)) (I:v=y*(c / g)+b*(z / g)) (U:r=((Int.gcd ((Int.gcd g u:Nat):Int) v:Nat))):
  0<g/\0<r/\g.natAbs<=z.natAbs/\r.natAbs<=z.natAbs/\Plc (x*c+a*z) (y*c+b*z) (z*c) (u / r) (v / r) (z / g*(c / r)):=by
 have gp:=(Int.gcd_pos_iff (a:=z) (b:=c)).mpr (.inl (by omega));have A:0<g:=by omega
 have gz:g ∣ z:=T ▸ jE z c;have gc:g ∣ c:=T ▸ jP z c;have F:r=g3 u v g:=U;have N:0<r:=F ▸ zaZ A;have rg:r ∣ g:=F ▸ z5P u v g;have ru:r ∣ u:=F ▸ zb1 u v g;have rv:r ∣ v:=F ▸ zb0 u v g;obtain⟨z',s⟩:=gz;obtain⟨c',w⟩:=gc;obtain⟨g',e⟩:=rg;obtain⟨u',i⟩:=ru;obtain⟨v',j⟩:=rv;have q1:z / g=z':=by rw[s];exact uU z' (by omega)
 have q2:c / g=c':=by rw[w];exact uU c' (by omega)
 have q3:u / r=u':=by rw[i];exact uU u' (by omega)
 have q4:v / r=v':=by rw[j];exact uU v' (by omega)
 have q5:c / r=g'*c':=by rw[w,e,je];exact uU _ (by omega)
 rw[q1,q2] at H I;rw[q1,q3,q4,q5];have O:0<z':=by
  rcases(show z'<=0\/0<z' by omega) with h | h
  .have:=vp (wt A) h;omega
  .exact h
 have L:0<c':=by
  rcases(show c'<=0\/0<c' by omega) with h | h
  .have:=vp (wt A) h;omega
  .exact h
 have M:0<g':=by
  rcases(show g'<=0\/0<g' by omega) with h | h
  .have:=vp (wt N) h;omega
  .exact h
 have f:Nat.Coprime z'.natAbs c'.natAbs:=by
  have q:=Int.gcd_mul_left g z' c';rw[<- s, <- w] at q;have q':g.natAbs*1=g.natAbs*Int.gcd z' c':=by omega
  exact(ji (by omega) q').symm
 have cg:Nat.gcd (Nat.gcd g'.natAbs u'.natAbs) v'.natAbs=1:=by
  have Y:=congrArg Int.natAbs e;have Z:=congrArg Int.natAbs i;have n3:=congrArg Int.natAbs j;rw[uj] at Y Z n3;have K:r.natAbs=Nat.gcd (Nat.gcd g.natAbs u.natAbs) v.natAbs:=by rw[U,j5,z3s]
  rw[Y,Z,n3,Nat.gcd_mul_left,Nat.gcd_mul_left] at K;have:r.natAbs*1=r.natAbs*Nat.gcd (Nat.gcd g'.natAbs u'.natAbs) v'.natAbs:=by omega
  exact(ji (by omega) this).symm
 have m:(z'.natAbs:Int)=z':=Int.natAbs_of_nonneg (by omega);have l:(c'.natAbs:Int)=c':=Int.natAbs_of_nonneg (by omega);have big:∀{p:Nat},p ∣ u'.natAbs->(p:Int) ∣ u:=λh=>i ▸ j6 (zah.mp h) (Int.dvd_mul_left _ _);have o:∀{p:Nat},p ∣ v'.natAbs->(p:Int) ∣ v:=λh=>j ▸ j6 (zah.mp h) (Int.dvd_mul_left _ _);have k1:Nat.Coprime (Nat.gcd u'.natAbs v'.natAbs) z'.natAbs:=by
  refine z5h λp t n =>?_;have C:=big (jA t (Nat.gcd_dvd_left _ _));have E:=o (jA t (Nat.gcd_dvd_right _ _));rw[H, <- m, <- l] at C;rw[I, <- m, <- l] at E;have Q:p ∣ z.natAbs:=by rw[s,uj];exact jA n (Nat.dvd_mul_left _ _)
  have:=Wg (Wg (z83 f n C) (z83 f n E)) Q;rw[z3s] at W;rw[W] at this;exact this
 have k2:Nat.Coprime (Nat.gcd u'.natAbs v'.natAbs) c'.natAbs:=by
  refine z5h λp t n =>?_;have C:=big (jA t (Nat.gcd_dvd_left _ _));have E:=o (jA t (Nat.gcd_dvd_right _ _));rw[H, <- m, <- l,Int.add_comm] at C;rw[I, <- m, <- l,Int.add_comm] at E;have Q:p ∣ c.natAbs:=by rw[w,uj];exact jA n (Nat.dvd_mul_left _ _)
  have:=Wg (Wg (z83 f.symm n C) (z83 f.symm n E)) Q;rw[z3s] at X;rw[X] at this;exact this
 have k3:Nat.Coprime (Nat.gcd u'.natAbs v'.natAbs) g'.natAbs:=by
  refine z5h λp t n =>?_;have:=Wg (Wg n (jA t (Nat.gcd_dvd_left _ _))) (jA t (Nat.gcd_dvd_right _ _));rw[cg] at this;exact this
 have R:x*c+a*z=g*r*u':=by rw[je, <- i,H,w,s];grind
 have S:y*c+b*z=g*r*v':=by rw[je, <- j,I,w,s];grind
 have J:z*c=g*r*(z'*(g'*c')):=by rw[s,w];generalize g=G at e ⊢;subst e;grind
 have a0:0<g*r:=wS A N;have d:∀k:Int,k.natAbs<=(g*r*k).natAbs:=λk=>by
  rw[uj];exact Nat.le_mul_of_pos_left _ (by omega)
 refine⟨A,N,j7 (by omega) (uN.mpr ⟨z',s⟩),j7 (by omega) (uN.mpr ⟨g'*z',by rw[s,e,je]⟩),?_,?_,?_,?_,?_,?_,?_⟩
 .have:=wS O (wS M L);omega
 .rw[z3s,uj,uj];exact Nat.Coprime.mul_right k1 (Nat.Coprime.mul_right k3 k2)
 .rw[R,J];grind
 .rw[S,J];grind
 .rw[R];exact d _
 .rw[S];exact d _
 .rw[J];exact d _
end Mth
namespace L2
open PySem PySem.Spec PyProof.Rows
section
variable {prog:Program}{w:World}{A:Around}{R:Result->Shared->Prop}{s:Shared}
def zja (M:Model)(A:Around)(ct:Option Expr)(env:Env)(Q:Bool->Shared->Prop)(E:WvP)(s:Shared):Prop:=
 match ct with
 | none=>Q true s
 | some c=>wpAny M A (isTrue c env (eval c env)) Q E s
def z9p {g:Pos}(I:Nat->Shared->Prop)
  (i:∀n s,I n s->wpAny (model prog w) A (pyNext it) (λr q=>match r with
   | none=>R (.ok .next) q
   | some v=>wpAny (model prog w) A (letOwnedTupleGo target it v) (λ_ E=>wpAny (model prog w) A (assign target env v) (λ_ t=>zja (model prog w) A ct env (λok b=>if ok=true then wpAny (model prog w) A (eval elt env) (λx u=>
     wpAny (model prog w) A (call (.builtin "list.append") [acc,x]) (λ_ y=>∃m,m<n/\I m y) (notedBy (model prog w) A env λe s'=>R (.error e) s') u)
     (notedBy (model prog w) A env λe s'=>R (.error e) s') b else ∃m,m<n/\I m b) (notedBy (model prog w) A env λe s'=>R (.error e) s') t) (notedBy (model prog w) A env λe s'=>R (.error e) s') E) (notedBy (model prog w) A env λe s'=>R (.error e) s') q) (notedBy (model prog w) A env λe s'=>R (.error e) s') s)
  (n:Nat) (h:I n s):
  codeAny (model prog w) A (.compLoop (.ListComp elt [⟨target,iter,ct.toList,0⟩] scope g) 0 it acc env) R s:=by
 refine codeAny_loop rfl I (λn s G =>?_) n h;show wpAny _ _ ((compTurn (.ListComp elt [⟨target,iter,ct.toList,0⟩] scope g) 0 it acc env).onRaise (λx=>do noteFrame x env;theTreesLotGoes x)) _ _ s;refine wpAny_noted ?_;rw[compTurn_list];refine wc (wpAny_standAt (wc (vS (i n s G) (λr q z =>?_) λ_ _ a=>a)))
 cases r with
 | none=>exact wp z
 | some v=>
  refine wc (vS z (λ_ E F =>?_) λ_ _ a=>a);refine wc (vS F (λ_ t C =>?_) λ_ _ a=>a)
  cases ct with
  | none=>
   refine wc (vS (wpAny_tests_nil (Q:=λok b=>ok=true/\b=t) ⟨rfl,rfl⟩) (λok b j =>?_) λ_ _ a=>a);obtain⟨rfl,rfl⟩:=j;have d:=C;simp only[zja,jI] at d;exact wc (wc (vS d (λx u l=>wc (vS l (λ_ y o=>wp (wp ⟨rfl,o⟩)) λ_ _ a=>a)) λ_ _ a=>a))
  | some c=>
   refine wc (wpAny_tests_one (vS (show wpAny (model prog w) A (isTrue c env (eval c env)) _ _ _ from C) (λp b j =>?_) λ_ _ a=>a))
   cases p with
   | false=>exact wp ⟨rfl,by simpa using j⟩
   | true=>
    have f:=j;simp only[jI] at f;exact wc (wc (vS f (λx u l=>wc (vS l (λ_ y o=>wp (wp ⟨rfl,o⟩)) λ_ _ a=>a)) λ_ _ a=>a))
end
noncomputable def z4k (env:Env)(a:List (Str × NameKind))(b:List (Str × Addr)):List (Str × Addr):=a.foldl (λc x=>if x.2 == .free then (x.1,(env.cells.lookup x.1).getD 0)::c else c) b
theorem z7b {d a:Type}{f:d->a->Sem (ForInStep a)}{g:d->a->a}:∀(l:List d) b,(∀x∈l,∀c,f x c=pure (.yield (g x c)))->forIn l b f=(pure (l.foldl (λc x=>g x c) b))
 | [],b,_=>rfl
 | x::l,b,h=>by
  rw[List.forIn_cons,h x wF];exact z7b l _ λy e=>h y (wq _ e)
def z89 {b:Scope}{env:Env}(h:∀x∈b.names,x.2 = .free->∃c,env.cells.lookup x.1=some c):closureFor b env=pure (z4k env b.names []):=by
 simp[closureFor];rw[z7b (g:=λx c=>if x.2 == .free then (x.1,(env.cells.lookup x.1).getD 0)::c else c) _ [] (λx j c=>by
  obtain⟨n,d⟩:=x
  by_cases i:d = .free
  .subst i;obtain⟨a,f⟩:=h _ j rfl;have e:cellOf env n=pure a:=by unfold cellOf;rw[f]
   simp[e,f]
  simp_all)]
 rfl
theorem za6 {c:Addr}:∀{a:List (Str × NameKind)}{b:List (Str × Addr)},(y,c)∈z4k env a b↔(y,c)∈b\/((y,NameKind.free)∈a/\c=(env.cells.lookup y).getD 0)
 | [],b=>by simp[z4k]
 | (n,k)::r,b=>by
  show (y,c)∈z4k env r _↔_;rw[za6]
  grind
theorem z25 {a:Type}{c:a}:∀{l:List (Str × a)},l.lookup y=some c->(y,c)∈l
 | [],h=>by simp at h
 | (n,j)::r,h=>by
  rw[v3] at h
  by_cases e:y=n
  .simp_all
  .have:(y == n)=false:=by simpa using e
   rw[this] at h;exact wq _ (z25 h)
theorem z3Q {a:Type}{c:a}:∀{l:List (Str × a)},(y,c)∈l->∃d,l.lookup y=some d
 | (n,j)::r,h=>by
  rw[v3]
  by_cases e:y=n
  .simp_all
  .have:(y == n)=false:=by simpa using e
   rw[this]
   rcases wn.mp h with h | h
   .simp_all
   .exact z3Q h
theorem z34 {env:Env}:∀{a:List (Str × NameKind)}{x:Str}{k:NameKind},(a.map λ(n,k)=>if (k == NameKind.free && env.scope.kind == .function && env.kindOf n == some .cell) then (n,NameKind.cell) else (n,k)).lookup x=some k->
  a.lookup x=some k\/(k = .cell/\a.lookup x=some .free)
 | [],_,_,h=>by simp at h
 | (n,j)::r,x,k,h=>by
  have f := @z34 env r x k;have b:List.lookup x ((if (j == NameKind.free && env.scope.kind == .function && env.kindOf n == some _)=true then (n,NameKind.cell) else (n,j))::(r.map _))=some k:=h
  by_cases e:(j == NameKind.free && env.scope.kind == .function && env.kindOf n == some .cell)=true
  .rw[if_pos e] at b;have g:j = .free:=by
    simp_all
   cases d:x == n with
   | true=>
    simp only[v3,d] at b ⊢
    simp_all
   | false=>
    simp only[v3,d] at b ⊢;exact f b
  .rw[if_neg e] at b
   cases d:x == n with
   | true=>
    simp only[v3,d] at b ⊢;exact .inl b
   | false=>
    simp only[v3,d] at b ⊢;exact f b
theorem z2H {env:Env}:∀{a:List (Str × NameKind)}{x:Str},a.lookup x=some .free->
  (a.map λ(n,k)=>if (k == NameKind.free && env.scope.kind == .function && env.kindOf n == some .cell) then (n,NameKind.cell) else (n,k)).lookup x=some .cell\/
  (a.map λ(n,k)=>if (k == NameKind.free && env.scope.kind == .function && env.kindOf n == some .cell) then (n,NameKind.cell) else (n,k)).lookup x=some .free
 | [],_,h=>by simp at h
 | (n,j)::r,x,h=>by
  have e := @z2H env r x;show List.lookup x ((if (j == NameKind.free && env.scope.kind == .function && env.kindOf n == some _)=true then (n,NameKind.cell) else (n,j))::_)=_\/List.lookup x ((if (j == NameKind.free && env.scope.kind == .function && env.kindOf n == some _)=true then (n,NameKind.cell) else (n,j))::_)=_
  cases d:x == n with
  | true=>
   simp[v3,d] at h
   cases h
   by_cases b:(NameKind.free == NameKind.free && env.scope.kind == .function && env.kindOf n == some .cell)=true
   .rw[if_pos b];simp[v3,d]
   .rw[if_neg b];simp_all
  | false=>
   simp[v3,d] at h
   by_cases b:(j == NameKind.free && env.scope.kind == .function && env.kindOf n == some .cell)=true
   .rw[if_pos b];simp only[v3,d];exact e h
   .rw[if_neg b];simp only[v3,d];exact e h
@[reducible] def Cx.compG (X:Cx)(a:Scope)(b:List Str)(C:Addr)(s:Shared)(H:Hp)(d:List Addr):Cx:=
 { X with N:=b,s₀:=s,H₀:=H,env:=compEnvC a (z4k X.env a.names []) C X.env,outer:=X.stack,stack:=X.stack,ex:=d,pn:=[],fn:=λy=>((z4k X.env a.names []).lookup y).isNone,xe:=λ_ _=>False }
def z5Y:TT:=λ_ H Q=>Q true H
def LcG (J:It)(g:TG)(q:TT)(r:TE)(Q:VK)(h:St)(f:Hp):Prop:=∃W:Nat->Nat->List V->St->Hp->Prop,(∃m,W 0 m [] h f)/\∀i m e n H,W i m e n H->
 e.length<sizeLine/\((J.stop i H/\∀p,H p=none->Q (.ref p) (upd H p (.lst e)))\/(J.go i H/\∀x j,J.yld i H x j->g x n j λa f=>q a f λb l=>if b=true then r a l λy o=>∃d,d<m/\W (i+1) d (e++[y]) a o else ∃d,d<m/\W (i+1) d e a l))
def tLcG (i:TI)(g:TG)(f:TT)(h:TE)(e:Nat)(d:List Nat):TE:=λa H Q=>i a H λJ b=>LcG J g f h Q (List.replicate e none++d.map λj=>(a[j]?).getD none) b
noncomputable def z6w (d g:List Str)(f:Nat)(e:List Nat)(a b:List (Str × NameKind)):Bool:=
 d.length == f+e.length && (e.zipIdx.all λp=>match d[f+p.2]? with
  | some y=>g[p.1]? == some y && a.lookup y == some .free
  | none=>false) && a.all (λx=>x.2 != .cell && (x.2 != .local || a.lookup x.1 == some .local) && (x.2 != .free || ((b.lookup x.1 == some .cell || b.lookup x.1 == some .free))))
section
variable {X:Cx}{pins:List (Addr × Obj)}{σ:St}{H:Hp}{s:Shared}
structure z4l (X:Cx)(N':List Str)(nt:Nat)(js:List Nat)(scope:Scope):Prop where
 len:N'.length=nt+js.length
 cap:∀k j,js[k]? = some j->∃y,N'[nt+k]? = some y/\X.N[j]? = some y/\scope.names.lookup y=some .free
 nocell:∀y∈scope.names,y.2 ≠ .cell
 loc:∀y∈scope.names,y.2 = .local->scope.names.lookup y.1=some .local
 free:∀y∈scope.names,y.2 = .free->X.env.kindOf y.1=some .cell\/X.env.kindOf y.1=some .free
def z6w.ok {g o:List Str}{l:Nat}{i:List Nat}{scope a:Scope}(t:X.N=o)(f:X.env.scope=a)(h:z6w g o l i scope.names a.names=true):z4l X g l i scope:=by
 unfold z6w at h;simp only[vQ,beq_iff_eq] at h;obtain⟨⟨p,m⟩,n⟩:=h;rw[List.all_eq_true] at m n;have b:∀y∈scope.names,y.2 ≠ .cell/\(y.2 = .local->scope.names.lookup y.1=some .local)/\(y.2 = .free->a.names.lookup y.1=some .cell\/a.names.lookup y.1=some .free):=λy d=>by
  have:=n y d;simp only[vQ,Bool.or_eq_true,bne_iff_ne,beq_iff_eq] at this;refine⟨this.1.1,λz =>?_,λz =>?_⟩
  .rcases this.1.2 with q | q
   .exact absurd z q
   .exact q
  .rcases this.2 with q | q
   .exact absurd z q
   .exact q
 refine⟨p,λk j r =>?_,λy d=>(b y d).1,λy d=>(b y d).2.1,λy d z =>?_⟩
 .have s:(j,k)∈i.zipIdx:=by
   rw[List.mem_zipIdx_iff_getElem?];exact r
  have:=m (j,k) s
  cases e:g[l+k]? with
  | none=>simp only[e] at this;cases this
  | some y=>
   simp_all
 .show X.env.scope.names.lookup y.1=some .cell\/X.env.scope.names.lookup y.1=some .free;rw[f];exact(b y d).2.2 z
theorem z4l.cells (c:z4l X N' nt js scope)(I:Inv X pins σ H s):∀x∈scope.names,x.2 = .free->∃a,X.env.cells.lookup x.1=some a:=λx d b=>I.ok.has x.1 (c.free x d b)
def z4l.clo (c:z4l X N' nt js scope)(I:Inv X pins σ H s)(h:(z4k X.env scope.names []).lookup y=some a):X.env.cells.lookup y=some a/\(y,NameKind.free)∈scope.names:=by
 rcases za6.mp (z25 h) with z | ⟨d,f⟩
 .simp at z
 .obtain⟨b,e⟩:=c.cells I _ d rfl
  simp_all
def z4l.has {d:List Str}{f:Nat}{e:List Nat}{b:Scope}(c:z4l X d f e b)(I:Inv X pins σ H s){y:Str}(h:(y,NameKind.free)∈b.names):∃a,(z4k X.env b.names []).lookup y=some a:=
 z3Q (za6.mpr (.inr ⟨h,rfl⟩))
theorem Inv.compG (I:Inv X pins σ H s)(hk:scope.kind = .function)(c:z4l X N' nt js scope)
  (J:s.heap.objs.size<=C) (g:∀b∈fp,FpOk X pins H b) (K:∀b∈fp,b<s.heap.objs.size) (keep:∀b o,s.heap.get? b=some o->h1.get? b=some o) (N:∃m,h1.Ns C m) (Y:X.calm=true):
  Inv (X.compG scope N' C s H fp) [] (List.replicate nt none++js.map λj=>(σ[j]?).getD none) H { s with heap:=h1,toks:=t1 }:=by
 have nofs:∀b∈fp,b ∉ frs X.stack:=λb f z=>by
  rcases wn.mp (I.stkSub b z) with q | q
  .exact(g b f).2.1 q
  .exact(g b f).2.2.1 q
 have h:∀b o,X.base.get? b=some o->b ∉ fp:=λb o e f=>by
  have d:=(I.ok.bs b o e).1
  rcases(g b f).2.2.2.1 with z | z
  .exact I.ok.noex b o e z
  .exact absurd (wK (wC d) z) (vZ _)
 have kd:∀{y:Str},((compEnvC scope (z4k X.env scope.names []) C X.env).kindOf y=some .cell\/(compEnvC scope (z4k X.env scope.names []) C X.env).kindOf y=some .free)->(y,NameKind.free)∈scope.names:=λ{y} q=>by
  rcases q with q | q
  .rcases z34 (env:=X.env) q with z | ⟨_,z⟩
   .exact absurd rfl (c.nocell _ (z25 z))
   .exact z25 z
  .rcases z34 (env:=X.env) q with z | ⟨z,_⟩
   .exact z25 z
   .cases z
 have n:∀{a:Addr}{v:Option Value},s.heap.IsCell a v->h1.IsCell a v:=λ⟨o,ho,Z⟩=>⟨o,keep _ _ ho,Z⟩
 obtain⟨m1,M⟩:=N;refine⟨⟨I.ok.mod,hk,I.ok.glob,I.ok.blt,J,(λy z a F d=>I.ok.inj y z a (c.clo I F).1 (c.clo I d).1),(λy q=>c.has I (kd q)),(λy a hf e =>?_),(λ_=>I.ok.hd Y),I.ok.frames,.inl rfl,(λb f=>⟨wJ (wK (K b f) J),(λy a e=>(g b f).2.2.2.2.1 y a (c.clo I e).1)⟩),(λb o e=>⟨I.bk b o e,(I.bs b o e).2⟩),wV I.ok.bsz I.sz,h,nofs,I.stack,I.stkFree,I.tbs⟩,
  rfl,I.bare,Un.kept keep,⟨m1,M,(λi y v F d hv =>?_)⟩,(λy a e =>?_),I.hok.fresh J,(λy a e=>I.freeC y a (c.clo I e).1),(λp hp=>by simp at hp),I.hok.kept keep,?_⟩
 .have x:((z4k X.env scope.names []).lookup y).isNone=true:=hf;have U:(z4k X.env scope.names []).lookup y=some a:=e;rw[U] at x
  cases x
 .rcases wW i nt with E | E
  .rw[wM (by simpa using E),jy] at d;rw[if_pos E] at d
   cases d
  .rw[wX (by simpa using E),uM,wO] at d
   cases G:js[i - nt]? with
   | none=>rw[G] at d;cases d
   | some j=>
    rw[G] at d;obtain⟨y',T,q2,Q⟩:=c.cap _ _ G;have L:nt+(i - nt)=i:=by lia
    rw[L] at T;have w:N'[i]? = some y:=F;rw[T] at w
    cases w
    have d:some ((σ[j]?).getD none)=some (some v):=d;have O:σ[j]? = some (some v):=by
     cases R:σ[j]? with
     | none=>rw[R] at d;cases d
     | some z=>rw[R] at d;exact congrArg some (w6 d)
    have A:=c.free _ (z25 Q) rfl;obtain⟨m,hn,hl⟩:=I.loc;obtain⟨u,r,l⟩:=hl j y v q2 O (.inr A);refine⟨u,r,.inr ⟨z2H (env:=X.env) Q,?_⟩⟩
    rcases l with ⟨l,_⟩ | ⟨_,a,W,t⟩
    .have S:X.env.kindOf y=some .local:=l
     rcases A with z | z
     .rw[S] at z;cases z
     .rw[S] at z;cases z
    .obtain⟨b,f⟩:=c.has I (z25 Q);have:=(c.clo I f).1;rw[W] at this
     cases this
     exact⟨a,f,n t⟩
 .obtain⟨v,z⟩:=I.cell y a (c.clo I e).1;exact⟨v,n z⟩
 .show (List.replicate nt none++js.map λj=>(σ[j]?).getD none).length=N'.length;rw[wG,uM,we,c.len]
def zdt {c5:Pos}(hc:X.calm=true)(hi:PI X target iter wi)(hk:scope.kind = .function)(cp:z4l X N' nt js scope)
  (hg:∀C s H K,PG (X.compG scope N' C s H K) target g)
  (ht:match ct with
   | none=>tc=z5Y
   | some c=>∀C s H K,PT (X.compG scope N' C s H K) c tc)
  (he:∀C s H K,PE (X.compG scope N' C s H K) elt te) (hs:fI iter X) (I:Inv X pins σ H s) (h:tLcG wi g tc te nt js σ H Q)
  (fin:∀C D M s5 m5,Inv X pins σ M s5->s5.heap.Ns C m5->X.env.locals<C->(∀x a,X.env.cells.lookup x=some a->a<C)->(∀{N:St}{s':Shared}{h':Heap},Inv X pins N M s'->Heap.SameBut C s'.heap h'->Inv X pins N M { s' with heap:=h' })->Q (.ref D) M->compPost (model X.prog X.w) X.A X.xe use R (.ref D) C (.ok .next) s5):
  wpAny (model X.prog X.w) X.A (comprehension (.ListComp elt [⟨target,iter,ct.toList,0⟩] scope c5) scope X.env p0 (newList []) false (eval iter X.env) use) R X.xe s:=by
 refine wpAny_comprehension_free rfl hs (z89 (cp.cells I)) hk cp.loc (thn (hi pins s σ H _ I h) λv s1 h1=>thn h1 λe8 G h2 =>?_);obtain⟨it,K,tn,J,H2,e,I2,T,b8,f2,W,⟨m0,w0⟩,c9⟩:=h2;subst e;have b3:∀b∈K,b<G.heap.objs.size:=λb l=>by
  obtain⟨o,e,_⟩:=T.obj _ _ b8 b l;exact wC e
 refine uv (wpAny_newFunctionEnv cp.nocell (by intro y hy;simp at hy) (λg1 a1 Z =>?_) hk);dsimp only at a1 Z ⊢;generalize b2:G.heap.push { cls :=.type "list",dict:=none,data :=.seq ([]).toArray }=G2 at a1 Z ⊢;have hC:G2.objs.size=G.heap.objs.size+1:=by rw[<- b2,vX]
 have a5:G.heap.objs.size≠G2.objs.size:=by rw[hC];exact wJ (uW _)
 have t:∀b,b<G.heap.objs.size->b≠G2.objs.size/\b≠G.heap.objs.size:=λb l=>⟨by rw[hC];exact wJ (v7 l),wJ l⟩
 have b5:∀b o,G.heap.get? b=some o->g1.get? b=some o:=λb o e=>Z.extBut b o (t b (wC e)).1 (wg _ (b2 ▸ wg _ e));have c4:g1.get? G.heap.objs.size=some { cls :=.type "list",data :=.seq ([]).toArray 0 }:=Z.extBut _ _ a5 (wg _ (b2 ▸ wv _ rfl));have E:G.heap.objs.size<=G2.objs.size:=by rw[hC];exact Nat.le_succ _
 have S:∀y a,X.env.cells.lookup y=some a->a<G.heap.objs.size:=λy a e=>by
  obtain⟨v,o,ho,_⟩:=I2.cell y a e;exact wC ho
 generalize e7:G2.objs.size=C at*;generalize F:G.heap.objs.size=D at*
 let Y:Cx:=X.compG scope N' C G H2 K
 have IY:Inv Y [] (List.replicate nt none++js.map λj=>(σ[j]?).getD none) H2 { G with heap:=g1,toks:=G.toks+([]:List (Str × Value)).length }:=I2.compG hk cp (by rw[F];exact E) f2 (by rw[F];exact b3) b5 ⟨_,a1⟩ hc;have c2:∀b∈K,b≠D:=λb l=>(t b (b3 b l)).2;have d5:∀b∈K,b≠C:=λb l=>(t b (b3 b l)).1;have d2:H2 D=none:=I2.hok.fresh (by rw[F];exact ww _);have d1:D ∉ frs X.stack:=λz=>by
  obtain⟨_,o,e,_⟩:=I2.stack.mem z;exact absurd (wC e) (by rw[F];exact vZ _)
 have a2:∀{M:Hp}{pl:List (Addr × Obj)},(∀b∈K,M b=none)->(∀p∈pl,p.1=D)->∀b∈K,FpOk Y pl M b:=λhn hp b l=>⟨hn b l,d5 b l,(λz=>IY.ok.exfs b l z),.inl l,(λy a e=>(f2 b l).2.2.2.2.1 y a (cp.clo I2 e).1),λp e2 z=>c2 b l (z.symm.trans (hp p (by simpa[Y] using e2)))⟩
 have a9:∀s3:Shared,s3={ G with heap:=g1,toks:=G.toks+([]:List (Str × Value)).length }->
   codeAny (model X.prog X.w) X.A (.compLoop (.ListComp elt [⟨target,iter,ct.toList,0⟩] scope c5) 0 (.ref it) (.ref D) (compEnvC scope (z4k X.env scope.names []) C X.env)) (compPost (model X.prog X.w) X.A X.xe use R (.ref D) C) s3:=by
  intro s3 e3;refine z9p (λn s'=>∃i O f N M,Inv Y [] N M s'/\s'.heap.get? D=some { cls :=.type "list",data :=.seq f.toArray f.length }/\Vals O f/\M D=none/\tn i s'.heap/\(∀b∈K,M b=none)/\W i n O N M) ?_ m0 ⟨0,[],[],_,H2,e3 ▸ IY,?_,.nil,d2,?_,λb l=>(f2 b l).1,w0⟩
  .rintro n s4 ⟨i,O,f,a3,H4,I4,d7,a6,a0,c8,c3,w4⟩;obtain⟨hsz,step⟩:=c9 i n O a3 H4 w4;have e0:O.length=f.length:=a6.length;have c1:Inv Y [(D,{ cls :=.type "list",data :=.seq f.toArray f.length })] a3 H4 s4:=I4.pins_of λp hp=>by
    rw[wj.mp hp];exact⟨d7,a0,a5,d1,λv z=>by cases z⟩
   have one:∀p∈[(D,({ cls :=.type "list",data :=.seq f.toArray f.length }:Obj))],p.1=D:=λp hp=>by rw[wj.mp hp]
   rcases step with ⟨stop,qn⟩ | ⟨go,step⟩
   .refine vS (T.done Y rfl rfl rfl hc i _ s4 a3 H4 (λ_ _=>False) c1 (a2 c3 one) c8 stop) (λr s5 hr =>?_) λ_ _ z=>z.elim;obtain⟨rfl,I5⟩:=hr;have d8:s5.heap.get? D=some { cls :=.type "list",data :=.seq f.toArray f.length }:=(I5.pin (D,_) (by simp)).1;obtain⟨m5,e1,_⟩:=I5.loc;have U:Un (frs X.stack) K H2 H4 G.heap s5.heap:=I5.base;have nC:∀b o,G.heap.get? b=some o->b≠C:=λb o e=>(t b (F ▸ wC e)).1;have nD:∀b o,G.heap.get? b=some o->b≠D:=λb o e=>(t b (F ▸ wC e)).2;have U':Un (frs X.stack) K H2 (upd H4 D (.lst O)) G.heap s5.heap:=⟨U.keep,U.slot,λb o e n e5=>by rw[z0d (nD b o e)];exact U.free b o e n e5,U.there,λb xs e=>by rw[z0d (z1P (U.tups b xs e) a0)];exact U.tups b xs e,λb o xs e=>by rw[z0d (z1P (U.frzs b o xs e) a0)];exact U.frzs b o xs e,λb ps e=>by
      obtain⟨more,q⟩:=U.tbls b ps e;exact⟨more,by rw[z0d (z1P q a0)];exact q⟩⟩
    have e6:HOk X.prog X.w (upd H4 D (.lst O)) s5.heap:=HOk.track I5.hok a0 ⟨uL hsz,f,_,a6,d8⟩;have I6:Inv X pins σ (upd H4 D (.lst O)) s5:=I2.call' (s':=s5) I5.os U' e6 I5.bare (λb l=>⟨(f2 b l).2.2.2.1,(f2 b l).2.1,(f2 b l).2.2.2.2.1,(f2 b l).2.2.2.2.2⟩);exact fin C D _ s5 m5 I6 e1 (wK (by rw[<- F];exact I2.lt) E) (λ_ _ e=>wK (S _ _ e) E) (λI7 sb=>I7.turned (it:=C) (λb o n e=>sb.extBut b o n e) (by rw[z0d (vN a5)];exact I5.free) (jr (wK (by rw[<- F];exact I2.lt) E)) (.inr (wV I2.sz (by rw[F];exact E))) (λx a e z=>by
      have:=S x a e;rw[z] at this;exact absurd (wK this E) (vZ _)) (λp hp z=>by
      have:=wC (I2.pin p hp).1;rw[z,F] at this;exact absurd (wK this E) (vZ _))) (qn D a0)
   .refine vS (T.item Y rfl rfl rfl hc i _ s4 a3 H4 (λ_ _=>False) c1 (a2 c3 one) c8 go) (λr s5 hr =>?_) λ_ _ z=>z.elim;obtain⟨u,rfl,h5⟩:=hr;refine vS h5 (λ_ s6 h6 =>?_) λ_ _ z=>z.elim;obtain⟨xv,H6,I6,r6,y6,b9,d6⟩:=h6;have d3:=I6.pinned (a2 d6 one) (T.obj _ _ b9);have after:∀{a8:St}{H8:Hp}{s8:Shared},Inv Y _ a8 H8 s8->_:=λ{a8 H8 s8} (I8:Inv Y ([(D,{ cls :=.type "list",data :=.seq f.toArray f.length })]++z8K K s6.heap) a8 H8 s8)=>
     (show Aa4 (s8.heap.get? D=some { cls :=.type "list",data :=.seq f.toArray f.length }/\H8 D=none) (tn (i+1) s8.heap) (∀b∈K,H8 b=none) (Inv Y [] a8 H8 s8) from by
      have pD:=I8.pin (D,{ cls :=.type "list",data :=.seq f.toArray f.length }) (by simp);refine⟨⟨pD.1,pD.2.1⟩,T.keep _ _ _ b9 λb l o e=>(I8.pin (b,o) (vh _ (vh _ (z45 l e)))).1,λb l =>?_,I8.pins_of (pins':=[]) λp hp=>by simp at hp⟩;obtain⟨o,e,d⟩:=T.obj _ _ b9 b l;exact(I8.pin (b,o) (vh _ (vh _ (z45 l e)))).2.1)
    refine vS (hg C G H2 K _ s6 a3 H6 xv u _ d3 r6 (step xv H6 y6)) (λ_ s7 h7 =>?_) λ_ _ z=>z.elim;obtain⟨L,H7,I7,q7⟩:=h7;have d0:∀b7 a4,Inv Y _ L a4 b7->(te L a4 λy H3=>∃m',m'<n/\W (i+1) m' (O++[y]) L H3)->_:=λb7 a4 d4 qe=>
     vS (Q':=λyv s8=>wpAny (model X.prog X.w) X.A (call (.builtin "list.append") [.ref D,yv]) (λ_ s6=>∃m,m<n/\∃i O f N M,Inv Y [] N M s6/\s6.heap.get? D=some { cls :=.type "list",data :=.seq f.toArray f.length }/\Vals O f/\M D=none/\tn i s6.heap/\(∀b∈K,M b=none)/\W i m O N M) (notedBy (model X.prog X.w) X.A (compEnvC scope (z4k X.env scope.names []) C X.env) λe s'=>compPost (model X.prog X.w) X.A X.xe use R (.ref D) C (.error e) s') s8) (he C G H2 K _ b7 L a4 _ d4 qe) (λyv s8 h8=>by
      obtain⟨y,H8,I8,r8,m',b4,w8⟩:=h8;obtain⟨⟨b6,a7⟩,c0,b1,b0⟩:=after I8;refine append_at (hsz:=by rw[v6, <- e0];exact uL hsz) b6 λh9 c7 d9 =>?_;refine⟨m',b4,i+1,O++[y],f++[yv],L,H8,b0.turned (it:=D) (t':=s8.toks) (λb o n e=>c7.extBut b o n e) a7 a5 (.inr (by rw[F];exact ww _)) (λy a e z=>by
        have:=S y a (cp.clo I2 e).1;rw[z] at this;exact vZ _ this) (λp hp=>by simp[Y] at hp),?_,Vals.append a6 (.cons r8 .nil),a7,T.keep _ _ _ c0 λb l o e=>c7.extBut b o (c2 b l) e,b1,w8⟩
      show h9.get? D=_;rw[d9];simp) (E':=notedBy (model X.prog X.w) X.A (compEnvC scope (z4k X.env scope.names []) C X.env) λe s'=>compPost (model X.prog X.w) X.A X.xe use R (.ref D) C (.error e) s') (λ_ _ z=>z.elim)
    cases ct with
    | none=>
     have e4:tc=z5Y:=ht;subst e4;simp only[zja,jI];have c6:if true=true then te L H7 λy H3=>∃m',m'<n/\W (i+1) m' (O++[y]) L H3 else ∃m',m'<n/\W (i+1) m' O L H7:=q7
     rw[if_pos rfl] at c6;exact d0 s7 H7 I7 c6
    | some c=>
     refine vS (ht C G H2 K _ s7 L H7 _ I7 q7) (λb s8 h8 =>?_) λ_ _ z=>z.elim;obtain⟨H8,I8,q8⟩:=h8
     cases b with
     | true=>
      rw[if_pos rfl] at q8 ⊢;exact d0 s8 H8 I8 q8
     | false=>
      rw[if_neg vI] at q8 ⊢;obtain⟨m',b4,w8⟩:=q8;obtain⟨⟨b6,a7⟩,c0,b1,b0⟩:=after I8;exact⟨m',b4,i+1,O,f,L,H8,b0,b6,a6,a7,c0,b1,w8⟩
  .rw[e3];exact c4
  .rw[e3];exact T.keep _ _ _ b8 λb _ o e=>b5 b o e
 exact codeAny_compStart_list (a9 _ rfl) (T.self _ 0 _ _ _ (T.keep _ _ _ b8 λb _ o e=>b5 b o e) (a9 _ rfl))
def zkY {b:Pos}(i:X.calm=true)(m:PI X target iter wi)(n:scope.kind = .function)(f:z4l X N' nt js scope)
  (l:∀C s H a,PG (X.compG scope N' C s H a) target g)
  (r:match ct with
   | none=>tc=z5Y
   | some c=>∀C s H a,PT (X.compG scope N' C s H a) c tc)
  (j:∀C s H a,PE (X.compG scope N' C s H a) elt te) (p:autoParam (fI iter X) jC1):PE X (.ListComp elt [⟨target,iter,ct.toList,0⟩] scope b) (tLcG wi g tc te nt js):=by
 intro d s A H Q I h;rw[eval_ListComp];exact zdt i m n f l r j p I h λC D w z t e o _ _ u q=>⟨t,o,λy sb=>⟨.ref D,_,u e sb,rfl,q⟩⟩
def zkB {b:Pos}(f:X.calm=true)(j:QI X target iter wi)(l:scope.kind = .function)(e:z4l X N' nt js scope)
  (i:∀C s H a,QG (X.compG scope N' C s H a) target g)
  (d:match ct with
   | none=>tc=z5Y
   | some c=>∀C s H a,QT (X.compG scope N' C s H a) c tc)
  (h:∀C s H a,QE (X.compG scope N' C s H a) elt te) (m:autoParam (fI iter X) jC1):QE X (.ListComp elt [⟨target,iter,ct.toList,0⟩] scope b) (tLcG wi g tc te nt js):=by
 refine⟨zkY f j.p l e (λC s H a=>(i C s H a).p) ?_ (λC s H a=>(h C s H a).p) m⟩
 cases ct with
 | none=>exact d
 | some c=>exact λC s H a=>(d C s H a).p
def zkv {a:Pos}(d:X.N.Nodup)(e:X.N[i]? = some x)(b:X.env.scope.names.lookup x=some .local):QG X (.Name x a) (z3t i):=⟨zcY d e (.inl b) (.inr b)⟩
end
theorem z5V:∀ns {a:List Value},Vals (ns.map V.int) a->∃l:List (Int × Tok),a=l.map (λp=>Value.int p.1 p.2)/\l.map (·.1)=ns
 | [],_,r=>by cases r;exact⟨[],rfl,rfl⟩
 | n::ns,_,r=>by
  cases r with
  | cons r1 r2=>
   obtain⟨t,rfl⟩:=(r1)
   obtain⟨l,rfl,b⟩:=z5V ns r2;exact⟨(n,t)::l,rfl,by simp_all⟩
theorem z7h (bt:Nat->Nat->Bool):∀k,argBest bt k<=k
 | 0=>ww _
 | k+1=>by
  rw[argBest]
  split
  .simp_all
  .exact Nat.le_succ_of_le (z7h bt k)
theorem z6x (f:Nat->Int):∀k j,j<=k->f j<=f (argBest (λi j=>decide (f i > f j)) k)
 | 0,j,h=>by
  have:j=0:=by lia
  subst this;exact vO _
 | k+1,j,h=>by
  have a:=z6x f k;rw[argBest]
  grind
section
variable {X:Cx}
def zmW (K:W.Frag):List V->Hp->VK->Prop:=λd H Q=>∃(a:Addr) (b:List Int),d=[.ref a]/\SqL K H a (b.map V.int)/\b≠[]/\∀m,m∈b->(∀x∈b,x<=m)->Q (.int m) H
def ze8 (o:X.calm=true):z15 X (.builtin "max") (zmW X.K):=by
 intro n s S H xs R Q I r h;obtain⟨a,f,rfl,A,z,q⟩:=h;obtain⟨u,rfl,L⟩:=z4p r
 cases (show u=Value.ref a from L)
 obtain⟨G,E,pl,_⟩:=I.list A;obtain⟨l,rfl,m⟩:=z5V f E;have y:l.length=f.length:=by rw[<- m,we]
 have d:0<l.length:=by
  grind
 have J:∀i,numAt l.toArray i=(f[i]?).getD 0:=λi=>by
  unfold numAt;rw[<- m,wO];simp
 refine max_intList (xs:=l.toArray) (I.ok.hd o) (by have:=pl.isList;simpa[intItems] using this) (by simpa using d) λv N M e p =>?_;obtain⟨t,rfl⟩:=intItems_at e;generalize b:argBest _ (l.toArray.size - 1)=k at*;have g:k<=l.length - 1:=by
  have:=z7h (λi j=>decide (numAt l.toArray i > numAt l.toArray j)) (l.toArray.size - 1);rw[b] at this;simpa using this
 have w:k<f.length:=by lia
 refine⟨.int _,H,I.kept (t':=M) p,⟨t,rfl⟩,q _ ?_ λx F =>?_⟩
 .simp_all
 .obtain⟨j,O,rfl⟩:=vj.mp F;have C:l.toArray.size=l.length:=by simp
  have:=z6x (numAt l.toArray) (l.toArray.size - 1) j (by lia);rw[b] at this
  simp_all
def zmU (K:W.Frag):List V->Hp->VK->Prop:=λd H Q=>∃(a:Addr) (b:List Int),d=[.ref a]/\SqL K H a (b.map V.int)/\Q (.int b.sum) H
def ze4 (d:X.calm=true):z15 X (.builtin "sum") (zmU X.K):=by
 intro b s x H xs w Q I r h;obtain⟨a,j,rfl,f,q⟩:=h;obtain⟨u,rfl,m⟩:=z4p r
 cases (m)
 obtain⟨i,g,pl,_⟩:=I.list f;obtain⟨l,rfl,p⟩:=z5V j g;refine sum_intListG (xs:=l.toArray) (I.ok.hd d) (by have:=pl.isList;simpa[intItems] using this) λo t n e =>?_;refine⟨.int _,H,I.kept e,⟨n,rfl⟩,?_⟩;rw[preSum_eq,uD (by simp)]
 simp_all
def z15.imp {f:Value}{r r':List V->Hp->VK->Prop}(h:z15 X f r)(i:∀xs H Q,r' xs H Q->r xs H Q):z15 X f r':=λa s e H xs d Q I b q=>h _ s e H xs d Q I b (i xs H Q q)
end
def z5y {d:Type}{xs:List d}{i:Int}(e:0<=i)(f:i<xs.length):∃v∈xs,atI xs i=some v:=by
 have a:i.toNat<xs.length:=by lia
 have b:i=i.toNat:=by lia
 refine⟨xs[i.toNat],jF a,?_⟩;have q  := zj9 (wm a);rw[<- b] at q;exact q
section
variable {X:Cx}{pins:List (Addr × Obj)}{σ:St}{H:Hp}{s:Shared}
def zkM {b a py:Pos}(u:X.N.Nodup)(l:X.N[iy]? = some y)(f:X.env.scope.names.lookup y=some .local)(w:X.calm=true)(G:PI X target iter wi)(J:scope.kind = .function)(t:z4l X N' nt js scope)
  (F:∀(C:Addr) (s:Shared) (H:Hp) (d:List Addr),PG (X.compG scope N' C s H d) target g)
  (O:match ct with
   | none=>tc=z5Y
   | some c=>∀(C:Addr) (s:Shared) (H:Hp) (d:List Addr),PT (X.compG scope N' C s H d) c tc)
  (E:∀(C:Addr) (s:Shared) (H:Hp) (d:List Addr),PE (X.compG scope N' C s H d) elt te) (m:autoParam (swapsWith (.ListComp elt [⟨target,iter,ct.toList,0⟩] scope b) (some (.Name y py)) a.line X.env=pure true) jA1) (M:autoParam (fI iter X) jC1):PS X (.Assign [.Name y py] (.ListComp elt [⟨target,iter,ct.toList,0⟩] scope b) a) (tAsg (tLcG wi g tc te nt js) (z3t iy)):=by
 intro i s σ H Dn I h;rw[exec_Assign_Name_used _ _ _ _ m];refine wc (wpAny_standAt (wc ?_));show wpAny _ X.A (do let _ <- comprehension (.ListComp elt [⟨target,iter,ct.toList,0⟩] scope b) scope X.env _ (newList []) false (eval iter X.env) (some (assign (.Name y py) X.env))) _ _ s;refine wc (vS (zdt (R:=λ_ o=>SP X i Dn .next o) w G J t F O E M I h λC D W s5 S p K lt Q T q =>?_) (λ_ o L=>wp (wp L)) λ_ _ e=>e);show wpAny _ X.A (assign (.Name y py) X.env (.ref D)) _ _ _;refine wpAny_assign_Name (z8n p u l (.inl f) (show RelV (.ref D) (.ref D) from rfl) (λs7 r U =>?_) (.inr f));obtain⟨Y,n,j⟩:=U;exact⟨S,K.sameBut n (jr (j.elim (λz=>z ▸ lt) (Q _ _))),λZ sb=>⟨_,_,T r sb,q⟩⟩
def zkq {d b py:Pos}(l:X.N.Nodup)(e:X.N[iy]? = some y)(f:X.env.scope.names.lookup y=some .local)(m:X.calm=true)(q:QI X target iter wi)(r:scope.kind = .function)(j:z4l X N' nt js scope)
  (o:∀(C:Addr) (s:Shared) (H:Hp) (a:List Addr),QG (X.compG scope N' C s H a) target g)
  (i:match ct with
   | none=>tc=z5Y
   | some c=>∀(C:Addr) (s:Shared) (H:Hp) (a:List Addr),QT (X.compG scope N' C s H a) c tc)
  (n:∀(C:Addr) (s:Shared) (H:Hp) (a:List Addr),QE (X.compG scope N' C s H a) elt te) (h:autoParam (swapsWith (.ListComp elt [⟨target,iter,ct.toList,0⟩] scope d) (some (.Name y py)) b.line X.env=pure true) jA1) (t:autoParam (fI iter X) jC1):QS X (.Assign [.Name y py] (.ListComp elt [⟨target,iter,ct.toList,0⟩] scope d) b) (tAsg (tLcG wi g tc te nt js) (z3t iy)):=by
 refine⟨zkM l e f m q.p r j (λC s H a=>(o C s H a).p) ?_ (λC s H a=>(n C s H a).p) h t⟩
 cases ct with
 | none=>exact i
 | some c=>exact λC s H a=>(i C s H a).p
end
end L2
namespace Pu
open PySem PySem.Spec PyProof.Rows L2
inductive D where
 | non | bl (b:Bool) | int (i:Int) | str (x:Str) | tup (l:List D) | lst (l:List D) | dct (ks vs:List D) | fn (n:Nat)
instance:Inhabited D:=⟨.non⟩
noncomputable def z6r:Nat->Str
 | 0=>"turn_by" | 1=>"turn_among" | 2=>"step_of" | 3=>"step_among" | _=>""
noncomputable def kD:Key->D
 | .inl i =>.int i
 | .inr x =>.str x
section
variable (K:W.Frag)(mg:WmP)
mutual
/-- the value v stands for d,in the heap G -/
def RD (G:Hp):D->V->Prop
 | .non,v=>v = .non
 | .bl b,v=>v = .bl b
 | .int i,v=>v = .int i
 | .str x,v=>v = .str x
 | .tup g,v=>∃a d,v = .ref a/\SqT K G a d/\RDs G g d
 | .lst g,v=>∃a d,v = .ref a/\SqL K G a d/\RDs G g d
 | .dct h vs,v=>∃a d,v = .ref a/\RDs G vs d/\((∃e:List (Key × V),Rd G a (.dK e)/\h=e.map (λp=>kD p.1)/\d=e.map (·.2)))
 | .fn n,v=>∃f,v = .ref f/\mg (z6r n)=some (.ref f)
def RDs (G:Hp):List D->List V->Prop
 | [],a=>a=[]
 | d::b,a=>∃x r,a=x::r/\RD G d x/\RDs G b r
end
end
section
variable {K:W.Frag}{mg:WmP}{G G' H H':Hp}
def Same.refl':Same H H:=λ_ _ h=>h
def z02 {A B C:Hp}(h:Same A B)(b:Same B C):Same A C:=λa o e=>b a o (h a o e)
def z1y {a:Addr}{xs:List V}(e:Same G G')(h:SqL K G a xs):SqL K G' a xs:=by
 rcases h with (h | ⟨o,h⟩) | h
 .exact .inl (.inl (e _ _ h))
 .exact .inl (.inr ⟨o,e _ _ h⟩)
 .exact .inr h
def z0G {a:Addr}{xs:List V}(e:Same G G')(h:SqT K G a xs):SqT K G' a xs:=by
 rcases h with (h | ⟨o,h⟩) | h
 .exact .inl (.inl (e _ _ h))
 .exact .inl (.inr ⟨o,e _ _ h⟩)
 .exact .inr h
mutual
theorem RD.same (e:Same G G'):∀(d:D) {v:V},RD K mg G d v->RD K mg G' d v
 | .non,_,h=>by simpa[RD] using h
 | .bl _,_,h=>by simpa[RD] using h
 | .int _,_,h=>by simpa[RD] using h
 | .str _,_,h=>by simpa[RD] using h
 | .fn _,_,h=>by rw[RD] at h ⊢;exact h
 | .tup i,_,h=>by
  rw[RD] at h ⊢;obtain⟨a,g,b,j,f⟩:=h;exact⟨a,g,b,z0G e j,RDs.same e i f⟩
 | .lst i,_,h=>by
  rw[RD] at h ⊢;obtain⟨a,g,b,j,f⟩:=h;exact⟨a,g,b,z1y e j,RDs.same e i f⟩
 | .dct n vs,_,h=>by
  rw[RD] at h ⊢;obtain⟨a,g,b,f,l⟩:=h;exact⟨a,g,b,RDs.same e vs f,l.imp λm q=>⟨q.1.imp (e _ _) λ⟨o,q⟩=>⟨o,e _ _ q⟩,q.2⟩⟩
theorem RDs.same (e:Same G G'):∀(ds:List D) {xs:List V},RDs K mg G ds xs->RDs K mg G' ds xs
 | [],_,h=>by simpa[RDs] using h
 | d::ds,_,h=>by
  rw[RDs] at h ⊢;obtain⟨x,r,a,b,f⟩:=h;exact⟨x,r,a,RD.same e d b,RDs.same e ds f⟩
end
def RDs.nil:RDs K mg G [] []:=by rw[RDs]
def RDs.cons {d:D}{v:V}{ds:List D}{vs:List V}(h:RD K mg G d v)(t:RDs K mg G ds vs):RDs K mg G (d::ds) (v::vs):=by exact⟨v,vs,rfl,h,t⟩
theorem RDs.len:∀{ds:List D}{vs:List V},RDs K mg G ds vs->vs.length=ds.length
 | [],_,h=>by subst h;rfl
 | _::_,_,h=>by
  obtain⟨x,r,rfl,_,a⟩:=h;simp[RDs.len a]
theorem RDs.app:∀{ds es:List D}{vs a:List V},RDs K mg G ds vs->RDs K mg G es a->RDs K mg G (ds++es) (vs++a)
 | [],_,_,_,h,k=>by subst h;exact k
 | _::_,_,_,_,h,k=>by
  obtain⟨x,r,rfl,b,d⟩:=h;exact RDs.cons b (RDs.app d k)
theorem RDs.get:∀{ds:List D}{vs:List V}{i:Nat}{d:D},RDs K mg G ds vs->ds[i]? = some d->∃v,vs[i]? = some v/\RD K mg G d v
 | [],_,_,_,_,e=>by simp at e
 | _::_,_,0,_,h,e=>by
  obtain⟨x,r,rfl,a,b⟩:=h;simp at e;subst e;exact⟨x,rfl,a⟩
 | _::_,_,i+1,_,h,e=>by
  obtain⟨x,r,rfl,a,b⟩:=h;obtain⟨v,f,g⟩:=RDs.get b (by simpa using e);exact⟨v,by simpa using f,g⟩
theorem RDs.take:∀{ds:List D}{vs:List V} n,RDs K mg G ds vs->RDs K mg G (ds.take n) (vs.take n)
 | _,_,0,_=>by rfl
 | [],_,_+1,h=>by subst h;rfl
 | _::_,_,n+1,h=>by
  obtain⟨x,r,rfl,a,b⟩:=h;exact RDs.cons a (RDs.take n b)
theorem RDs.drop:∀{ds:List D}{vs:List V} n,RDs K mg G ds vs->RDs K mg G (ds.drop n) (vs.drop n)
 | _,_,0,h=>by simpa using h
 | [],_,_+1,h=>by subst h;rfl
 | _::_,_,n+1,h=>by
  obtain⟨x,r,rfl,b,a⟩:=h;exact RDs.drop n a
def RDs.rev {vs:List V}(h:RDs K mg G ds vs):RDs K mg G ds.reverse vs.reverse:=by
 induction ds generalizing vs with
 | nil=>subst h;rfl
 | cons d ds e=>
  obtain⟨x,r,rfl,a,b⟩:=h;rw[uF,uF];exact RDs.app (e b) (RDs.cons a RDs.nil)
theorem RDs.set {d:D}{v:V}(q:RD K mg G d v):∀{ds:List D}{vs:List V} i,RDs K mg G ds vs->RDs K mg G (ds.set i d) (vs.set i v)
 | [],_,_,h=>by subst h;rfl
 | _::_,_,0,h=>by
  obtain⟨x,r,rfl,b,a⟩:=h;exact RDs.cons q a
 | _::_,_,i+1,h=>by
  obtain⟨x,r,rfl,b,a⟩:=h;exact RDs.cons b (RDs.set q i a)
theorem RDs.at {ds:List D}{vs:List V}{i:Int}{d:D}(h:RDs K mg G ds vs)(e:atI ds i=some d):∃v,atI vs i=some v/\RD K mg G d v:=by
 unfold atI at e ⊢;rw[h.len]
 cases q:ixN _ i with
 | none=>simp_all
 | some j=>
  rw[q] at e;exact h.get e
def RDs.cut {ds:List D}{vs:List V}(a b:Option Int)(h:RDs K mg G ds vs):RDs K mg G ((ds.drop (HT.sIx ds.length 0 a)).take (HT.sIx ds.length ds.length b - HT.sIx ds.length 0 a)) (cutV vs a b):=by
 unfold cutV;rw[h.len];exact(h.drop _).take _
end
inductive B where
 | n | s (d:D) | o (d:D)
abbrev Env:=List B
noncomputable def B.get:B->Option D
 | .n=>none
 | .s d=>some d
 | .o d=>some d
def Env.get (a:Env)(i:Nat):Option D:=match a,i with
 | [],_=>none
 | b::_,0=>b.get
 | _::r,i+1=>Env.get r i
theorem Env.get_eq:∀a i,Env.get a i=(a[i]?).bind B.get
 | [],i=>by rfl
 | b::r,0=>by rfl
 | b::r,i+1=>by simp[Env.get,Env.get_eq r i]
abbrev DK:=D->Prop
abbrev XP:=Str->Prop
structure Fn where
 run:List D->DK->XP->Prop
 mono:∀ds Q Q' X X',(∀d,Q d->Q' d)->(∀x,X x->X' x)->run ds Q X->run ds Q' X'
structure Ex where
 run:Env->DK->XP->Prop
 mono:∀ρ Q Q' X X',(∀d,Q d->Q' d)->(∀x,X x->X' x)->run ρ Q X->run ρ Q' X'
structure Sm where
 run:Env->(Env->Prop)->DK->XP->Prop
 mono:∀ρ N N' Q Q' X X',(∀ρ,N ρ->N' ρ)->(∀d,Q d->Q' d)->(∀x,X x->X' x)->run ρ N Q X->run ρ N' Q' X'
def onV (o:Option D)(Q:DK):Prop:=match o with
 | some d=>Q d
 | none=>False
def Ex.c (d:D):Ex:=⟨λ_ Q _=>Q d,λ_ _ _ _ _ m _ q=>m _ q⟩
def Ex.v (i:Nat):Ex:=⟨λa Q _=>onV (a.get i) Q,λa Q f _ _ m _ q=>by
 show onV (a.get i) f;have b:onV (a.get i) Q:=q
 cases e:a.get i with
 | none=>rw[e] at b;exact b
 | some d=>rw[e] at b;exact m _ b⟩
def runs:List Ex->Env->(List D->Prop)->XP->Prop
 | [],_,Q,_=>Q []
 | e::f,a,Q,X=>e.run a (λd=>runs f a (λb=>Q (d::b)) X) X
theorem z3K:∀es b Q Q' X a,(∀d,Q d->Q' d)->(∀x,X x->a x)->runs es b Q X->runs es b Q' a
 | [],_,_,_,_,_,m,_,q=>m _ q
 | e::es,b,Q,Q',X,a,m,f,q=>e.mono b _ _ X a (λd g=>z3K es b _ _ X a (λi h=>m _ h) f g) f q
def Ex.op (f:Fn)(es:List Ex):Ex:=⟨λb Q X=>runs es b (λa=>f.run a Q X) X,λb Q g X d m e q=>z3K es b _ _ X d (λa h=>f.mono a Q g X d m e h) e q⟩
def tst (d:D)(A B:Prop):Prop:=match d with
 | .bl b=>(b=true->A)/\(b=false->B)
 | _=>False
def z3e {A A' B B':Prop}(a:A->A')(f:B->B')(h:tst d A B):tst d A' B':=by
 cases d with
 | bl b=>exact⟨λe=>a (h.1 e),λe=>f (h.2 e)⟩
 | _=>exact h.elim
def z8i {A B:Prop}(h:tst d A B):∃b,d = .bl b/\(b=true->A)/\(b=false->B):=by
 cases d with
 | bl b=>exact⟨b,rfl,h⟩
 | _=>exact h.elim
def Ex.and (a b:Ex):Ex:=⟨λe Q X=>a.run e (λd=>tst d (b.run e Q X) (Q (.bl false))) X,λe Q h X f m g q=>a.mono e _ _ X f (λd i=>z3e (b.mono e Q h X f m g) (m _) i) g q⟩
def Ex.or (a b:Ex):Ex:=⟨λe Q X=>a.run e (λd=>tst d (Q (.bl true)) (b.run e Q X)) X,λe Q h X f m g q=>a.mono e _ _ X f (λd i=>z3e (m _) (b.mono e Q h X f m g) i) g q⟩
def Ex.not (a:Ex):Ex:=⟨λe Q X=>a.run e (λd=>match d with | .bl b=>Q (.bl (!b)) | _=>False) X,λe Q i X g m h q=>a.mono e _ _ X g (λd f=>by
 cases d with
 | bl b=>exact m _ f
 | _=>exact f.elim) h q⟩
inductive Tg where
 | nm (i:Nat) | tp (is:List Nat)
def z09:List Nat->List D->Env->Env
 | i::is,d::b,a=>z09 is b (a.set i (.s d))
 | _,_,a=>a
def Tg.put (t:Tg)(d:D)(b:Env)(K:Env->Prop):Prop:=match t,d with
 | .nm i,d=>K (b.set i (.s d))
 | .tp is,.tup a=>is.length=a.length/\K (z09 is a b)
 | _,_=>False
def Tg.put_mono {t:Tg}{d:D}{a:Env}{K K':Env->Prop}(m:∀a,K a->K' a)(h:t.put d a K):t.put d a K':=by
 cases t with
 | nm i=>exact m _ h
 | tp is=>
  cases d with
  | tup b=>exact⟨h.1,m _ h.2⟩
  | _=>exact h.elim
def z06:D->Option (List D)
 | .lst l=>some l
 | .tup l=>some l
 | _=>none
def onL (o:Option (List D))(Q:List D->Prop):Prop:=match o with
 | some l=>Q l
 | none=>False
def zaL (m:∀l,Q l->Q' l)(h:onL o Q):onL o Q':=by
 cases o with
 | none=>exact h
 | some l=>exact m _ h
def z4Z (f:D->(Option D->Prop)->Prop):List D->(List D->Prop)->Prop
 | [],N=>N []
 | x::a,N=>f x λo=>z4Z f a λr=>N (o.toList++r)
theorem z4a (d:∀x K b,(∀o,K o->b o)->f x K->f' x b):∀xs N a,(∀l,N l->a l)->z4Z f xs N->z4Z f' xs a
 | [],_,_,m,q=>m _ q
 | x::xs,N,a,m,q=>d x _ _ (λo e=>z4a d xs _ _ (λr g=>m _ g) e) q
noncomputable def z1f (b:Nat)(a:List Nat)(d:Env):Env:=List.replicate b .n++a.map λj=>(d[j]?).getD .n
def z5m (t:Tg)(c:Option Ex)(e:Ex)(f:Env)(x:D)(K:Option D->Prop):Prop:=
 t.put x f λa=>match c with
  | none=>e.run a (λd=>K (some d)) (λ_=>False)
  | some c=>c.run a (λb=>tst b (e.run a (λd=>K (some d)) (λ_=>False)) (K none)) (λ_=>False)
def z5l {t:Tg}{c:Option Ex}(x:D)(K K':Option D->Prop)(m:∀o,K o->K' o)(h:z5m t c elt ρ x K):z5m t c elt ρ x K':=by
 refine Tg.put_mono (λa q =>?_) h
 cases c with
 | none=>exact elt.mono a _ _ _ _ (λd e=>m _ e) (λ_ z=>z) q
 | some c=>exact c.mono a _ _ _ _ (λb e=>z3e (elt.mono a _ _ _ _ (λd f=>m _ f) (λ_ z=>z)) (m _) e) (λ_ z=>z) q
def Ex.comp (i:Nat)(g:List Nat)(t:Tg)(src:Ex)(c:Option Ex)(b:Ex):Ex:=
 ⟨λa Q X=>src.run a (λd=>onL (z06 d) λl=>l.length<sizeLine/\z4Z (z5m t c b (z1f i g a)) l λr=>Q (.lst r)) X,λa Q o X f m h q=>
  src.mono a _ _ X f (λd j=>zaL (λl e=>⟨e.1,z4a z5l l _ _ (λr n=>m _ n) e.2⟩) j) h q⟩
def Sm.skip:Sm:=⟨λa N _ _=>N a,λ_ _ _ _ _ _ _ m _ _ q=>m _ q⟩
def Sm.seq (a b:Sm):Sm:=⟨λe N Q X=>a.run e (λd=>b.run d N Q X) Q X,λe N i Q f X g j m h q=>a.mono e _ _ Q f X g (λd l=>b.mono d N i Q f X g j m h l) m h q⟩
mutual
def noL:D->Bool
 | .lst _=>false
 | .tup l=>noLs l
 | .dct a vs=>noLs vs
 | _=>true
def noLs:List D->Bool
 | []=>true
 | d::a=>noL d && noLs a
end
mutual
def noD:D->Bool
 | .dct _ _=>false
 | .tup l=>noDs l
 | .lst l=>noDs l
 | _=>true
def noDs:List D->Bool
 | []=>true
 | d::a=>noD d && noDs a
end
def zjF (d:D):B->Prop
 | .o (.lst _)=>noL d=true
 | .o (.dct _ _)=>noD d=true
 | _=>True
def Safe (d:D):Env->Prop
 | []=>True
 | b::r=>zjF d b/\Safe d r
def zg9 (d:D)(a:Env):Prop:=match d with
 | .lst l=>∀x∈l,Safe x a
 | .dct _ vs=>∀x∈vs,Safe x a
 | _=>False
def Sm.set (i:Nat)(e:Ex):Sm:=⟨λa N _ X=>e.run a (λd=>Safe d (a.set i .n)/\N (a.set i (.s d))) X,λa N j Q l X f g m h q=>e.mono a _ _ X f (λd b=>⟨b.1,g _ b.2⟩) h q⟩
def Sm.own (i:Nat)(e:Ex):Sm:=⟨λa N _ X=>e.run a (λd=>zg9 d (a.set i .n)/\N (a.set i (.o d))) X,λa N j Q l X f g m h q=>e.mono a _ _ X f (λd b=>⟨b.1,g _ b.2⟩) h q⟩
def demB:B->B
 | .o d =>.s d
 | b=>b
def dem:List Nat->Env->Env
 | [],a=>a
 | j::b,a=>dem b (a.set j (demB ((a[j]?).getD .n)))
def visB:B->B
 | .o _ =>.n
 | b=>b
def vis (a:Env):Env:=a.map visB
def Sm.setx (b:List Nat)(i:Nat)(e:Ex):Sm:=⟨λa N _ X=>e.run (vis (dem b a)) (λd=>N ((dem b a).set i (.s d))) X,λa N l Q n X f g m h q=>e.mono _ _ _ X f (λd j=>g _ j) h q⟩
def Sm.ifs (c:Ex)(a b:Sm):Sm:=⟨λe N Q X=>c.run e (λd=>tst d (a.run e N Q X) (b.run e N Q X)) X,λe N h Q i X f j m g q=>c.mono e _ _ X f (λd l=>z3e (a.mono e N h Q i X f j m g) (b.mono e N h Q i X f j m g) l) g q⟩
def Sm.ret (e:Ex):Sm:=⟨λa _ Q X=>e.run a Q X,λa N f Q g X b h m d q=>e.mono a _ _ X b m d q⟩
def Sm.ex (e:Ex):Sm:=⟨λa N _ X=>e.run a (λ_=>N a) X,λa N h Q i X b d m f q=>e.mono a _ _ X b (λ_ g=>d _ g) f q⟩
def wh (c:Ex)(b:Sm)(N:Env->Prop)(Q:DK)(X:XP):Nat->Env->Prop
 | 0,_=>False
 | n+1,a=>c.run a (λd=>tst d (b.run a (wh c b N Q X n) Q X) (N a)) X
theorem zc1 {c:Ex}(g:∀a,N a->N' a)(m:∀d,Q d->Q' d)(e:∀x,X x->X' x):∀n a,wh c b N Q X n a->wh c b N' Q' X' n a
 | 0,_,q=>q
 | n+1,a,q=>c.mono a _ _ X X' (λd h=>z3e (b.mono a _ _ Q Q' X X' (λf i=>zc1 g m e n f i) m e) (g a) h) e q
def Sm.wh (c:Ex)(b:Sm):Sm:=⟨λa N Q X=>∃n,Pu.wh c b N Q X n a,λa N f Q g X h d m e ⟨n,q⟩=>⟨n,zc1 d m e n a q⟩⟩
def forL (t:Tg)(b:Sm)(N:Env->Prop)(Q:DK)(X:XP):List D->Env->Prop
 | [],a=>N a
 | x::e,a=>t.put x a λd=>b.run d (forL t b N Q X e) Q X
theorem z6q {t:Tg}{b:Sm}{N h:Env->Prop}{Q Q':DK}{X e:XP}(i:∀a,N a->h a)(m:∀d,Q d->Q' d)(j:∀x,X x->e x):∀l a,forL t b N Q X l a->forL t b h Q' e l a
 | [],_,q=>i _ q
 | x::p,a,q=>Tg.put_mono (λf n=>b.mono f _ _ Q Q' X e (λg o=>z6q i m j p g o) m j n) q
def Sm.for_ (e:List Nat)(t:Tg)(src:Ex)(b:Sm):Sm:=⟨λa N Q X=>src.run (vis (dem e a)) (λd=>onL (z06 d) λl=>forL t b N Q X l (dem e a)) X,λa N n Q o X g h m f q=>src.mono _ _ _ X g (λd i=>zaL (λl j=>z6q h m f l _ j) i) f q⟩
def onR (ds:List D)(K:List D->Prop):Prop:=match ds with
 | [.int j]=>(-(2 ^ 62)<=j/\j<2 ^ 62)/\K ((List.range j.toNat).map λ(k:Nat) =>.int k)
 | [.int i,.int j]=>((-(2 ^ 62)<=i/\i<2 ^ 62) /\ -(2 ^ 62)<=j/\j<2 ^ 62)/\K ((List.range (j - i).toNat).map λ(k:Nat) =>.int (i+k))
 | _=>False
def zaJ {ds:List D}{K K':List D->Prop}(m:∀l,K l->K' l)(h:onR ds K):onR ds K':=by
 unfold onR at h ⊢
 split at h
 .exact⟨h.1,m _ h.2⟩
 .exact⟨h.1,m _ h.2⟩
 omega
def Sm.forr (es:List Ex)(t:Tg)(b:Sm):Sm:=⟨λa N Q X=>runs es a (λg=>onR g λl=>forL t b N Q X l a) X,λa N n Q o X f h m e q=>z3K es a _ _ X f (λd i=>zaJ (λl j=>z6q h m e l _ j) i) e q⟩
def ownL (a:Env)(i:Nat)(K:List D->Prop):Prop:=match a[i]? with
 | some (.o (.lst l))=>K l
 | _=>False
set_option tactic.hygienic true in
def z3N {a:Env}{i:Nat}{K K':List D->Prop}(m:∀l,K l->K' l)(h:ownL a i K):ownL a i K':=by
 unfold ownL at h ⊢
 split <;> rename_i e
 .simp_all
 simp_all
def Sm.app (i:Nat)(e:Ex):Sm:=⟨λa N _ X=>ownL a i λl=>e.run a (λd=>l.length<sizeLine/\Safe d a/\N (a.set i (.o (.lst (l++[d]))))) X,λa N n Q p X f g m h q=>z3N (λl j=>e.mono a _ _ X f (λd b=>⟨b.1,b.2.1,g _ b.2.2⟩) h j) q⟩
def popL (l:List D)(K:List D->D->Prop):Prop:=match l[l.length - 1]? with
 | some d=>K l.dropLast d
 | none=>False
set_option tactic.hygienic true in
def z8H {K K':List D->D->Prop}(m:∀l d,K l d->K' l d)(h:popL l K):popL l K':=by
 unfold popL at h ⊢
 split <;> rename_i e
 .simp_all
 simp_all
def Sm.pop (i:Nat):Sm:=⟨λa N _ _=>ownL a i λl=>popL l λb _=>N (a.set i (.o (.lst b))),λa N g Q h X j d m n q=>z3N (λl e=>z8H (λ_ _ f=>d _ f) e) q⟩
def Sm.popTo (j i:Nat):Sm:=⟨λa N _ _=>ownL a i λl=>popL l λb d=>N ((a.set i (.o (.lst b))).set j (.s d)),λa N h Q n X p e m r q=>z3N (λl f=>z8H (λ_ _ g=>e _ g) f) q⟩
def isLs (d:D)(K:List D->Prop):Prop:=match d with
 | .lst l=>K l
 | _=>False
def z9b {d:D}{K K':List D->Prop}(m:∀j,K j->K' j)(h:isLs d K):isLs d K':=by
 cases d with
 | lst l=>exact m _ h
 | _=>exact h.elim
def Sm.ext (i:Nat)(e:Ex):Sm:=⟨λa N _ X=>ownL a i λl=>e.run a (λd=>isLs d λm=>l.length+m.length<=sizeLine/\(∀x∈m,Safe x a)/\N (a.set i (.o (.lst (l++m))))) X,λa N p Q r X f g m h q=>z3N (λl j=>e.mono a _ _ X f (λd n=>z9b (λm b=>⟨b.1,b.2.1,g _ b.2.2⟩) n) h j) q⟩
def onN (o:Option Nat)(K:Nat->Prop):Prop:=match o with
 | some j=>K j
 | none=>False
def zfo {o:Option Nat}{K K':Nat->Prop}(m:∀j,K j->K' j)(h:onN o K):onN o K':=by
 cases o with
 | none=>exact h
 | some l=>exact m _ h
def isI (d:D)(K:Int->Prop):Prop:=match d with
 | .int i=>K i
 | _=>False
def zaU {d:D}{K K':Int->Prop}(m:∀j,K j->K' j)(h:isI d K):isI d K':=by
 cases d with
 | int i=>exact m _ h
 | _=>exact h.elim
def Sm.put (i:Nat)(k e:Ex):Sm:=⟨λa N _ X=>ownL a i λl=>e.run a (λd=>Safe d a/\k.run a (λf=>isI f λz=>onN (ixN l.length z) λj=>N (a.set i (.o (.lst (l.set j d))))) X) X,λa N u Q w X b n m g q=>
 z3N (λl p=>e.mono a _ _ X b (λd h=>⟨h.1,k.mono a _ _ X b (λf r=>zaU (λz s=>zfo (λj t=>n _ t) s) r) g h.2⟩) g p) q⟩
def Fn.mk' (d h:Nat)(b:Sm):Fn:=⟨λa Q X=>a.length=d/\b.run (a.map B.s++List.replicate (h - d) .n) (λ_=>Q .non) Q X,λa Q e X f m g q=>⟨q.1,b.mono _ _ _ Q e X f (λ_ i=>m _ i) m g q.2⟩⟩
noncomputable def Fn.mkN (d f:Nat)(b:Sm):Fn:=⟨λa Q _=>a.length=d/\b.run (a.map B.s++List.replicate (f - d) .n) (λ_=>Q .non) Q (λ_=>False),λa Q e X h m i q=>⟨q.1,b.mono _ _ _ Q e _ _ (λ_ g=>m _ g) m (λ_ z=>z) q.2⟩⟩
def Sm.calm (b:Sm):Sm:=⟨λa N Q _=>b.run a N Q (λ_=>False),λa N d Q e X g f m h q=>b.mono a N d Q e _ _ f m (λ_ z=>z) q⟩
def AbE (K:W.Frag)(mg:WmP)(G:Hp)(a:Pu.Env)(b:L2.St):Prop:=∀i d,a.get i=some d->∃v,b[i]? = some (some v)/\RD K mg G d v
def Gr (G H b:Hp):Prop:=Same G b/\∀a o,b a=some o->(∃u,G a=some u)\/H a=none
def Gr.refl {G H:Hp}:Gr G H G:=⟨Same.refl',λa o e =>.inl ⟨o,e⟩⟩
def Gr.trans {G H b d G2:Hp}(h:Gr G H b)(k:Same H d)(f:Gr b d G2):Gr G H G2:=⟨z02 h.1 f.1,λa o e=>by
 rcases f.2 a o e with ⟨u,q⟩ | q
 .exact h.2 a u q
 .refine .inr ?_
  cases z:H a with
  | none=>rfl
  | some w=>rw[k a w z] at q;cases q⟩
def Gr.new {G H:Hp}{p:Addr}{o:HO}(g:Same G H)(b:H p=none):Gr G H (upd G p o):=by
 have f:G p=none:=by
  cases e:G p with
  | none=>rfl
  | some u=>rw[g p u e] at b;cases b
 refine⟨z0n f o,λa u e =>?_⟩
 by_cases d:a=p
 .subst d;exact .inr b
 .rw[z0d d] at e;exact .inl ⟨u,e⟩
def Kt (K:W.Frag)(mg:WmP)(G H:Hp)(e:DK)(Q:VK):Prop:=∀d v a b,e d->Gr G H a->Same a b->Same H b->RD K mg a d v->Q v b
def Kts (K:W.Frag)(mg:WmP)(G H:Hp)(e:List D->Prop)(Q:List V->Hp->Prop):Prop:=∀d vs a b,e d->Gr G H a->Same a b->Same H b->RDs K mg a d vs->Q vs b
def Kx (mg:WmP)(H:Hp)(b:XP)(E:XK):Prop:=∀x C a,b x->mg x=some (.ref C)->Same H a->E (.ref C) none a
def tx (K:W.Frag)(mg:WmP)(E:XK)(e:Ex):TE:=λf H Q=>∃G d a b,Same G H/\AbE K mg G d f/\e.run d a b/\Kt K mg G H a Q/\Kx mg H b E
def txa (K:W.Frag)(mg:WmP)(E:XK)(es:List Ex):TA:=λe H Q=>∃G d a b,Same G H/\AbE K mg G d e/\runs es d a b/\Kts K mg G H a Q/\Kx mg H b E
def tt (K:W.Frag)(mg:WmP)(E:XK)(e:Ex):TT:=λj H Q=>∃G i g h,Same G H/\AbE K mg G i j/\e.run i g h/\(∀d f a,g d->Gr G H f->Same f a->Same H a->∃b,d = .bl b/\Q b a)/\Kx mg H h E
section
variable {K:W.Frag}{mg:WmP}{G G' H H':Hp}{ρ:Pu.Env}{σ:L2.St}{Q0:DK}{Q:VK}{X0:XP}{E:XK}
theorem AbE.same (h:AbE K mg G ρ σ)(g:Same G G'):AbE K mg G' ρ σ:=λi d e=>by
 obtain⟨v,a,b⟩:=h i d e;exact⟨v,a,b.same g⟩
def Kt.same (h:Kt K mg G H Q0 Q)(g:Gr G H G')(k:Same H H'):Kt K mg G' H' Q0 Q:=λd v e f q a b c r=>h d v e f q (g.trans k a) b (z02 k c) r
def Kx.same (h:Kx mg H X0 E)(k:Same H H'):Kx mg H' X0 E:=λx C a q m c=>h x C a q m (z02 k c)
def Kx.no:Kx mg H (λ_=>False) E:=λ_ _ _ z=>z.elim
def Kt.now {d:D}{v:V}(h:Kt K mg G H Q0 Q)(g:Same G H)(q:Q0 d)(r:RD K mg G d v):Q v H:=h d v G H q Gr.refl g Same.refl' r
theorem Kt.new {d:D}{p:Addr}{o:HO}{v:V}(h:Kt K mg G H Q0 Q)(g:Same G H)(f:H p=none)(q:Q0 d)(r:RD K mg (upd G p o) d v):Q v (upd H p o):=by
 refine h d v _ _ q (Gr.new g f) (λb u e =>?_) (z0n f o) r
 by_cases a:b=p
 .subst a;rw[z0c] at e ⊢;exact e
 .rw[z0d a] at e ⊢;exact g b u e
def z13 (g:Same G H){p:Addr}(a:H p=none):G p=none:=by
 cases e:G p with
 | none=>rfl
 | some u=>rw[g p u e] at a;cases a
end
def Lk2 (K:W.Frag)(mg:WmP)(F:Fn)(r:R2):Prop:=∀G H b d e f a g Q,Same G H->RD K mg G b e->RD K mg G d f->F.run [b,d] a g->Kt K mg G H a Q->r e f H Q
def Lk1 (K:W.Frag)(mg:WmP)(F:Fn)(r:V->Hp->VK->Prop):Prop:=∀G H d v a b Q,Same G H->RD K mg G d v->F.run [d] a b->Kt K mg G H a Q->r v H Q
def LkN (K:W.Frag)(mg:WmP)(F:Fn)(r:List V->Hp->VK->Prop):Prop:=∀G H b vs a d Q,Same G H->RDs K mg G b vs->F.run b a d->Kt K mg G H a Q->r vs H Q
section
variable {K:W.Frag}{mg:WmP}{E:XK}{σ:L2.St}{H:Hp}{Q:VK}{a b c:Ex}{F:Fn}{es:List Ex}
def tx2 (I:Lk2 K mg F r)(h:tx K mg E (.op F [a,b]) σ H Q):tOp r (tx K mg E a) (tx K mg E b) σ H Q:=by
 obtain⟨G,g,i,e,z,j,y,x,n⟩:=h;refine⟨G,g,λd=>b.run g _ e,e,z,j,y,?_,n⟩;intro d v p L w m t g3 rd;refine⟨p,g,λl=>F.run _ i e,e,t,j.same m.1,w,?_,n.same g3⟩;intro l J q s u o A C f;exact I q s d l v J i e Q A (rd.same o.1) f u (x.same (m.trans g3 o) (z02 g3 C))
def tx1 (s:Lk1 K mg F r)(h:tx K mg E (.op F [a]) σ H Q):tUn r (tx K mg E a) σ H Q:=by
 obtain⟨G,t,e,b,p,i,o,n,q⟩:=h;refine⟨G,t,λd=>F.run [d] e b,b,p,i,o,?_,q⟩;intro d v f g m j l g3 rd;exact s f g d v e b Q l rd m (n.same j g3)
def txN (q:LkN K mg F r)(h:tx K mg E (.op F es) σ H Q):tCB r (txa K mg E es) σ H Q:=by
 obtain⟨G,s,d,a,o,g,n,m,p⟩:=h;refine⟨G,s,λb=>F.run b d a,a,o,g,n,?_,p⟩;intro b vs e f l i j g3 rd;exact q e f b vs d a Q j rd l (m.same i g3)
end
theorem QE.imp {X:Cx}{e:Expr}{t t':TE}(h:QE X e t)(i:∀a H Q,t' a H Q->t a H Q):QE X e t':=⟨h.p.imp i⟩
def QT.imp {X:Cx}{e:Expr}{t t':TT}(h:QT X e t)(i:∀a H Q,t' a H Q->t a H Q):QT X e t':=⟨λb s a H Q I q=>h.p _ s a H Q I (i a H Q q)⟩
def QA.imp {X:Cx}{e:List Expr}{t t':TA}(h:QA X e t)(i:∀a H Q,t' a H Q->t a H Q):QA X e t':=⟨λb d s a H Q I q=>h.p b _ s a H Q I (i a H Q q)⟩
def QW.imp {X:Cx}{e:Expr}{t t':TT}(h:QW X e t)(i:∀a H Q,t' a H Q->t a H Q):QW X e t':=⟨λw b s a H Q I q=>h.p w _ s a H Q I (i a H Q q)⟩
def QS.imp {X:Cx}{e:Stmt}{t t':TS}(h:QS X e t)(i:∀D a H,t' D a H->t D a H):QS X e t':=⟨λb s a H D I q=>h.p _ s a H D I (i D a H q)⟩
def QSs.imp {X:Cx}{e:List Stmt}{t t':TS}(h:QSs X e t)(i:∀D a H,t' D a H->t D a H):QSs X e t':=⟨λb s a H D I q=>h.p _ s a H D I (i D a H q)⟩
def QI.imp {X:Cx}{d e:Expr}{t t':TI}(h:QI X d e t)(i:∀a H R,t' a H R->t a H R):QI X d e t':=⟨λb s a H R I q=>h.p _ s a H R I (i a H R q)⟩
abbrev QX (X:Cx)(E:XK)(e:Expr)(x:Ex):Prop:=QE X e (tx X.K X.mg E x)
abbrev QXT (X:Cx)(E:XK)(e:Expr)(x:Ex):Prop:=QT X e (tt X.K X.mg E x)
abbrev QXW (X:Cx)(E:XK)(e:Expr)(x:Ex):Prop:=QW X e (tt X.K X.mg E x)
abbrev QXA (X:Cx)(E:XK)(es:List Expr)(x:List Ex):Prop:=QA X es (txa X.K X.mg E x)
section
variable {X:Cx}{E:XK}{e a b c:Expr}{x y z:Ex}{pos:Pos}{es:List Expr}{xs:List Ex}{rest:List Expr}
def qx_c {v:V}(h:QE X e (tC v))(r:∀G,RD X.K X.mg G d v):QX X E e (.c d):=QE.imp h <| by rintro n H Q ⟨G,m,g,i,f,j,b,a,l⟩;exact a.now f b (r G)
def qx_v (h:QE X e (tVar i)):QX X E e (.v i):=QE.imp h <| by
 rintro r H Q ⟨G,n,Q0,o,m,b,l,j,p⟩;have a:onV _ Q0:=l
 cases q:n.get i with
 | none=>rw[q] at a;exact a.elim
 | some d=>
  rw[q] at a;obtain⟨v,f,g⟩:=b i d q;exact⟨v,f,j.now m a g⟩
def zkd:QX X E (.Constant (.int i) j pos) (.c (.int i)):=qx_c zkC λ_=>by rw[RD]
def zn6:QX X E (.Constant (.bool i) j pos) (.c (.bl i)):=qx_c znf λ_=>by rw[RD]
def zkc:QX X E (.Constant .none j pos) (.c .non):=qx_c zkz λ_=>by rw[RD]
def zka:QX X E (.Constant (.str i) j pos) (.c (.str i)):=qx_c zkx λ_=>by rw[RD]
def zkh {op:Operator}(f:OpR X (binaryOp op) r)(g:Lk2 X.K X.mg F r)(d:QX X E a x)(e:QX X E b y):QX X E (.BinOp a op b pos) (.op F [x,y]):=QE.imp (znc f d e) λ_ _ _ h=>tx2 g h
def zn0 {op:UnaryOp}(d:UnR X (unaryOp op) r)(e:Lk1 X.K X.mg F r)(b:QX X E a x):QX X E (.UnaryOp op a pos) (.op F [x]):=QE.imp (znb d b) λ_ _ _ h=>tx1 e h
def zkg {op:CmpOp}(g:OpR X (compareOp op) r)(i:Lk2 X.K X.mg F r)(d:QX X E a x)(e:QX X E b y)(f:behindInMarks op b=false):QX X E (.Compare a [op] [b] pos) (.op F [x,y]):=QE.imp (zi2 g d e f) λ_ _ _ h=>tx2 i h
def zhj {t:TE}(m:∀Q,tx X.K X.mg E x σ H Q->t σ H Q)(h:tt X.K X.mg E x σ H Q):zhp t σ H Q:=by
 obtain⟨G,u,f,g,p,i,o,n,r⟩:=h;refine m _ ⟨G,u,f,g,p,i,o,λd v a e q j l g3 rd =>?_,r⟩;obtain⟨b,rfl,s⟩:=n d a e q j l g3;exact⟨b,rd,s⟩
def zko {op:CmpOp}(g:OpR X (compareOp op) r)(i:Lk2 X.K X.mg F r)(d:QX X E a x)(e:QX X E b y)(f:behindInMarks op b=false):QXT X E (.Compare a [op] [b] pos) (.op F [x,y]):=QT.imp (zhT g d e f) λj H Q h=>zhj (λ_ h=>tx2 i h) h
def zhS (h:QX X E e x)(o:autoParam (∀a,isTrue e X.env a=(do let v <- a;standAt e.pos;holding [v] (truthy v))) jC1):QXT X E e x:=QT.imp (zkm h o) λy H Q h=>by
 obtain⟨G,w,i,j,s,l,r,p,t⟩:=h;refine⟨G,w,i,j,s,l,r,λd v f g q m n g3 rd =>?_,t⟩;obtain⟨b,rfl,u⟩:=p d f g q m n g3;exact⟨b,rd,u⟩
def zhR (m:QXT X E a x):QXT X E (.UnaryOp .Not a pos) (.not x):=QT.imp (zkn m) <| by
 rintro y H Q ⟨G,t,u,h,p,i,o,n,r⟩;refine⟨G,t,_,h,p,i,o,λd f g q j l g3 =>?_,r⟩
 cases d with
 | bl b=>
  obtain⟨w,e,s⟩:=n _ f g q j l g3
  cases e
  exact⟨b,rfl,s⟩
 | _=>exact q.elim
def zkb {op}(h:QX X E a x):QX X E (.BoolOp op [a] pos) x:=zky h
def zki (p:QX X E a x)(r:QX X E (.BoolOp .And (b::rest) pos) y):QX X E (.BoolOp .And (a::b::rest) pos) (.and x y):=QE.imp (zkE p r) <| by
 rintro z H Q ⟨G,m,o,g,t,h,s,j,l⟩;refine⟨G,m,_,g,t,h,s,λd v f n q e i g3 rd =>?_,l⟩;obtain⟨k,rfl,u,w⟩:=z8i q;refine⟨k,rd,?_⟩
 cases k with
 | true=>exact iteT ⟨f,m,o,g,i,h.same e.1,u rfl,j.same e g3,l.same g3⟩
 | false=>exact iteF (j _ _ f n (w rfl) e i g3 (by rw[RD]))
def zeV (b:QXT X E a x):QXW X E (.BoolOp .And [a] pos) x:=zhQ b
def zhO (b:QXT X E a x):QXW X E (.BoolOp .Or [a] pos) x:=zkk b
def zhP (t:QXT X E a x)(u:QXW X E (.BoolOp .And (b::rest) pos) y):QXW X E (.BoolOp .And (a::b::rest) pos) (.and x y):=QW.imp (zkl t u) <| by
 rintro M H Q ⟨G,n,s,h,z,i,w,l,m⟩;refine⟨G,n,_,h,z,i,w,λd g p q f j g3 =>?_,m⟩;obtain⟨k,rfl,I,J⟩:=z8i q;refine⟨k,rfl,?_⟩
 cases k with
 | true=>exact iteT ⟨g,n,s,h,j,i.same f.1,I rfl,λd o r q A C F=>l d o r q (f.trans g3 A) C (z02 g3 F),m.same g3⟩
 | false=>
  obtain⟨K,e,L⟩:=l _ g p (J rfl) f j g3
  simp_all
def zkj (t:QXT X E a x)(u:QXW X E (.BoolOp .Or (b::rest) pos) y):QXW X E (.BoolOp .Or (a::b::rest) pos) (.or x y):=QW.imp (zn8 t u) <| by
 rintro M H Q ⟨G,n,s,h,z,i,w,l,m⟩;refine⟨G,n,_,h,z,i,w,λd g p q f j g3 =>?_,m⟩;obtain⟨k,rfl,I,J⟩:=z8i q;refine⟨k,rfl,?_⟩
 cases k with
 | false=>exact iteF ⟨g,n,s,h,j,i.same f.1,J rfl,λd o r q A C F=>l d o r q (f.trans g3 A) C (z02 g3 F),m.same g3⟩
 | true=>
  obtain⟨K,e,L⟩:=l _ g p (I rfl) f j g3
  simp_all
def zhN:QXA X E [] []:=QA.imp z8F <| by rintro j H Q ⟨G,i,e,f,d,g,b,a,h⟩;exact a [] [] G H b Gr.refl d Same.refl' RDs.nil
def zeS (r:QX X E e x)(a:QXA X E es xs)(b:autoParam (sE e es X) jA1):QXA X E (e::es) (x::xs):=QA.imp (z67 r a b) <| by
 rintro C H Q ⟨G,l,z,f,b,g,a,s,i⟩;refine⟨G,l,_,f,b,g,a,λd v m y q h p g3 rd =>?_,i⟩;refine⟨m,l,_,f,p,g.same h.1,q,λA vs n o w j t u rds =>?_,i.same g3⟩;exact s _ _ n o w (h.trans g3 j) t (z02 g3 u) (RDs.cons (rd.same j.1) rds)
def spP (K:W.Frag)(mg:WmP)(F:Fn):Sp:=λvs H Q E=>∃G d a b,Same G H/\RDs K mg G d vs/\F.run d a b/\Kt K mg G H a Q/\Kx mg H b E
def zn3 {k:Nat}{ps:List Str}(C:Cal X.prog X.w X.K X.mg X.base CX k f ps (spP X.K X.mg F))(g:Room k X.A)(a:z53 CX X E)(r:QXA X E (e::es) xs)(t:autoParam (Gl X f) jA1)
  (b:autoParam (dB f) jB1) (s:autoParam (sE e es X) jA1) (d:autoParam (bT pos es X) jA1):QX X E (.Call (.Name f pp) (e::es) [] pos) (.op F xs):=
 QE.imp (zne C g a r t b s d) <| by
  rintro z H Q ⟨G,y,l,h,x,m,g,u,a⟩;refine⟨G,y,_,h,x,m,g,λn vs i j q o p g3 rds =>?_,a⟩;show spP X.K _ F _ j Q E;rw[vT];exact⟨i,n,l,h,p,rds,q,u.same o g3,a.same g3⟩
def zn4 {f:Str}{id:String}(g:z15 X (.builtin id) r)(o:LkN X.K X.mg F r)(j:Gl X f)(l:X.mg f=none)(n:bootBuiltins f=some (.builtin id))(d:QXA X E (e::es) xs)(m:autoParam (f≠"__name__") jB1)(a:autoParam (dB f) jB1)
  (i:autoParam (sE e es X) jA1) (b:autoParam (bT pos es X) jA1):QX X E (.Call (.Name f pp) (e::es) [] pos) (.op F xs):=
 QE.imp (z5K g j l n d m a i b) λ_ _ _ h=>txN o h
def zkf {f:Str}{id:String}(g:z15 X (.type id) r)(o:LkN X.K X.mg F r)(j:Gl X f)(l:X.mg f=none)(n:bootBuiltins f=some (.type id))(d:QXA X E (e::es) xs)(m:autoParam (f≠"__name__") jB1)(a:autoParam (dB f) jB1)
  (i:autoParam (sE e es X) jA1) (b:autoParam (bT pos es X) jA1):QX X E (.Call (.Name f pp) (e::es) [] pos) (.op F xs):=
 QE.imp (z4E g j l n d m a i b) λ_ _ _ h=>txN o h
end
def z5o (K:W.Frag)(mg:WmP)(G H:Hp)(a:Addr):D->Prop
 | .lst e=>∃d,H a=some (.lst d)/\RDs K mg G e d
 | .dct f vs=>∃d,RDs K mg G vs d/\((∃b,H a=some (.dK b)/\f=b.map (λp=>kD p.1)/\d=b.map (·.2)))
 | _=>False
structure AbS (K:W.Frag)(mg:WmP)(H0 G0 G:Hp)(ρ:Pu.Env)(σ:L2.St)(H:Hp):Prop where
 len:σ.length=ρ.length
 s0:Same H0 H
 g0:Same G0 G
 g:Same G H
 nw:∀a o,G a=some o->(∃u,G0 a=some u)\/H0 a=none
 sh:∀(i:Nat) d,ρ[i]? = some (B.s d)->∃v,σ[i]? = some (some v)/\RD K mg G d v
 ow:∀(i:Nat) d,ρ[i]? = some (B.o d)->∃a,σ[i]? = some (some (V.ref a))/\G a=none/\H0 a=none/\z5o K mg G H a d
 ne:∀(i j:Nat) d d' a,i≠j->ρ[i]? = some (B.o d)->ρ[j]? = some (B.o d')->σ[i]? = some (some (V.ref a))->σ[j]? = some (some (V.ref a))->False
open Classical in
def plus (G H:Hp)(O:Addr->Prop):Hp:=λa=>if O a then H a else G a
open Classical in
def minus (G:Hp)(O:Addr->Prop):Hp:=λa=>if O a then none else G a
section
variable {K:W.Frag}{mg:WmP}{H0 G0 G G' H H' H1:Hp}{ρ:Pu.Env}{σ:L2.St}{O:Addr->Prop}
def z3L (g:Same G H):Same (plus G H O) H:=λa o e=>by
 unfold plus at e
 split at e
 .exact e
 .exact g a o e
def z2I (h:∀a,O a->G a=none):Same G (plus G H O):=λa o e=>by
 unfold plus
 grind
def zcR (h:O a):plus G H O a=H a:=by unfold plus;rw[if_pos h]
def z2V:Same (minus G O) G:=λa o e=>by
 unfold minus at e
 grind
def z5N (h:O a):minus G O a=none:=by unfold minus;rw[if_pos h]
def z91 (h:¬ O a):minus G O a=G a:=by unfold minus;rw[if_neg h]
def z3p (g:Same G G')(h:∀a,O a->G a=none):Same G (minus G' O):=λa o e=>by
 by_cases z:O a
 .grind
 .rw[z91 z];exact g a o e
theorem z5o.same {a:Addr}{d:D}(h:z5o K mg G H a d)(g:Same G G')(k:∀o,H a=some o->H1 a=some o):z5o K mg G' H1 a d:=by
 cases d with
 | lst j=>
  obtain⟨f,b,e⟩:=h;exact⟨f,k _ b,e.same g⟩
 | dct l vs=>
  obtain⟨f,b,e⟩:=h;exact⟨f,b.same g,e.imp λi q=>⟨k _ q.1,q.2⟩⟩
 | _=>exact h.elim
theorem z5o.some {a:Addr}{d:D}(h:z5o K mg G H a d):∃o,H a=some o:=by
 cases d with
 | lst g=>obtain⟨f,b,i⟩:=h;exact⟨_,b⟩
 | dct j vs=>
  obtain⟨f,b,e,q,r⟩:=h;exact⟨_,q⟩
 | _=>exact h.elim
def z5o.rd {a:Addr}{d:D}(h:z5o K mg G H a d)(g:Same G G')(e:G' a=H a):RD K mg G' d (.ref a):=by
 cases d with
 | lst l=>
  obtain⟨i,b,f⟩:=h;exact⟨a,i,rfl,SqL.of (e.trans b),f.same g⟩
 | dct m vs=>
  obtain⟨i,b,f⟩:=h;exact⟨a,i,rfl,b.same g,f.imp λj q=>⟨.inl (e.trans q.1),q.2⟩⟩
 | _=>exact h.elim
def OK1 (G:Hp)(O:Addr->Prop)(e d:Prop):Prop:=∀a,O a->G a=none\/((∃f,G a=some (.lst f))/\e)\/((∃b,G a=some (.dK b))/\d)
def z44 {o u:HO}(d:OK1 G O bL bD)(h:G a=some o)(e:∀xs,o = .lst xs->¬ bL)(f:∀k,o = .dK k->¬ bD):minus G O a=some o:=by
 by_cases z:O a
 .rcases d a z with q | ⟨⟨xs,q⟩,b⟩ | ⟨⟨k,q⟩,b⟩
  all_goals grind
 .rw[z91 z];exact h
mutual
theorem RD.minus {bL bD:Prop}(f:OK1 G O bL bD):∀(d:D) {v:V},(bL->noL d=true)->(bD->noD d=true)->RD K mg G d v->RD K mg (Pu.minus G O) d v
 | .non,_,_,_,h=>by simpa[RD] using h
 | .bl _,_,_,_,h=>by simpa[RD] using h
 | .int _,_,_,_,h=>by simpa[RD] using h
 | .str _,_,_,_,h=>by simpa[RD] using h
 | .fn _,_,_,_,h=>by rw[RD] at h ⊢;exact h
 | .tup p,_,m,l,h=>by
  rw[RD] at h ⊢;obtain⟨a,n,g,e,i⟩:=h;refine⟨a,n,g,?_,RDs.minus f p (λb=>by have:=m b;rwa [noL] at this) (λb=>by have:=l b;rwa [noD] at this) i⟩
  rcases e with (e | ⟨o,e⟩) | e
  .exact .inl (.inl (z44 (u :=.lst []) f e (λ_ z=>by cases z) (λ_ z=>by cases z)))
  .exact .inl (.inr ⟨o,z44 (u :=.lst []) f e (λ_ z=>by cases z) (λ_ z=>by cases z)⟩)
  .exact .inr e
 | .lst p,_,m,l,h=>by
  rw[RD] at h ⊢;obtain⟨a,n,g,e,i⟩:=h;have j:¬ bL:=λb=>by have:=m b;rw[noL] at this;cases this
  refine⟨a,n,g,?_,RDs.minus f p (λb=>(j b).elim) (λb=>by have:=l b;rwa [noD] at this) i⟩
  rcases e with (e | ⟨o,e⟩) | e
  .exact .inl (.inl (z44 (u :=.lst []) f e (λ_ _=>j) (λ_ z=>by cases z)))
  .exact .inl (.inr ⟨o,z44 (u :=.lst []) f e (λ_ z=>by cases z) (λ_ z=>by cases z)⟩)
  .exact .inr e
 | .dct w vs,_,m,l,h=>by
  rw[RD] at h ⊢;obtain⟨a,n,g,i,t⟩:=h;have j:¬ bD:=λb=>by have:=l b;rw[noD] at this;cases this
  refine⟨a,n,g,RDs.minus f vs (λb=>by have:=m b;rwa [noL] at this) (λb=>(j b).elim) i,?_⟩;obtain⟨s,q,r⟩:=t;exact⟨s,q.imp (λq=>z44 (u :=.lst []) f q (λ_ z=>by cases z) (λ_ _=>j)) λ⟨o,q⟩=>⟨o,z44 (u :=.lst []) f q (λ_ z=>by cases z) (λ_ z=>by cases z)⟩,r⟩
theorem RDs.minus {e a:Prop}(f:OK1 G O e a):∀(ds:List D) {xs:List V},(e->noLs ds=true)->(a->noDs ds=true)->RDs K mg G ds xs->RDs K mg (Pu.minus G O) ds xs
 | [],_,_,_,h=>by simpa[RDs] using h
 | d::ds,_,i,g,h=>by
  rw[RDs] at h ⊢;obtain⟨x,r,j,l,m⟩:=h;exact⟨x,r,j,RD.minus f d (λb=>by have:=i b;rw[noLs,vQ] at this;exact this.1) (λb=>by have:=g b;rw[noDs,vQ] at this;exact this.1) l,
   RDs.minus f ds (λb=>by have:=i b;rw[noLs,vQ] at this;exact this.2) (λb=>by have:=g b;rw[noDs,vQ] at this;exact this.2) m⟩
end
def z3U (b:Pu.Env)(e:L2.St)(a:Addr):Prop:=∃(j:Nat) (d:D),b[j]? = some (B.o d)/\e[j]? = some (some (V.ref a))
def AbS.free (h:AbS K mg H0 G0 G ρ σ H):∀a,z3U ρ σ a->G a=none:=by
 rintro a ⟨j,d,e,q⟩;obtain⟨b,g,f,_⟩:=h.ow j d e
 grind
def AbS.owned0 (h:AbS K mg H0 G0 G ρ σ H):∀a,z3U ρ σ a->H0 a=none:=by
 rintro a ⟨j,d,e,q⟩;obtain⟨b,i,g,f,_⟩:=h.ow j d e
 grind
def AbS.nw1 (h:AbS K mg H0 G0 G ρ σ H)(g:Gr (plus G H (z3U ρ σ)) H G1):∀a o,G1 a=some o->(∃u,G0 a=some u)\/H0 a=none:=λa o e=>by
 rcases g.2 a o e with ⟨u,q⟩ | q
 .by_cases z:z3U ρ σ a
  .exact .inr (h.owned0 a z)
  .unfold plus at q;rw[if_neg z] at q;exact h.nw a u q
 .refine .inr ?_
  cases z:H0 a with
  | none=>rfl
  | some w=>rw[h.s0 a w z] at q;cases q
def AbS.nw2 (h:AbS K mg H0 G0 G ρ σ H)(g:Gr G H G1):∀a o,G1 a=some o->(∃u,G0 a=some u)\/H0 a=none:=λa o e=>by
 rcases g.2 a o e with ⟨u,q⟩ | q
 .exact h.nw a u q
 .refine .inr ?_
  cases z:H0 a with
  | none=>rfl
  | some w=>rw[h.s0 a w z] at q;cases q
def AbS.abe (h:AbS K mg H0 G0 G ρ σ H):AbE K mg (plus G H (z3U ρ σ)) ρ σ:=λi d e=>by
 rw[Env.get_eq] at e
 cases q:ρ[i]? with
 | none=>simp_all
 | some b=>
  rw[q] at e
  cases b with
  | n=>cases e
  | s j=>
   cases e
   obtain⟨v,f,g⟩:=h.sh i d q;exact⟨v,f,g.same (z2I h.free)⟩
  | o j=>
   cases e
   obtain⟨a,f,g,m,l⟩:=h.ow i d q;exact⟨.ref a,f,l.rd (z2I h.free) (zcR ⟨i,d,q,f⟩)⟩
theorem AbS.vis (h:AbS K mg H0 G0 G ρ σ H):AbE K mg G (vis ρ) σ:=λi d e=>by
 rw[Env.get_eq] at e;unfold Pu.vis at e;rw[wO] at e
 cases q:ρ[i]? with
 | none=>simp_all
 | some b=>
  rw[q] at e
  cases b with
  | n=>cases e
  | s a=>
   cases e
   exact h.sh i d q
  | o a=>cases e
theorem Safe.get {d:D}:∀{a:Pu.Env}{j:Nat}{b:B},Safe d a->a[j]? = some b->zjF d b
 | [],_,_,_,e=>by simp at e
 | c::r,0,b,h,e=>by simp at e;subst e;exact h.1
 | c::r,j+1,b,h,e=>Safe.get h.2 (by simpa using e)
def zgJ {d:D}{I:Nat->Prop}(h:AbS K mg H0 G0 G ρ σ H)(y:Same G1 H1)(g3:Same H H1):
  OK1 G1 (λa=>∃(j:Nat) (d:D),I j/\ρ[j]? = some (B.o d)/\σ[j]? = some (some (V.ref a))) (∃(j:Nat) (l:List D),I j/\ρ[j]? = some (B.o (.lst l))) (∃(j:Nat) (k v:List D),I j/\ρ[j]? = some (B.o (.dct k v))):=by
 rintro a ⟨j,m,s,e,q⟩;obtain⟨b,t,E,C,g⟩:=h.ow j m e;rw[q] at t;cases t
 cases x:G1 a with
 | none=>exact .inl rfl
 | some o=>
  have f:=y a o x
  cases m with
  | lst w=>
   obtain⟨u,n,p⟩:=g;rw[g3 a _ n] at f
   cases f
   exact .inr (.inl ⟨⟨u,rfl⟩,j,w,s,e⟩)
  | dct A vs=>
   obtain⟨u,n,p⟩:=g;obtain⟨i,z,r⟩:=p;rw[g3 a _ z] at f
   cases f
   exact .inr (.inr ⟨⟨i,rfl⟩,j,A,vs,s,e⟩)
  | _=>exact g.elim
def z6W {d:D}{v:V}{i:Nat}(h:AbS K mg H0 G0 G ρ σ H)(g:Same G1 H1)(g3:Same H H1)(f:Safe d (ρ.set i .n))(rd:RD K mg G1 d v):
  RD K mg (Pu.minus G1 (λa=>∃(j:Nat) (d:D),j≠i/\ρ[j]? = some (B.o d)/\σ[j]? = some (some (V.ref a)))) d v:=by
 refine RD.minus (zgJ (d:=d) h g g3) d (λ⟨j,l,b,e⟩ =>?_) (λ⟨j,k,v,b,e⟩ =>?_) rd
 .exact Safe.get f (by rw[wH (vN b)];exact e)
 .exact Safe.get f (by rw[wH (vN b)];exact e)
def z9K {d:D}{v:V}(h:AbS K mg H0 G0 G ρ σ H)(f:Same G1 H1)(g3:Same H H1)(b:Safe d ρ)(rd:RD K mg G1 d v):
  RD K mg (Pu.minus G1 (λa=>∃(j:Nat) (d:D),True/\ρ[j]? = some (B.o d)/\σ[j]? = some (some (V.ref a)))) d v:=by
 refine RD.minus (zgJ (d:=d) h f g3) d (λ⟨j,l,g,e⟩ =>?_) (λ⟨j,k,v,g,e⟩ =>?_) rd
 .exact Safe.get b e
 .exact Safe.get b e
def AbS.put {l:Hp}{i:Nat}{d:D}{v:V}(h:AbS K mg H0 G0 G ρ σ H)(nw:∀a o,l a=some o->(∃u,G0 a=some u)\/H0 a=none)(n:Same G l)(z:Same l H1)(g3:Same H H1)(E:∀j d' a,j≠i->ρ[j]? = some (B.o d')->σ[j]? = some (some (V.ref a))->l a=none)(rd:RD K mg l d v):
  AbS K mg H0 G0 l (ρ.set i (.s d)) (σ.set i (some v)) H1 where
 len:=by simp[h.len]
 s0:=z02 h.s0 g3
 g0:=z02 h.g0 n
 g:=z
 nw:=nw
 sh:=λj e q=>by
  by_cases b:j=i
  .subst b;have f:j < ρ.length:=by
    have:=(wu.mp q).1;simpa using this
   rw[wQ f] at q
   cases q
   exact⟨v,by rw[wQ (by rw[h.len];exact f)],rd⟩
  .rw[wH (vN b)] at q;obtain⟨w,m,t⟩:=h.sh j e q;exact⟨w,by rw[wH (vN b)];exact m,t.same n⟩
 ow:=λj e q=>by
  by_cases b:j=i
  .subst b;have f:j < ρ.length:=by
    have:=(wu.mp q).1;simpa using this
   rw[wQ f] at q
   cases q
  .rw[wH (vN b)] at q;obtain⟨a,m,t,A,C⟩:=h.ow j e q;exact⟨a,by rw[wH (vN b)];exact m,E j e a b q m,A,C.same n (g3 a)⟩
 ne:=λj k e y a p q r s x=>by
  have f:∀{j:Nat}{e:D},(ρ.set i (.s d))[j]? = some (B.o e)->j≠i:=λ{j e} q b=>by
   subst b;have f:j < ρ.length:=by
    have:=(wu.mp q).1;simpa using this
   rw[wQ f] at q
   cases q
  have b:=f q;have F:=f r;rw[wH (vN b)] at q s;rw[wH (vN F)] at r x;exact h.ne j k e y a p q r s x
def AbS.own {l:Hp}{i:Nat}{d:D}{a:Addr}(h:AbS K mg H0 G0 G ρ σ H)(nw:∀a o,l a=some o->(∃u,G0 a=some u)\/H0 a=none)(A:Same G l)(O:Same l H1)(g3:Same H H1)(R:∀j d' a,j≠i->ρ[j]? = some (B.o d')->σ[j]? = some (some (V.ref a))->l a=none)(L:H a=none)(Q:l a=none)(T:z5o K mg l H1 a d):
  AbS K mg H0 G0 l (ρ.set i (.o d)) (σ.set i (some (.ref a))) H1 where
 len:=by simp[h.len]
 s0:=z02 h.s0 g3
 g0:=z02 h.g0 A
 g:=O
 nw:=nw
 sh:=λj e q=>by
  by_cases f:j=i
  .subst f;have p:j < ρ.length:=by
    have:=(wu.mp q).1;simpa using this
   rw[wQ p] at q
   cases q
  .rw[wH (vN f)] at q;obtain⟨w,m,C⟩:=h.sh j e q;exact⟨w,by rw[wH (vN f)];exact m,C.same A⟩
 ow:=λj e q=>by
  by_cases f:j=i
  .subst f;have p:j < ρ.length:=by
    have:=(wu.mp q).1;simpa using this
   rw[wQ p] at q
   cases q
   refine⟨a,by rw[wQ (by rw[h.len];exact p)],Q,?_,T⟩;exact z13 h.s0 L
  .rw[wH (vN f)] at q;obtain⟨b,m,C,J,E⟩:=h.ow j e q;exact⟨b,by rw[wH (vN f)];exact m,R j e b f q m,J,E.same A (g3 b)⟩
 ne:=λj k e N b r q F s I=>by
  have n:∀{j:Nat}{e:D},j≠i->(ρ.set i (.o d))[j]? = some (B.o e)->(σ.set i (some (.ref a)))[j]? = some (some (V.ref b))->ρ[j]? = some (B.o e)/\σ[j]? = some (some (V.ref b)):=λ{j e} f q s=>by
   rw[wH (vN f)] at q s;exact⟨q,s⟩
  have new:∀{j:Nat}{e:D},j=i->(ρ.set i (.o d))[j]? = some (B.o e)->(σ.set i (some (.ref a)))[j]? = some (some (V.ref b))->b=a:=λ{j e} f q s=>by
   subst f;have p:j < σ.length:=by
    have:=(wu.mp s).1;simpa using this
   rw[wQ p] at s
   cases s;rfl
  have none:∀{j:Nat}{e:D},ρ[j]? = some (B.o e)->σ[j]? = some (some (V.ref b))->b≠a:=λ{j e} q s z=>by
   obtain⟨X,m,C,J,E⟩:=h.ow j e q;rw[s] at m;cases m;obtain⟨o,M⟩:=E.some;rw[z,L] at M;cases M
  by_cases f:j=i
  .have S:=new f q s;have t:k≠i:=λz=>r (f.trans z.symm);obtain⟨x,y⟩:=n t F I;exact none x y S
  .obtain⟨x,y⟩:=n f q s
   by_cases t:k=i
   .exact none x y (new t F I)
   .obtain⟨U,W⟩:=n t F I;exact h.ne j k e N b r x U y W
def AbS.wr {g:Hp}{i:Nat}{d d':D}{a:Addr}{o:HO}(h:AbS K mg H0 G0 G ρ σ H)(S:∀a o,g a=some o->(∃u,G0 a=some u)\/H0 a=none)(A:Same G g)(M:Same g H1)(g3:Same H H1)(C:∀(j:Nat) d' a,ρ[j]? = some (B.o d')->σ[j]? = some (some (V.ref a))->g a=none)(l:ρ[i]? = some (B.o d))(r:σ[i]? = some (some (V.ref a)))
  (Q:z5o K mg g (upd H1 a o) a d'):AbS K mg H0 G0 g (ρ.set i (.o d')) σ (upd H1 a o):=by
 obtain⟨Y,I,Z,m,R⟩:=h.ow i d l;rw[r] at I;cases I;have L:i < ρ.length:=(wu.mp l).1;refine⟨by simp[h.len],λb u e =>?_,z02 h.g0 A,λb u e =>?_,S,λj e q =>?_,λj e q =>?_,λj k e F b E q T s X =>?_⟩
 .have p:b≠a:=λz=>by rw[z,m] at e;cases e
  rw[z0d p];exact g3 b u (h.s0 b u e)
 .have p:b≠a:=λz=>by rw[z,C i d a l r] at e;cases e
  rw[z0d p];exact M b u e
 .by_cases f:j=i
  .subst f;rw[wQ L] at q;cases q
  .rw[wH (vN f)] at q;obtain⟨w,n,J⟩:=h.sh j e q;exact⟨w,n,J.same A⟩
 .by_cases f:j=i
  .subst f;rw[wQ L] at q;cases q;exact⟨a,r,C j d a l r,m,Q⟩
  .rw[wH (vN f)] at q;obtain⟨b,n,J,N,O⟩:=h.ow j e q;have p:b≠a:=λz=>by subst z;exact h.ne j i e d b f q l n r
   exact⟨b,n,C j e b q n,N,O.same A (λu e=>by rw[z0d p];exact g3 b u e)⟩
 .have t:∀{j:Nat}{e:D},(ρ.set i (.o d'))[j]? = some (B.o e)->∃F,ρ[j]? = some (B.o F):=λ{j e} q=>by
   by_cases f:j=i
   .subst f;exact⟨d,l⟩
   .rw[wH (vN f)] at q;exact⟨e,q⟩
  obtain⟨x,U⟩:=t q;obtain⟨y,W⟩:=t T;exact h.ne j k x y b E U W s X
def AbS.dem1 (h:AbS K mg H0 G0 G ρ σ H)(j:Nat):∃G',AbS K mg H0 G0 G' (ρ.set j (demB ((ρ[j]?).getD .n))) σ H/\Same G G':=by
 cases q:ρ[j]? with
 | none=>
  have:ρ.set j (demB (none.getD .n))=ρ:=by
   apply List.set_eq_of_length_le;exact List.getElem?_eq_none_iff.mp q
  rw[this];exact⟨G,h,Same.refl'⟩
 | some b=>
  have t:j < ρ.length:=(wu.mp q).1;have same:∀m,b=m->demB m=m->∃G',AbS K mg H0 G0 G' (ρ.set j (demB ((some b).getD .n))) σ H/\Same G G':=λm e u=>by
   subst e;have:ρ.set j (demB ((some b).getD .n))=ρ:=by
    show ρ.set j (demB b)=ρ;rw[u];apply List.ext_getElem?;intro k
    by_cases f:k=j
    .subst f;rw[wQ t,q]
    .rw[wH (vN f)]
   rw[this];exact⟨G,h,Same.refl'⟩
  cases b with
  | n=>exact same .n rfl rfl
  | s d=>exact same (.s d) rfl rfl
  | o d=>
   obtain⟨a,E,F,x,L⟩:=h.ow j d q;show ∃G',AbS K mg H0 G0 G' (ρ.set j (.s d)) σ H/\Same G G';have lp:Same G (plus G H (· = a)):=z2I (λb z=>by rw[z];exact F);refine⟨plus G H (· = a),⟨by simp[h.len],h.s0,z02 h.g0 lp,z3L h.g,λb o e=>(by
     by_cases r:b=a
     .exact .inr (by rw[r];exact x)
     .unfold plus at e;rw[if_neg r] at e;exact h.nw b o e),λk e z =>?_,λk e z =>?_,λk l e u b C z N s M =>?_⟩,lp⟩
   .by_cases f:k=j
    .subst f;rw[wQ t] at z;cases z;exact⟨.ref a,E,L.rd lp (zcR rfl)⟩
    .rw[wH (vN f)] at z;obtain⟨w,p,A⟩:=h.sh k e z;exact⟨w,p,A.same lp⟩
   .by_cases f:k=j
    .subst f;rw[wQ t] at z;cases z
    .rw[wH (vN f)] at z;obtain⟨b,p,A,I,J⟩:=h.ow k e z;have r:b≠a:=λy=>by subst y;exact h.ne k j e d b f z q p E
     refine⟨b,p,?_,I,J.same lp (λ_ e=>e)⟩;unfold plus;rw[if_neg r];exact A
   .have i:∀{k:Nat}{e:D},(ρ.set j (.s d))[k]? = some (B.o e)->ρ[k]? = some (B.o e):=λ{k e} z=>by
     by_cases f:k=j
     .subst f;rw[wQ t] at z;cases z
     .rw[wH (vN f)] at z;exact z
    exact h.ne k l e u b C (i z) (i N) s M
theorem AbS.dem (b:List Nat):∀{G:Hp}{a:Pu.Env},AbS K mg H0 G0 G a σ H->∃G',AbS K mg H0 G0 G' (dem b a) σ H/\Same G G':=by
 induction b with
 | nil=>intro G a h;exact⟨G,h,Same.refl'⟩
 | cons j b l=>
  intro G a h;obtain⟨m,g,e⟩:=h.dem1 j;obtain⟨d,i,f⟩:=l g;exact⟨d,i,z02 e f⟩
end
def Kn (K:W.Frag)(mg:WmP)(g f G:Hp)(h:Pu.Env->Prop)(N:L2.St->Hp->Prop):Prop:=∀a b e d,h a->AbS K mg g f d a b e->Same G d->N b e
def Kr (K:W.Frag)(mg:WmP)(e f:Hp)(g:DK)(R:VK):Prop:=∀d v a b,g d->Gr f e a->Same a b->Same e b->RD K mg a d v->R v b
def ts (K:W.Frag)(mg:WmP)(E:XK)(t:Sm):TS:=λD h H=>∃a b G g d e f,AbS K mg a b G g h H/\t.run g d e f/\Kn K mg a b G d D.nx/\Kr K mg a b e D.rt/\Kx mg a f E
def Kn.same {K:W.Frag}{mg:WmP}{j f G i:Hp}{l:Pu.Env->Prop}{N:L2.St->Hp->Prop}(h:Kn K mg j f G l N)(g:Same G i):Kn K mg j f i l N:=λd e n m a b c=>h d e n m a b (z02 g c)
abbrev QZ (X:Cx)(E:XK)(st:Stmt)(t:Sm):Prop:=QS X st (ts X.K X.mg E t)
abbrev QZs (X:Cx)(E:XK)(st:List Stmt)(t:Sm):Prop:=QSs X st (ts X.K X.mg E t)
section
variable {X:Cx}{E:XK}{st:Stmt}{rest body la lb:List Stmt}{t u:Sm}{e a b c:Expr}{x y z:Ex}{pos:Pos}
def zk5:QZs X E [] .skip:=QSs.imp zhV <| by rintro D f H ⟨h,g,G,e,i,j,l,a,d,b,m,n⟩;exact b e f H G d a Same.refl'
def zgy (h:QZ X E st t):QZs X E [st] t:=zhU h
def zcI (h:QZ X E st t)(p:QZs X E rest u):QZs X E (st::rest) (.seq t u):=QSs.imp (zeW h p) λD z H ⟨i,f,G,w,j,b,d,o,s,r,l,m⟩=>
 ⟨i,f,G,w,λa=>u.run a j b d,b,d,o,s,λa x y n q e g=>⟨i,f,n,a,j,b,d,e,q,r.same g,l,m⟩,l,m⟩
def zek {K:W.Frag}{mg:WmP}{h i G H:Hp}{a:Pu.Env}{f:L2.St}{b:DK}{d:XP}{Q:VK}(e:AbS K mg h i G a f H)(l:x.run a b d)(m:Kx mg h d E)(j:Kt K mg (plus G H (z3U a f)) H b Q):tx K mg E x f H Q:=
 ⟨plus G H _,a,b,d,z3L e.g,e.abe,l,j,m.same e.s0⟩
def AbS.back {K:W.Frag}{mg:WmP}{p n G h H m:Hp}{f:Pu.Env}{g:L2.St}(b:AbS K mg p n G f g H)(q:Gr (plus G H (z3U f g)) H h)(t:Same h m)(g3:Same H m):AbS K mg p n (minus h (z3U f g)) f g m/\Same G (minus h (z3U f g)):=by
 have s:=b.free;have l  := z3p (z02 (z2I s) q.1) s;exact⟨⟨b.len,z02 b.s0 g3,z02 b.g0 l,z02 z2V t,λa o e=>b.nw1 q a o (z2V a o e),λi d e=>by
   obtain⟨v,j,r⟩:=b.sh i d e;exact⟨v,j,r.same l⟩,λi d e=>by
   obtain⟨a,j,r,u,w⟩:=b.ow i d e;exact⟨a,j,z5N ⟨i,d,e,j⟩,u,w.same l (g3 a)⟩,b.ne⟩,l⟩
def zjj {K:W.Frag}{mg:WmP}{i m G H:Hp}{h:Pu.Env}{l:L2.St}{A B:Prop}{n:XP}{Q:Bool->Hp->Prop}(j:AbS K mg i m G h l H)(w:x.run h (λd=>tst d A B) n)(y:Kx mg i n E)
  (t:A->∀e a,AbS K mg i m a h l e->Same G a->Q true e) (u:B->∀e a,AbS K mg i m a h l e->Same G a->Q false e):tt K mg E x l H Q:=by
 refine⟨plus G H _,h,_,n,z3L j.g,j.abe,w,λd F o q r s g3 =>?_,y.same j.s0⟩;obtain⟨b,rfl,z,C⟩:=z8i q;refine⟨b,rfl,?_⟩;obtain⟨f,p⟩:=j.back r s g3
 cases b with
 | true=>exact t (z rfl) o _ f p
 | false=>exact u (C rfl) o _ f p
def zmZ (w:QXT X E c z)(r:QZs X E la t)(s:QZs X E lb u):QZ X E (.If c la lb pos) (.ifs z t u):=QS.imp (zn9 w r s) <| by
 rintro D y H ⟨f,e,G,n,h,i,j,p,x,m,l,d⟩;refine zjj p x d (λq o b a g =>?_) (λq o b a g =>?_)
 .exact iteT ⟨f,e,b,n,h,i,j,a,q,m.same g,l,d⟩
 .exact iteF ⟨f,e,b,n,h,i,j,a,q,m.same g,l,d⟩
def zk1 (j:QX X E e x):QZ X E (.Return (some e) pos) (.ret x):=QS.imp (zkp j) λD w H ⟨o,n,G,u,p,r,s,a,l,t,i,m⟩=>
 zek a l m λd v f g q b h g3 rd=>i d v f g q ⟨z02 a.g0 (z02 (z2I a.free) b.1),a.nw1 b⟩ h (z02 a.s0 g3) rd
def z5R (i:Nat)(b:Pu.Env)(e:L2.St)(a:Addr):Prop:=∃(j:Nat) (d:D),j≠i/\b[j]? = some (B.o d)/\e[j]? = some (some (V.ref a))
def zgz (h:QS X (.Assign [tg] e pos) (tAsg (tx X.K X.mg E x) (z3t i))):QZ X E (.Assign [tg] e pos) (.set i x):=QS.imp h λD C H ⟨J,F,G,A,L,M,N,b,y,w,O,z⟩=>
 zek b y z λd v I m q f g g3 rd=>by
  have t:∀a,z5R i A C a->G a=none:=λa ⟨j,d,_,p,r⟩=>b.free a ⟨j,d,p,r⟩;have l  := z3p (z02 (z2I b.free) f.1) t;exact w _ _ m _ q.2 (b.put (λa o e=>b.nw1 f a o (z2V a o e)) l (z02 z2V g) g3 (λj n a u e s=>z5N ⟨j,n,u,e,s⟩) (z6W b g g3 q.1 rd)) l
def zhM (h:QS X (.Assign [tg] e pos) (tAsg (tx X.K X.mg E x) (z3t i))):QZ X E (.Assign [tg] e pos) (.setx js i x):=QS.imp h <| by
 rintro D σ H ⟨O,N,G,Z,Q,R,t,m,J,I,U,M⟩;obtain⟨n,f,C⟩:=m.dem js;refine⟨n,vis _,_,t,f.g,f.vis,J,λd v p r q l F g3 rd =>?_,M.same m.s0⟩;exact I _ _ r _ q (f.put (f.nw2 l) l.1 F g3 (λj y a W e s=>by
  obtain⟨b,A,S,T,L⟩:=f.ow j y e;rw[s] at A;cases z:p a with
  | none=>rfl
  | some o=>
   obtain⟨u,Y⟩:=L.some
   rcases l.2 a o z with ⟨w,q⟩ | q
   .grind
   grind) rd) (z02 C l.1)
def Kf (K:W.Frag)(mg:WmP)(G H:Hp)(f:DK)(Q:VK):Prop:=∀d a b e,f d->Gr G H b->Same b e->Same H e->H a=none->b a=none->z5o K mg b e a d->Q (.ref a) e
def tf (K:W.Frag)(mg:WmP)(E:XK)(e:Ex):TE:=λf H Q=>∃G d a b,Same G H/\AbE K mg G d f/\e.run d a b/\Kf K mg G H a Q/\Kx mg H b E
abbrev QF (X:Cx)(E:XK)(e:Expr)(x:Ex):Prop:=QE X e (tf X.K X.mg E x)
def Kt.kf {K:W.Frag}{mg:WmP}{G H:Hp}{g:DK}{Q:VK}(h:Kt K mg G H g Q):Kf K mg G H g Q:=λd a s m q i n g3 r p l=>by
 obtain⟨o,j⟩:=l.some;have lp  := z0n p o;refine h d _ _ m q ⟨z02 i.1 lp,λb u e =>?_⟩ (λb u e =>?_) g3 (l.rd lp (by rw[z0c];exact j.symm))
 .by_cases f:b=a
  .subst f;exact .inr r
  .rw[z0d f] at e;exact i.2 b u e
 .by_cases f:b=a
  .subst f;rw[z0c] at e;rw[j];exact e
  .rw[z0d f] at e;exact n b u e
def QF.qx (h:QF X E e x):QX X E e x:=QE.imp h λm H Q ⟨G,l,a,b,i,d,g,f,j⟩=>⟨G,l,a,b,i,d,g,f.kf,j⟩
def zk4 (h:QS X (.Assign [tg] e pos) (tAsg (tf X.K X.mg E x) (z3t i))):QZ X E (.Assign [tg] e pos) (.own i x):=QS.imp h <| by
 rintro D t H ⟨H0,G0,G,p,N0,R0,M,b,U,T,hR,W⟩;refine⟨plus G H (z3U p t),p,_,M,z3L b.g,b.abe,U,λd a u L q A C g3 Q ga I =>?_,W.same b.s0⟩;have R:∀a,z5R i p t a->G a=none:=λa ⟨j,d,_,f,m⟩=>b.free a ⟨j,d,f,m⟩;have J  := z3p (z02 (z2I b.free) A.1) R;have z06:∀l xs,(∀x∈l,Safe x (p.set i .n))->RDs X.K X.mg u l xs->RDs X.K X.mg (minus u (z5R i p t)) l xs:=by
  intro l
  induction l with
  | nil=>intro xs _ h;exact h
  | cons y l Z=>
   intro xs F h;obtain⟨v,r,f,m,O⟩:=h;exact⟨v,r,f,z6W b C g3 (F y wF) m,Z r (λz Y=>F z (wq _ Y)) O⟩
 have na:minus u (z5R i p t) a=none:=by
  unfold minus
  simp_all
 refine T _ _ L _ q.2 (b.own (λa o e=>b.nw1 A a o (z2V a o e)) J (z02 z2V C) g3 (λj N a S e s=>z5N ⟨j,N,S,e,s⟩) Q na ?_) J;have w:=q.1
 cases d with
 | lst l=>
  obtain⟨xs,f,m⟩:=I;exact⟨xs,f,z06 l xs w m⟩
 | dct ks vs=>
  obtain⟨xs,f,m⟩:=I;exact⟨xs,z06 vs xs w f,m⟩
 | _=>exact w.elim
end
section
variable {X:Cx}{E:XK}{st:Stmt}{rest body la lb:List Stmt}{t u:Sm}{e a b c tg iter:Expr}{x y z:Ex}{pos:Pos}
def zaK (h:onL o Q):∃l,o=some l/\Q l:=by
 cases o with
 | none=>exact h.elim
 | some l=>exact⟨l,rfl,h⟩
def zeO (R:PassesOwn (model X.prog X.w) X.A X.env X.xe)(O:QXT X E c z)(N:QZs X E body t):QZ X E (.While c body [] pos) (.wh z t):=QS.imp (zeX R O N) <| by
 rintro D Y H ⟨o,j,G,T,p,h,i,J,⟨n,S⟩,Q,M,I⟩;refine⟨λm b f=>∃d a,AbS X.K _ o j d a b f/\Same G d/\wh z t p h i m a,⟨n,G,T,J,Same.refl',S⟩,?_⟩;rintro m x W ⟨U,g,s,C,F⟩
 cases m with
 | zero=>exact F.elim
 | succ m=>
  refine zjj s F I (λq y l e u =>?_) (λq y l e u =>?_)
  .refine iteT ⟨λb f=>∃d a,AbS X.K _ o j d a b f/\Same G d/\wh z t p h i m a,λb f w=>⟨m,uW _,w⟩,?_⟩;exact⟨o,j,l,g,wh z t p h i m,h,i,e,q,λa b f d w r L=>⟨d,a,r,z02 C (z02 u L),w⟩,M,I⟩
  .exact iteF (Q g x y l q e (z02 C u))
def Walk (K:W.Frag)(mg:WmP)(G:Hp)(l:List D)(J:It):Prop:=∀i a H,Same G a->Same a H->
 (∀d,l[i]? = some d->J.go i H/\∀v e,J.yld i H v e->Same H e/\∃b,Gr a H b/\Same b e/\RD K mg b d v)/\(l.length<=i->J.stop i H)
def ti (K:W.Frag)(mg:WmP)(E:XK)(e:Ex):TI:=λi H R=>∃G h f g,Same G H/\AbE K mg G h i/\e.run h f g/\(∀d,f d->∃l,z06 d=some l)/\(∀d a b,f d->Gr G H a->Same a b->Same H b->∀l J,z06 d=some l->Walk K mg a l J->R J b)/\Kx mg H g E
abbrev QXI (X:Cx)(E:XK)(tg e:Expr)(x:Ex):Prop:=QI X tg e (ti X.K X.mg E x)
def tgt (K:W.Frag):Tg->TG
 | .nm i=>z3t i
 | .tp is=>gTup K is.length (is.foldr (λi r=>zfM (z3t i) r) gNil)
theorem z6n {K:W.Frag}:∀(is:List Nat) vs a H Q,is.length=vs.length->Q ((is.zip vs).foldl (λa p=>a.set p.1 (some p.2)) a) H->(is.foldr (λi r=>zfM (z3t i) r) gNil) vs a H Q
 | [],[],_,_,_,_,q=>⟨rfl,q⟩
 | [],_::_,_,_,_,h,_=>by simp at h
 | _::_,[],_,_,_,h,_=>by simp at h
 | i::is,v::vs,a,H,Q,h,q=>⟨v,vs,rfl,z6n (K:=K) is vs _ H Q (by simpa using h) q⟩
theorem AbS.putAll {K:W.Frag}{mg:WmP}{o n H:Hp}:∀is ds vs {G:Hp}{l:Pu.Env}{f:L2.St},is.length=ds.length->RDs K mg G ds vs->AbS K mg o n G l f H->
  AbS K mg o n G (z09 is ds l) ((is.zip vs).foldl (λf p=>f.set p.1 (some p.2)) f) H
 | [],[],vs,G,l,f,_,h,b=>by exact b
 | [],_::_,_,_,_,_,h,_,_=>by simp at h
 | _::_,[],_,_,_,_,h,_,_=>by simp at h
 | i::is,d::ds,vs,G,l,f,h,r,b=>by
  obtain⟨v,m,rfl,t,u⟩:=r;exact AbS.putAll is ds m (by simpa using h) u (b.put b.nw Same.refl' b.g Same.refl' (λj q a w e s=>b.free a ⟨j,q,e,s⟩) t)
def zho {K:W.Frag}{mg:WmP}{t r G H:Hp}{x:Pu.Env}{q:L2.St}{o:Tg}{d:D}{v:V}{u:Pu.Env->Prop}{N:L2.St->Hp->Prop}(b:AbS K mg t r G x q H)(rd:RD K mg G d v)(f:o.put d x u)(w:∀h l,u h->AbS K mg t r G h l H->N l H):tgt K o v q H N:=by
 cases o with
 | nm i=>exact w _ _ f (b.put b.nw Same.refl' b.g Same.refl' (λj y a C e s=>b.free a ⟨j,y,e,s⟩) rd)
 | tp is=>
  cases d with
  | tup z=>
   obtain⟨n,f⟩:=f;obtain⟨a,p,rfl,A,m⟩:=rd;exact⟨a,p,rfl,z0G b.g A,by rw[m.len,n],z6n (K:=K) is p q H N (by rw[m.len,n]) (w _ _ f (b.putAll is z p n m))⟩
  | _=>exact f.elim
def AbS.over {K:W.Frag}{mg:WmP}{n m G h H j:Hp}{t:Pu.Env}{x:L2.St}(b:AbS K mg n m G t x H)(f:Gr G H h)(A:Same h j)(s:Same H j):AbS K mg n m h t x j where
 len:=b.len
 s0:=z02 b.s0 s
 g0:=z02 b.g0 f.1
 g:=A
 nw:=b.nw2 f
 sh:=λi d e=>by
  obtain⟨v,l,p⟩:=b.sh i d e;exact⟨v,l,p.same f.1⟩
 ow:=λi d e=>by
  obtain⟨a,l,p,y,r⟩:=b.ow i d e;refine⟨a,l,?_,y,r.same f.1 (s a)⟩
  cases z:h a with
  | none=>rfl
  | some o=>
   obtain⟨u,C⟩:=r.some
   rcases f.2 a o z with ⟨w,q⟩ | q
   .grind
   grind
 ne:=b.ne
def z6p {K:W.Frag}{mg:WmP}{h o G H:Hp}{R:Pu.Env}{f:L2.St}{l:List D}{J:It}{F:Tg}{A:Pu.Env->Prop}{r:DK}{s:XP}{p:Ends}(ab:AbS K mg h o G R f H)(hw:Walk K mg G l J)(hr:forL F t A r s l R)
  (hn:Kn K mg h o G A p.nx) (hR:Kr K mg h o r p.rt) (hx:Kx mg h s E):
  ∃W:Nat->Nat->L2.St->Hp->Prop,(∃m,W 0 m f H)/\∀i m f H,W i m f H->
   (J.stop i H/\p.nx f H)\/(J.go i H/\∃N,(∀a b,N a b->∃m',m'<m/\W (i+1) m' a b)/\∀x b,J.yld i H x b->tgt K F x f b λX I=>ts K mg E t { p with nx:=N,ct:=N,bk:=p.nx } X I):=by
 refine⟨λi m f H=>Aa3 (m=l.length - i) (i<=l.length) (∃q d,AbS K mg h o q d f H/\Same G q/\forL F t A r s (l.drop i) d),⟨l.length,by simp,vP _,G,R,ab,Same.refl',by simpa using hr⟩,?_⟩;rintro i m U Y ⟨rfl,hi,q,d,j,Q,C⟩;obtain⟨w1,w2⟩:=hw i q Y Q j.g
 by_cases n:i<l.length
 .have e:l[i]? = some l[i]:=by simp[n]
  obtain⟨go,yl⟩:=w1 _ e;rw[uI n] at C;refine .inr ⟨go,λa b=>∃z u,AbS K mg h o z u a b/\Same G z/\forL F t A r s _ u,λa b w=>⟨l.length - (i+1),by omega,rfl,n,w⟩,λv I y =>?_⟩;obtain⟨s2,z,Z,k2,rd⟩:=yl v I y;have M:=j.over Z k2 s2;refine zho M rd C λT a0 hb O =>?_;exact⟨h,o,z,T,_,r,s,O,hb,λS a b G' w L g'=>⟨G',S,L,z02 Q (z02 Z.1 g'),w⟩,hR,hx⟩
 .have e:i=l.length:=by omega
  subst e;rw[List.drop_length] at C;exact .inl ⟨w2 (ww _),hn d U Y q C j Q⟩
def zk6 (F:PassesOwn (model X.prog X.w) X.A X.env X.xe)(s:X.calm=true)(y:QXI X E tg iter x)(u:QG X tg (tgt X.K g))(r:QZs X E body t)(L:autoParam (fI iter X) jC1):
  QZ X E (.For tg iter body [] pos) (.for_ js g x t):=QS.imp (zgB F s y u r L) <| by
 rintro D W H ⟨Q,N,G,U,S,T,j,b,I,C,p,f⟩;obtain⟨i,a,n⟩:=b.dem js;refine⟨i,vis _,_,j,a.g,a.vis,I,λd q=>(zaK q).imp λ_ z=>z.1,λd O R q e o g3 l J m M =>?_,f.same b.s0⟩;have h  := q;rw[m] at h;exact z6p (a.over e o g3) M h (C.same (z02 n e.1)) p f
def z3V {K:W.Frag}{mg:WmP}{G:Hp}{b:Int}{n:Nat}:Walk K mg G ((List.range n).map λ(k:Nat)=>D.int (b+k)) (Itr b n):=λi f H m j=>by
 refine⟨λd e =>?_,λa=>(show n<=i by simpa using a)⟩;obtain⟨h,g⟩:=wu.mp e;have a  := by simpa using h
 refine⟨a,λv l y =>?_⟩;obtain⟨rfl,rfl⟩:=y;refine⟨Same.refl',f,Gr.refl,j,?_⟩;rw[<- g];simp[List.getElem_map,List.getElem_range];rw[RD]
def z5v:Fn:=⟨λa Q _=>onR a λl=>Q (.lst l),λa Q b X d m _ q=>zaJ (λ_ q=>m _ q) q⟩
def z0O {K:W.Frag}{mg:WmP}{G:Hp}{i:Int}{v:V}(h:RD K mg G (.int i) v):v = .int i:=by exact h
def rds1 {K:W.Frag}{mg:WmP}{G:Hp}{d:D}{vs:List V}(h:RDs K mg G [d] vs):∃v,vs=[v]/\RD K mg G d v:=by
 obtain⟨x,r,rfl,a,b⟩:=h;subst b;exact⟨x,rfl,a⟩
def rds2 {K:W.Frag}{mg:WmP}{G:Hp}{d e:D}{vs:List V}(h:RDs K mg G [d,e] vs):∃v w,vs=[v,w]/\RD K mg G d v/\RD K mg G e w:=by
 obtain⟨x,r,rfl,a,b⟩:=h;obtain⟨y,rfl,f⟩:=rds1 b;exact⟨x,y,rfl,a,f⟩
def zaI {K:W.Frag}{mg:WmP}{G:Hp}{ds:List D}{vs:List V}{a:List D->Prop}(rds:RDs K mg G ds vs)(h:onR ds a):
  (∃j,vs=[.int j] /\ -(2 ^ 62)<=j/\j<2 ^ 62/\a ((List.range j.toNat).map λ(k:Nat)=>D.int (0+k)))\/∃i j,vs=[.int i,.int j]/\(-(2 ^ 62)<=i/\i<2 ^ 62 /\ -(2 ^ 62)<=j/\j<2 ^ 62)/\a ((List.range (j - i).toNat).map λ(k:Nat)=>D.int (i+k)):=by
 unfold onR at h
 split at h
 .obtain⟨v,rfl,r1⟩:=rds1 rds;refine .inl ⟨_,by rw[z0O r1],h.1.1,h.1.2,?_⟩;simpa using h.2
 .obtain⟨v,w,rfl,r1,r2⟩:=rds2 rds;exact .inr ⟨_,_,by rw[z0O r1,z0O r2],⟨h.1.1.1,h.1.1.2,h.1.2.1,h.1.2.2⟩,h.2⟩
 .exact h.elim
def zen {K:W.Frag}{mg:WmP}{es:List Ex}{r:L2.St}{H:Hp}{R:It->Hp->Prop}(h:ti K mg E (.op z5v es) r H R):txa K mg E es r H λvs H1=>(∃j,vs=[.int j] /\ -(2 ^ 62)<=j/\j<2 ^ 62/\R (Itr 0 j.toNat) H1)\/∃i j,vs=[.int i,.int j]/\(-(2 ^ 62)<=i/\i<2 ^ 62 /\ -(2 ^ 62)<=j/\j<2 ^ 62)/\R (Itr i (j - i).toNat) H1:=by
 obtain⟨G,y,g,m,w,s,u,_,p,x⟩:=h;refine⟨G,y,λa=>z5v.run a g m,m,w,s,u,λa vs f H1 q n o g3 rds =>?_,x⟩
 rcases zaI rds (show onR a (λl=>g _) from q) with ⟨j,e,b,t,d⟩ | ⟨i,j,e,b,d⟩
 .exact .inl ⟨j,e,b,t,p _ f H1 d n o g3 _ _ rfl z3V⟩
 .exact .inr ⟨i,j,e,b,p _ f H1 d n o g3 _ _ rfl z3V⟩
def zc5 {K:W.Frag}{mg:WmP}{es:List Ex}{n:Nat}{g:L2.St}{H:Hp}{Q Q':List V->Hp->Prop}(s:es.length=n)(m:∀vs a,vs.length=n->Q vs a->Q' vs a)(h:txa K mg E es g H Q):txa K mg E es g H Q':=by
 obtain⟨G,f,j,X0,u,l,t,r,w⟩:=h;have len:∀es Q,runs es f Q X0->runs es f (λb=>b.length=es.length/\Q b) X0:=by
  intro es
  induction es with
  | nil=>intro Q h;exact⟨rfl,h⟩
  | cons e es x=>
   intro Q h;exact e.mono f _ _ X0 X0 (λd q=>z3K es f _ _ X0 X0 (λb q=>⟨by simp[q.1],q.2⟩) (λ_ z=>z) (x _ q)) (λ_ z=>z) h
 exact⟨G,f,_,X0,u,l,len es j t,λb vs i a q o p g3 rds=>m vs a (by rw[rds.len,q.1,s]) (r b vs i a q.2 o p g3 rds),w⟩
def zbs {p:Pos}(d:Gl X "range")(f:X.mg "range"=none)(b:QXA X E [a] [x])(g:autoParam (starEach [a] X.env=[(false,eval a X.env)]) jA1):QXI X E tg (.Call (.Name "range" p) [a] [] pos) (.op z5v [x]):=QI.imp (z8D d f b g) λn H R h=>
 zc5 rfl (λvs l m q=>by
  rcases q with q | ⟨i,j,e,_⟩
  .exact q
  simp_all) (zen h)
def zhK {g:Tg}{es:List Ex}{y:TI}(N:PassesOwn (model X.prog X.w) X.A X.env X.xe)(L:X.calm=true)(M:QG X tg (tgt X.K g))(J:QZs X E body t)
  (m:∀d H R,(txa X.K X.mg E es d H λvs f=>(∃j,vs=[.int j] /\ -(2 ^ 62)<=j/\j<2 ^ 62/\R (Itr 0 j.toNat) f)\/∃i j,vs=[.int i,.int j]/\(-(2 ^ 62)<=i/\i<2 ^ 62 /\ -(2 ^ 62)<=j/\j<2 ^ 62)/\R (Itr i (j - i).toNat) f)->y d H R) (l:QI X tg iter y)
  (Q:autoParam (fI iter X) jC1):
  QZ X E (.For tg iter body [] pos) (.forr es g t):=QS.imp (zgB N L l M J Q) <| by
 rintro T d H ⟨Y,U,G,S,Z,R0,z,b,O,s,r,n⟩;refine m d H _ ⟨plus G H _,S,λp=>onR p _,z,z3L b.g,b.abe,O,λp vs W f q C F g3 rds =>?_,n.same b.s0⟩;obtain⟨a,u⟩:=b.back C F g3
 rcases zaI rds q with ⟨j,e,h,I,o⟩ | ⟨i,j,e,h,o⟩
 .exact .inl ⟨j,e,h,I,z6p a z3V o (s.same u) r n⟩
 .exact .inr ⟨i,j,e,h,z6p a z3V o (s.same u) r n⟩
def zeR {g:Tg}{p b:Pos}(s:PassesOwn (model X.prog X.w) X.A X.env X.xe)(n:X.calm=true)(d:Gl X "range")(r:X.mg "range"=none)(l:QXA X E [a] [x])(o:QG X tg (tgt X.K g))(m:QZs X E body t)(f:autoParam (starEach [a] X.env=[(false,eval a X.env)]) jA1)
  (u:autoParam (∀x,foldedSetIterable (.Call (.Name "range" p) [a] [] b) X.env x=pure x) jC1):QZ X E (.For tg (.Call (.Name "range" p) [a] [] b) body [] pos) (.forr [x] g t):=
 zhK s n o m (λC H R h=>zc5 rfl (λvs y z q=>by
  rcases q with q | ⟨i,j,e,_⟩
  .exact q
  simp_all) h) (z8D d r l f) u
def iAny (K:W.Frag)(tl:TE):TI:=λe H R=>tl e H λx b=>(∃a,x = .ref a/\(∃d,SqL K b a d)/\R (Itl K a) b)\/(∃a,x = .ref a/\(∃d,SqT K b a d)/\R (Itt K a) b)
def zks {tl:TE}(t:QE X l tl):QI X tg l (iAny X.K tl):=by
 constructor
 intro f s C H R I h;refine thn (t.p f s C H _ I h) λv d A =>?_;obtain⟨x,j,g,r1,w⟩:=A;have n:∀b∈[d.heap.objs.size],FpOk X f j b:=λb r=>by
  have e:b=d.heap.objs.size:=by simpa using r
  subst e;exact g.fpOk (ww _) (g.hok.fresh (ww _))
 rcases w with ⟨a,e,⟨z,m⟩,q⟩ | ⟨a,e,⟨z,m⟩,q⟩
 .subst e
  cases r1
  obtain⟨i,y,p,u⟩:=g.list m;refine wpAny_pyIter_list p.isList ?_;exact⟨d.heap.objs.size,[d.heap.objs.size],_,_,j,rfl,g.kept (t':=d.toks) λb o e=>wg _ e,zc7 a _,⟨_,wv _ rfl,rfl,rfl⟩,n,q⟩
 .subst e
  cases r1
  obtain⟨i,y,p,u⟩:=g.tuple m;refine uh (show d.heap.IsTuple a i.toArray from p) ?_;exact⟨d.heap.objs.size,[d.heap.objs.size],_,_,j,rfl,g.kept (t':=d.toks) λb o e=>wg _ e,zbe a _,⟨_,wv _ rfl,rfl,rfl⟩,n,q⟩
def zc2 {K:W.Frag}{mg:WmP}{G:Hp}{a:Addr}{xs:List V}{l:List D}(h:SqL K G a xs)(r:RDs K mg G l xs):Walk K mg G l (Itl K a):=λi m H g j=>by
 have b:=z1y (z02 g j) h;refine⟨λd e =>?_,λn=>⟨xs,b,by rw[r.len];exact n⟩⟩;obtain⟨v,f,o⟩:=r.get e;refine⟨⟨xs,v,b,f⟩,λq p y =>?_⟩;obtain⟨rfl,y⟩:=y;have:=y xs b;rw[f] at this
 cases this
 exact⟨Same.refl',m,Gr.refl,j,o.same g⟩
def zef {K:W.Frag}{mg:WmP}{G:Hp}{a:Addr}{xs:List V}{l:List D}(h:SqT K G a xs)(r:RDs K mg G l xs):Walk K mg G l (Itt K a):=λi m H g j=>by
 have b:=z0G (z02 g j) h;refine⟨λd e =>?_,λn=>⟨xs,b,by rw[r.len];exact n⟩⟩;obtain⟨v,f,o⟩:=r.get e;refine⟨⟨xs,v,b,f⟩,λq p y =>?_⟩;obtain⟨rfl,y⟩:=y;have:=y xs b;rw[f] at this
 cases this
 exact⟨Same.refl',m,Gr.refl,j,o.same g⟩
def qi_x (h:QX X E iter x):QXI X E tg iter x:=QI.imp (zks h) <| by
 rintro A H R ⟨G,z,p,r,u,s,t,y,o,w⟩;refine⟨G,z,p,r,u,s,t,λd v j m q n f g3 rd =>?_,w⟩
 cases d with
 | lst l=>
  obtain⟨a,i,rfl,b,g⟩:=rd;exact .inl ⟨a,rfl,⟨i,z1y f b⟩,o _ j m q n f g3 l _ rfl (zc2 b g)⟩
 | tup l=>
  obtain⟨a,i,rfl,b,g⟩:=rd;exact .inr ⟨a,rfl,⟨i,z0G f b⟩,o _ j m q n f g3 l _ rfl (zef b g)⟩
 | _=>
  obtain⟨l,e⟩:=y _ q
  cases e
end
section
variable {K:W.Frag}{mg:WmP}{H0 G0 G G1 H H1:Hp}{ρ:Pu.Env}{σ:L2.St}{i:Nat}
set_option tactic.hygienic true in
def z3M {a:List D->Prop}(h:ownL ρ i a):∃l,ρ[i]? = some (B.o (.lst l))/\a l:=by
 unfold ownL at h
 split at h
 .rename_i l e;exact⟨l,e,h⟩
 .exact h.elim
def zfj:(λa=>∃(j:Nat) (d:D),True/\ρ[j]? = some (B.o d)/\σ[j]? = some (some (V.ref a)))=z3U ρ σ:=by
 funext a
 exact propext ⟨λ⟨j,d,_,h⟩=>⟨j,d,h⟩,λ⟨j,d,h⟩=>⟨j,d,trivial,h⟩⟩
def z41 {v:V}(h:AbS K mg H0 G0 G ρ σ H)(a:Same G1 H1)(g3:Same H H1)(b:Safe d ρ)(rd:RD K mg G1 d v):RD K mg (minus G1 (z3U ρ σ)) d v:=by
 have:=z9K h a g3 b rd;rw[zfj] at this;exact this
def zeu (h:AbS K mg H0 G0 G ρ σ H)(b:Same G1 H1)(g3:Same H H1):∀{xs:List V},(∀x∈l,Safe x ρ)->RDs K mg G1 l xs->RDs K mg (minus G1 (z3U ρ σ)) l xs:=by
 induction l with
 | nil=>intro xs _ h;exact h
 | cons y l j=>
  intro xs a g;obtain⟨v,r,d,e,f⟩:=g;exact⟨v,r,d,z41 h b g3 (a y wF) e,j (λz i=>a z (wq _ i)) f⟩
def AbS.wrB (b:AbS K mg H0 G0 G ρ σ H)(d:Gr (plus G H (z3U ρ σ)) H G1)(h:Same G1 H1)(g3:Same H H1)(m:ρ[i]? = some (B.o (.lst l)))(p:σ[i]? = some (some (V.ref a)))(n:RDs K mg (minus G1 (z3U ρ σ)) l' ys):
  AbS K mg H0 G0 (minus G1 (z3U ρ σ)) (ρ.set i (.o (.lst l'))) σ (upd H1 a (.lst ys))/\Same G (minus G1 (z3U ρ σ)):=by
 have f  := z3p (z02 (z2I b.free) d.1) b.free;exact⟨b.wr (λa o e=>b.nw1 d a o (z2V a o e)) f (z02 z2V h) g3 (λj g a e s=>z5N ⟨j,g,e,s⟩) m p ⟨ys,z0c,n⟩,f⟩
end
section
variable {X:Cx}{E:XK}{st:Stmt}{t:Sm}{e o tg:Expr}{x y z:Ex}{pos cpos apos:Pos}{i j:Nat}
def zk8 (S:QE X o (tVar i))(Q:QXA X E [e] [x])
  (T:autoParam (swapsWith (.Call (.Attribute o "append" apos) [e] [] cpos) none pos.line X.env=pure false) jA1)
  (h:autoParam (aB o "append" X) jA1)
  (m:autoParam (aG cpos [e] X) jA1)
  (j:autoParam (aL apos cpos) jA1) (u:autoParam (sE e [] X) jA1) (b:autoParam (bT cpos [] X) jA1):
  QZ X E (.Expr (.Call (.Attribute o "append" apos) [e] [] cpos) pos) (.app i x):=
 QS.imp (z9R (zi3 uY PySem.F.slot_list_append PySem.F.type_list_append z6O S Q h m j u b) T) <| by
  rintro De Z H ⟨H0,G0,G,p,M,R0,r,f,t,R,hR,U⟩;obtain⟨l,I,t⟩:=z3M t;obtain⟨a,K,ga,h0,L,J,n⟩:=f.ow i _ I;refine⟨.ref a,K,⟨rfl,_,L,rfl,SqL.of J⟩,?_⟩;refine⟨plus G H _,p,λy=>∃d,y=[d]/\l.length<sizeLine/\Safe d p/\M (p.set i (.o (.lst (l++[d])))),r,z3L f.g,f.abe,x.mono p _ _ r r (λd q=>⟨d,rfl,q⟩) (λ_ z=>z) t,?_,U.same f.s0⟩;rintro y vs G1 H1 ⟨d,rfl,w,Y,O⟩ A C g3 rds;obtain⟨v,rfl,rd⟩:=rds1 rds;refine⟨a,L,v,rfl,rfl,g3 _ _ J,by rw[n.len];exact w,?_⟩;have W  := z3p (z02 (z2I f.free) A.1) f.free;obtain⟨s,N⟩:=f.wrB A C g3 I K ((n.same W).app (RDs.cons (z41 f C g3 Y rd) RDs.nil));exact R _ Z _ _ O s N
def zk7 (Q:QE X o (tVar i))(N:QF X E e x)
  (R:autoParam (swapsWith (.Call (.Attribute o "extend" apos) [e] [] cpos) none pos.line X.env=pure false) jA1)
  (j:autoParam (aB o "extend" X) jA1)
  (p:autoParam (aG cpos [e] X) jA1)
  (n:autoParam (aL apos cpos) jA1) (s:autoParam (sE e [] X) jA1) (f:autoParam (bT cpos [] X) jA1):
  QZ X E (.Expr (.Call (.Attribute o "extend" apos) [e] [] cpos) pos) (.ext i x):=by
 refine QS.imp (z9R (zi3 uY PySem.F.slot_list_extend PySem.F.type_list_extend zdh Q (z67 N z8F s) j p n s f) R) λDe σ H z9 =>?_;obtain⟨H0,G0,G,ρ,N0,R0,L,h,y,O,hR,S⟩:=z9;obtain⟨l,C,y⟩:=z3M y;obtain⟨a,J,ga,h0,K,I,r⟩:=h.ow i _ C;refine⟨.ref a,J,⟨rfl,_,K,rfl,SqL.of I⟩,?_⟩;refine⟨plus G H _,ρ,_,L,z3L h.g,h.abe,y,λd b G1 H1 q z A g3 hb gb w =>?_,S.same h.s0⟩
 cases d with
 | lst m=>
  obtain⟨zs,T,t⟩:=w;obtain⟨W,Y,Z⟩:=q;refine⟨a,b,K,zs,rfl,rfl,g3 _ _ I,T,by rw[r.len,t.len];exact W,?_⟩;have U  := z3p (z02 (z2I h.free) z.1) h.free;obtain⟨u,M⟩:=h.wrB z A g3 C J ((r.same U).app (zeu h A g3 Y t));exact O _ σ _ _ Z u M
 | _=>exact q.elim
def RDs.last {K:W.Frag}{mg:WmP}{G:Hp}{l:List D}{xs:List V}(h:RDs K mg G l xs):RDs K mg G l.dropLast xs.dropLast:=by
 rw[List.dropLast_eq_take,List.dropLast_eq_take,h.len];exact h.take _
set_option tactic.hygienic true in
def z8G {l:List D}{a:List D->D->Prop}(h:popL l a):∃d,l[l.length - 1]? = some d/\a l.dropLast d:=by
 unfold popL at h
 split at h
 .rename_i d e;exact⟨d,e,h⟩
 .exact h.elim
def zgb {K:W.Frag}{mg:WmP}{m h G H:Hp}{d:Pu.Env}{f:L2.St}{l l':List D}{a:Addr}{ys:List V}(b:AbS K mg m h G d f H)(p:d[i]? = some (B.o (.lst l)))(r:f[i]? = some (some (V.ref a)))(q:RDs K mg G l' ys):AbS K mg m h G (d.set i (.o (.lst l'))) f (upd H a (.lst ys)):=
 b.wr b.nw Same.refl' b.g Same.refl' (λj n a e s=>b.free a ⟨j,n,e,s⟩) p r ⟨ys,z0c,q⟩
def zk3 (t:QE X o (tVar i))(u:autoParam (swapsWith (.Call (.Attribute o "pop" apos) [] [] cpos) none pos.line X.env=pure false) jA1)(b:autoParam (aB o "pop" X) jA1)(e:autoParam (aL apos cpos) jA1):
  QZ X E (.Expr (.Call (.Attribute o "pop" apos) [] [] cpos) pos) (.pop i):=
 QS.imp (z9R (zgC uY PySem.F.slot_list_pop PySem.F.type_list_pop zgR t b e) u) <| by
  rintro y x H ⟨A,z,G,Q,C,I,J,h,g,s,M,N⟩;obtain⟨l,j,g⟩:=z3M g;obtain⟨d,r,q⟩:=z8G g;obtain⟨a,n,K,L,p,m,f⟩:=h.ow i _ j;refine⟨.ref a,n,⟨rfl,_,p,rfl,SqL.of m⟩,?_⟩;obtain⟨v,w,O⟩:=f.get r;exact⟨a,p,v,rfl,rfl,m,by rw[f.len];exact w,s _ x _ G q (zgb h j n f.last) Same.refl'⟩
def zeP (I:QE X o (tVar i))(h:∀{w:TE},QE X (.Call (.Attribute o "pop" apos) [] [] cpos) w->QS X (.Assign [tg] (.Call (.Attribute o "pop" apos) [] [] cpos) pos) (tAsg w (z3t j)))(f:autoParam (aB o "pop" X) jA1)(m:autoParam (aL apos cpos) jA1):
  QZ X E (.Assign [tg] (.Call (.Attribute o "pop" apos) [] [] cpos) pos) (.popTo j i):=
 QS.imp (h (zgC uY PySem.F.slot_list_pop PySem.F.type_list_pop zgR I f m)) <| by
  rintro L σ H ⟨N,M,G,Z,O,Q,R,q,p,C,U,Y⟩;obtain⟨l,r,p⟩:=z3M p;obtain⟨d,A,z⟩:=z8G p;obtain⟨a,u,S,T,x,t,n⟩:=q.ow i _ r;refine⟨.ref a,u,⟨rfl,_,x,rfl,SqL.of t⟩,?_⟩;obtain⟨v,J,K⟩:=n.get A;refine⟨a,x,v,rfl,rfl,t,by rw[n.len];exact J,?_⟩;have b:=zgb q r u n.last;exact C _ _ _ G z (b.put b.nw Same.refl' b.g Same.refl' (λj y a W e s=>b.free a ⟨j,y,e,s⟩) K) Same.refl'
def zaT (h:isI d Kk):∃k,d = .int k/\Kk k:=by
 cases d with
 | int k=>exact⟨k,rfl,h⟩
 | _=>exact h.elim
def zfn {o:Option Nat}{a:Nat->Prop}(h:onN o a):∃k,o=some k/\a k:=by
 cases o with
 | none=>exact h.elim
 | some k=>exact⟨k,rfl,h⟩
def zk2 {k:Expr}(Z:QE X o (tVar i))(W:QX X E k y)(U:QX X E e x)(h:∀{L:TE}{g:TG},QE X e L->QG X (.Subscript o k p2) g->QS X (.Assign [.Subscript o k p2] e pos) (tAsg L g))
  (T:autoParam (∀v,assign (.Subscript o k p2) X.env v=(do
   let n <- holding [v] (eval o X.env)
   let t <- holding [v,n] (eval k X.env)
   standAt p2
   holding [v,n,t] (setItem n t v)
   release [v,n,t] [])) jC1):QZ X E (.Assign [.Subscript o k p2] e pos) (.put i y x):=
 QS.imp (h U ⟨zkS Z.p W.p zes T⟩) <| by
  rintro De σ H ⟨H0,G0,G,M,N0,R0,w,b,s,Y,hR,C⟩;obtain⟨l,A,s⟩:=z3M s;obtain⟨a,K,ga,h0,xs,hw,m⟩:=b.ow i _ A;refine⟨plus G H _,M,_,w,z3L b.g,b.abe,s,λd v N H1 q z R g3 rd =>?_,C.same b.s0⟩;obtain⟨sf,q⟩:=q;refine⟨.ref a,K,?_⟩;refine⟨N,M,_,w,R,b.abe.same z.1,q,λkd kv G2 H2 u I J k3 rk =>?_,C.same (z02 b.s0 g3)⟩;obtain⟨kk,rfl,u⟩:=zaT u;obtain⟨F,O,S⟩:=zfn u;have j  := z.trans g3 I;have f  := z02 g3 k3;have lm  := z3p (z02 (z2I b.free) j.1) b.free;refine⟨a,xs,kk,F,rfl,z0O rk,f _ _ hw,by rw[m.len];exact O,?_⟩;obtain⟨r,Q⟩:=b.wrB j J f A K (RDs.set (z41 b J f sf (rd.same I.1)) F (m.same lm));exact Y _ σ _ _ S r Q
end
section
variable {P:Program}{w:World}{K:W.Frag}{mg:WmP}{base:Heap}{N:List Str}{qual:Str}{f:Addr}
def zeq {vs:List V}(w:Same G H)(r:RDs K mg G ds vs)(u:ds.length=np)(t:N.length=nn):AbS K mg H G G (ds.map B.s++List.replicate (nn - np) .n) (L2.z55 N vs) H:=by
 have q:∀(i:Nat) b,(ds.map B.s++List.replicate (nn - np) .n)[i]? = some b->(∃d,b = .s d/\ds[i]? = some d)\/b = .n:=λi b e=>by
  by_cases g:i<ds.length
  .rw[wM (by simpa using g),wO] at e;rw[wm g] at e ⊢
   cases e
   exact .inl ⟨_,rfl,rfl⟩
  .rw[wX (by simpa using g)] at e;have:=wu.mp e;obtain⟨p,h⟩:=this;simp at h;exact .inr h.symm
 refine⟨?_,Same.refl',Same.refl',w,λa o e =>.inl ⟨o,e⟩,λi d e =>?_,λi d e =>?_,λi j d l a _ e =>?_⟩
 .unfold L2.z55;rw[wG,wG,we,we,uM,uM,r.len,u,t]
 .rcases q i _ e with ⟨l,f,m⟩ | f
  .cases f
   obtain⟨v,p,h⟩:=r.get m;refine⟨v,?_,h⟩;unfold L2.z55;have g:i<vs.length:=(wu.mp p).1;rw[wM (by simpa using g),wO,p]
   rfl
  .cases f
 .rcases q i _ e with ⟨l,f,m⟩ | f <;> cases f
 .rcases q i _ e with ⟨l,f,m⟩ | f <;> cases f
def fnN {st:Stmt}{ps:List Str}{k p o:Nat}(F:Fun K x qual st f fd)(S:z5p N ps (z0e st))(I:ps.length=p)(z:N.length=o)
  (C:∀d A a s H E,Room k (A.deeper (envOfC qual (z0e st) s.heap.objs.size f d))->QZs ((cxOf (CXe P w) P w K mg base N qual (z0e st) f d A a s H E).wish λ_ _=>False) E0 (z21 st) b):
  FnOk P w K mg base (CXe P w) (k+1) f fd ps (spP K mg (Fn.mkN p o b)):=by
 refine F.okN S (λvs H Q E ⟨G,y,i,u,n,rds,⟨l,m⟩,j,J⟩=>by rw[rds.len,l,I]) λd A a s H vs Q E e ⟨G,y,i,u,n,rds,⟨l,m⟩,j,J⟩=>⟨_,C d A _ s H E e,?_⟩
 refine⟨H,G,G,_,λ_=>i _,i,λ_=>False,zeq n rds l z,m,λL M t r q h _ =>?_,j,Kx.no⟩;exact j _ _ r t q ⟨h.g0,h.nw⟩ h.g h.s0 (by rw[RD])
end
def Tg.slots:Tg->List Nat
 | .nm i=>[i]
 | .tp is=>is
section
variable {K:W.Frag}{mg:WmP}{G G1 H H1:Hp}{ρ:Pu.Env}{σ:L2.St}
def AbE.put {i:Nat}{d:D}{v:V}(h:AbE K mg G ρ σ)(l:i < σ.length)(r:RD K mg G d v):AbE K mg G (ρ.set i (.s d)) (σ.set i (some v)):=λj e q=>by
 rw[Env.get_eq] at q
 by_cases a:j=i
 .subst a
  cases z:(ρ.set j (.s d))[j]? with
  | none=>simp_all
  | some b=>
   have m  := by
    have:=(wu.mp z).1;simpa using this
   rw[wQ m] at q
   cases q
   exact⟨v,by rw[wQ l],r⟩
 .rw[wH (vN a), <- Env.get_eq] at q;obtain⟨w,f,g⟩:=h j e q;exact⟨w,by rw[wH (vN a)];exact f,g⟩
def AbE.keep {i:Nat}{v:V}(h:AbE K mg G ρ σ)(f:ρ.get i=none):AbE K mg G ρ (σ.set i (some v)):=λj e q=>by
 have d:j≠i:=λz=>by grind
 obtain⟨w,a,b⟩:=h j e q;exact⟨w,by rw[wH (vN d)];exact a,b⟩
theorem AbE.putAll:∀is ds vs {b:Pu.Env}{a:L2.St},is.length=ds.length->RDs K mg G ds vs->(∀i∈is,i < a.length)->(∀i∈is,base.get i=none)->AbE K mg G b a->AbE K mg G base a->
  AbE K mg G (z09 is ds b) ((is.zip vs).foldl (λa p=>a.set p.1 (some p.2)) a)/\AbE K mg G base ((is.zip vs).foldl (λa p=>a.set p.1 (some p.2)) a)/\((is.zip vs).foldl (λa p=>a.set p.1 (some p.2)) a).length=a.length
 | [],[],vs,b,a,_,h,_,_,e,f=>by exact⟨e,f,rfl⟩
 | [],_::_,_,_,_,h,_,_,_,_,_=>by simp at h
 | _::_,[],_,_,_,h,_,_,_,_,_=>by simp at h
 | i::is,d::ds,vs,b,a,h,r,t,m,e,f=>by
  obtain⟨v,g,rfl,q,s⟩:=r;obtain⟨n,o,u⟩:=AbE.putAll is ds g (by simpa using h) s (λj l=>by simp_all) (λj l=>m j (wq _ l)) (e.put (t i wF) q) (f.keep (m i wF));exact⟨n,o,by simp_all⟩
def zeo {v:V}(l:AbE K mg G ρ σ)(g:Same G H)(rd:RD K mg G d v)(p:∀i∈tg.slots,i < σ.length)(o:∀i∈tg.slots,ρ.get i=none)(h:tg.put d ρ N0)
  (q:∀j b,N0 j->AbE K mg G j b->AbE K mg G ρ b->b.length=σ.length->N b H):tgt K tg v σ H N:=by
 cases tg with
 | nm i=>
  have m:=p i (by simp[Tg.slots]);have f:=o i (by simp[Tg.slots]);exact q _ _ h (l.put m rd) (l.keep f) (by simp)
 | tp is=>
  cases d with
  | tup u=>
   obtain⟨e,h⟩:=h;obtain⟨a,n,rfl,m,f⟩:=rd;obtain⟨r,s,t⟩:=AbE.putAll is u n e f p o l l;exact⟨a,n,rfl,z0G g m,by rw[f.len,e],z6n (K:=K) is n σ H N (by rw[f.len,e]) (q _ _ h r s t)⟩
  | _=>exact h.elim
def zbW (h:AbE K mg G ρ σ):AbE K mg G (z1f nt js ρ) (List.replicate nt none++js.map λj=>(σ[j]?).getD none):=λi d e=>by
 rw[Env.get_eq] at e;unfold z1f at e
 by_cases f:i<nt
 .rw[wM (by simpa using f),jy,if_pos f] at e
  cases e
 .rw[wX (by simpa using f),uM,wO] at e;rw[wX (by simpa using f),wO]
  cases q:js[i - nt]? with
  | none=>simp_all
  | some j=>
   rw[q] at e;have a:((ρ[j]?).getD .n).get=some d:=e;have g:ρ.get j=some d:=by
    rw[Env.get_eq]
    cases z:ρ[j]? with
    | none=>rw[z] at a;cases a
    | some b=>rw[z] at a;exact a
   obtain⟨v,l,m⟩:=h j d g
   simp_all
def z9q (a:i<nt):(z1f nt js ρ).get i=none:=by
 rw[Env.get_eq];unfold z1f;rw[wM (by simpa using a),jy,if_pos a]
 rfl
def TcOk (K:W.Frag)(mg:WmP)(c:Option Ex)(a:TT):Prop:=match c with
 | none=>a=z5Y
 | some c=>a=tt K mg E0 c
def zfB {c:Option Ex}(M:∀i∈tg.slots,i<nt)(ab:AbE K mg G ρ σ)(g:Same G H)(hw:Walk K mg G l J)(hsz:l.length<sizeLine)
  (hr:z4Z (z5m tg c elt (z1f nt js ρ)) l Q0)
  (L:TcOk K mg c tc)
  (hk:∀a ys p z t,Q0 a->Gr G H z->Same z t->Same H t->RDs K mg z a ys->t p=none->Q (.ref p) (upd t p (.lst ys))):
  LcG J (tgt K tg) tc (tx K mg E0 elt) Q (List.replicate nt none++js.map λj=>(σ[j]?).getD none) H:=by
 refine⟨λi m ys S H'=>m=l.length - i/\i<=l.length/\ys.length<=i/\S.length=nt+js.length/\∃f a,Gr G H f/\Same f H'/\Same H H'/\RDs K mg f a ys/\AbE K mg f (z1f nt js ρ) S/\z4Z (z5m tg c elt (z1f nt js ρ)) (l.drop i) λr=>Q0 (a++r),
  ⟨l.length,by simp,vP _,by simp,by simp,G,[],Gr.refl,g,Same.refl',RDs.nil,zbW ab,by simpa using hr⟩,?_⟩
 rintro i m ys a2 H1 ⟨rfl,hi,a1,u,G1,a,T,g2,g3,rds,Z,U⟩;refine⟨by lia,?_⟩;obtain⟨w1,w2⟩:=hw i G1 H1 T.1 g2
 by_cases n:i<l.length
 .have e:l[i]? = some l[i]:=by simp[n]
  obtain⟨go,yl⟩:=w1 _ e;rw[uI n] at U;have h:z5m tg c elt (z1f nt js ρ) l[i] (λo=>z4Z (z5m tg c elt (z1f nt js ρ)) (l.drop (i+1)) λr=>Q0 (a++(o.toList++r))):=U;unfold z5m at h;refine .inr ⟨go,λv t y =>?_⟩;obtain⟨X,z,N,k2,rd⟩:=yl v t y;refine zeo (Z.same N.1) k2 rd (λj hj=>by rw[u];have:=M j hj;lia) (λj hj=>z9q (M j hj)) h λw x hb E F I =>?_;have el:∀{A C:Hp},Gr z t A->Same A C->Same t C->(elt.run w (λd=>z4Z (z5m tg c elt (z1f nt js ρ)) (l.drop (i+1)) λr=>Q0 (a++((some d).toList++r))) λ_=>False)->
    tx K mg E0 elt x C λy Y=>∃m',m'<l.length - i/\m'=l.length - (i+1)/\i+1<=l.length/\(ys++[y]).length<=i+1/\x.length=nt+js.length/\∃f R,Gr G H f/\Same f Y/\Same H Y/\RDs K mg f R (ys++[y])/\AbE K mg f (z1f nt js ρ) x/\z4Z (z5m tg c elt (z1f nt js ρ)) (l.drop (i+1)) λr=>Q0 (R++r):=λ{A C} s W O he=>by
   refine⟨A,w,_,λ_=>False,W,E.same s.1,he,λd v' G4 Y q n1 n2 n3 a0 =>?_,Kx.no⟩;refine⟨l.length - (i+1),by lia,rfl,n,by simp;lia,by rw[I,u],G4,a++[d],T.trans g3 (N.trans X (s.trans O n1)),n2,z02 g3 (z02 X (z02 O n3)),((rds.same (z02 N.1 (z02 s.1 n1.1))).app (RDs.cons a0 RDs.nil)),F.same (z02 s.1 n1.1),?_⟩;refine z4a z5l _ _ _ (λr q =>?_) q;simpa using q
  cases c with
  | none=>
   have:tc=z5Y:=L;subst this;unfold z5Y;dsimp only;rw[if_pos rfl];exact el Gr.refl k2 Same.refl' hb
  | some c=>
   have:tc=tt K mg E0 c:=L;subst this;refine⟨z,w,_,λ_=>False,k2,E,hb,λd A C q s W O =>?_,Kx.no⟩;obtain⟨b,rfl,q1,q2⟩:=z8i q;refine⟨b,rfl,?_⟩
   cases b with
   | true=>exact iteT (el s W O (q1 rfl))
   | false=>
    refine iteF ⟨l.length - (i+1),by lia,rfl,n,by lia,by rw[I,u],A,a,T.trans g3 (N.trans X s),W,z02 g3 (z02 X O),rds.same (z02 N.1 s.1),F.same s.1,?_⟩;refine z4a z5l _ _ _ (λr q =>?_) (q2 rfl);simpa using q
 .have e:i=l.length:=by lia
  subst e;rw[List.drop_length] at U;refine .inl ⟨w2 (ww _),λp hp=>hk a ys p G1 H1 ?_ T g2 g3 rds hp⟩;have h:Q0 (a++[]):=U;simpa using h
def zcd {c:Option Ex}(e:∀i∈tg.slots,i<nt)(b:TcOk K mg c tc)(h:tf K mg E (.comp nt js tg src c elt) σ H Q):tLcG (ti K mg E src) (tgt K tg) tc (tx K mg E0 elt) nt js σ H Q:=by
 obtain⟨G,R,U,u,I,g,F,y,M⟩:=h;refine⟨G,R,_,u,I,g,F,λd q=>(zaK q).imp λ_ z=>z.1,λd S T q j x g3 l J w L =>?_,M⟩;have f  := q;rw[w] at f;refine zfB e (g.same j.1) x L f.1 f.2 b λW O p r t C N n o rds a =>?_;have m:∀{A:Hp},Same A t->A p=none:=λs=>z13 s a;refine y _ p r _ C (j.trans g3 N) (z02 n (z0n a _)) (z02 g3 (z02 o (z0n a _))) (m (z02 g3 o)) (m n) ⟨O,z0c,rds⟩
end
section
variable {X:Cx}{E:XK}{elt iter target:Expr}{ct:Option Expr}{pos spos py:Pos}{scope:Scope}{N':List Str}{nt:Nat}{js:List Nat}{tg:Tg}{src x:Ex}{c:Option Ex}{y:Str}{iy:Nat}
def CtOk (X:Cx)(a:Scope)(b:List Str)(ct:Option Expr)(c:Option Ex):Prop:=match ct,c with
 | none,none=>True
 | some e,some x=>∀C s H d,QXT (X.compG a b C s H d) E0 e x
 | _,_=>False
def CtQ (X:Cx)(a:Scope)(d:List Str)(ct:Option Expr)(b:TT):Prop:=match ct with
      | none=>b=z5Y
      | some c=>∀C s H e,QT (X.compG a d C s H e) c b
def zb6 (h:CtOk X scope N' ct c):∃tc,CtQ X scope N' ct tc/\TcOk X.K X.mg c tc:=by
 cases ct with
 | none=>
  cases c with
  | none=>exact⟨z5Y,rfl,rfl⟩
  | some c=>exact h.elim
 | some e=>
  cases c with
  | none=>exact h.elim
  | some c=>exact⟨tt X.K _ E0 c,h,rfl⟩
def zcK (j:X.calm=true)(b:QXI X E target iter src)(n:scope.kind = .function)(e:z4l X N' nt js scope)(d:tg.slots.all (· < nt)=true)
  (m:∀C s H a,QG (X.compG scope N' C s H a) target (tgt X.K tg)) (p:CtOk X scope N' ct c)
  (l:∀C s H a,QX (X.compG scope N' C s H a) E0 elt x) (o:autoParam (fI iter X) jC1):QF X E (.ListComp elt [⟨target,iter,ct.toList,0⟩] scope pos) (.comp nt js tg src c x):=by
 obtain⟨q,f,g⟩:=zb6 p;exact QE.imp (zkB j b n e m f l o) λr H Q h=>zcd (λi b=>uw (List.all_eq_true.mp d i b)) g h
def zcJ (n:X.N.Nodup)(d:X.N[iy]? = some y)(e:X.env.scope.names.lookup y=some .local)(o:X.calm=true)(b:QXI X E target iter src)(r:scope.kind = .function)(j:z4l X N' nt js scope)(g:tg.slots.all (· < nt)=true)
  (q:∀C s H a,QG (X.compG scope N' C s H a) target (tgt X.K tg)) (u:CtOk X scope N' ct c)
  (p:∀C s H a,QX (X.compG scope N' C s H a) E0 elt x) (f:autoParam (swapsWith (.ListComp elt [⟨target,iter,ct.toList,0⟩] scope pos) (some (.Name y py)) spos.line X.env=pure true) jA1) (t:autoParam (fI iter X) jC1):
  QS X (.Assign [.Name y py] (.ListComp elt [⟨target,iter,ct.toList,0⟩] scope pos) spos) (tAsg (tf X.K X.mg E (.comp nt js tg src c x)) (z3t iy)):=by
 obtain⟨w,l,m⟩:=zb6 u;exact QS.imp (zkq n d e o b r j q l p f t) λD z H h=>zcd (λi b=>uw (List.all_eq_true.mp g i b)) m h
def zep {K:W.Frag}{mg:WmP}{a:L2.St}{H:Hp}{Q:VK}(h:tx K mg E x a H Q):tf K mg E x a H Q:=by
 obtain⟨G,l,b,d,i,e,g,f,j⟩:=h;exact⟨G,l,b,d,i,e,g,f.kf,j⟩
def QS.sh {st:Stmt}(h:QS X st (tAsg (tf X.K X.mg E x) (z3t iy))):QS X st (tAsg (tx X.K X.mg E x) (z3t iy)):=QS.imp h λD a H h=>zep h
def zku {a:Pos}(b:X.N.Nodup)(d:X.N[i]? = some z)(e:X.env.scope.names.lookup z=some .local):QG X (.Name z a) (tgt X.K (.nm i)):=zkv b d e
def pTup:Fn:=⟨λa Q _=>a.length<=sizeLine/\Q (.tup a),λa Q b X d m _ q=>⟨q.1,m _ q.2⟩⟩
def pLst:Fn:=⟨λa Q _=>a.length<=sizeLine/\Q (.lst a),λa Q b X d m _ q=>⟨q.1,m _ q.2⟩⟩
def zk9 {m}(h:QXA X E es xs):QX X E (.Tuple es m pos) (.op pTup xs):=QE.imp (⟨zkT h.p⟩) <| by
 rintro u H Q ⟨G,n,s,d,j,e,i,g,l⟩;refine⟨G,n,_,d,j,e,i,λt vs o r q f a g3 rds=>⟨by rw[rds.len];exact q.1,λp b =>?_⟩,l⟩;refine(g.same f g3).new a b q.2 ?_;exact⟨p,vs,rfl,SqT.of z0c,rds.same (z0n (z13 a b) _)⟩
def zkw (h:QXA X E es xs):QF X E (.List es pos) (.op pLst xs):=QE.imp (zkA h) <| by
 rintro t H Q ⟨G,n,r,e,l,f,j,i,m⟩;refine⟨G,n,_,e,l,f,j,λs vs d o q g b g3 rds=>⟨by rw[rds.len];exact q.1,λp a =>?_⟩,m⟩;exact i _ p d _ q.2 g (z02 b (z0n a _)) (z02 g3 (z0n a _)) (z13 g3 a) (z13 b a) ⟨vs,z0c,rds⟩
end
def fn2 (g:D->D->DK->Prop)(m:∀a b Q Q',(∀d,Q d->Q' d)->g a b Q->g a b Q'):Fn:=⟨λe Q _=>match e with
 | [a,b]=>g a b Q
 | _=>False,λe Q Q' X h f _ q=>by
 match e,q with
 | [a,b],q=>exact m a b Q Q' f q
 | [],q=>exact q.elim
 | [_],q=>exact q.elim
 | _::_::_::_,q=>exact q.elim⟩
def fn1 (g:D->DK->Prop)(m:∀a Q Q',(∀d,Q d->Q' d)->g a Q->g a Q'):Fn:=⟨λb Q _=>match b with
 | [a]=>g a Q
 | _=>False,λb Q Q' X f e _ q=>by
 match b,q with
 | [a],q=>exact m a Q Q' e q
 | [],q=>exact q.elim
 | _::_::_,q=>exact q.elim⟩
def zaH (m:∀d,Q d->Q' d)(h:onV o Q):onV o Q':=by
 cases o with
 | none=>exact h
 | some d=>exact m _ h
def zaG (h:onV o Q):∃d,o=some d/\Q d:=by
 cases o with
 | none=>exact h.elim
 | some d=>exact⟨d,rfl,h⟩
def gAdd (a b:D)(Q:DK):Prop:=match a,b with
 | .int i,.int j=>Q (.int (i+j))
 | .lst l,.lst m=>l.length+m.length<=sizeLine/\Q (.lst (l++m))
 | .tup l,.tup m=>l.length+m.length<=sizeLine/\Q (.tup (l++m))
 | _,_=>False
def zdM (a b:D)(Q Q':DK)(m:∀d,Q d->Q' d)(h:gAdd a b Q):gAdd a b Q':=by
 unfold gAdd at h ⊢
 split at h
 .exact m _ h
 .simp_all
 .simp_all
 omega
def pAdd:Fn:=fn2 gAdd zdM
def gI (g:Int->Int->DK->Prop)(a b:D)(Q:DK):Prop:=match a,b with
 | .int i,.int j=>g i j Q
 | _,_=>False
def ziT (e:∀i j Q Q',(∀d,Q d->Q' d)->g i j Q->g i j Q')(a b:D)(Q Q':DK)(m:∀d,Q d->Q' d)(h:gI g a b Q):gI g a b Q':=by
 unfold gI at h ⊢
 split at h
 .exact e _ _ _ _ m h
 omega
def fnI (g:Int->Int->DK->Prop)(a:∀i j Q Q',(∀d,Q d->Q' d)->g i j Q->g i j Q'):Fn:=fn2 (gI g) (ziT a)
def pSub:Fn:=fnI (λi j Q=>Q (.int (i - j))) λ_ _ _ _ m h=>m _ h
def z1w:Fn:=fnI (λi j Q=>zmD i j/\Q (.int (i.fdiv j))) λ_ _ _ _ m h=>⟨h.1,m _ h.2⟩
def pMod:Fn:=fnI (λi j Q=>j≠0/\Q (.int (i.fmod j))) λ_ _ _ _ m h=>⟨h.1,m _ h.2⟩
def pPow:Fn:=fnI (λi j Q=>CPow i j/\Q (.int (i ^ j.toNat))) λ_ _ _ _ m h=>⟨h.1,m _ h.2⟩
def gNeg (a:D)(Q:DK):Prop:=match a with
 | .int i=>Q (.int (-i))
 | _=>False
def pNeg:Fn:=fn1 gNeg λa Q b m h=>by
 unfold gNeg at h ⊢
 split at h
 .exact m _ h
 .exact h.elim
section
variable {X:Cx}{K:W.Frag}{mg:WmP}
def r2 (K:W.Frag)(mg:WmP)(F:Fn):R2:=λf g H Q=>∃G b d a e,Same G H/\RD K mg G b f/\RD K mg G d g/\F.run [b,d] a e/\Kt K mg G H a Q
def r1 (K:W.Frag)(mg:WmP)(F:Fn):V->Hp->VK->Prop:=λv H Q=>∃G d a b,Same G H/\RD K mg G d v/\F.run [d] a b/\Kt K mg G H a Q
def rN (K:W.Frag)(mg:WmP)(F:Fn):List V->Hp->VK->Prop:=λvs H Q=>∃G b a d,Same G H/\RDs K mg G b vs/\F.run b a d/\Kt K mg G H a Q
def lk2:Lk2 K mg F (r2 K mg F):=λG H h i j l f g Q a b c d e=>⟨G,h,i,f,g,a,b,c,d,e⟩
def lk1:Lk1 K mg F (r1 K mg F):=λG H d v e f Q a b c d=>⟨G,_,e,f,a,b,c,d⟩
def lkN:LkN K mg F (rN K mg F):=λG H d v e f Q a b c d=>⟨G,_,e,f,a,b,c,d⟩
def zg2 {E:WvP}{s:Shared}{t b:Addr}{ws:List Value}{Q:WvP}(x:IsTup s.heap t ([]).toArray)(q:IsTup s.heap b ws.toArray)(h:Q (.ref b) s):wpAny (model prog w) A (binaryOp .Add (.ref t) (.ref b)) Q E s:=by
 obtain⟨⟨o,p,l,sl⟩,m,r,n,u⟩:=id x;obtain⟨⟨j,e,d,i⟩,a,f,y,g⟩:=id q;subst r u f g;exact concat_meets ⟨_,m,rfl⟩ ⟨_,a,rfl⟩ noFill_tuple_add seq_tuple_add PySem.F.slot_tuple_add PySem.F.entry_tuple_add (PySem.F.args_tuple_add_2 _ _)
   (tuple_addW0 t b _ _ n y p e sl i (by simp)) ⟨m,a,h⟩
def zfm:OpR X (binaryOp .Add) (λx y H Q=>∃a b ys,x = .ref a/\y = .ref b/\SqT X.K H a []/\SqT X.K H b ys/\Q (.ref b) H):=by
 intro e s o H x y v u Q I m n h;obtain⟨a,b,ys,rfl,rfl,f,g,q⟩:=h
 cases m
 cases n
 obtain⟨i,r1,j,_⟩:=I.tuple f;obtain⟨d,r2,l,_⟩:=I.tuple g
 cases r1
 exact zg2 j l ⟨.ref b,H,I,rfl,q⟩
def zmY (K:W.Frag):R2:=λx y H Q=>∃l b a d,x = .ref l/\y = .ref b/\SqL K H l a/\SqL K H b d/\a.length+d.length<=sizeLine/\∀p,H p=none->Q (.ref p) (upd H p (.lst (a++d)))
def zis:OpR X (binaryOp .Add) (zmY X.K):=by
 intro w s σ H x y v u Q I N O h;obtain⟨l,b,U,Z,rfl,rfl,G,E,R,q⟩:=h
 cases N
 cases O
 obtain⟨d,r,⟨⟨z,A,p,sl⟩,n,e,J,_,L⟩,W⟩:=I.list G;obtain⟨a,r2,⟨⟨o,g,f,m⟩,M,t,i,_,j⟩,Y⟩:=I.list E;subst J L i j;have S:=r.length;have T:=r2.length;have C:d.toArray++a.toArray=(d++a).toArray:=by simp
 refine concat_meets ⟨_,e,rfl⟩ ⟨_,t,rfl⟩ noFill_list_add seq_list_add PySem.F.slot_list_add PySem.F.entry_list_add (PySem.F.args_list_add_2 _ _) (list_addW l b _ _ n M A g sl m (by grind)) ⟨e,t,?_⟩;rw[C];exact⟨.ref _,_,I.lnew (r.append r2) (by simp_all),rfl,q _ I.fresh⟩
def z1O {G:Hp}{l:List D}{v:V}(h:RD K mg G (.tup l) v):∃a xs,v = .ref a/\SqT K G a xs/\RDs K mg G l xs:=by exact h
def z2r {G:Hp}{l:List D}{v:V}(h:RD K mg G (.lst l) v):∃a xs,v = .ref a/\SqL K G a xs/\RDs K mg G l xs:=by exact h
def z8A {v:V}(h:RD K mg G (.str x) v):v = .str x:=by exact h
def z8C {v:V}(h:RD K mg G (.bl x) v):v = .bl x:=by exact h
def z8B {v:V}(h:RD K mg G .non v):v = .non:=by exact h
def RD.newT (r:RDs K mg G l xs)(g:Same G H)(a:H p=none):RD K mg (upd G p (.tup xs)) (.tup l) (.ref p):=by
 exact⟨p,xs,rfl,SqT.of z0c,r.same (z0n (z13 g a) _)⟩
def RD.newL (r:RDs K mg G l xs)(g:Same G H)(a:H p=none):RD K mg (upd G p (.lst xs)) (.lst l) (.ref p):=by
 exact⟨p,xs,rfl,SqL.of z0c,r.same (z0n (z13 g a) _)⟩
def RD.ofT (h:SqT K G a xs)(r:RDs K mg G l xs):RD K mg G (.tup l) (.ref a):=by exact⟨a,xs,rfl,h,r⟩
def RD.ofL (h:SqL K G a xs)(r:RDs K mg G l xs):RD K mg G (.lst l) (.ref a):=by exact⟨a,xs,rfl,h,r⟩
def RD.int' {G:Hp}{i:Int}:RD K mg G (.int i) (.int i):=by rw[RD]
def RD.bl' {G:Hp}{i:Bool}:RD K mg G (.bl i) (.bl i):=by rw[RD]
def RD.str':RD K mg G (.str i) (.str i):=by rw[RD]
def RDs.ne_nil (r:RDs K mg G l xs):xs=[]↔l=[]:=by
 have:=r.len
 constructor
 .rintro rfl;exact uz.mp this.symm
 .rintro rfl;simp_all
def zlw:OpR X (binaryOp .Add) (r2 X.K X.mg pAdd):=by
 rintro f s r H x y v u Q I l m ⟨G,A,C,Q0,F,g,t,w,E,h⟩;have d:gAdd A C Q0:=E;unfold gAdd at d
 split at d
 .exact zlk f s r H x y v u Q I l m ⟨_,_,z0O t,z0O w,h.now g d RD.int'⟩
 .obtain⟨a,o,rfl,n,r1⟩:=z2r t;obtain⟨b,q,rfl,j,r2⟩:=z2r w;exact zis f s r H _ _ v u Q I l m ⟨a,b,o,q,rfl,rfl,z1y g n,z1y g j,by rw[r1.len,r2.len];exact d.1,λp i=>h.new g i d.2 (RD.newL (r1.app r2) g i)⟩
 .obtain⟨a,o,rfl,n,r1⟩:=z1O t;obtain⟨b,q,rfl,j,r2⟩:=z1O w
  by_cases z:o=[]
  .subst z;have e:=r1.ne_nil.mp rfl;subst e;exact zfm f s r H _ _ v u Q I l m ⟨a,b,q,rfl,rfl,z0G g n,z0G g j,h.now g d.2 (RD.ofT j r2)⟩
  .refine zir f s r H _ _ v u Q I l m ⟨a,b,o,q,rfl,rfl,z0G g n,z0G g j,z,by rw[r1.len,r2.len];exact d.1,λe =>?_,λe p i=>h.new g i d.2 (RD.newT (r1.app r2) g i)⟩;have e:=r2.ne_nil.mp e;refine h.now g d.2 ?_
   simp_all
 .exact d.elim
def z6o (h:gI g a b Q):∃i j,a = .int i/\b = .int j/\g i j Q:=by
 unfold gI at h
 split at h
 .exact⟨_,_,rfl,rfl,h⟩
 .exact h.elim
def zfs {f:Value->Value->Sem Value}{C:Int->Int->Prop}{a:Int->Int->Int}{n}(h:OpR X f (rI C λi j =>.int (a i j))):OpR X f (r2 X.K X.mg (fnI (λi j Q=>C i j/\Q (.int (a i j))) n)):=h.imp <| by
 rintro x y H Q ⟨G,d,e,b,r,g,l,m,p,o⟩;obtain⟨i,j,rfl,rfl,c,q⟩:=z6o (show gI (λi j Q=>C i j/\Q _) d e b from p);exact⟨i,j,z0O l,z0O m,c,o.now g q RD.int'⟩
def zlr:OpR X (binaryOp .Sub) (r2 X.K X.mg pSub):=zld.imp <| by
 rintro x y H Q ⟨G,b,d,a,m,g,e,f,l,h⟩;obtain⟨i,j,rfl,rfl,q⟩:=z6o (show gI (λi j Q=>Q _) b d a from l);exact⟨i,j,z0O e,z0O f,h.now g q RD.int'⟩
def ziv:OpR X (binaryOp .FloorDiv) (r2 X.K X.mg z1w):=zfs zfl
def zlv:OpR X (binaryOp .Mod) (r2 X.K X.mg pMod):=zfs ziq
def zls:OpR X (binaryOp .Pow) (r2 X.K X.mg pPow):=zfs zle
def zlc:UnR X (unaryOp .USub) (r1 X.K X.mg pNeg):=by
 rintro b s j H x v Q I i ⟨G,d,Q0,l,g,e,h,f⟩;have a:gNeg d Q0:=h;unfold gNeg at a
 split at a
 .exact zjg _ s j H x v Q I i ⟨_,z0O e,f.now g a RD.int'⟩
 .exact a.elim
def z0b:Fn:=fnI (λi j Q=>zjc i j/\Q (.int (i*j))) λ_ _ _ _ m h=>⟨h.1,m _ h.2⟩
def zlu:OpR X (binaryOp .Mult) (r2 X.K X.mg z0b):=zfs zio
end
end Pu
namespace HT
open PySem PyProof.Rows
section
variable {prog:Program}{w:World}{A:Around}{E:WvP}{s:Shared}
def z7a {z06 a:Array Value}(J:IsTup s.heap l z06)(y:IsTup s.heap b a)(H:IntsAre z06.toList ns)(I:IntsAre a.toList ms)
  (K:A.units<cLine) (h:Q (.bool (z0P ms ns)) s):wpAny (model prog w) A (compareOp .Gt (.ref l) (.ref b)) Q E s:=by
 obtain⟨⟨t,u,p,sl⟩,r,z,n,G⟩:=id J;obtain⟨⟨o,g,f,m⟩,d,i,L,j⟩:=id y;subst z G i j;obtain⟨C,_,e,q⟩:=z8h;exact richCompare_meets_room (op :=.Gt) ⟨_,r,rfl⟩ ⟨_,d,rfl⟩ PySem.F.slot_tuple_gt PySem.F.entry_tuple_gt (PySem.F.args_tuple_gt_2 _ _) (e ▸ q _ _ (.inr ⟨rfl,rfl⟩) _ l b _ _ n L u g sl m ns ms H I)
  ⟨r,d,⟨(λx=>nomatch x),h⟩⟩ K
end
end HT
namespace Pu
open PySem PySem.Spec PyProof.Rows L2
noncomputable def ints? : List D->Option (List Int)
 | []=>some []
 | .int i::r=>match ints? r with
  | some l=>some (i::l)
  | none=>none
 | _::_=>none
theorem z3R:∀{l:List D}{ns:List Int},ints? l=some ns->l=ns.map D.int
 | [],ns,h=>by
  have  := by simpa[ints?] using h.symm
  subst this;rfl
 | .int i::r,ns,h=>by
  unfold ints? at h
  cases q:ints? r with
  | none=>simp_all
  | some l=>
   rw[q] at h
   cases h
   rw[z3R q];rfl
 | .non::_,_,h=>by simp[ints?] at h
 | .bl _::_,_,h=>by simp[ints?] at h
 | .str _::_,_,h=>by simp[ints?] at h
 | .tup _::_,_,h=>by simp[ints?] at h
 | .lst _::_,_,h=>by simp[ints?] at h
 | .dct _ _::_,_,h=>by simp[ints?] at h
 | .fn _::_,_,h=>by simp[ints?] at h
def zaV (ns:List Int):ints? (ns.map D.int)=some ns:=by
 induction ns with
 | nil=>rfl
 | cons n ns a=>rw[wE,ints?, a]
def onI (o:Option (List Int))(Q:List Int->Prop):Prop:=match o with
 | some l=>Q l
 | none=>False
def z5M (m:∀d,Q d->Q' d)(h:onI o Q):onI o Q':=by
 cases o with
 | none=>exact h
 | some d=>exact m _ h
def z5L (h:onI o Q):∃d,o=some d/\Q d:=by
 cases o with
 | none=>exact h.elim
 | some d=>exact⟨d,rfl,h⟩
def gCmp (f:Int->Int->Bool)(t:List Int->List Int->Bool)(a b:D)(Q:DK):Prop:=match a,b with
 | .int i,.int j=>Q (.bl (f i j))
 | .tup l,.tup m=>onI (ints? l) λe=>onI (ints? m) λd=>Q (.bl (t e d))
 | _,_=>False
def z9d {t:List Int->List Int->Bool}(a b:D)(Q Q':DK)(m:∀d,Q d->Q' d)(h:gCmp f t a b Q):gCmp f t a b Q':=by
 unfold gCmp at h ⊢
 split at h
 .exact m _ h
 .exact z5M (λ_ h=>z5M (λ_ h=>m _ h) h) h
 grind
def pLt:Fn:=fn2 (gCmp (λi j=>decide (i<j)) λb a=>HT.z0P b a) z9d
def pGt:Fn:=fn2 (gCmp (λi j=>decide (j<i)) λb a=>HT.z0P a b) z9d
def pLe:Fn:=fnI (λi j Q=>Q (.bl (decide (i<=j)))) λ_ _ _ _ m h=>m _ h
section
variable {X:Cx}{K:W.Frag}{mg:WmP}
theorem z42:∀(ns:List Int) {xs:List V},RDs K mg G (ns.map D.int) xs->xs=ns.map V.int
 | [],xs,h=>by subst h;rfl
 | n::ns,xs,h=>by
  obtain⟨x,r,rfl,a,b⟩:=h;rw[z0O a,z42 ns b];rfl
theorem z5O:∀(ns:List Int),RDs K mg G (ns.map D.int) (ns.map V.int)
 | []=>RDs.nil
 | n::ns=>RDs.cons RD.int' (z5O ns)
def zlq {op:CmpOp}{t:List Int->List Int->Bool}{J}(F:OpR X (compareOp op) (rI0 λi j =>.bl (f i j)))(M:OpR X (compareOp op) (λx y H Q=>∃a b ns e,x = .ref a/\y = .ref b/\SqT X.K H a (ns.map V.int)/\SqT X.K H b (e.map V.int)/\Q (.bl (t ns e)) H)):
  OpR X (compareOp op) (r2 X.K X.mg (fn2 (gCmp f t) J)):=by
 rintro n s w H x y v u Q I o p ⟨G,z,A,Q0,N,g,h,l,L,m⟩;have d:gCmp f t z A Q0:=L;unfold gCmp at d
 split at d
 .exact F _ s w H x y v u Q I o p ⟨_,_,z0O h,z0O l,m.now g d RD.bl'⟩
 .obtain⟨ns,C,d⟩:=z5L d;obtain⟨e,E,d⟩:=z5L d;obtain⟨a,O,rfl,q,r1⟩:=z1O h;obtain⟨b,R,rfl,r,r2⟩:=z1O l;rw[z3R C] at r1;rw[z3R E] at r2;rw[z42 ns r1] at q;rw[z42 e r2] at r;exact M _ s w H _ _ v u Q I o p ⟨a,b,ns,e,rfl,rfl,z0G g q,z0G g r,m.now g d RD.bl'⟩
 .exact d.elim
def znv (a:X.A.units+64<cLine):OpR X (compareOp .Lt) (r2 X.K X.mg pLt):=zlq znp (zlg (by omega))
def zli (j:X.A.units<cLine):OpR X (compareOp .Gt) (λx y H Q=>∃a b ns d,x = .ref a/\y = .ref b/\SqT X.K H a (ns.map V.int)/\SqT X.K H b (d.map V.int)/\Q (.bl (HT.z0P d ns)) H):=by
 intro f s r H x y v u Q I o p h;obtain⟨a,b,ns,d,rfl,rfl,g,i,q⟩:=h
 cases o
 cases p
 obtain⟨l,r1,m,_⟩:=I.tuple g;obtain⟨e,r2,n,_⟩:=I.tuple i;exact HT.z7a m n (z46 r1) (z46 r2) j ⟨.bl _,H,I,rfl,q⟩
def znz (a:X.A.units+64<cLine):OpR X (compareOp .Gt) (r2 X.K X.mg pGt):=zlq znr (zli (by omega))
def znw (_:X.A.units+64<cLine):OpR X (compareOp .LtE) (r2 X.K X.mg pLe):=znq.imp <| by
 rintro x y H Q ⟨G,b,d,a,m,g,e,f,l,h⟩;obtain⟨i,j,rfl,rfl,q⟩:=z6o (show gI (λi j Q=>Q _) b d a from l);exact⟨i,j,z0O e,z0O f,h.now g q RD.bl'⟩
def pGeI:Fn:=fnI (λi j Q=>Q (.bl (decide (j<=i)))) λ_ _ _ _ m h=>m _ h
def znA:OpR X (compareOp .GtE) (r2 X.K X.mg pGeI):=zns.imp <| by
 rintro x y H Q ⟨G,b,d,a,m,g,e,f,l,h⟩;obtain⟨i,j,rfl,rfl,q⟩:=z6o (show gI (λi j Q=>Q _) b d a from l);exact⟨i,j,z0O e,z0O f,h.now g q RD.bl'⟩
end
mutual
def py:D->PyData
 | .non =>.none
 | .bl b =>.bool b
 | .int i =>.int i
 | .str x =>.str x
 | .tup l =>.tuple (pys l)
 | .lst l =>.list (pys l)
 | _ =>.none
def pys:List D->List PyData
 | []=>[]
 | d::a=>py d::pys a
end
def Da:Nat->D->Prop
 | _,.non=>True
 | _,.bl _=>True
 | _,.int _=>True
 | _,.str x=>PyData.strOk x=true
 | 0,.tup _=>False
 | n+1,.tup l=>∀d∈l,Da n d
 | 0,.lst _=>False
 | n+1,.lst l=>∀d∈l,Da n d
 | _,.dct _ _=>False
 | _,.fn _=>False
section
variable {X:Cx}{K:W.Frag}{mg:WmP}
theorem Da.tup {n:Nat}{l:List D}:Da (n+1) (.tup l)↔∀d∈l,Da n d:=by rw[Da]
theorem Da.lst {n:Nat}{l:List D}:Da (n+1) (.lst l)↔∀d∈l,Da n d:=by rw[Da]
theorem Da.int {n:Nat}{i:Int}:Da n (.int i):=by cases n <;> (trivial)
theorem Da.str {n:Nat}{x:Str}:Da n (.str x)↔PyData.strOk x=true:=by cases n <;> rw[Da]
def Da.canLay:∀n d,Da n d->(py d).canLay0=true/\(py d).depth<=n:=by
 intro n
 induction n with
 | zero=>
  intro d h
  cases d with
  | non=>exact⟨rfl,ww _⟩
  | bl _=>exact⟨rfl,ww _⟩
  | int _=>exact⟨rfl,ww _⟩
  | str x=>exact⟨by exact Da.str.mp h,by rw[py,PyData.depth];exact ww _⟩
  | _=>rw[Da] at h;exact h.elim
 | succ n o=>
  have all:∀l:List D,(∀d∈l,Da n d)->PyData.canLayAll0 (pys l)=true/\PyData.depthAll (pys l)<=n:=by
   intro l
   induction l with
   | nil=>intro _;exact⟨rfl,vP _⟩
   | cons d l e=>
    intro h;obtain⟨f,g⟩:=o d (h d wF);obtain⟨i,j⟩:=e λx m=>h x (wq _ m);rw[pys,PyData.canLayAll0,PyData.depthAll,f,i];exact⟨rfl,Nat.max_le.mpr ⟨g,j⟩⟩
  intro d h
  cases d with
  | non=>exact⟨rfl,vP _⟩
  | bl _=>exact⟨rfl,vP _⟩
  | int _=>exact⟨rfl,vP _⟩
  | str x=>exact⟨by exact Da.str.mp h,by rw[py,PyData.depth];exact vP _⟩
  | tup l=>
   obtain⟨a,b⟩:=all l (Da.tup.mp h);exact⟨by rw[py,PyData.canLay0];exact a,by rw[py,PyData.depth];omega⟩
  | lst l=>
   obtain⟨a,b⟩:=all l (Da.lst.mp h);exact⟨by rw[py,PyData.canLay0];exact a,by rw[py,PyData.depth];omega⟩
  | _=>rw[Da] at h;exact h.elim
theorem Da.shaped (h:Da n d)(e:n<=64):PySem.SeqAt.shaped (py d)=true:=by
 obtain⟨a,b⟩:=Da.canLay n d h;unfold PySem.SeqAt.shaped;rw[a,vf (wV b e)]
 rfl
def Da.rp:∀n d {v:V},Da n d->RD K mg G d v->Rp K G (py d) v:=by
 intro n
 induction n with
 | zero=>
  intro d v h r
  cases d with
  | non=>rw[py,Rp];exact z8B r
  | bl _=>rw[py,Rp];exact z8C r
  | int _=>rw[py,Rp];exact z0O r
  | str x=>rw[py,Rp];exact z8A r
  | _=>rw[Da] at h;exact h.elim
 | succ n i=>
  have all:∀l {xs:List V},(∀d∈l,Da n d)->RDs K mg G l xs->RpL K G (pys l) xs:=by
   intro l
   induction l with
   | nil=>intro xs _ r;rw[RDs] at r;subst r;rw[pys,RpL]
   | cons d l f=>
    intro xs h r;obtain⟨x,j,rfl,r1,r2⟩:=r;exact⟨x,j,rfl,i d (h d wF) r1,f (λx g=>h x (wq _ g)) r2⟩
  intro d v h r
  cases d with
  | non=>rw[py,Rp];exact z8B r
  | bl _=>rw[py,Rp];exact z8C r
  | int _=>rw[py,Rp];exact z0O r
  | str x=>rw[py,Rp];exact z8A r
  | tup l=>
   obtain⟨a,xs,rfl,b,e⟩:=z1O r;rw[py,Rp];exact⟨a,xs,rfl,b,all l (Da.tup.mp h) e⟩
  | lst l=>
   obtain⟨a,xs,rfl,b,e⟩:=z2r r;rw[py,Rp];exact⟨a,xs,rfl,b,all l (Da.lst.mp h) e⟩
  | _=>rw[Da] at h;exact h.elim
end
def deq (a b:D):Bool:=PyData.eqv (py a) (py b)
def gEq (neg:Bool)(a b:D)(Q:DK):Prop:=match a,b with
 | .int i,.int j=>Q (.bl (if neg then !decide (i=j) else decide (i=j)))
 | .str x,.str y=>Q (.bl (if neg then !decide (x=y) else decide (x=y)))
 | .bl x,.bl y=>Q (.bl (if neg then !decide (x=y) else decide (x=y)))
 | a,b=>Da 60 a/\Da 60 b/\Q (.bl (if neg then !deq a b else deq a b))
def z7Z {neg:Bool}(a b:D)(Q Q':DK)(m:∀d,Q d->Q' d)(h:gEq neg a b Q):gEq neg a b Q':=by
 unfold gEq at h ⊢
 split at h
 .exact m _ h
 .exact m _ h
 .exact m _ h
 simp_all
def pEq:Fn:=fn2 (gEq false) z7Z
def pNe:Fn:=fn2 (gEq true) z7Z
section
variable {X:Cx}{K:W.Frag}{mg:WmP}
def z85 [Decidable p][Decidable q](h:p↔q):decide p=decide q:=by simp_all
def zgK {op:CmpOp}{neg:Bool}(l:OpR X (compareOp op) (λx y H Q=>scal x y=true/\Q (.bl (if neg then !decide (x=y) else decide (x=y))) H))(t:OpR X (compareOp op) (rEqD X.K neg)):OpR X (compareOp op) (r2 X.K X.mg (fn2 (gEq neg) z7Z)):=by
 rintro o s j H x y v u Q I f i ⟨G,p,r,Q0,z,g,r1,r2,w,e⟩;have a:gEq neg p r Q0:=w;unfold gEq at a
 split at a
 .have b:=z0O r1;have d:=z0O r2;subst b;subst d;refine l _ s j H _ _ v u Q I f i ⟨rfl,?_⟩;rw[z85 (⟨λh=>V.int.inj h,λh=>congrArg V.int h⟩)];exact e.now g a RD.bl'
 .have b:=z8A r1;have d:=z8A r2;subst b;subst d;refine l _ s j H _ _ v u Q I f i ⟨rfl,?_⟩;rw[z85 (⟨λh=>V.str.inj h,λh=>congrArg V.str h⟩)];exact e.now g a RD.bl'
 .have b:=z8C r1;have d:=z8C r2;subst b;subst d;refine l _ s j H _ _ v u Q I f i ⟨rfl,?_⟩;rw[z85 (⟨λh=>V.bl.inj h,λh=>congrArg V.bl h⟩)];exact e.now g a RD.bl'
 .obtain⟨m,n,q⟩:=a;exact t _ s j H x y v u Q I f i ⟨_,_,(Da.rp 60 _ m r1).same g,(Da.rp 60 _ n r2).same g,m.shaped (by decide),n.shaped (by decide),e.now g q RD.bl'⟩
def znB (a:X.A.units+64<cLine):OpR X (compareOp .Eq) (r2 X.K X.mg pEq):=zgK (znt.imp λ_ _ _ _ h=>h) (zlj a)
def znu (a:X.A.units+64<cLine):OpR X (compareOp .NotEq) (r2 X.K X.mg pNe):=zgK (zno.imp λ_ _ _ _ h=>h) (zlf a)
def isN:D->Bool
 | .non=>true
 | _=>false
def gIs (neg:Bool)(a b:D)(Q:DK):Prop:=match b with
 | .non=>Q (.bl (if neg then !isN a else isN a))
 | _=>False
def zaX {neg:Bool}(a b:D)(Q Q':DK)(m:∀d,Q d->Q' d)(h:gIs neg a b Q):gIs neg a b Q':=by
 unfold gIs at h ⊢
 split at h
 .exact m _ h
 omega
def pIs:Fn:=fn2 (gIs false) zaX
def z75:Fn:=fn2 (gIs true) zaX
def zgx {v:V}(r:RD K mg G d v):decide (v = .non)=isN d:=by
 cases d with
 | non=>rw[z8B r];rfl
 | bl b=>rw[z8C r];rfl
 | int b=>rw[z0O r];rfl
 | str b=>rw[z8A r];rfl
 | tup l=>obtain⟨a,e,rfl,_⟩:=z1O r;rfl
 | lst l=>obtain⟨a,e,rfl,_⟩:=z2r r;rfl
 | dct k v=>obtain⟨a,e,rfl,_⟩:=r;rfl
 | fn n=>obtain⟨a,rfl,_⟩:=r;rfl
def znx:OpR X (compareOp .Is) (r2 X.K X.mg pIs):=zlh.imp <| by
 rintro x y H Q ⟨G,b,d,Q0,h,g,r1,r2,f,e⟩;have a:gIs _ b d Q0:=f;unfold gIs at a
 split at a
 .exact⟨z8B r2,by rw[zgx r1];exact e.now g a RD.bl'⟩
 .exact a.elim
def zft:OpR X (compareOp .IsNot) (r2 X.K X.mg z75):=zin.imp <| by
 rintro x y H Q ⟨G,b,d,Q0,h,g,r1,r2,f,e⟩;have a:gIs _ b d Q0:=f;unfold gIs at a
 split at a
 .exact⟨z8B r2,by rw[zgx r1];exact e.now g a RD.bl'⟩
 .exact a.elim
def z1F {g:D->DK->Prop}{m}{ds:List D}{Q:DK}{b:XP}(h:(fn1 g m).run ds Q b):∃d,ds=[d]/\g d Q:=by
 match ds,h with
 | [a],h=>exact⟨a,rfl,h⟩
 | [],h=>exact h.elim
 | _::_::_,h=>exact h.elim
def zfO {m}(h:(fn2 g m).run ds Q Xp):∃d e,ds=[d,e]/\g d e Q:=by
 match ds,h with
 | [a,b],h=>exact⟨a,b,rfl,h⟩
 | [],h=>exact h.elim
 | [_],h=>exact h.elim
 | _::_::_::_,h=>exact h.elim
def gLen (d:D)(Q:DK):Prop:=match d with
 | .lst l=>Q (.int l.length)
 | .tup l=>Q (.int l.length)
 | _=>False
def pLen:Fn:=fn1 gLen λd Q a m h=>by
 unfold gLen at h ⊢
 split at h
 .exact m _ h
 .exact m _ h
 .exact h.elim
def zmo:z15 X (.builtin "len") (rN X.K X.mg pLen):=z9t.imp <| by
 rintro vs H Q ⟨G,n,l,m,g,rds,j,i⟩;obtain⟨d,rfl,b⟩:=z1F j;obtain⟨v,rfl,rd⟩:=rds1 rds;unfold gLen at b
 split at b
 .obtain⟨a,h,rfl,e,f⟩:=z2r rd;exact⟨a,h,rfl,.inl (z1y g e),by rw[f.len];exact i.now g b RD.int'⟩
 .obtain⟨a,h,rfl,e,f⟩:=z1O rd;exact⟨a,h,rfl,.inr (z0G g e),by rw[f.len];exact i.now g b RD.int'⟩
 .exact b.elim
def gAbs (d:D)(Q:DK):Prop:=match d with
 | .int i=>Q (.int (if i<0 then -i else i))
 | _=>False
def pAbs:Fn:=fn1 gAbs λd Q a m h=>by
 unfold gAbs at h ⊢
 split at h
 .exact m _ h
 .exact h.elim
def zmp:z15 X (.builtin "abs") (rN X.K X.mg pAbs):=zg5.imp <| by
 rintro vs H Q ⟨G,j,h,i,g,rds,f,b⟩;obtain⟨d,rfl,a⟩:=z1F f;obtain⟨v,rfl,rd⟩:=rds1 rds;unfold gAbs at a
 split at a
 .have e:=z0O rd;subst e;exact⟨_,rfl,b.now g a RD.int'⟩
 .exact a.elim
def zdI (d:D)(Q:DK):Prop:=match d with
 | .lst l=>Q (.tup l)
 | .tup l=>Q (.tup l)
 | _=>False
def z1u:Fn:=fn1 zdI λd Q a m h=>by
 unfold zdI at h ⊢
 split at h
 .exact m _ h
 .exact m _ h
 .exact h.elim
def zfY:z15 X (.type "tuple") (rN X.K X.mg z1u):=z8a.imp <| by
 rintro vs H Q ⟨G,o,m,n,g,rds,l,i⟩;obtain⟨d,rfl,b⟩:=z1F l;obtain⟨v,rfl,rd⟩:=rds1 rds;unfold zdI at b
 split at b
 .obtain⟨a,h,rfl,e,f⟩:=z2r rd;exact⟨a,h,rfl,.inl ⟨z1y g e,λp j=>i.new g j b (RD.newT f g j)⟩⟩
 .obtain⟨a,h,rfl,e,f⟩:=z1O rd;exact⟨a,h,rfl,.inr ⟨z0G g e,i.now g b (RD.ofT e f)⟩⟩
 .exact b.elim
def rNf (K:W.Frag)(mg:WmP)(F:Fn):List V->Hp->VK->Prop:=λvs H Q=>∃G b a d,Same G H/\RDs K mg G b vs/\F.run b a d/\Kf K mg G H a Q
def Kf.same {G b H e:Hp}{f:DK}{Q:VK}(h:Kf K mg G H f Q)(g:Gr G H b)(k:Same H e):Kf K mg b e f Q:=λd a i j q l m g3 o n p=>h d a i j q (g.trans k l) m (z02 k g3) (z13 k o) n p
def Kf.newL (h:Kf K mg G H Q0 Q)(g:Same G H)(a:H p=none)(q:Q0 (.lst l))(r:RDs K mg G l xs):Q (.ref p) (upd H p (.lst xs)):=
 h _ p G _ q Gr.refl (z02 g (z0n a _)) (z0n a _) a (z13 g a) ⟨xs,z0c,r⟩
def tfN (h:tf K mg E (.op F es) σ H Q):tCB (rNf K mg F) (txa K mg E es) σ H Q:=by
 obtain⟨G,p,d,a,n,f,m,l,o⟩:=h;exact⟨G,p,λb=>F.run b d a,a,n,f,m,λb vs e q j g i g3 rd=>⟨e,b,d,a,i,rd,j,l.same g g3⟩,o⟩
def zna {a:Pos}{f:Str}{id:String}(i:z15 X (.builtin id) (rNf X.K X.mg F))(l:Gl X f)(m:X.mg f=none)(o:bootBuiltins f=some (.builtin id))(g:QXA X E (e::es) xs)(n:autoParam (f≠"__name__") jB1)(b:autoParam (dB f) jB1)
  (j:autoParam (sE e es X) jA1) (d:autoParam (bT a es X) jA1):QF X E (.Call (.Name f pp) (e::es) [] a) (.op F xs):=
 QE.imp (z5K i l m o g n b j d) λ_ _ _ h=>tfN h
def zdK (d:D)(Q:DK):Prop:=match d with
 | .lst l=>onI (ints? l) λa=>a≠[]/\∀m,m∈a->(∀x∈a,x<=m)->Q (.int m)
 | _=>False
def zbQ (d:D)(Q Q':DK)(m:∀d,Q d->Q' d)(h:zdK d Q):zdK d Q':=by
 unfold zdK at h ⊢
 split at h
 .exact z5M (λ_ q=>⟨q.1,λx a b=>m _ (q.2 x a b)⟩) h
 grind
def gSum (d:D)(Q:DK):Prop:=match d with
 | .lst l=>onI (ints? l) λa=>Q (.int a.sum)
 | _=>False
def pSum:Fn:=fn1 gSum λd Q a m h=>by
 unfold gSum at h ⊢
 split at h
 .exact z5M (λ_ q=>m _ q) h
 .exact h.elim
def zmn (j:X.calm=true):z15 X (.builtin "sum") (rN X.K X.mg pSum):=(ze4 j).imp <| by
 rintro vs H Q ⟨G,p,n,o,g,rds,m,l⟩;obtain⟨d,rfl,b⟩:=z1F m;obtain⟨v,rfl,rd⟩:=rds1 rds;unfold gSum at b
 split at b
 .obtain⟨i,e,q⟩:=z5L b;obtain⟨a,r,rfl,f,h⟩:=z2r rd;rw[z3R e] at h;rw[z42 i h] at f;exact⟨a,i,rfl,z1y g f,l.now g q RD.int'⟩
 .exact b.elim
def gIx (a b:D)(Q:DK):Prop:=match a,b with
 | .lst l,.int i=>onV (atI l i) Q
 | .tup l,.int i=>onV (atI l i) Q
 | _,_=>False
def zfK (a b:D)(Q Q':DK)(m:∀d,Q d->Q' d)(h:gIx a b Q):gIx a b Q':=by
 unfold gIx at h ⊢
 split at h
 .exact zaH m h
 .exact zaH m h
 grind
def pIx:Fn:=fn2 gIx zfK
def IxR.imp {r r':R2}(h:IxR X r)(i:∀x y H Q,r' x y H Q->r x y H Q):IxR X r':=λb a d s j H x y v u Q I f g q e=>h _ _ _ s j H x y v u Q I f g (i x y H Q q) e
def ix_p:IxR X (r2 X.K X.mg pIx):=IxR.imp (ziN.or zm6) <| by
 rintro x y H Q ⟨G,n,o,Q0,r,g,r1,r2,p,m⟩;have b:gIx n o Q0:=p;unfold gIx at b
 split at b
 .obtain⟨d,e,q⟩:=zaG b;obtain⟨a,l,rfl,h,i⟩:=z2r r1;obtain⟨v,f,j⟩:=i.at e;exact .inl ⟨a,l,_,v,rfl,z0O r2,z1y g h,f,m.now g q j⟩
 .obtain⟨d,e,q⟩:=zaG b;obtain⟨a,l,rfl,h,i⟩:=z1O r1;obtain⟨v,f,j⟩:=i.at e;exact .inr ⟨a,l,_,v,rfl,z0O r2,z0G g h,f,m.now g q j⟩
 .exact b.elim
def zn2 {d:Pos}(e:QX X E a x)(f:QX X E b y)(g:zap b):QX X E (.Subscript a b d) (.op pIx [x,y]):=QE.imp (znd ix_p e f g) λ_ _ _ h=>tx2 lk2 h
end
end Pu
namespace HT
open PySem PyProof.Rows
section
variable {prog:Program}{w:World}{A:Around}{E:WvP}{s:Shared}
def zc9 {t sl:Addr}{z06:Array Value}{a b:Option Int}(e:IsTup s.heap t z06)(l:s.heap.IsSliceOf sl vl vu .none)(pl:IsPart vl a)(r:IsPart vu b)(hsz:z06.size<=sizeLine)
  (n:sIx z06.size 0 a=0/\sIx z06.size z06.size b=z06.size->Q (.ref t) s)
  (o:¬ (sIx z06.size 0 a=0/\sIx z06.size z06.size b=z06.size)->Q (.ref s.heap.objs.size) { s with heap:=s.heap.push { cls :=.type "tuple",data :=.seq ((z06.toList.drop (sIx z06.size 0 a)).take (sIx z06.size z06.size b - sIx z06.size 0 a)).toArray } }):
  wpAny (model prog w) A (getItem (.ref t) (.ref sl)) Q E s:=by
 have u:sIx z06.size z06.size b<=z06.size:=zjS _ _ (ww _) b;have d:sizeOk (.seq ((z06.toList.drop (sIx z06.size 0 a)).take (sIx z06.size z06.size b - sIx z06.size 0 a)).toArray):=by
  show List.length _<=sizeLine;rw[vi,jD,uo];lia
 obtain⟨q,i,h,p⟩:=id l;have g:s.TypeIs (.ref sl) "slice":=⟨q,i,h⟩
 unfold getItem
 try with_reducible refine uc ?_
 first | refine wc (wp ?_) | skip
 refine wc (wpAny_sequenceKey e.typeIs (by decide) ?_);refine wc (vL (name:=Str.ofString "__getitem__") e.typeIs jo
  (v4 jo e.typeIs entry_tuple_getitem ?_ (args_tuple_getitem _ _)))
 show wpAny _ _ (Builtin.Tuple.tupleItemsOf (.ref t) >>= _) _ _ s;refine wc (tupleItemsOf_ e ?_);refine wc (Wi g ?_);rw[if_pos (by decide)];refine wc (z5C l pl r ?_);have j:(((sIx z06.size 0 a:Int) == 0 && (1:Int) == 1 && (sIx z06.size z06.size b - sIx z06.size 0 a) == z06.size)=true)↔(sIx z06.size 0 a=0/\sIx z06.size z06.size b=z06.size):=by simp;lia
 show wpAny _ _ (if (((sIx z06.size 0 a):Int) == 0 && (1) == 1 && (sIx z06.size z06.size b - sIx z06.size 0 a) == z06.size)=true then _ else _) _ _ s
 by_cases f:sIx z06.size 0 a=0/\sIx z06.size z06.size b=z06.size
 .rw[if_pos (j.mpr f)];refine wc (m:=Builtin.Tuple.tupleIsExact (.ref t)) (wc (Wi e.typeIs (wp ?_)));rw[if_pos (by decide)];exact wc (wpAny_rule (wp ⟨_,rfl,wp (n f)⟩))
 .rw[if_neg (λz=>f (j.mp z)),zfa];exact wc (m:=Builtin.Tuple.tupleExact _) (uv (wp ⟨_,rfl,wp (o f)⟩) d)
end
end HT
namespace Pu
open PySem PySem.Spec PyProof.Rows L2
def part (o:Option Ex)(a:Pu.Env)(K:Option Int->Prop)(X:XP):Prop:=match o with
 | none=>K none
 | some e=>e.run a (λd=>isI d λi=>K (some i)) X
def z8O {K a:Option Int->Prop}(m:∀i,K i->a i)(b:∀x,X x->X' x)(h:part o ρ K X):part o ρ a X':=by
 cases o with
 | none=>exact m _ h
 | some e=>exact e.mono ρ _ _ X X' (λd q=>zaU (λi q=>m _ q) q) b h
def cutD (l:List D)(a b:Option Int):List D:=(l.drop (HT.sIx l.length 0 a)).take (HT.sIx l.length l.length b - HT.sIx l.length 0 a)
def slcD (d:D)(b a:Option Int)(Q:DK):Prop:=match d with
 | .lst l=>Q (.lst (cutD l b a))
 | .tup l=>Q (.tup (cutD l b a))
 | _=>False
def zcj {b a:Option Int}(m:∀d,Q d->Q' d)(h:slcD d b a Q):slcD d b a Q':=by
 unfold slcD at h ⊢
 split at h
 .exact m _ h
 .exact m _ h
 omega
def Ex.sl (e:Ex)(h g:Option Ex):Ex:=⟨λa Q X=>e.run a (λd=>part h a (λl=>part g a (λu=>slcD d l u Q) X) X) X,λa Q i X f m b q=>e.mono a _ _ X f (λd q=>z8O (λl q=>z8O (λu q=>zcj m q) b q) b q) b q⟩
def rSlP (K:W.Frag)(mg:WmP):V->Option Int->Option Int->Hp->VK->Prop:=λx e b H Q=>∃G d a,Same G H/\RD K mg G d x/\slcD d e b a/\Kt K mg G H a Q
section
variable {X:Cx}{K:W.Frag}{mg:WmP}{E:XK}
def zjC:SlR X (λx f e H Q=>∃a xs,x = .ref a/\SqT X.K H a xs/\((HT.sIx xs.length 0 f=0/\HT.sIx xs.length xs.length e=xs.length)->Q (.ref a) H)/\
 (¬ (HT.sIx xs.length 0 f=0/\HT.sIx xs.length xs.length e=xs.length)->∀p,H p=none->Q (.ref p) (upd H p (.tup (cutV xs f e))))):=by
 intro m s E H x v A C f e sl Q I y n pl t h;obtain⟨a,xs,rfl,o,u,w⟩:=h
 cases y
 obtain⟨g,r,i,l⟩:=I.tuple o;have d:g.toArray.size=xs.length:=by exact r.length.symm
 refine⟨"tuple",_,jo.lookup,i.typeIs,?_⟩;refine HT.zc9 i n pl t (by rw[d];exact l) ?_ ?_
 all_goals rw[d];intro j
 .exact⟨.ref a,H,I,rfl,u j⟩
 refine⟨.ref _,_,I.laid (λb z q=>wg _ q) (ww _) ?_,rfl,w j _ (I.hok.fresh (ww _))⟩;exact⟨wV (z6v xs f e) l,_,(r.drop _).take _,IsTup.new _ _,_,wv _ rfl,rfl⟩
def zbV {b a:Option Int}(h:HT.sIx xs.length 0 b=0/\HT.sIx xs.length xs.length a=xs.length):cutD xs b a=xs:=by
 unfold cutD
 simp_all
def sl_p:SlR X (rSlP X.K X.mg):=(zhs.or zjC).imp <| by
 rintro x n m H Q ⟨G,d,o,g,rd,b,i⟩;unfold slcD at b
 split at b
 .obtain⟨a,l,rfl,h,f⟩:=z2r rd;exact .inl ⟨a,l,rfl,z1y g h,λp e=>i.new g e b (RD.newL (f.cut n m) g e)⟩
 .obtain⟨a,l,rfl,h,f⟩:=z1O rd;refine .inr ⟨a,l,rfl,z0G g h,λj=>i.now g b ?_,λj p e=>i.new g e b (RD.newT (f.cut n m) g e)⟩;rw[f.len] at j;rw[zbV j];omega
 .exact b.elim
def zbg (K:W.Frag)(mg:WmP)(E:XK)(o:Option Ex):TO:=λg H Q=>∃G f d e,Same G H/\AbE K mg G f g/\part o f d e/\(∀i b a,d i->Gr G H b->Same b a->Same H a->Q i a)/\Kx mg H e E
def QO.imp {e:Option Expr}{t t':TO}(h:QO X e t)(i:∀a H Q,t' a H Q->t a H Q):QO X e t':=⟨λb s a H Q I q=>h.p _ s a H Q I (i a H Q q)⟩
def zhX:QO X none (zbg X.K X.mg E none):=QO.imp zhZ <| by rintro j H Q ⟨G,i,e,f,d,g,b,a,h⟩;exact a _ G H b Gr.refl d Same.refl'
def zhW (h:QX X E e x):QO X (some e) (zbg X.K X.mg E (some x)):=QO.imp (zhY h) <| by
 rintro t H Q ⟨G,r,s,f,o,g,n,m,p⟩;refine⟨G,r,_,f,o,g,n,λd v a b q j l g3 rd =>?_,p⟩;obtain⟨i,rfl,q⟩:=zaT q;exact⟨i,z0O rd,m _ a b q j l g3⟩
def zmF {o n:Option Ex}(h:tx K mg E (.sl e o n) σ H Q):tSl (rSlP K mg) (tx K mg E e) (zbg K mg E o) (zbg K mg E n) σ H Q:=by
 obtain⟨G,m,w,a,A,b,z,y,g⟩:=h;refine⟨G,m,_,a,A,b,z,λd v r J q f x g3 rd =>?_,g⟩;refine⟨r,m,_,a,x,b.same f.1,q,λl s L q i C j =>?_,g.same g3⟩;refine⟨s,m,_,a,C,b.same (z02 f.1 i.1),q,λu t M q p F I =>?_,g.same (z02 g3 j)⟩;exact⟨t,d,w,F,rd.same (z02 i.1 p.1),q,y.same (f.trans g3 (i.trans j p)) (z02 g3 (z02 j I))⟩
def zn1 {d b:Option Expr}{j a:Pos}(f:QX X E e x)(g:QO X d (zbg X.K X.mg E l))(i:QO X b (zbg X.K X.mg E u)):QX X E (.Subscript e (.Slice d b none j) a) (.sl x l u):=QE.imp (zf5 sl_p f g i) λ_ _ _ h=>zmF h
def zim:Fn:=fn1 zdK zbQ
def zj4 (l:X.calm=true):z15 X (.builtin "max") (rN X.K X.mg zim):=(ze8 l).imp <| by
 rintro vs H Q ⟨G,u,s,t,g,rds,p,n⟩;obtain⟨d,rfl,b⟩:=z1F p;obtain⟨v,rfl,rd⟩:=rds1 rds;unfold zdK at b
 split at b
 .obtain⟨j,e,f,q⟩:=z5L b;obtain⟨a,w,rfl,h,i⟩:=z2r rd;rw[z3R e] at i;rw[z42 j i] at h;exact⟨a,j,rfl,z1y g h,f,λm o r=>n.now g (q m o r) RD.int'⟩
 .exact b.elim
def zfN {b}(h:(fnI g b).run ds Q Xp):∃i j,ds=[.int i,.int j]/\g i j Q:=by
 obtain⟨d,e,rfl,a⟩:=zfO h;obtain⟨i,j,rfl,rfl,q⟩:=z6o a;exact⟨i,j,rfl,q⟩
def zbw:Fn:=fnI (λi j Q=>Q (.int (if j<i then j else i))) λ_ _ _ _ m h=>m _ h
def zj2 (a:X.calm=true):z15 X (.builtin "min") (rN X.K X.mg zbw):=(ze6 a).imp <| by
 rintro vs H Q ⟨G,h,e,f,g,rds,d,b⟩;obtain⟨i,j,rfl,q⟩:=zfN d;obtain⟨v,w,rfl,r1,r2⟩:=rds2 rds;exact⟨i,j,by rw[z0O r1,z0O r2],b.now g q RD.int'⟩
end
structure Nm (sc:Scope)(x:Str):Prop where
 loc:Loc sc x
 hd:dB x
 hcd:(x == ("__classdict__"))=false
def Nm.vis {sc:Scope}(h:Nm sc x):Vis sc x:=h.loc.elim .inl λz =>.inr (.inl z)
def spL (K:W.Frag):Sp:=λvs H Q _=>∃(a:Addr) (b:List Int),vs=[.ref a]/\SqL K H a (b.map V.int)/\b.length<=63/\∀d,Q (.bl true) d
def zlY {P:Program}{w:World}{K:W.Frag}{mg:WmP}{b:Heap}{CX:CXT}{k:Nat}{f:Addr}{g:FuncData}{ps:List Str}{F:Fn}(h:∀ns:List Int,ns.length<=63->F.run [.lst (ns.map .int)] (λd=>d = .bl true) (λ_=>False))(ok:FnOk P w K mg b CX k f g ps (spP K mg F)):FnOk P w K mg b CX k f g ps (spL K):=
 ok.imp λvs H Q E ⟨a,ns,e,j,l,q⟩=>⟨H,[.lst _],_,_,Same.refl',by rw[e];exact RDs.cons (RD.ofL j (z5O ns)) RDs.nil,h ns l,λd v m i e n o g3 rd=>by
  subst e;rw[z8C rd];exact q i,Kx.no⟩
end Pu
namespace Pu
open PySem L2
open Builtin.Int (intBits)
section
variable {ρ:Pu.Env}{Q:DK}{X:XP}{N:Pu.Env->Prop}{a b c e:Ex}{s t:Sm}{F:Fn}{d:D}{i j:Nat}
def zaM (q:Q d):onV (some d) Q:=q
def e_c (q:Q d):(Ex.c d).run ρ Q X:=q
def e_v (q:onV (ρ.get i) Q):(Ex.v i).run ρ Q X:=q
def zfT (q:a.run ρ (λx=>F.run [x] Q X) X):(Ex.op F [a]).run ρ Q X:=q
def zmd (q:a.run ρ (λx=>b.run ρ (λy=>F.run [x,y] Q X) X) X):(Ex.op F [a,b]).run ρ Q X:=q
def zo2 (q:a.run ρ (λx=>b.run ρ (λy=>c.run ρ (λz=>F.run [x,y,z] Q X) X) X) X):(Ex.op F [a,b,c]).run ρ Q X:=q
def zo1 (q:a.run ρ (λx=>b.run ρ (λy=>c.run ρ (λz=>e.run ρ (λu=>F.run [x,y,z,u] Q X) X) X) X) X):(Ex.op F [a,b,c,e]).run ρ Q X:=q
def zo0 (q:runs es ρ (λds=>F.run ds Q X) X):(Ex.op F es).run ρ Q X:=q
def zjU {Q:List D->Prop}(q:Q []):runs [] ρ Q X:=q
def zhH {Q:List D->Prop}(q:a.run ρ (λd=>runs es ρ (λds=>Q (d::ds)) X) X):runs (a::es) ρ Q X:=q
def zo4 (q:a.run ρ (λd=>tst d (b.run ρ Q X) (Q (.bl false))) X):(Ex.and a b).run ρ Q X:=q
def e_or (q:a.run ρ (λd=>tst d (Q (.bl true)) (b.run ρ Q X)) X):(Ex.or a b).run ρ Q X:=q
def notD (d:D)(Q:DK):Prop:=match d with
 | .bl b=>Q (.bl (!b))
 | _=>False
def zo3 (q:a.run ρ (λd=>notD d Q) X):(Ex.not a).run ρ Q X:=q
def n_bl {k:Bool}(q:Q (.bl (!k))):notD (.bl k) Q:=q
def zh5 (q:src.run ρ (λd=>onL (z06 d) λl=>l.length<sizeLine/\z4Z (z5m tg ct elt (z1f nt js ρ)) l λr=>Q (.lst r)) X):(Ex.comp nt js tg src ct elt).run ρ Q X:=q
def znT (q:K l):onL (z06 (.lst l)) K:=q
def znS (q:K l):onL (z06 (.tup l)) K:=q
def e_sl {e b:Option Ex}(q:a.run ρ (λd=>part e ρ (λl=>part b ρ (λu=>slcD d l u Q) X) X) X):(Ex.sl a e b).run ρ Q X:=q
def zl6 (q:K none):part none ρ K X:=q
def zl5 (q:a.run ρ (λd=>isI d λi=>K (some i)) X):part (some a) ρ K X:=q
def zm7 {k:Int}(q:K k):isI (.int k) K:=q
def zob {b a:Option Int}(q:Q (.lst (cutD l b a))):slcD (.lst l) b a Q:=q
def zoa {b a:Option Int}(q:Q (.tup (cutD l b a))):slcD (.tup l) b a Q:=q
def z4d {A B:Prop}(h:A):tst (.bl true) A B:=⟨λ_=>h,(λz=>by cases z)⟩
def z3H {A B:Prop}(h:B):tst (.bl false) A B:=⟨(λz=>by cases z),λ_=>h⟩
def z0h {d:D}{a:Pu.Env}{B:Prop}(h:Safe d a)(q:B):Safe d a/\B:=⟨h,q⟩
def z1v {d:D}{a:Pu.Env}{B:Prop}(h:zg9 d a)(q:B):zg9 d a/\B:=⟨h,q⟩
def t_bl {k:Bool}{A B:Prop}(h:k=true->A)(a:k=false->B):tst (.bl k) A B:=⟨h,a⟩
def z0r {p:Prop}[Decidable p]{A B:Prop}(h:p->A)(a:¬ p->B):tst (.bl (decide p)) A B:=⟨λe=>h (uw e),λe=>a (of_decide_eq_false e)⟩
def z2M {p:Prop}[Decidable p]{A B:Prop}(a:p)(h:A):tst (.bl (decide p)) A B:=z0r (λ_=>h) λn=>(n a).elim
def t_no {p:Prop}[Decidable p]{A B:Prop}(a:¬ p)(h:B):tst (.bl (decide p)) A B:=z0r (λy=>(a y).elim) λ_=>h
def z24 {k:Bool}{A B:Prop}(h:tst (.bl k) B A):tst (.bl (!k)) A B:=by
 cases k
 .exact z4d (h.2 rfl)
 .exact z3H (h.1 rfl)
def z8k {k:Bool}{A B:Prop}(e:k=true)(h:A):tst (.bl k) A B:=by rw[e];exact z4d h
def z9I {k:Bool}{A B:Prop}(e:k=false)(h:B):tst (.bl k) A B:=by rw[e];exact z3H h
def zgj (q:N ρ):Sm.skip.run ρ N Q X:=q
def z4c (q:s.run ρ (λa=>t.run a N Q X) Q X):(Sm.seq s t).run ρ N Q X:=q
def zmJ (q:a.run ρ (λd=>Safe d (ρ.set i .n)/\N (ρ.set i (.s d))) X):(Sm.set i a).run ρ N Q X:=q
def zeA (q:a.run ρ (λd=>zg9 d (ρ.set i .n)/\N (ρ.set i (.o d))) X):(Sm.own i a).run ρ N Q X:=q
def zjH (q:a.run (vis (dem js ρ)) (λd=>N ((dem js ρ).set i (.s d))) X):(Sm.setx js i a).run ρ N Q X:=q
def s_if (q:c.run ρ (λd=>tst d (s.run ρ N Q X) (t.run ρ N Q X)) X):(Sm.ifs c s t).run ρ N Q X:=q
def zmK (q:a.run ρ Q X):(Sm.ret a).run ρ N Q X:=q
def zmN (q:a.run (vis (dem js ρ)) (λd=>onL (z06 d) λl=>forL tg s N Q X l (dem js ρ)) X):(Sm.for_ js tg a s).run ρ N Q X:=q
def zhD (q:a.run ρ (λd=>onR [d] λl=>forL tg s N Q X l ρ) X):(Sm.forr [a] tg s).run ρ N Q X:=q
def z3C {l:List D}(h:ownL ρ i λl=>a.run ρ (λd=>l.length<sizeLine/\Safe d ρ/\N (ρ.set i (.o (.lst (l++[d]))))) X):(Sm.app i a).run ρ N Q X:=h
def zmL (h:ownL ρ i λl=>popL l λl' _=>N (ρ.set i (.o (.lst l')))):(Sm.pop i).run ρ N Q X:=h
def zhy (h:ownL ρ i λl=>popL l λl' d=>N ((ρ.set i (.o (.lst l'))).set j (.s d))):(Sm.popTo j i).run ρ N Q X:=h
def zjM (h:ownL ρ i λl=>a.run ρ (λd=>isLs d λm=>l.length+m.length<=sizeLine/\(∀x∈m,Safe x ρ)/\N (ρ.set i (.o (.lst (l++m))))) X):(Sm.ext i a).run ρ N Q X:=h
def zhx (h:ownL ρ i λl=>a.run ρ (λd=>Safe d ρ/\b.run ρ (λe=>isI e λz=>onN (ixN l.length z) λj=>N (ρ.set i (.o (.lst (l.set j d))))) X) X):(Sm.put i b a).run ρ N Q X:=h
def zmS (h:ds.length=np)(q:s.run (ds.map B.s++List.replicate (nn - np) .n) (λ_=>Q .non) Q (λ_=>False)):(Fn.mkN np nn s).run ds Q X:=⟨h,q⟩
def zmT (h:ds.length=np)(q:s.run (ds.map B.s++List.replicate (nn - np) .n) (λ_=>Q .non) Q X):(Fn.mk' np nn s).run ds Q X:=⟨h,q⟩
def Sm.cut (W:Pu.Env->Prop)(h:s.run ρ W Q X)(k:∀a,W a->t.run a N Q X):(Sm.seq s t).run ρ N Q X:=s.mono ρ W _ Q Q X X k (λ_ z=>z) (λ_ z=>z) h
def zjr (W:Pu.Env->Prop)(h:tst d (s.run ρ W Q X) (t.run ρ W Q X))(k:∀a,W a->N a):tst d (s.run ρ N Q X) (t.run ρ N Q X):=z3e (s.mono ρ W N Q Q X X k (λ_ z=>z) (λ_ z=>z)) (t.mono ρ W N Q Q X X k (λ_ z=>z) (λ_ z=>z)) h
def nI (a:Pu.Env)(i:Nat):Int:=match a.get i with
 | some (.int s)=>s
 | _=>0
def nL (a:Pu.Env)(i:Nat):Nat:=match a.get i with
 | some (.lst k)=>k.length
 | _=>0
def z0i {j:Type}{f:j->D}{i:Tg}{l:List j}(I:List j->Pu.Env->Prop)(m:I [] ρ)(o:∀a x r ρ,l=a++x::r->I a ρ->i.put (f x) ρ λd=>s.run d (λb=>I (a++[x]) b) Q X)(n:∀ρ,I l ρ->N ρ):forL i s N Q X (l.map f) ρ:=by
 have g:∀r a ρ,l=a++r->I a ρ->forL i s N Q X (r.map f) ρ:=by
  intro r
  induction r with
  | nil=>
   intro a ρ e h;rw[vT] at e;subst e;exact n ρ h
  | cons x r p=>
   intro a ρ e h;exact Tg.put_mono (λd q=>s.mono d _ _ Q Q X X (λb q=>p _ _ (by rw[e];simp) q) (λ_ z=>z) (λ_ z=>z) q) (o a x r ρ e h)
 exact g l [] ρ rfl m
def z5U (I:Pu.Env->Prop)(e:Pu.Env->Nat)(f:I ρ)(h:∀ρ,I ρ->c.run ρ (λd=>tst d (s.run ρ (λa=>I a/\e a < e ρ) Q X) (N ρ)) X):(Sm.wh c s).run ρ N Q X:=by
 have b:∀n ρ,I ρ->e ρ < n->wh c s N Q X n ρ:=by
  intro n
  induction n with
  | zero=>simp_all
  | succ n i=>
   intro ρ g j;exact c.mono ρ _ _ X X (λd q=>z3e (s.mono ρ _ _ Q Q X X (λa q=>i a q.1 (by lia)) (λ_ z=>z) (λ_ z=>z)) (λz=>z) q) (λ_ z=>z) (h ρ g)
 exact⟨e ρ+1,b _ ρ f (uW _)⟩
theorem z1e {a:Type}{f g:a->D}{G:D->(Option D->Prop)->Prop}{M:List D->Prop}:∀{l:List a},(∀x∈l,∀K:Option D->Prop,K (some (g x))->G (f x) K)->M (l.map g)->z4Z G (l.map f) M
 | [],_,q=>q
 | x::r,h,q=>h x wF _ (z1e (λy b=>h y (wq _ b)) q)
theorem z31 {b:Type}{f g:b->D}{p:b->Bool}{G:D->(Option D->Prop)->Prop}{M:List D->Prop}:∀{l:List b},(∀x∈l,∀K:Option D->Prop,(p x=true->K (some (g x)))->(p x=false->K none)->G (f x) K)->M ((l.filter p).map g)->z4Z G (l.map f) M
 | [],_,q=>q
 | x::r,h,q=>by
  refine h x wF _ (λe =>?_) (λe =>?_)
  .refine z31 (λy a=>h y (wq _ a)) ?_
   simp_all
  .refine z31 (λy a=>h y (wq _ a)) ?_
   simp_all
theorem z4Y {b d:Type}{f:b->D}{g:d->D}{P:b->d->Prop}{G:D->(Option D->Prop)->Prop}:∀{l:List b}{M:List D->Prop},(∀x∈l,∀K:Option D->Prop,(∀y,P x y->K (some (g y)))->G (f x) K)->(∀ys:List d,ys.length=l.length->(∀y∈ys,∃x∈l,P x y)->M (ys.map g))->z4Z G (l.map f) M
 | [],_,_,q=>q [] rfl (λ_ z=>by simp at z)
 | x::r,M,h,q=>h x wF _ λy i=>z4Y (λz a=>h z (wq _ a)) λys e j=>q (y::ys) (by simp[e]) λz a=>by
  rcases wn.mp a with rfl | a
  .exact⟨x,wF,i⟩
  simp_all
def zo7 {k:Nat}(q:elt.run (ρ.set k (.s x)) (λd=>K (some d)) (λ_=>False)):z5m (.nm k) none elt ρ x K:=q
def zmm {k:Nat}(q:c.run (ρ.set k (.s x)) (λb=>tst b (elt.run (ρ.set k (.s x)) (λd=>K (some d)) (λ_=>False)) (K none)) (λ_=>False)):z5m (.nm k) (some c) elt ρ x K:=q
variable {m n:Int}
def znM (q:Q (.int (m+n))):pAdd.run [.int m,.int n] Q X:=q
def znD (q:Q (.int (m - n))):pSub.run [.int m,.int n] Q X:=q
def znI (h:zjc m n)(q:Q (.int (m*n))):z0b.run [.int m,.int n] Q X:=⟨h,q⟩
def znE (q:Q (.int (-m))):pNeg.run [.int m] Q X:=q
def zgL (h:0<n)(a:Bt 9000 n)(q:Q (.int (m / n))):z1w.run [.int m,.int n] Q X:=⟨⟨by lia,a⟩,by rw[Int.fdiv_eq_ediv_of_nonneg m (by lia)];exact q⟩
def zlM (h:n≠0)(a:Bt 9000 n)(q:Q (.int (m.fdiv n))):z1w.run [.int m,.int n] Q X:=⟨⟨h,a⟩,q⟩
def zlD (h:0<n)(q:Q (.int (m % n))):pMod.run [.int m,.int n] Q X:=⟨by lia,by rw[Int.fmod_eq_emod_of_nonneg m (by lia)];exact q⟩
def zlC (h:CPow m n)(q:Q (.int (m ^ n.toNat))):pPow.run [.int m,.int n] Q X:=⟨h,q⟩
def o_lt (q:Q (.bl (decide (m<n)))):pLt.run [.int m,.int n] Q X:=q
def o_le (q:Q (.bl (decide (m<=n)))):pLe.run [.int m,.int n] Q X:=q
def o_gt (q:Q (.bl (decide (n<m)))):pGt.run [.int m,.int n] Q X:=q
def o_ge (q:Q (.bl (decide (n<=m)))):pGeI.run [.int m,.int n] Q X:=q
def o_eq (q:Q (.bl (decide (m=n)))):pEq.run [.int m,.int n] Q X:=q
def o_ne (q:Q (.bl (!decide (m=n)))):pNe.run [.int m,.int n] Q X:=q
def zfu (a:Da 60 (.tup l))(b:Da 60 (.tup r))(q:Q (.bl (deq (.tup l) (.tup r)))):pEq.run [.tup l,.tup r] Q X:=⟨a,b,q⟩
def ziw (a:Da 60 (.tup l))(b:Da 60 (.tup r))(q:Q (.bl (!deq (.tup l) (.tup r)))):pNe.run [.tup l,.tup r] Q X:=⟨a,b,q⟩
def o_is (q:Q (.bl (isN d))):pIs.run [d,.non] Q X:=q
def zix (q:Q (.bl (!isN d))):z75.run [d,.non] Q X:=q
def zlH (q:Q (.int l.length)):pLen.run [.lst l] Q X:=q
def zlG (q:Q (.int l.length)):pLen.run [.tup l] Q X:=q
def znL (q:onV (atI l m) Q):pIx.run [.lst l,.int m] Q X:=q
def znK (q:onV (atI l m) Q):pIx.run [.tup l,.int m] Q X:=q
def znC (h:ds.length<=sizeLine)(q:Q (.tup ds)):pTup.run ds Q X:=⟨h,q⟩
def znJ (h:ds.length<=sizeLine)(q:Q (.lst ds)):pLst.run ds Q X:=⟨h,q⟩
def zlA (q:Q (.tup l)):z1u.run [.lst l] Q X:=q
def znN (q:Q (.int (if m<0 then -m else m))):pAbs.run [.int m] Q X:=q
def zlF (a:ns≠[])(q:∀k,k∈ns->(∀x∈ns,x<=k)->Q (.int k)):zim.run [.lst (ns.map D.int)] Q X:=by
 show onI _ _;rw[zaV];exact⟨a,q⟩
def zlE (q:Q (.int (if n<m then n else m))):zbw.run [.int m,.int n] Q X:=q
def zlB {ns:List Int}(q:Q (.int ns.sum)):pSum.run [.lst (ns.map D.int)] Q X:=by
 show onI _ _;rw[zaV];exact q
def zde (h:l.length+r.length<=sizeLine)(q:Q (.lst (l++r))):pAdd.run [.lst l,.lst r] Q X:=⟨h,q⟩
def z3A (h:l.length+r.length<=sizeLine)(q:Q (.tup (l++r))):pAdd.run [.tup l,.tup r] Q X:=⟨h,q⟩
end
theorem Safe.of_noL {d:D}(a:noL d=true)(b:noD d=true):∀e:Pu.Env,Safe d e
 | []=>trivial
 | .n::r=>⟨trivial,Safe.of_noL a b r⟩
 | .s _::r=>⟨trivial,Safe.of_noL a b r⟩
 | .o x::r=>⟨by cases x <;> first | exact a | exact b | trivial,Safe.of_noL a b r⟩
def z0k {a:Pu.Env}{i:Nat}{l:List D}{K:List D->Prop}(h:a[i]? = some (B.o (.lst l)))(q:K l):ownL a i K:=by unfold ownL;rw[h];exact q
def zaD {k:Int}{K:List D->Prop}(h : -(2 ^ 62)<=k)(a:k<2 ^ 62)(q:K ((List.range k.toNat).map λ(j:Nat)=>D.int j)):onR [.int k] K:=⟨⟨h,a⟩,q⟩
def z0V {l:List D}{k:Int}{d:D}{Q:DK}(e:atI l k=some d)(q:Q d):onV (atI l k) Q:=by rw[e];exact q
noncomputable abbrev vec (p:Int × Int):D :=.tup [.int p.1,.int p.2]
theorem z4Q:∀{l:List D},(∀d∈l,noL d=true)->noLs l=true
 | [],_=>rfl
 | d::r,h=>by rw[noLs,h d wF,z4Q λx a=>h x (wq _ a)];rfl
theorem z4R:∀{l:List D},(∀d∈l,noD d=true)->noDs l=true
 | [],_=>rfl
 | d::r,h=>by rw[noDs,h d wF,z4R λx a=>h x (wq _ a)];rfl
abbrev vecs (l:List (Int × Int)):D :=.tup (l.map vec)
def z19 (l:List (Int × Int)):noL (vecs l)=true:=by
 refine z4Q λd a =>?_;obtain⟨p,_,rfl⟩:=wf.mp a
 rfl
def z1a (l:List (Int × Int)):noD (vecs l)=true:=by
 refine z4R λd a =>?_;obtain⟨p,_,rfl⟩:=wf.mp a
 rfl
def z0x {a:Type}{f:a->D}{l:List a}{k:Int}{x:a}(h:atI l k=some x):atI (l.map f) k=some (f x):=by
 unfold atI at h ⊢
 cases q:ixN l.length k with
 | none=>simp_all
 | some j=>
  simp_all
def menu {ns:List Int}{k:Int}{Q:DK}(a:0<=k)(b:k<ns.length)(q:∀v∈ns,Q (.int v)):onV (atI (ns.map D.int) k) Q:=by
 obtain⟨v,d,e⟩:=z5y a b;rw[z0x e];exact q v d
def z2q {d:Type}(f:d->D)(l:List d)(a b:Option Int):cutD (l.map f) a b=((l.drop (HT.sIx l.length 0 a)).take (HT.sIx l.length l.length b - HT.sIx l.length 0 a)).map f:=by
 unfold cutD
 simp_all
def z3y (p r:Int × Int):deq (vec p) (vec r)=decide (p=r):=by
 obtain⟨a,b⟩:=p;obtain⟨c,d⟩:=r;show PyData.eqv (.tuple [.int a,.int b]) (.tuple [.int c,.int d])=decide _;rw[eqv2,decide_eq_decide,Prod.mk.injEq]
theorem Da.vec (p:Int × Int){n:Nat}:Da (n+1) (vec p):=Da.tup.mpr λd a=>by
 simp[wn,wA,vA] at a
 rcases a with rfl | rfl <;> exact Da.int
end Pu
namespace Geo
abbrev P:=Int × Int
def Qa (a b c:P):Int:=(b.1 - a.1)*(c.2 - a.2) - (b.2 - a.2)*(c.1 - a.1)
def Lx (a b:P):Prop:=a.1<b.1\/(a.1=b.1/\a.2<b.2)
instance (a b:P):Decidable (Lx a b):=inferInstanceAs (Decidable (_\/_))
def Lx.irr:¬ Lx a a:=by unfold Lx;lia
def Lx.tr {a b c:P}(h:Lx a b)(q:Lx b c):Lx a c:=by unfold Lx at *;lia
def Lx.asym (h:Lx a b):¬ Lx b a:=by unfold Lx at *;lia
def Lx.tri (a b:P):Lx a b\/a=b\/Lx b a:=by
 obtain⟨d,e⟩:=a;obtain⟨f,g⟩:=b;unfold Lx
 grind
def Lx.ne {a b:P}(h:Lx a b):a≠b:=λz=>by subst z;exact Lx.irr h
def z90 (d:¬ Lx a b)(e:¬ Lx b a):a=b:=by
 rcases Lx.tri a b with h | h | h
 .exact absurd h d
 .exact h
 simp_all
def z4A {k m:Int}(h:0<k)(q:0<=m*k):0<=m:=by
 rcases(show m<0\/0<=m by lia) with z | z
 .have:=Int.mul_neg_of_neg_of_pos z h;lia
 .exact z
def zjD {k m:Int}(h:0<k)(q:0<m*k):0<m:=by
 rcases(show m<=0\/0<m by lia) with z | z
 .have:=vG z (wt h);lia
 .exact z
def zhk {u1 u2 w1 w2 z1 z2:Int}(a:0<w1\/w1=0/\0<w2)(m:0<u1\/u1=0/\0<=u2)(b:0<z1\/z1=0/\0<=z2)(g:0<=u1*w2 - u2*w1)(h:0<=w1*z2 - w2*z1):0<=u1*z2 - u2*z1:=by
 rcases a with a | ⟨a,d⟩
 .refine z4A a ?_;have e:(u1*z2 - u2*z1)*w1=(u1*w2 - u2*w1)*z1+(w1*z2 - w2*z1)*u1:=by grind
  have j:=wR g (show 0<=z1 by lia);have l:=wR h (show 0<=u1 by lia);lia
 .subst a;have i:z1=0:=by
   rcases b with b | b
   .have:=wS d b;lia
   .exact b.1
  have f:0<=z2:=by lia
  subst i;have:=wR (show 0<=u1 by lia) f;lia
def zmG {u1 u2 w1 w2 z1 z2:Int}(a:0<w1\/w1=0/\0<w2)(d:0<u1\/u1=0/\0<u2)(b:0<z1\/z1=0/\0<z2)(h:0<u1*w2 - u2*w1)(i:0<w1*z2 - w2*z1):0<u1*z2 - u2*z1:=by
 rcases a with a | ⟨a,g⟩
 .refine zjD a ?_;have e:(u1*z2 - u2*z1)*w1=(u1*w2 - u2*w1)*z1+(w1*z2 - w2*z1)*u1:=by grind
  rcases d with d | ⟨d,f⟩
  .have j:=wR (wt h) (show 0<=z1 by lia);have l:=wS i d;lia
  .have:=wS f a;lia
 .subst a
  rcases b with b | ⟨b,_⟩
  .have:=wS g b;lia
  .subst b;lia
def pops (v:P):List P->List P
 | b::a::r=>if Qa a b v<=0 then pops v (a::r) else b::a::r
 | s=>s
def z6R (S:P->Prop):List P->Prop
 | b::a::r=>(∀p,S p->0<=Qa a b p)/\Lx a b/\z6R S (a::r)
 | _=>True
def Conv:List P->Prop
 | c::b::a::r=>0<Qa a b c/\Conv (b::a::r)
 | _=>True
def z6R.tail (h:z6R S (b::r)):z6R S r:=by
 cases r with
 | nil=>trivial
 | cons a r=>exact h.2.2
def Conv.tail (h:Conv (b::r)):Conv r:=by
 match r,h with
 | [],_=>trivial
 | [_],_=>trivial
 | _::_::_,h=>exact h.2
theorem z9i {v:P}:∀{r:List P}{b a:P},z6R S (b::a::r)->Conv (b::a::r)->Lx b v->0<Qa a b v->z6R (λp=>p=v\/S p) (b::a::r)
 | [],b,a,e,g,j,h=>⟨λp f=>by
   rcases f with rfl | f
   .exact wt h
   .exact e.1 p f,e.2.1,trivial⟩
 | c::r,b,a,e,g,j,h=>by
  have i:=e.2.2.2.1;have d:=e.2.1;have m:0<Qa c a v:=by
   have l:0<Qa c a b:=g.1;have:=zmG (u1:=a.1 - c.1) (u2:=a.2 - c.2) (w1:=b.1 - a.1) (w2:=b.2 - a.2) (z1:=v.1 - b.1) (z2:=v.2 - b.2) (by unfold Lx at d;lia) (by unfold Lx at i;lia) (by unfold Lx at j;lia)
    (by unfold Qa at l;grind) (by unfold Qa at h;grind)
   unfold Qa at l ⊢
   grind
  exact⟨λp f=>by
   rcases f with rfl | f
   .exact wt h
   .exact e.1 p f,d,z9i e.2.2 g.2 (d.tr j) m⟩
theorem zcP {v:P}(w:∀p,S p->Lx p v):∀{r:List P}{b:P},(∀x∈b::r,S x)->z6R S (b::r)->Conv (b::r)->(∀p,S p->¬ Lx p b->0<=Qa b v p)->(∀z,(b::r).getLast? = some z->∀p,S p->¬ Lx p z)->
  ∃d l,pops v (b::r)=d::l/\(d::l) <:+ (b::r)/\(∀p,S p->0<=Qa d v p)/\z6R (λp=>p=v\/S p) (d::l)/\Conv (v::d::l)
 | [],b,s,j,m,t,q=>⟨b,[],rfl,List.suffix_refl _,λp i=>t p i (q b rfl p i),trivial,trivial⟩
 | a::r,b,s,j,m,t,q=>by
  have f:=j.2.1;have g:=w b (s b (by simp))
  by_cases h:Qa a b v<=0
  .have e:pops v (b::a::r)=pops v (a::r):=by rw[pops,if_pos h]
   obtain⟨d,l,y,A,C,E,F⟩:=zcP w (r:=r) (b:=a) (λx G=>s x (wq _ G)) j.tail m.tail (λp i n=>by
    have u:=j.1 p i;have:=zhk (u1:=v.1 - a.1) (u2:=v.2 - a.2) (w1:=b.1 - a.1) (w2:=b.2 - a.2) (z1:=p.1 - a.1) (z2:=p.2 - a.2) (by unfold Lx at f;lia) (by have:=f.tr g;unfold Lx at this;lia) (by unfold Lx at n;lia)
     (by unfold Qa at h;grind) (by unfold Qa at u;grind)
    unfold Qa
    grind) (λz H=>q z (by rw[jB];exact H))
   exact⟨d,l,e.trans y,A.trans (List.suffix_cons _ _),C,E,F⟩
  .have o:0<Qa a b v:=by lia
   have e:pops v (b::a::r)=b::a::r:=by rw[pops,if_neg h]
   refine⟨b,a::r,e,List.suffix_refl _,λp i =>?_,z9i j m g o,⟨o,m⟩⟩
   by_cases n:Lx p b
   .have u:=j.1 p i;have:=zhk (u1:=b.1 - p.1) (u2:=b.2 - p.2) (w1:=b.1 - a.1) (w2:=b.2 - a.2) (z1:=v.1 - b.1) (z2:=v.2 - b.2) (by unfold Lx at f;lia) (by unfold Lx at n;lia) (by unfold Lx at g;lia)
     (by unfold Qa at u;grind) (by unfold Qa at o;grind)
    unfold Qa
    grind
   .exact t p i n
structure Ok (S:P->Prop)(s:List P):Prop where
 sub:∀x∈s,S x
 desc:s.Pairwise λx y=>Lx y x
 top:∃b r,s=b::r/\∀p,S p->¬ Lx b p
 bot:∃z,s.getLast? = some z/\∀p,S p->¬ Lx p z
 edges:z6R S s
 conv:Conv s
def z61 {s t:List P}(h:(b::t) <:+ s):s.getLast? = (b::t).getLast? := by
 obtain⟨u,rfl⟩:=h;rw[List.getLast?_append]
 rfl
def Ok.push {S:P->Prop}{s:List P}{v:P}(o:Ok S s)(i:∀p,S p->Lx p v):Ok (λp=>p=v\/S p) (v::pops v s):=by
 obtain⟨b,r,rfl,h⟩:=o.top;obtain⟨z,m,f⟩:=o.bot;obtain⟨n,A,q,l,t,u,w⟩:=zcP i o.sub o.edges o.conv (λp a y=>by
  have:p=b:=z90 y (h p a);subst this;unfold Qa
  grind) (λC j=>by rw[m] at j;injection j with e;subst e;exact f)
 have d:∀x∈n::A,S x:=λx g=>o.sub x (l.subset g);rw[q];refine⟨λx g =>?_,?_,⟨v,_,rfl,λp a =>?_⟩,⟨z,?_,λp a =>?_⟩,⟨λp a =>?_,i n (d n (by simp)),u⟩,w⟩
 .rcases wn.mp g with rfl | g
  .exact .inl rfl
  .exact .inr (d x g)
 .exact vd.mpr ⟨λx g=>i x (d x g),o.desc.sublist l.sublist⟩
 .rcases a with rfl | a
  .exact Lx.irr
  .exact(i p a).asym
 .rw[jB, <- z61 l];exact m
 .rcases a with rfl | a
  .exact(i z (by rw[z61 l] at m;exact d z (List.mem_of_getLast? m))).asym
  .exact f p a
 .rcases a with rfl | a
  .unfold Qa;grind
  .exact t p a
def z2K (l:List P):List P:=l.foldl (λs v=>v::pops v s) []
def Ok.one (v:P):Ok (λp=>p=v) [v]:=⟨by simp,by simp,⟨v,[],rfl,λp a=>by subst a;exact Lx.irr⟩,⟨v,rfl,λp a=>by subst a;exact Lx.irr⟩,trivial,trivial⟩
def Ok.congr {S a:P->Prop}{s:List P}(o:Ok S s)(h:∀p,S p↔a p):Ok a s:=by
 have e  := funext λp=>propext (h p);subst e;exact o
theorem zb8:∀(l:List P) (S:P->Prop) (s:List P),Ok S s->(∀x∈l,∀p,S p->Lx p x)->l.Pairwise Lx->Ok (λp=>S p\/p∈l) (l.foldl (λs v=>v::pops v s) s)
 | [],S,s,o,_,_=>o.congr (by simp)
 | v::l,S,s,o,h,a=>by
  obtain⟨d,e⟩:=vd.mp a;have:=zb8 l _ _ (o.push (h v (by simp))) (λx b p a=>by
   rcases a with rfl | a
   .exact d x b
   .exact h x (by simp[b]) p a) e
  refine this.congr λp =>?_;simp[wn]
  constructor
  .rintro((h | h) | h)
   .exact .inr (.inl h)
   .exact .inl h
   simp_all
  .rintro(h | h | h)
   .simp_all
   .exact .inl (.inl h)
   .exact .inr h
def z9r (e:l≠[])(a:l.Pairwise Lx):Ok (· ∈ l) (z2K l):=by
 match l,e with
 | v::l,_=>
  obtain⟨b,d⟩:=vd.mp a;have:=zb8 l _ [v] (Ok.one v) (λx f p a=>by subst a;exact b x f) d;exact this.congr λp=>by simp
def ng (p:P):P:=(-p.1,-p.2)
def z4S (p:P):ng (ng p)=p:=by unfold ng;simp
def zfZ (a b c:P):Qa (ng a) (ng b) (ng c)=Qa a b c:=by unfold Qa ng;grind
def zbJ:Lx (ng a) (ng b)↔Lx b a:=by unfold Lx ng;simp;lia
theorem zcQ (v:P):∀s:List P,pops (ng v) (s.map ng)=(pops v s).map ng
 | []=>rfl
 | [_]=>rfl
 | b::a::r=>by
  show (if Qa _ _ _<=0 then pops _ ((a::r).map ng) else _)=_;rw[zfZ,zcQ v _,pops]
  by_cases h:Qa a b v<=0
  .simp_all
  .rw[if_neg h,if_neg h];rfl
theorem zdN:∀(l s:List P),(l.map ng).foldl (λs v=>v::pops v s) (s.map ng)=(l.foldl (λs v=>v::pops v s) s).map ng
 | [],_=>rfl
 | v::l,s=>by
  show (l.map ng).foldl _ (ng v::pops _ _)=_;rw[zcQ];exact zdN l (v::pops v s)
def ze2 (l:List P):z2K (l.map ng)=(z2K l).map ng:=zdN l []
def dot (a b p:P):Int:=(p.1 - a.1)*(b.1 - a.1)+(p.2 - a.2)*(b.2 - a.2)
structure Edge (S:P->Prop)(a b:P):Prop where
 sa:S a
 sb:S b
 ne:a≠b
 left:∀p,S p->0<=Qa a b p
 btw:∀p,S p->Qa a b p=0->0<=dot a b p/\0<=dot b a p
theorem Edge.ng (e:Edge (λp=>S (Geo.ng p)) a b):Edge S (Geo.ng a) (Geo.ng b):=by
 refine⟨e.sa,e.sb,λz=>e.ne (by have:=congrArg Geo.ng z;rwa [z4S,z4S] at this),λp d =>?_,λp d h =>?_⟩
 .have:=e.left _ (by rw[z4S];exact d);rw[<- zfZ,z4S] at this;exact this
 .have:=e.btw _ (by rw[z4S];exact d) (by rw[<- zfZ,z4S];exact h);unfold dot Geo.ng at*
  grind
def ziZ (a b c:P):Qa a c b = -Qa a b c:=by unfold Qa;grind
def z0g (x:Int):0<=x*x:=by
 rcases(show x<=0\/0<=x by lia) with h | h
 .exact v5 h h
 .exact wR h h
def z4i {x y:Int}(h:x*x+y*y=0):x=0/\y=0:=by
 have d:=z0g x;have e:=z0g y;have a:x*x=0:=by omega
 have b:y*y=0:=by omega
 constructor
 .rcases wI.mp a with z | z <;> exact z
 .rcases wI.mp b with z | z <;> exact z
def Edge.det {a b c:P}(e:Edge S a b)(f:Edge S a c):b=c:=by
 have h1:=e.left c f.sb;have h2:=f.left b e.sb;have N:=ziZ a b c;have q:Qa a b c=0:=by lia
 have r:Qa a c b=0:=by lia
 have u:=e.btw c f.sb q;have w:=f.btw b e.sb r;have a0:=e.ne;have a3:=f.ne;obtain⟨m,n⟩:=a;obtain⟨d,g⟩:=b;obtain⟨i,j⟩:=c;unfold Qa at q;unfold dot at u w;simp only[ne_eq,Prod.mk.injEq] at*;obtain⟨a4,s⟩:=u;obtain⟨a5,l⟩:=w;have U:(d - i)*(d - i)+(g - j)*(g - j)=0:=by
  generalize O:d - m=u1 at*;generalize Q:g - n=u2 at*;generalize R:i - m=w1 at*;generalize T:j - n=w2 at*;have y:d - i=u1 - w1:=by lia
  have G:g - j=u2 - w2:=by lia
  have H:i - d=w1 - u1:=by lia
  have I:j - g=w2 - u2:=by lia
  have J:m - d = -u1:=by lia
  have K:n - g = -u2:=by lia
  have L:m - i = -w1:=by lia
  have M:n - j = -w2:=by lia
  rw[y,G] at l ⊢;rw[H,I,J,K] at s;rw[L,M] at l;have A:0<=(u1*u1+u2*u2) - (u1*w1+u2*w2):=by grind
  have B:0<=(w1*w1+w2*w2) - (u1*w1+u2*w2):=by grind
  have C:(u1*u1+u2*u2)*(w1*w1+w2*w2)=(u1*w1+u2*w2)*(u1*w1+u2*w2):=by
   have:(u1*u1+u2*u2)*(w1*w1+w2*w2)=(u1*w1+u2*w2)*(u1*w1+u2*w2)+(u1*w2 - u2*w1)*(u1*w2 - u2*w1):=by grind
   rw[this,q];lia
  have D:0<=u1*w1+u2*w2:=by grind
  have PX:0<u1*u1+u2*u2:=by
   have W:=z0g u1;have n2:=z0g u2
   rcases(show u1*u1+u2*u2=0\/0<u1*u1+u2*u2 by lia) with z | z
   .have:=z4i z;lia
   .exact z
  have PY:0<w1*w1+w2*w2:=by
   have W:=z0g w1;have n2:=z0g w2
   rcases(show w1*w1+w2*w2=0\/0<w1*w1+w2*w2 by lia) with z | z
   .have:=z4i z;lia
   .exact z
  have E:(u1 - w1)*(u1 - w1)+(u2 - w2)*(u2 - w2)=((u1*u1+u2*u2) - (u1*w1+u2*w2))+((w1*w1+w2*w2) - (u1*w1+u2*w2)):=by grind
  rw[E];generalize u1*u1+u2*u2=X at*;generalize w1*w1+w2*w2=Y at*;generalize u1*w1+u2*w2=Z at*;have F:(X - Z)*Y+Z*(Y - Z)=0:=by grind
  have G1:=wR A (show 0<=Y by lia);have G2:=wR D B;have x:(X - Z)*Y=0:=by omega
  have t:Z*(Y - Z)=0:=by omega
  rcases wI.mp x with h | h
  .rcases wI.mp t with o | o
   .have:X*Y=0:=by rw[C,o];rfl
    rcases wI.mp this with p | p <;> lia
   .lia
  .rcases wI.mp t with o | o <;> lia
 have:=z4i U;lia
def Path (R:P->P->Prop):List P->Prop
 | a::b::r=>R a b/\Path R (b::r)
 | _=>True
theorem Path.join {t:List P}:∀{A:List P},Path R (A++[M])->Path R (M::t)->Path R (A++M::t)
 | [],_,h=>h
 | [a],h,q=>⟨h.1,q⟩
 | a::b::A,h,q=>⟨h.1,Path.join (A:=b::A) h.2 q⟩
def Path.snoc (h:Path R (A++[a]))(q:R a b):Path R (A++[a,b]):=Path.join h ⟨q,trivial⟩
theorem Path.rev:∀{l:List P},Path (λx y=>R y x) l->Path R l.reverse
 | [],_=>trivial
 | [_],_=>trivial
 | a::b::r,h=>by
  have:=Path.rev h.2;rw[uF] at this ⊢;rw[uF];rw[vH];exact Path.snoc this h.1
theorem Path.imp {R R':P->P->Prop}(i:∀a b,R a b->R' a b):∀{l:List P},Path R l->Path R' l
 | [],_=>trivial
 | [_],_=>trivial
 | _::_::_,h=>⟨i _ _ h.1,Path.imp i h.2⟩
theorem Path.map {R:P->P->Prop}{f:P->P}:∀{l:List P},Path (λa b=>R (f a) (f b)) l->Path R (l.map f)
 | [],_=>trivial
 | [_],_=>trivial
 | _::b::r,h=>⟨h.1,Path.map h.2⟩
def zgQ (h:Lx a b)(q:¬ Lx b p)(z:Qa a b p=0):0<=dot b a p:=by
 unfold Lx at h q;unfold Qa at z;unfold dot;have e:(p.1 - b.1)*(a.1 - b.1)+(p.2 - b.2)*(a.2 - b.2)=(b.1 - a.1)*(b.1 - p.1)+(b.2 - a.2)*(b.2 - p.2):=by grind
 rw[e];have u:(b.1 - a.1)*(b.2 - p.2)=(b.2 - a.2)*(b.1 - p.1):=by grind
 generalize m:b.1 - a.1=d at*;generalize n:b.2 - a.2=f at*;generalize o:b.1 - p.1=i at*;generalize r:b.2 - p.2=j at*
 rcases(show 0<d\/d=0/\0<f by lia) with g | ⟨g,l⟩
 .refine z4A g ?_;have:(d*i+f*j)*d=i*(d*d+f*f):=by grind
  rw[this];have s:=z0g d;have t:=z0g f;exact wR (by lia) (by lia)
 .subst g;have:f*i=0:=by lia
  rcases wI.mp this with z | z
  .lia
  .subst z;have:=wR (wt l) (show 0<=j by lia);lia
def ziD (h:Lx a b)(q:¬ Lx p a)(z:Qa a b p=0):0<=dot a b p:=by
 have:=zgQ (zbJ.mpr h) (λy=>q (zbJ.mp y)) (by rw[zfZ];unfold Qa at *;grind);unfold dot ng at*;dsimp only at this
 grind
def zdf {a b c p:P}(h:0<Qa a b c)(q:0<=Qa b c p)(z:Qa a b p=0):0<=dot b a p:=by
 unfold Qa at h q z;unfold dot;have l:(p.1 - b.1)*(a.1 - b.1)+(p.2 - b.2)*(a.2 - b.2) = -((p.1 - b.1)*(b.1 - a.1)+(p.2 - b.2)*(b.2 - a.2)):=by grind
 rw[l];have m:0<(b.1 - a.1)*(c.2 - b.2) - (b.2 - a.2)*(c.1 - b.1):=by grind
 have n:(b.1 - a.1)*(p.2 - b.2) - (b.2 - a.2)*(p.1 - b.1)=0:=by grind
 generalize b.1 - a.1=d at*;generalize b.2 - a.2=e at*;generalize c.1 - b.1=f at*;generalize c.2 - b.2=g at*;generalize p.1 - b.1=i at*;generalize p.2 - b.2=j at*;refine z4A m ?_;have : -(i*d+j*e)*(d*g - e*f)=(f*j - g*i)*(d*d+e*e) - (d*j - e*i)*(f*d+g*e):=by grind
 rw[this,n,jf,Int.sub_zero];have o:=z0g d;have r:=z0g e;exact wR q (by lia)
def zaO (h:0<Qa y a b)(q:0<=Qa y a p)(z:Qa a b p=0):0<=dot a b p:=by
 unfold Qa at h q z;unfold dot;have l:0<(a.1 - y.1)*(b.2 - a.2) - (a.2 - y.2)*(b.1 - a.1):=by grind
 have m:0<=(a.1 - y.1)*(p.2 - a.2) - (a.2 - y.2)*(p.1 - a.1):=by grind
 generalize b.1 - a.1=d at*;generalize b.2 - a.2=e at*;generalize a.1 - y.1=f at*;generalize a.2 - y.2=g at*;generalize p.1 - a.1=i at*;generalize p.2 - a.2=j at*;refine z4A l ?_;have:(i*d+j*e)*(f*e - g*d)=(f*j - g*i)*(d*d+e*e) - (d*j - e*i)*(f*d+g*e):=by grind
 rw[this,z,jf,Int.sub_zero];have n:=z0g d;have o:=z0g e;exact wR m (by lia)
theorem z7e:∀{r:List P}{b a:P},(∀x∈b::a::r,S x)->z6R S (b::a::r)->Conv (b::a::r)->(∀z,(b::a::r).getLast? = some z->∀p,S p->¬ Lx p z)->(∀p,S p->Qa a b p=0->0<=dot b a p)->Path (λx y=>Edge S y x) (b::a::r)
 | [],b,a,f,d,g,h,i=>⟨⟨f a (by simp),f b (by simp),d.2.1.ne,d.1,λp e z=>⟨ziD d.2.1 (h a rfl p e) z,i p e z⟩⟩,trivial⟩
 | y::r,b,a,f,d,g,h,i=>by
  refine⟨⟨f a (by simp),f b (by simp),d.2.1.ne,d.1,λp e z=>⟨zaO g.1 (d.2.2.1 p e) z,i p e z⟩⟩,?_⟩;exact z7e (λx j=>f x (wq _ j)) d.2.2 g.2 (λz l=>h z (by simp_all)) λp e z=>zdf g.1 (d.1 p e) z
def Ok.path (o:Ok S s):Path (Edge S) s.reverse:=by
 refine Path.rev ?_;obtain⟨b,r,rfl,h⟩:=o.top;obtain⟨z,i,f⟩:=o.bot
 cases r with
 | nil=>trivial
 | cons a r=>exact z7e o.sub o.edges o.conv (λj d=>by rw[i] at d;injection d with e;subst e;exact f) λp g z=>zgQ o.edges.2.1 (h p g) z
def hull (l:List P):List P:=if l.length<=1 then l else (z2K l).reverse.dropLast++(z2K l.reverse).reverse.dropLast
structure z03 (S:P->Prop)(h:List P):Prop where
 ex:∃m t,h=m::t/\S m/\(∀p,S p->¬ Lx p m)/\m ∉ t/\((t=[]/\∀p,S p->p=m)\/(t≠[]/\Path (Edge S) (m::t++[m])))
theorem z4f (det:∀a b c,R a b->R a c->b=c):∀{t t':List P}{a:P},m ∉ t->m ∉ t'->Path R (a::t++[m])->Path R (a::t'++[m])->t=t'
 | [],[],_,_,_,_,_=>rfl
 | [],b::t',a,_,h,p,q=>by
  have  := det a b m q.1 p.1
  simp_all
 | b::t,[],a,h,_,p,q=>by
  have  := det a b m p.1 q.1
  simp_all
 | b::t,c::t',a,h,d,p,q=>by
  have e  := det a b c p.1 q.1;subst e;rw[z4f det (λz=>h (by simp[z])) (λz=>d (by simp[z])) p.2 q.2]
def z03.unique {S:P->Prop}{h h':List P}(x:z03 S h)(y:z03 S h'):h=h':=by
 obtain⟨m,t,rfl,E,z,C,e⟩:=x.ex;obtain⟨A,F,rfl,n,j,l,o⟩:=y.ex;have r  := z90 (j m E) (z A n);subst r;have one:∀{u:List P},u≠[]->Path (Edge S) (m::u++[m])->(∀p,S p->p=m)->False:=λ{u} w i f=>by
  match u,w with
  | b::u,_=>
   have e  := i.1;exact e.ne (f b e.sb).symm
 rcases e with ⟨rfl,f⟩ | ⟨s,i⟩
 .rcases o with ⟨rfl,_⟩ | ⟨g,d⟩
  .rfl
  .exact(one g d f).elim
 .rcases o with ⟨rfl,f⟩ | ⟨g,d⟩
  .exact(one s i f).elim
  .rw[z4f (R:=Edge S) (λa b c p q=>Edge.det p q) C l i d]
def z3B (h:s.getLast? = some z):s.dropLast++[z]=s:=by
 have a:s≠[]:=λe=>by simp_all
 have e  := by
  rw[List.getLast?_eq_some_getLast a] at h;exact w6 h
 rw[<- e];exact List.dropLast_concat_getLast a
def zjh {l:List P}(b:2<=l.length)(a:l.Pairwise Lx):∃x y,x∈l/\y∈l/\Lx x y:=by
 match l,b,a with
 | x::y::r,_,a=>exact⟨x,y,by simp,by simp,(vd.mp a).1 y (by simp)⟩
def z79 {l:List P}(O:2<=l.length)(w:l.Pairwise Lx):∃m M A B,hull l=m::A++M::B/\m∈l/\M∈l/\Lx m M/\(∀p∈l,¬ Lx p m)/\(∀p∈l,¬ Lx M p)/\
  (m::A++[M]).Pairwise Lx/\(M::B++[m]).Pairwise (λx y=>Lx y x)/\Path (Edge (· ∈ l)) (m::A++[M])/\Path (Edge (· ∈ l)) (M::B++[m]):=by
 have F:l≠[]:=λz=>by rw[z] at O;simp at O
 have E:=z9r F w;have Q:(l.reverse.map ng).Pairwise Lx:=by
  rw[w5,List.pairwise_reverse];exact w.imp λh=>zbJ.mpr h
 have s:=z9r (l:=l.reverse.map ng) (by simpa using F) Q;rw[ze2] at s;have d:∀p,p∈l.reverse.map ng↔ng p∈l:=λp=>by
  simp only[wf,List.mem_reverse]
  constructor
  .rintro⟨q,Z,rfl⟩;rw[z4S];exact Z
  .intro h;exact⟨ng p,h,z4S p⟩
 obtain⟨M,r1,U,G⟩:=E.top;obtain⟨m,t,i⟩:=E.bot;obtain⟨g,r2,J,t2⟩:=s.top;obtain⟨C,u,I⟩:=s.bot;have T:M∈l:=E.sub M (by rw[U];simp);have S:m∈l:=E.sub m (List.mem_of_getLast? t);have H:ng g∈l:=(d g).mp (s.sub g (by rw[J];simp));have R:ng C∈l:=(d C).mp (s.sub C (List.mem_of_getLast? u));have j:ng g=m:=by
  refine z90 (i _ H) λz =>?_;have:=t2 (ng m) ((d _).mpr (by rw[z4S];exact S));exact this (by rw[<- z4S g];exact zbJ.mpr z)
 have o:ng C=M:=by
  refine z90 (λz =>?_) (G _ R);have:=I (ng M) ((d _).mpr (by rw[z4S];exact T));exact this (by rw[<- z4S C];exact zbJ.mpr z)
 have n:Lx m M:=by
  rcases Lx.tri m M with h | h | h
  .exact h
  .exfalso
   subst h;have all:∀p∈l,p=m:=λp w=>z90 (i p w) (G p w);obtain⟨x,y,hx,hy,this⟩:=zjh O w;rw[all x hx,all y hy] at this;exact Lx.irr this
  .exact absurd h (G m S)
 have there:∃A,(z2K l).reverse=m::A++[M]:=by
  rw[U] at t ⊢
  cases r1 with
  | nil=>simp at t;exact absurd (t ▸ n) Lx.irr
  | cons c r=>
   rw[jB] at t;refine⟨(c::r).dropLast.reverse,?_⟩;rw[uF, <- z3B t];simp
 obtain⟨A,K⟩:=there;have N:z2K l.reverse=(g::r2).map ng:=by
  have:((z2K l.reverse).map ng).map ng=(g::r2).map ng:=by rw[J]
  rw[wN] at this;simpa[Function.comp_def,z4S] using this
 have back:∃B,(z2K l.reverse).reverse=M::B++[m]:=by
  rw[J] at u;rw[N]
  cases r2 with
  | nil=>
   simp at u;rw[u] at j;rw[j] at o;exact absurd (o ▸ n) Lx.irr
  | cons c r=>
   rw[jB] at u;refine⟨((c::r).dropLast.map ng).reverse,?_⟩;have:(c::r)=(c::r).dropLast++[C]:=(z3B u).symm;rw[wE,uF,j,this,wD];simp[o]
 obtain⟨B,L⟩:=back;refine⟨m,M,A,B,?_,S,T,n,i,G,?_,?_,?_,?_⟩
 .unfold hull;rw[if_neg (by lia),K,L,List.dropLast_concat,List.dropLast_concat]
 .rw[<- K,List.pairwise_reverse];exact E.desc
 .rw[<- L,List.pairwise_reverse];have q:=s.desc;rw[w5] at q;exact q.imp λh=>zbJ.mp h
 .rw[<- K];exact E.path
 .rw[<- L];have q:=s.path;rw[<- List.map_reverse] at q;have Y:Path (λa b=>Edge (· ∈ l) (ng a) (ng b)) ((z2K l.reverse).map ng).reverse:=by
   rw[<- List.map_reverse];refine Path.imp (λa b e =>?_) q;refine Edge.ng ?_;have X:(λp=>ng p∈l)=(λp=>p∈l.reverse.map ng):=funext λp=>propext (d p).symm;rw[X];exact e
  have W:=Path.map (f:=ng) Y;rw[List.map_reverse,wN] at W;simpa[Function.comp_def,z4S] using W
def ziP (h:l≠[])(b:l.Pairwise Lx):z03 (· ∈ l) (hull l):=by
 by_cases f:l.length<=1
 .match l,h,f with
  | [x],_,_=>exact⟨x,[],rfl,by simp,λp b=>by rw[wj.mp b];exact Lx.irr,by simp,.inl ⟨rfl,λp b=>wj.mp b⟩⟩
 .obtain⟨m,M,A,B,e,i,q,g,a,d,j,r,n,o⟩:=z79 (by lia) b;refine⟨m,A++M::B,e,i,a,λz =>?_,.inr ⟨by simp,?_⟩⟩
  .rcases wB.mp z with z | z
   .exact Lx.irr ((vd.mp j).1 m (by simp[z]))
   grind
  .have:m::(A++M::B)++[m]=(m::A)++M::(B++[m]):=by simp
   rw[this];exact Path.join n o
end Geo
open Geo
namespace Lcg
def orb (x:Nat):Nat->Nat
 | 0=>x
 | n+1=>orb x n*5+1
theorem z9S (x m:Nat):∀n,orb x (m+n)=orb (orb x m) n
 | 0=>rfl
 | n+1=>congrArg (· * 5+1) (z9S x m n)
theorem zd3:∀k:Nat,∃c d,∀y,orb y (2 ^ k)=y+2 ^ k*(2*d+1+4*c*y)
 | 0=>⟨1,0,λy=>by show y*5+1=_;lia⟩
 | k+1=>by
  obtain⟨c,d,h⟩:=zd3 k;exact⟨c+2*c*c*2 ^ k,d+(2*d+1)*c*2 ^ k,λy=>by
   rw[Nat.pow_succ,Nat.mul_two,z9S,h,h]
   grind⟩
theorem zd4 (x e:Nat):∀k,∃n,n<2 ^ k/\orb x n % 2 ^ k=e % 2 ^ k
 | 0=>⟨0,by decide,by lia⟩
 | k+1=>by
  obtain⟨n,h,g⟩:=zd4 x e k;obtain⟨c,d,t⟩:=zd3 k;simp[Nat.pow_succ,Nat.mod_mul]
  by_cases q:orb x n / 2 ^ k % 2=e / 2 ^ k % 2
  .exact⟨n,by lia,by rw[g,q]⟩
  .refine⟨n+2 ^ k,by lia,?_⟩;rw[z9S,t,Nat.add_mul_mod_self_left,Nat.add_mul_div_left _ _ (Nat.two_pow_pos k)]
   congr 2
   lia
end Lcg
namespace Tab
open PySem PySem.SetTable
theorem z8c (xs:Array Nat)(j:Nat)(m:∀a b,a<b->b<xs.size->xs.getD a 0<xs.getD b 0):∀fuel d hi,hi<=xs.size->hi - d<=fuel->d<=hi->(∀i,i<d->xs.getD i 0<j)->(∀i,hi<=i->i<xs.size->j<=xs.getD i 0)->
  below.go xs j fuel d hi<=xs.size/\(∀i,i<below.go xs j fuel d hi->xs.getD i 0<j)/\(∀i,below.go xs j fuel d hi<=i->i<xs.size->j<=xs.getD i 0)
 | 0,d,hi,g,r,s,h,l=>by
  have:d=hi:=by lia
  subst this;exact⟨g,h,l⟩
 | fuel+1,d,hi,g,r,s,h,l=>by
  rw[below.go]
  by_cases f:d<hi
  .rw[if_pos f];have q:(d+hi) / 2<xs.size:=by lia
   have e:xs.getD ((d+hi) / 2) j=xs.getD ((d+hi) / 2) 0:=by simp[Array.getD,q]
   dsimp only;rw[e]
   by_cases p:xs.getD ((d+hi) / 2) 0<j
   .rw[if_pos p];refine z8c xs j m fuel _ hi g (by lia) (by lia) (λi n =>?_) l
    rcases wW i ((d+hi) / 2) with z | z
    .have:=m i _ z q;lia
    .have:i=(d+hi) / 2:=by lia
     subst this;exact p
   .rw[if_neg p];refine z8c xs j m fuel d _ (by lia) (by lia) (by lia) h (λi n o =>?_)
    rcases wW ((d+hi) / 2) i with z | z
    .have:=m _ i z o;lia
    .have:i=(d+hi) / 2:=by lia
     subst this;lia
  .rw[if_neg f];have:d=hi:=by lia
   subst this;exact⟨g,h,l⟩
abbrev Rise (xs:Array Nat):Prop:=∀a b,a<b->b<xs.size->xs.getD a 0<xs.getD b 0
def z5n {xs:Array Nat}(b:Rise xs)(j:Nat):below xs j<=xs.size/\(∀i,i<below xs j->xs.getD i 0<j)/\(∀i,below xs j<=i->i<xs.size->j<=xs.getD i 0):=
 z8c xs j b _ 0 _ (ww _) (by lia) (vP _) (λ_ h=>absurd h (jJ _)) (λi a d=>absurd a (by lia))
def ziS {xs:Array Nat}{i j:Nat}(h:xs[i]? = some j):i<xs.size/\xs.getD i 0=j:=by
 obtain⟨a,e⟩:=Array.getElem?_eq_some_iff.mp h
 simp_all
def zoh {xs:Array Nat}{i:Nat}(h:i<xs.size):xs[i]? = some (xs.getD i 0):=by simp_all
def zg6 {xs:Array Nat}(a:Rise xs){i j:Nat}(h:xs[i]? = some j):below xs j=i:=by
 obtain⟨g,b,d⟩:=z5n a j;obtain⟨f,e⟩:=ziS h
 rcases uG (below xs j) i with z | z | z
 .have:=d _ (ww _) (by lia);have:=a _ _ z f;lia
 .exact z
 .have:=b i z;lia
def z8o {t:SetTable}(a:Rise t.place){i j:Nat}(h:t.place[i]? = some j):t.slot j = .live i:=by
 unfold SetTable.slot;rw[zg6 a h]
 simp_all
def zbj {t:SetTable}(a:t.dummies = #[]){j:Nat}(h:∀i:Nat,t.place[i]? ≠ some j):t.slot j = .empty:=by
 unfold SetTable.slot;have b:(t.place[below t.place j]? == some j)=false:=by
  simp_all
 have d:has t.dummies j=false:=by rw[a];rfl
 simp_all
noncomputable def adv (mask:Nat)(p:Probe):Probe:=
 if p.more > 0 then { p with j:=p.j+1,more:=p.more - 1 } else
 { p with j:=(leap mask p.i p.perturb).1,more:=runEnd mask (leap mask p.i p.perturb).1 - (leap mask p.i p.perturb).1,i:=(leap mask p.i p.perturb).1,perturb:=(leap mask p.i p.perturb).2 }
def advs (mask:Nat)(p:Probe):Nat->Probe
 | 0=>p
 | n+1=>adv mask (advs mask p n)
theorem z32 (mask:Nat)(p:Probe)(m:Nat):∀n,advs mask p (m+n)=advs mask (advs mask p m) n
 | 0=>rfl
 | n+1=>congrArg _ (z32 _ p m n)
def z52 (mask:Nat)(p:Probe)(n:Nat):advs mask p (n+1)=advs mask (adv mask p) n:=by
 rw[Nat.add_comm,z32]
 rfl
def z9A (mask:Nat)(p:Probe):(adv mask p).dummy=p.dummy:=by
 unfold adv;split <;> rfl
theorem z7i (mask:Nat)(p:Probe):∀n,(advs mask p n).dummy=p.dummy
 | 0=>rfl
 | n+1=>by rw[advs,z9A,z7i _ p n]
theorem z8e (mask:Nat):∀p n,n<=p.more->advs mask p n={ p with j:=p.j+n,more:=p.more - n }
 | p,0,_=>rfl
 | p,n+1,h=>by
  rw[advs,z8e _ p n (by lia)];unfold adv
  grind
def z7u (mask i:Nat):runEnd mask i - i<=9:=by unfold runEnd;split <;> lia
def lp (mask:Nat)(i q:Nat):Nat->Nat × Nat
 | 0=>(i,q)
 | c+1=>leap mask (lp mask i q c).1 (lp mask i q c).2
theorem zdo (mask:Nat)(i q:Nat):∀c,lp mask i q (c+1)=lp mask (leap mask i q).1 (leap mask i q).2 c
 | 0=>rfl
 | c+1=>by
  show leap _ _ _=_;rw[zdo _ i q c]
  rfl
def z43 (mask:Nat)(p:Probe):advs mask p (p.more+1)={ p with j:=(leap mask p.i p.perturb).1,more:=runEnd mask (leap mask p.i p.perturb).1 - (leap mask p.i p.perturb).1,i:=(leap mask p.i p.perturb).1,perturb:=(leap mask p.i p.perturb).2 }:=by
 rw[advs,z8e _ p _ (ww _)];unfold adv
 grind
theorem runs (mask:Nat):∀c p,p.more<=9->∃s,s<=10*(c+1)/\(advs mask p s).j=(lp mask p.i p.perturb (c+1)).1/\(advs mask p s).i=(lp mask p.i p.perturb (c+1)).1/\(advs mask p s).perturb=(lp mask p.i p.perturb (c+1)).2/\(advs mask p s).more<=9
 | 0,p,h=>⟨p.more+1,by lia,by rw[z43];rfl,by rw[z43];rfl,by rw[z43];rfl,by rw[z43];exact z7u _ _⟩
 | c+1,p,h=>by
  obtain⟨s,d,e,a,b,f⟩:=runs mask c p h;refine⟨s+((advs mask p s).more+1),by lia,?_⟩;rw[z32,z43];refine⟨?_,?_,?_,z7u _ _⟩
  .rw[a,b];rfl
  .rw[a,b];rfl
  .rw[a,b];rfl
theorem z5k (mask i q:Nat):∀c,(lp mask i q c).2=q / 32 ^ c
 | 0=>by simp[lp]
 | c+1=>by
  show (lp _ i q c).2 / 32=_;rw[z5k _ i q c,Nat.div_div_eq_div_mul,Nat.pow_succ]
theorem zgV {mask i q:Nat}(a:q=0):∀c:Nat,(lp mask i q c).1 % (mask+1)=Lcg.orb i c % (mask+1)
 | 0=>rfl
 | c+1=>by
  show ((lp _ i q c).1*5+1+(lp _ i q c).2 / 32) % (mask+1) % _=(_*5+1) % _;rw[z5k,a,Nat.zero_div,Nat.add_zero,Nat.mod_mod,Nat.add_mod,Nat.mul_mod, <- a,zgV a c, <- Nat.mul_mod, <- Nat.add_mod]
theorem zgW (mask i q m:Nat):∀n,lp mask i q (m+n)=lp mask (lp mask i q m).1 (lp mask i q m).2 n
 | 0=>rfl
 | n+1=>by
  show leap _ (lp _ i q (m+n)).1 (lp _ i q (m+n)).2=_;rw[zgW _ i q m n]
  rfl
def zgs {k mask i q e:Nat}(f:mask+1=2 ^ k)(j:q<2 ^ 64)(m:e<=mask):∃c,c<=13+mask/\13<=c/\(lp mask i q c).1=e:=by
 have b:(lp mask i q 13).2=0:=by
  rw[z5k];exact Nat.div_eq_of_lt (wK j (by decide))
 obtain⟨d,l,h⟩:=Lcg.zd4 _ e k;refine⟨13+d,by lia,by lia,?_⟩;have g := @zgV mask (lp mask i q 13).1 _ b d;rw[f,h, <- f, <- zgW,Nat.add_comm,wY (a:=e) (by lia)] at g;rw[Nat.add_comm, <- g];exact(wY (jp _ (by lia))).symm
def zci {k mask e:Nat}(g:mask+1=2 ^ k)(i:p.perturb<2 ^ 64)(h:p.more<=9)(f:e<=mask):∃s,s<10*turns mask/\(advs mask p s).j=e:=by
 obtain⟨c,m,n,d⟩:=zgs g i f;obtain⟨a,rfl⟩:∃a,c=a+1:=⟨c - 1,by lia⟩
 obtain⟨s,l,b,_⟩:=runs _ a p h;exact⟨s,by unfold turns;lia,b.trans d⟩
def zmz {mask:Nat}(a:p.perturb<2 ^ 64)(b:p.more<=9):(adv mask p).perturb<2 ^ 64/\(adv mask p).more<=9:=by
 unfold adv
 split
 .exact⟨a,by lia⟩
 .exact⟨Nat.lt_of_le_of_lt (Nat.div_le_self _ _) a,z7u _ _⟩
theorem zao {mask:Nat}(b:p.perturb<2 ^ 64)(a:p.more<=9):∀n,(advs mask p n).perturb<2 ^ 64/\(advs mask p n).more<=9
 | 0=>⟨b,a⟩
 | n+1=>zmz (zao b a n).1 (zao b a n).2
def z4x (t:SetTable)(h:Int):(t.probeStart h).perturb<2 ^ 64/\(t.probeStart h).more<=9:=by
 refine⟨?_,z7u _ _⟩;show (h % (2 ^ 64)).toNat<2 ^ 64
 grind
theorem zaE {t:SetTable}(n:t.dummies = #[])(u:Rise t.place)(a:Nat->Int)(h:Int):∀fuel p,(∃s,s<fuel/\∀i:Nat,t.place[i]? ≠ some (advs t.mask p s).j)->
  ∃s,(∀m,m<s->∃i,t.place[i]? = some (advs t.mask p m).j/\a i≠h)/\
   (((∀i:Nat,t.place[i]? ≠ some (advs t.mask p s).j)/\probe.go t a h fuel p=some (.empty (advs t.mask p s).j p.dummy))\/
    ∃i,t.place[i]? = some (advs t.mask p s).j/\a i=h/\probe.go t a h fuel p=some (.candidate (advs t.mask p s).j i (advs t.mask p (s+1))))
 | 0,p,⟨s,w,_⟩=>absurd w (jJ _)
 | fuel+1,p,⟨s,w,f⟩=>by
  by_cases o:∃i:Nat,t.place[i]? = some p.j
  .obtain⟨i,d⟩:=o;have l:probe.go t a h (fuel+1) p=if a i == h then some (.candidate p.j i (t.advance p)) else probe.go t a h fuel (t.advance p):=by
    rw[probe.go,z8o u d]
   by_cases b:a i=h
   .refine⟨0,λm e=>absurd e (jJ _),.inr ⟨i,d,b,?_⟩⟩;rw[l,if_pos (by simpa using b)]
    rfl
   .have A:s≠0:=λz=>by subst z;exact f i d
    obtain⟨g,rfl⟩:∃g,s=g+1:=⟨s - 1,by lia⟩
    rw[z52] at f;obtain⟨r,x,y⟩:=zaE n u a h fuel (adv t.mask p) ⟨g,by lia,f⟩;refine⟨r+1,λm e =>?_,?_⟩
    .cases m with
     | zero=>exact⟨i,d,b⟩
     | succ m=>rw[z52];exact x m (by lia)
    .rw[l,if_neg (by simpa using b),z52,z52, <- z9A t.mask p];exact y
  .have q:∀i:Nat,t.place[i]? ≠ some p.j:=λi z=>o ⟨i,z⟩;refine⟨0,λm e=>absurd e (jJ _),.inl ⟨q,?_⟩⟩;rw[probe.go,zbj n q]
   rfl
theorem z3o:∀{l l':List Nat},l.Nodup->(∀x∈l,x∈l')->l.length<=l'.length
 | [],_,_,_=>vP _
 | a::l,l',h,f=>by
  obtain⟨d,e⟩:=vU.mp h;have:=z3o e λx b=>(List.mem_erase_of_ne (λ(z:x=a)=>d (z ▸ b))).mpr (f x (by simp[b]))
  grind
theorem z4G:∀{l l':List Nat},l.Nodup->l'.Nodup->(∀x,x∈l↔x∈l')->l.Perm l'
 | [],l',_,_,h=>by
  cases l' with
  | nil=>rfl
  | cons b l'=>exact absurd ((h b).mpr (by simp)) (by simp)
 | a::l,l',d,e,h=>by
  obtain⟨i,g⟩:=vU.mp d;have f  := (h a).mp (by simp);have p:=z4G g (e.erase a) λx=>by
   grind
  exact(List.Perm.cons a p).trans (List.perm_cons_erase f).symm
variable {α:Type}
abbrev Rw (α:Type):=Nat × Int × α
def zc0 (mask:Nat)(occ:Nat->Prop)(h:Int)(j:Nat):Prop:=∃n,(advs mask (probeStart { mask:=mask,place := #[],dummies := #[],finger:=0,led:=true,moves:=0,plain:=true } h) n).j=j/\∀m,m<n->occ (advs mask (probeStart { mask:=mask,place := #[],dummies := #[],finger:=0,led:=true,moves:=0,plain:=true } h) m).j
abbrev st0 (mask:Nat)(h:Int):Probe:=probeStart { mask:=mask,place := #[],dummies := #[],finger:=0,led:=true,moves:=0,plain:=true } h
def zc0.mono {mask:Nat}{occ b:Nat->Prop}{h:Int}{j:Nat}(x:zc0 mask occ h j)(i:∀a,occ a->b a):zc0 mask b h j:=by
 obtain⟨n,d,e⟩:=x;exact⟨n,d,λm f=>i _ (e m f)⟩
structure TabW (t:SetTable)(es:Array (Int × α))(L:List (Rw α)):Prop where
 place:t.place=(L.map (·.1)).toArray
 es:es=(L.map (·.2)).toArray
 rise:L.Pairwise λa b=>a.1<b.1
 le:∀r∈L,r.1<=t.mask
 dum:t.dummies = #[]
 pow:∃k,3<=k/\t.mask+1=2 ^ k
 reach:∀r∈L,zc0 t.mask (λj=>∃r'∈L,r'.1=j) r.2.1 r.1
def TabW.occ {t:SetTable}{es:Array (Int × α)}{L:List (Rw α)}(w:TabW t es L){j:Nat}:(∃i:Nat,t.place[i]? = some j)↔∃r∈L,r.1=j:=by
 rw[w.place]
 constructor
 .rintro⟨i,h⟩;have b:(L.map (·.1))[i]? = some j:=by simpa using h
  obtain⟨r,a,e⟩:=wf.mp (wz b);exact⟨r,a,e⟩
 .rintro⟨r,a,rfl⟩;obtain⟨i,d,e⟩:=vj.mp a;exact⟨i,by simp[d,e]⟩
def TabW.riseP {t:SetTable}{es:Array (Int × α)}{L:List (Rw α)}(w:TabW t es L):Rise t.place:=by
 rw[w.place];intro a b e f;have d  := by simpa using f
 have:=vk.mp w.rise a b (by lia) d e;simpa[show a<L.length by lia,d] using this
theorem TabW.size {t:SetTable}{es:Array (Int × α)}{L:List (Rw α)}(w:TabW t es L):t.place.size=L.length/\es.size=L.length/\t.fill=L.length:=by
 refine⟨by rw[w.place];simp,by rw[w.es];simp,?_⟩;unfold fill;rw[w.place,w.dum];simp
def TabW.nodup {t:SetTable}{es:Array (Int × α)}{L:List (Rw α)}(w:TabW t es L):(L.map (·.1)).Nodup:=by
 rw[List.nodup_iff_pairwise_ne,w5];exact w.rise.imp λh=>wJ h
def TabW.room {t:SetTable}{es:Array (Int × α)}{L:List (Rw α)}(w:TabW t es L)(h:L.length<=t.mask):∃e,e<=t.mask/\¬ ∃r∈L,r.1=e:=by
 refine v8 λa =>?_;have all  := λe b=>v8 λz=>a ⟨e,b,z⟩;have:=z3o (l:=List.range (t.mask+1)) (l':=L.map (·.1)) List.nodup_range λx d=>by
  grind
 simp at this;lia
theorem TabW.probe {t:SetTable}{es:Array (Int × α)}{L:List (Rw α)}(w:TabW t es L)(b:L.length<=t.mask)(a:Nat->Int)(h:Int)(n:Nat):
  ∃s,(∀m,n<=m->m<n+s->∃i,t.place[i]? = some (advs t.mask (st0 t.mask h) m).j/\a i≠h)/\
   (((∀i:Nat,t.place[i]? ≠ some (advs t.mask (st0 t.mask h) (n+s)).j)/\t.probe a h (advs t.mask (st0 t.mask h) n)=some (.empty (advs t.mask (st0 t.mask h) (n+s)).j none))\/
    ∃i,t.place[i]? = some (advs t.mask (st0 t.mask h) (n+s)).j/\a i=h/\t.probe a h (advs t.mask (st0 t.mask h) n)=some (.candidate (advs t.mask (st0 t.mask h) (n+s)).j i (advs t.mask (st0 t.mask h) (n+s+1)))):=by
 obtain⟨e,q,f⟩:=w.room b;obtain⟨k,_,r⟩:=w.pow;have ok:=zao (mask:=t.mask) (z4x t h).1 (z4x t h).2 n;obtain⟨y,g,o⟩:=zci (p:=advs _ (st0 t.mask h) n) r ok.1 ok.2 q;obtain⟨s,A,l⟩:=zaE w.dum w.riseP a h _ _ ⟨y,g,λi z=>by
  rw[o] at z;exact f (w.occ.mp ⟨i,z⟩)⟩
 refine⟨s,λm u x =>?_,?_⟩
 .obtain⟨d,rfl⟩:∃d,m=n+d:=⟨m - n,by lia⟩
  rw[z32]
  simp_all
 .rw[Nat.add_assoc,z32,z32];rw[z7i] at l;exact l
def TabW.soon {t:SetTable}{es:Array (Int × α)}{L:List (Rw α)}(w:TabW t es L)(a:L.length<=t.mask)(h:Int):∃N,N<10*turns t.mask/\¬ ∃r∈L,r.1=(advs t.mask (st0 t.mask h) N).j:=by
 obtain⟨e,g,b⟩:=w.room a;obtain⟨k,_,i⟩:=w.pow;obtain⟨l,d,f⟩:=zci (p:=st0 _ h) i (z4x t h).1 (z4x t h).2 g;exact⟨l,d,by rw[f];exact b⟩
def ins (L:List (Rw α))(p:Nat)(r:Rw α):List (Rw α):=L.take p++r::L.drop p
def z7S {L:List (Rw α)}{p:Nat}{r x:Rw α}:x∈ins L p r↔x=r\/x∈L:=by
 unfold ins;rw[wB,wn]
 constructor
 .grind
 .rintro(h | h)
  .exact .inr (.inl h)
  .rw[<- jg p L,wB] at h
   rcases h with h | h
   .exact .inl h
   simp_all
def z4T {a:Type}(l:List a){p:Nat}(x:a):insertAt l.toArray p x=(l.take p++x::l.drop p).toArray:=by
 unfold insertAt;simp;exact uD (by simp)
theorem TabW.put {t:SetTable}{es:Array (Int × α)}{L:List (Rw α)}(w:TabW t es L){h:Int}{x:α}{n:Nat}(u:∀m,m<n->∃r∈L,r.1=(advs t.mask (st0 t.mask h) m).j)(s:¬ ∃r∈L,r.1=(advs t.mask (st0 t.mask h) n).j)(C:(advs t.mask (st0 t.mask h) n).j<=t.mask):
  TabW (t.put (advs t.mask (st0 t.mask h) n).j).1 (insertAt es (t.put (advs t.mask (st0 t.mask h) n).j).2 (h,x)) (ins L (t.put (advs t.mask (st0 t.mask h) n).j).2 ((advs t.mask (st0 t.mask h) n).j,h,x)):=by
 generalize K:(advs t.mask (st0 t.mask h) n).j=j at*;obtain⟨G,H,I⟩:=z5n w.riseP j;have N:(t.put j).2=below t.place j:=rfl;rw[N];generalize Q:below t.place j=p at*;have O:p<=L.length:=by rw[<- w.size.1];exact G
 have o:∀i g,t.place.getD i 0=(L[i]).1:=λi g=>by rw[w.place];simp[Array.getD,g]
 have R:∀r∈L.take p,r.1<j:=λr f=>by
  obtain⟨i,g,rfl⟩:=vj.mp f;have d:i<p/\i<L.length:=by simp at g;lia
  have:=H i d.1;rw[o i d.2] at this;simpa using this
 have g:∀r∈L.drop p,j<r.1:=λr f=>by
  obtain⟨i,g,rfl⟩:=vj.mp f;have d:p+i<L.length:=by simp at g;lia
  have J:=I (p+i) (by lia) (by rw[w.size.1];exact d);rw[o _ d] at J;have S:(L[p+i]).1≠j:=λz=>s ⟨L[p+i],jF d,z⟩;simp only[List.getElem_drop];lia
 have q:(t.put j).1.dummies = #[]:=by
  show (if has t.dummies j then eraseAt t.dummies (below t.dummies j) else t.dummies) = #[];rw[w.dum];simp[has]
 refine⟨?_,?_,?_,λr f =>?_,q,w.pow,λr f =>?_⟩
 .show insertAt t.place (below t.place j) j=_;rw[Q,w.place,z4T];unfold ins;rw[wD,wE,List.map_take,List.map_drop]
 .rw[w.es,z4T];unfold ins;rw[wD,wE,List.map_take,List.map_drop]
 .unfold ins;rw[uf];have y:=w.rise;rw[<- jg p L,uf] at y;refine⟨y.1,vd.mpr ⟨λr f=>g r f,y.2.1⟩,λa F b A =>?_⟩
  rcases wn.mp A with rfl | A
  .exact R a F
  .exact y.2.2 a F b A
 .show r.1<=t.mask
  rcases z7S.mp f with rfl | f
  .exact C
  .exact w.le r f
 .show zc0 t.mask _ r.2.1 r.1
  rcases z7S.mp f with rfl | f
  .exact⟨n,K,λm M=>by
    obtain⟨E,l,e⟩:=u m M;exact⟨E,z7S.mpr (.inr l),e⟩⟩
  .exact(w.reach r f).mono λa ⟨E,l,e⟩=>⟨E,z7S.mpr (.inr l),e⟩
theorem j_le {mask:Nat}:∀n {p:Probe},p.j+p.more<=mask->(advs mask p n).j+(advs mask p n).more<=mask
 | 0,_,h=>h
 | n+1,p,h=>by
  have b:=j_le n h;show (adv _ _).j+(adv _ _).more<=mask;unfold adv
  split
  .lia
  .have a:(leap _ (advs mask p n).i (advs mask p n).perturb).1<=mask:=Nat.le_of_lt_succ (jp _ (Nat.succ_pos _));unfold runEnd
   split <;> lia
def zch (mask:Nat)(h:Int)(n:Nat):(advs mask (st0 mask h) n).j<=mask:=by
 have:(st0 mask h).j+(st0 mask h).more<=mask:=by
  show bits h % (mask+1)+(runEnd mask _ - bits h % (mask+1))<=mask;have a:bits h % (mask+1)<=mask:=Nat.le_of_lt_succ (jp _ (Nat.succ_pos _));generalize bits h % (mask+1)=x at a;unfold runEnd
  split <;> lia
 have:=j_le n this;lia
variable {α:Type}
def rp (mask i q:Nat):Probe:={ j:=i,more:=runEnd mask i - i,i:=i,perturb:=q,dummy:=none }
def zjB (mask:Nat)(h:Int):st0 mask h=rp mask (bits h % (mask+1)) (bits h):=rfl
def zcG (mask i q:Nat):advs mask (rp mask i q) (runEnd mask i - i+1)=rp mask (leap mask i q).1 (leap mask i q).2:=z43 _ _
def zeF (mask i q:Nat)(h:m<=runEnd mask i - i):(advs mask (rp mask i q) m).j=i+m:=by rw[z8e _ _ m h];rfl
def zjT (mask i:Nat):i<=runEnd mask i:=by unfold runEnd;split <;> lia
theorem z9e {mask:Nat}:∀fuel i q,(∃c,c<fuel/\(owner.getD (lp mask i q c).1 (some 0)).isNone=true)->
  ∃s,layClean.free mask owner fuel i q=some (advs mask (rp mask i q) s).j/\(owner.getD (advs mask (rp mask i q) s).j (some 0)).isNone=true/\∀m,m<s->(owner.getD (advs mask (rp mask i q) m).j (some 0)).isNone=false
 | 0,i,q,⟨c,l,_⟩=>absurd l (jJ _)
 | fuel+1,i,q,⟨c,l,h⟩=>by
  rw[layClean.free];have r:=zjT mask i
  cases n:(List.range (runEnd mask i+1 - i)).find? λk=>(owner.getD (i+k) (some 0)).isNone with
  | some k=>
   obtain⟨b,e,g⟩:=List.find?_range_eq_some.mp n;have t:k<runEnd mask i+1 - i:=by simpa using e
   dsimp only;refine⟨k,by rw[zeF mask i q (by lia)],by rw[zeF mask i q (by lia)];exact b,λm o =>?_⟩;rw[zeF mask i q (by lia)];have:=g m o;simpa using this
  | none=>
   have u:=List.find?_range_eq_none.mp n;have all:∀k,k<=runEnd mask i - i->(owner.getD (i+k) (some 0)).isNone=false:=λk t=>by
    have:=u k (by lia);simpa using this
   have p:c≠0:=λz=>by
    subst z;have:=all 0 (vP _);rw[Nat.add_zero] at this;have a:(owner.getD i (some 0)).isNone=true:=h;rw[this] at a
    cases a
   obtain⟨f,rfl⟩:∃f,c=f+1:=⟨c - 1,by lia⟩
   rw[zdo] at h;obtain⟨s,b,e,g⟩:=z9e fuel _ _ ⟨f,by lia,h⟩;rw[<- zcG, <- z32] at b e;dsimp only;refine⟨runEnd mask i - i+1+s,b,e,λm o =>?_⟩
   rcases wW m (runEnd mask i - i+1) with z | z
   .rw[zeF mask i q (by lia)];exact all m (by lia)
   .obtain⟨d,rfl⟩:∃d,m=runEnd mask i - i+1+d:=⟨m - (runEnd mask i - i+1),by lia⟩
    rw[z32,zcG];exact g d (by lia)
structure Own (mask:Nat)(hs:List Int)(owner:Array (Option Nat))(pos:List Nat):Prop where
 size:owner.size=mask+1
 len:pos.length=hs.length
 le:∀j∈pos,j<=mask
 nd:pos.Nodup
 own:∀j,j<=mask->∀k,owner.getD j (some 0)=some k↔pos[k]? = some j
 reach:∀(k:Nat) h j,hs[k]? = some h->pos[k]? = some j->zc0 mask (· ∈ pos) h j
def Own.free {mask:Nat}{b:List Int}{owner:Array (Option Nat)}{pos:List Nat}(o:Own mask b owner pos){j:Nat}(a:j<=mask):(owner.getD j (some 0)).isNone=true↔j ∉ pos:=by
 constructor
 .intro h z;obtain⟨k,d,e⟩:=vj.mp z;have:=(o.own j a k).mpr (by simp_all)
  simp_all
 .intro h
  cases e:owner.getD j _ with
  | none=>rfl
  | some k=>exact absurd (wz ((o.own j a k).mp e)) h
def Own.add {mask k:Nat}{g:List Int}{owner:Array (Option Nat)}{pos:List Nat}(o:Own mask g owner pos)(F:mask+1=2 ^ k)(I:g.length<=mask)(h:Int):
  ∃j,layClean.free mask owner (turns mask) (bits h % (mask+1)) (bits h)=some j/\Own mask (g++[h]) (owner.setIfInBounds j (some g.length)) (pos++[j]):=by
 have C:∃e,e<=mask/\e ∉ pos:=by
  refine v8 λH =>?_;have:=z3o (l:=List.range (mask+1)) (l':=pos) List.nodup_range λx t=>v8 λz=>H ⟨x,by have:=ub.mp t;lia,z⟩;rw[ux,o.len] at this;lia
 obtain⟨e,N,G⟩:=C;have W:bits h<2 ^ 64:=(z4x { mask:=mask,place := #[],dummies := #[],finger:=0,led:=true,moves:=0,plain:=true } h).1;obtain⟨c,c1,c2,O⟩:=zgs (i:=bits h % (mask+1)) (q:=bits h) F W N;obtain⟨s,K,L,M⟩:=z9e (mask:=mask) (owner:=owner) (turns mask) (bits h % (mask+1)) (bits h) ⟨c,by unfold turns;lia,by rw[O];exact(o.free N).mpr G⟩;rw[<- zjB] at K L M;have p:=zch mask h s;refine⟨_,K,?_⟩;generalize S:(advs mask (st0 mask h) s).j=j at*;have r:j ∉ pos:=(o.free p).mp L;refine⟨by rw[Array.size_setIfInBounds];exact o.size,by rw[wG,wG,o.len];rfl,λx t =>?_,?_,λx t n =>?_,λn J Y u y =>?_⟩
 .rcases wB.mp t with z | z
  .exact o.le x z
  .rw[wj.mp z];exact p
 .rw[List.nodup_append];exact⟨o.nd,by simp,λa A b R z=>r (by rw[wj.mp R] at z;exact z ▸ A)⟩
 .have X:x<owner.size:=by rw[o.size];lia
  have Q:(owner.setIfInBounds j (some g.length)).getD x (some 0)=if j=x then some g.length else owner.getD x (some 0):=by
   have E:j<owner.size:=by rw[o.size];lia
   rw[u8,u8,Array.getElem?_setIfInBounds]
   by_cases d:j=x
   .subst d;rw[if_pos rfl,if_pos E,if_pos rfl];rfl
   .rw[if_neg d,if_neg d]
  rw[Q]
  by_cases d:j=x
  .subst d;rw[if_pos rfl]
   constructor
   .intro z;have:g.length=n:=w6 z;rw[<- this, <- o.len,wX (ww _)];simp
   .intro z
    rcases wW n pos.length with f | f
    .rw[wM f] at z;exact absurd (wz z) r
    .rw[wX f] at z;have U:n - pos.length=0:=by
      rcases Nat.eq_zero_or_pos (n - pos.length) with w | w
      .exact w
      .rw[uO (by show 1<=_;lia)] at z;cases z
     rw[<- o.len]
     congr 1
     lia
  .rw[if_neg d,o.own x t n]
   constructor
   .intro z;obtain⟨T,_⟩:=wu.mp z;rw[wM T];exact z
   .intro z
    rcases wW n pos.length with f | f
    .rw[wM f] at z;exact z
    .rw[wX f] at z;exact absurd (wj.mp (wz z)).symm d
 .rcases wW n pos.length with f | f
  .rw[wM f] at y;rw[wM (by rw[<- o.len];exact f)] at u;exact(o.reach n J Y u y).mono λa A=>vF _ A
  .rw[wX f] at y;rw[wX (by rw[<- o.len];exact f)] at u;have Z:=wj.mp (wz u);have z2:=wj.mp (wz y);subst Z z2;refine⟨s,S,λm F=>vF _ ?_⟩;have:=M m F;refine v8 λz =>?_;rw[(o.free (zch mask J m)).mpr z] at this
   cases this
theorem z6i {mask k:Nat}(i:mask+1=2 ^ k):∀d done owner b,Own mask done owner b->done.length+d.length<=mask+1->
  ∃a f,(d.foldl (init:=some (owner,done.length)) λg h=>do
   let (owner,k) <- g
   let j <- layClean.free mask owner (turns mask) (bits h % (mask+1)) (bits h)
   pure (owner.setIfInBounds j (some k),k+1))=some (a,done.length+d.length)/\Own mask (done++d) a f
 | [],done,owner,b,o,_=>⟨owner,b,rfl,by simp_all⟩
 | h::d,done,owner,b,o,m=>by
  simp[vg] at m;obtain⟨j,e,n⟩:=o.add i (by lia) h;obtain⟨q,ps,l,p⟩:=z6i i d _ _ _ n (by simp;lia);refine⟨q,ps,?_,by simpa using p⟩;rw[List.foldl_cons];have:(do
   let (owner,k) <- some (owner,done.length)
   let j <- layClean.free mask owner (turns mask) (bits h % (mask+1)) (bits h)
   pure (owner.setIfInBounds j (some k),k+1))=some (owner.setIfInBounds j (some done.length),(done++[h]).length):=by
   simp[e]
  rw[this,l];simp;lia
def own0 (mask:Nat):Own mask [] (Array.replicate (mask+1) none) []:=by
 refine⟨by simp,rfl,by simp,by simp,λj a k =>?_,λk h j e _=>by simp at e⟩;have:(Array.replicate (mask+1) none).getD j (some 0)=none:=by simp[Array.getD,show j<mask+1 by lia]
 rw[this];simp
def ziL {mask k finger moves:Nat}{led plain:Bool}(R:mask+1=2 ^ k)(Z:3<=k){es:Array (Int × α)}(hl:es.size<=mask+1):
  ∃t' d W,laid mask finger moves led plain (es.map (·.1))=some (t',d)/\t'.mask=mask/\t'.finger=finger/\t'.moves=moves/\t'.led=led/\t'.plain=plain/\(d.filterMap (es[·]?)).size=es.size/\TabW t' (d.filterMap (es[·]?)) W/\(d.filterMap (es[·]?)).toList.Perm es.toList:=by
 obtain⟨owner,s,e,o⟩:=z6i R (es.map (·.1)).toList [] _ _ (own0 mask) (by simpa using hl);simp only[List.nil_append,jn,Wj] at e o;have G:layClean mask (es.map (·.1))=some owner:=by
  unfold layClean;rw[<- Array.foldl_toList,e]
  rfl
 have hn:(es.map (·.1)).toList.length=es.size:=by simp
 have a0:s.length=es.size:=by rw[o.len,hn]
 generalize f:((List.range (mask+1)).filterMap λj=>(owner.getD j none).map (j, ·))=live;have Q:∀j,j<=mask->owner.getD j none=owner.getD j (some 0):=λj F=>by
  have:j<owner.size:=by rw[o.size];lia
  simp[Array.getD,this]
 have g:∀j n,(j,n)∈live↔s[n]? = some j:=λj n=>by
  rw[<- f,uT]
  constructor
  .rintro⟨x,q,e⟩;have u:x<=mask:=by have:=ub.mp q;lia
   rw[Q x u] at e;obtain⟨y,hy,L⟩:=vD.mp e
   cases L
   exact(o.own j u n).mp hy
  .intro h;have F:j<=mask:=o.le j (wz h);refine⟨j,ub.mpr (by lia),?_⟩;rw[Q j F,(o.own j F n).mpr h]
   rfl
 have m:live.Pairwise λa b=>a.1<b.1:=by
  rw[<- f];have p:(List.range (mask+1)).Pairwise (· < ·):=List.pairwise_lt_range;generalize List.range (mask+1)=U at p
  induction U with
  | nil=>simp
  | cons x U K=>
   obtain⟨p1,S⟩:=vd.mp p;rw[uE]
   cases q:(owner.getD x none).map (x, ·) with
   | none=>exact K S
   | some y=>
    obtain⟨z,_,rfl⟩:=vD.mp q;refine vd.mpr ⟨λb E =>?_,K S⟩;obtain⟨x',u,X⟩:=uT.mp E;obtain⟨z',_,rfl⟩:=vD.mp X;exact p1 x' u
 have O:(live.map (·.2)).Nodup:=by
  rw[List.nodup_iff_pairwise_ne,w5];refine List.Pairwise.imp_of_mem ?_ m;intro a b t E Y z;have p:=(g a.1 a.2).mp t;have C:=(g b.1 b.2).mp E;rw[<- z,p] at C;have:a.1=b.1:=w6 C;lia
 have perm:(live.map (·.2)).Perm (List.range es.size):=by
  refine z4G O List.nodup_range λn =>?_;rw[ub]
  constructor
  .intro h;obtain⟨a,t,rfl⟩:=wf.mp h;obtain⟨M,_⟩:=wu.mp ((g a.1 a.2).mp t);lia
  .intro h;refine wf.mpr ⟨(s[n]'(by lia),n),(g _ _).mpr (wm (by lia)),rfl⟩
 have J:(List.range es.size).filterMap (es[·]?)=es.toList:=by
  have:∀(l:List (Int × α)),(List.range l.length).filterMap (l[·]?)=l:=λl=>by
   have A:(List.range l.length).map (l[·]?)=l.map some:=by
    apply List.ext_getElem
    .simp
    .intro i p C;simp at p;simp[p]
   have L:(List.range l.length).filterMap (l[·]?)=((List.range l.length).map (l[·]?)).filterMap id:=by rw[List.filterMap_map];rfl
   rw[L,A,List.filterMap_map];simp
  have h:=this es.toList;simpa using h
 have T:(((live.map (·.2)).toArray).filterMap (es[·]?)).toList.Perm es.toList:=by
  have:=perm.filterMap (es[·]?);rw[J] at this;simpa using this
 refine⟨{ mask,place:=(live.map (·.1)).toArray,dummies := #[],finger,led,moves,plain },(live.map (·.2)).toArray,live.filterMap λa=>(es[a.2]?).map λx=>(a.1,x),?_,rfl,rfl,rfl,rfl,rfl,?_,?_,T⟩
 .unfold laid;rw[G];simp only[Option.bind_eq_bind,Option.bind_some];rw[f]
  rfl
 .have:=T.length_eq;simpa using this
 ·-- each live row has an element
  have has:∀a∈live,∃x,es[a.2]? = some x:=λa t=>by
   obtain⟨M,_⟩:=wu.mp ((g a.1 a.2).mp t);exact⟨es[a.2]'(by lia),uJ (by lia)⟩
  have A:∀(l:List (Nat × Nat)),(∀a∈l,∃x,es[a.2]? = some x)->(l.filterMap λa=>(es[a.2]?).map λx=>(a.1,x)).map (·.1)=l.map (·.1)/\(l.filterMap λa=>(es[a.2]?).map λx=>(a.1,x)).map (·.2)=(l.map (·.2)).filterMap (es[·]?):=λl=>by
   induction l with
   | nil=>intro _;exact⟨rfl,rfl⟩
   | cons a l K=>
    intro h;obtain⟨x,q⟩:=h a (by simp);obtain⟨i1,i2⟩:=K λb E=>h b (by simp[E]);refine⟨?_,?_⟩
    .rw[uE,q];simp only[Option.map_some,wE];rw[i1]
    .rw[uE,q];simp only[Option.map_some,wE,uE,q];rw[i2]
  have w:∀r:Rw α,r∈(live.filterMap λa=>(es[a.2]?).map λx=>(a.1,x))->∃n,s[n]? = some r.1/\es[n]? = some r.2:=λr I=>by
   obtain⟨a,t,e⟩:=uT.mp I;obtain⟨x,q,rfl⟩:=vD.mp e;exact⟨a.2,(g a.1 a.2).mp t,q⟩
  have occ:∀j,j∈s->∃r'∈(live.filterMap λa=>(es[a.2]?).map λx=>(a.1,x)),r'.1=j:=λj F=>by
   obtain⟨n,N,e⟩:=vj.mp F;have H:(j,n)∈live:=(g j n).mpr (by rw[wm N,e]);obtain⟨x,q⟩:=has _ H;exact⟨(j,x),uT.mpr ⟨(j,n),H,by rw[show es[(j,n).2]? = some x from q];rfl⟩,rfl⟩
  refine⟨by rw[(A live has).1],?_,?_,λr I =>?_,rfl,⟨k,Z,R⟩,λr I =>?_⟩
  .rw[(A live has).2];apply Array.ext';simp
  .have:((live.filterMap λa=>(es[a.2]?).map λx=>(a.1,x)).map (·.1)).Pairwise (· < ·):=by
    rw[(A live has).1,w5];exact m
   rw[w5] at this;exact this
  .obtain⟨n,p,_⟩:=w r I;exact o.le r.1 (wz p)
  .obtain⟨n,p,C⟩:=w r I;exact(o.reach n r.2.1 r.1 (by simp[C]) p).mono λa t=>occ a t
open PyProof.Rows
section
variable {prog:Program}{w:World}{A:Around}{E:WvP}{s:Shared}
abbrev TK (prog:Program)(w:World)(h:Heap)(k:List Int)(a:Addr):Prop:=IsTupleKey (intKind prog w) h k a
def za3 {v:Value}(h:carriedByValue v=true):ofAClassStatement n v=pure false:=by
 cases v with
 | ref a=>simp[carriedByValue] at h
 | _=>first | rfl | (unfold ofAClassStatement;rfl) | rfl
def z2E (g:TK prog w s.heap ks a)(h:Q false s):wpAny (model prog w) A (ofAClassStatement 8 (.ref a)) Q E s:=by
 have j:=g.typeIs;obtain⟨o,z06,n,p,_,l,m⟩:=g;unfold ofAClassStatement;refine wc (Wi j ?_);refine wc (wp ?_);refine wc (v9 p l ?_);refine wc ?_;rw[<- Array.forIn_toList];refine jV _ (λd r f=>Aa3 (r.1=none) (f=s) (∀v∈d,carriedByValue v=true)) _ ?_ ?_ _ _ ⟨rfl,rfl,m.byValue⟩
 .rintro v d r f ⟨i,rfl,b⟩;rw[za3 (b v wF)];exact wp ⟨rfl,rfl,λu e=>b u (wq _ e)⟩
 .rintro⟨r1,r2⟩ f ⟨i,rfl,_⟩;subst i;exact wp h
def zbN {k:Int}{v:Value}(h:(intKind prog w).is k v=true):hashByValue n v=pure true:=by
 obtain⟨t,rfl⟩:=Value.isInt_shape h
 cases n <;> rfl
def z4o (e:TK prog w s.heap ks a)(h:Q true s):wpAny (model prog w) A (hashByValue 8 (.ref a)) Q E s:=by
 have j:=e.typeIs;obtain⟨o,z06,n,t,_,m,p⟩:=e;refine wc (wpAny_specialOf j F.slot_tuple_hash.lookup ?_);refine wc (v9 t m ?_);refine wc ?_;rw[<- Array.forIn_toList];refine jV _ (λb r d=>Aa3 (r.1=none) (d=s) (∃l,ItemsAre (intKind _ w) l b)) _ ?_ ?_ _ _ ⟨rfl,rfl,ks,p⟩
 .rintro v b r d ⟨f,rfl,l,q⟩
  cases q with
  | cons g i=>
   rw[zbN g];exact wp ⟨rfl,rfl,_,i⟩
 .rintro⟨r1,r2⟩ d ⟨f,rfl,_⟩;subst f;exact wp h
def zbd {ks:List Int}{a:Addr}{d:List Value}{Q:Bool->Shared->Prop}(n:TK prog w s.heap ks a)(i:∀y∈d,∃b k,y = .ref b/\TK prog w s.heap k b)(h:Q false s):wpAny (model prog w) A (searchCouldBeSeen (.ref a) d) Q E s:=by
 unfold searchCouldBeSeen;refine wc ?_;refine jV _ (λf r l=>Aa3 (r.1=none) (l=s) (∀y∈f,∃b k,y = .ref b/\TK prog w s.heap k b)) _ ?_ ?_ _ _ ⟨rfl,rfl,i⟩
 .rintro y f r l ⟨g,rfl,e⟩;obtain⟨b,k,rfl,m⟩:=e y wF;dsimp only
  split
  .exact wp ⟨rfl,rfl,λu j=>e u (wq _ j)⟩
  .refine wc (wpAny_eqIsQuiet_tuple n ?_);simp only[Bool.not_true,vq,jz];refine wc (wpAny_eqIsQuiet_tuple m ?_);simp only[Bool.not_true,vq,jz];refine wc (z2E n ?_);simp only[vq,jz];refine wc (z2E m ?_);simp only[vq,jz];exact wp ⟨rfl,rfl,λu j=>e u (wq _ j)⟩
 .rintro⟨r1,r2⟩ l ⟨g,rfl,_⟩;simp only at g;subst g;exact wp h
structure z9B (prog:Program)(w:World)(h:Heap)(a:Addr)(L:List (Rw Value))(o:Obj)(es:Array (Int × Value))(ep:Nat)(t:SetTable):Prop where
 get:h.get? a=some o
 ex:o.ExactSet
 data:o.data = .set es ep t
 tab:TabW t es L
 room:L.length<=t.mask
 small:t.mask<=8191
 plain:t.plain=true
 led:t.led = !w.params.followText "set-order"
 key:∀r∈L,∃b k,r.2.2 = .ref b/\TK prog w h k b/\r.2.1=tupleKeyHash (intKind prog w) k
theorem z9B.fits {t:SetTable}(x:z9B prog w h a L o es ep t):t.fits es.size=true:=by
 unfold SetTable.fits;rw[x.tab.size.1,x.tab.size.2.1,x.tab.size.2.2];simp[x.room]
def z9B.odd {t:SetTable}(x:z9B prog w h a L o es ep t):t.gaveWay=false:=by
 unfold SetTable.gaveWay;obtain⟨k,b,e⟩:=x.tab.pow
 grind
def zgt {t:SetTable}(w:TabW t es L){i j:Nat}(h:t.place[i]? = some j):∃r,L[i]? = some r/\r.1=j/\es[i]? = some r.2:=by
 have a:(L.map (·.1))[i]? = some j:=by rw[w.place] at h;simpa using h
 rw[wO] at a;obtain⟨r,b,e⟩:=vD.mp a;refine⟨r,b,e,?_⟩;rw[w.es];simp[b]
def z8f {t:SetTable}(x:z9B prog w s.heap a L o es ep t)(hu:A.units<cLine)(hk:TK prog w s.heap kx b)
  (hN:¬ ∃r∈L,r.1=(advs t.mask (st0 t.mask (tupleKeyHash (intKind prog w) kx)) N).j)
  (M:(∃r∈L,∃c,r.2.2 = .ref c/\TK prog w s.heap kx c)->Q (.there none) s)
  (W:∀n,(∀m,m<n->∃r∈L,r.1=(advs t.mask (st0 t.mask (tupleKeyHash (intKind prog w) kx)) m).j/\∀c,r.2.2 = .ref c->¬ TK prog w s.heap kx c)->(¬ ∃r∈L,r.1=(advs t.mask (st0 t.mask (tupleKeyHash (intKind prog w) kx)) n).j)->Q (.free (advs t.mask (st0 t.mask (tupleKeyHash (intKind prog w) kx)) n).j false) s):
  ∀g n q,q.getD (t.probeStart (tupleKeyHash (intKind prog w) kx))=advs t.mask (st0 t.mask (tupleKeyHash (intKind prog w) kx)) n->N<g+n->
   (∀m,m<n->∃r∈L,r.1=(advs t.mask (st0 t.mask (tupleKeyHash (intKind prog w) kx)) m).j/\∀c,r.2.2 = .ref c->¬ TK prog w s.heap kx c)->
   wpAny (model prog w) A (setSearchFrom a (.ref b) (tupleKeyHash (intKind prog w) kx) true g q) Q E s:=by
 intro g
 induction g with
 | zero=>
  intro n q hs hl H;obtain⟨r,K,e,_⟩:=H N (by lia);exact absurd ⟨r,K,e⟩ hN
 | succ g ih=>
  intro n q hs hl H;generalize hh:tupleKeyHash (intKind prog w) kx=C at*;unfold setSearchFrom;refine wc (vW x.get x.data x.fits ?_);dsimp only;rw[x.odd];simp only[vq,jz]
  try refine wc (wp ?_)
  rw[hs];obtain⟨f,hf⟩:∃f:Nat->Int,f=λi=>(es[i]?.map (·.1)).getD 0:=⟨_,rfl⟩
  show wpAny (model prog w) A (match t.probe (λi=>(es[i]?.map (·.1)).getD 0) C (advs t.mask (st0 t.mask C) n) with
   | some a7=>_
   | _=>_) Q E s
  rw[<- hf];have Z:∀r∈L,r.2.1≠C->∀c,r.2.2 = .ref c->¬ TK prog w s.heap kx c:=λr K J c e z=>by
   obtain⟨b',k,O,X,eh⟩:=x.key r K;rw[O] at e
   cases e
   rw[X.inj z] at eh;exact J (eh.trans hh)
  obtain⟨d,h1,h2⟩:=x.tab.probe x.room f C n;have G:∀m,m<n+d->∃r∈L,r.1=(advs t.mask (st0 t.mask C) m).j/\∀c,r.2.2 = .ref c->¬ TK prog w s.heap kx c:=λm hm=>by
   rcases wW m n with z | z
   .exact H m z
   .obtain⟨i,hi,J⟩:=h1 m z hm;obtain⟨r,K,e1,e2⟩:=zgt x.tab hi;have F:r∈L:=wz K;refine⟨r,F,e1,Z r F ?_⟩;rw[hf] at J;simpa[e2] using J
  rcases h2 with ⟨a0,e⟩ | ⟨i,hi,a3,e⟩
  .rw[e];dsimp only;exact wp (W (n+d) G <| by
    rintro⟨r,K,O⟩;obtain⟨i,hi⟩:=x.tab.occ.mpr ⟨r,K,O⟩;exact a0 i hi)
  .rw[e];dsimp only;obtain⟨r,K,e1,e2⟩:=zgt x.tab hi;have F:r∈L:=wz K;obtain⟨c,k,ec,hc,a2⟩:=x.key r F;have T:wpAny (model prog w) A (match es[i]? with
             | some (_,y)=>do
              let l <- holding [y] (eqBool y (Value.ref b))
              let U <- setState a
              if (true && l)=true then pure (SetFound.there none)
               else
                match U.2.snd.sameMemory t.moves t.mask with
                | some same=>
                 match if same=true then U.2.snd.slot (advs t.mask (st0 t.mask C) (n+d)).j else Slot.empty with
                 | Slot.live S=>
                  match U.fst[S]? with
                  | some (_,y')=>do
                   let u <- isSame y' y
                   let h <- pure (if u=true then some S else none)
                   match h with
                    | none=>do
                     rule "set.search.anew"
                     setSearchFrom a (Value.ref b) C true g none
                    | some S=>if l=true then pure (SetFound.there (some S)) else setSearchFrom a (Value.ref b) C true g (some (advs t.mask (st0 t.mask C) (n+d+1)))
                  | none=>do
                   let h <- pure none
                   match h with
                    | none=>do
                     rule "set.search.anew"
                     setSearchFrom a (Value.ref b) C true g none
                    | some S=>if l=true then pure (SetFound.there (some S)) else setSearchFrom a (Value.ref b) C true g (some (advs t.mask (st0 t.mask C) (n+d+1)))
                 | _=>do
                  let h <- pure none
                  match h with
                   | none=>do
                    rule "set.search.anew"
                    setSearchFrom a (Value.ref b) C true g none
                   | some S=>if l=true then pure (SetFound.there (some S)) else setSearchFrom a (Value.ref b) C true g (some (advs t.mask (st0 t.mask C) (n+d+1)))
                | _=>unsupported "set.changed-during-lookup:is-the-new-block-at-the-old-address"
             | _=>unsupported "internal:set-entry") Q E s:=by
    rw[e2, <- Prod.eta r.2];dsimp only;rw[ec];refine wc (uc (wpAny_eqBool_tuple hu hc hk ?_));refine wc (vW x.get x.data x.fits ?_);dsimp only
    by_cases I:k=kx
    .rw[vf I];simp only[Bool.and_self,jI];exact wp (M ⟨r,F,c,ec,I ▸ hc⟩)
    .rw[vR I];simp only[Bool.and_false,vq,jz];have a6:t.sameMemory t.moves t.mask=some true:=by unfold SetTable.sameMemory;simp
     rw[a6];dsimp only;rw[if_pos rfl,z8o x.tab.riseP hi];dsimp only;rw[e2, <- Prod.eta r.2];dsimp only;rw[ec];refine wc (wpAny_isSame_ref_self ?_);refine wc (wp ?_);simp only[jI];refine ih (n+d+1) _ rfl (by lia) λm hm =>?_
     rcases wW m (n+d) with z | z
     .exact G m z
     .have:m=n+d:=by lia
      subst this;exact⟨r,F,e1,λc' O z=>by
       rw[ec] at O
       cases O
       exact I (hc.inj z)⟩
   by_cases R:t.led=true
   .rw[R];simp only[Bool.not_true,vq,jz];exact T
   .have Y:t.led=false:=by simpa using R
    rw[Y];simp only[Bool.not_false,jI];refine wc (zbd hk (λy hy =>?_) ?_)
    .obtain⟨p,hp,rfl⟩:=wf.mp hy;have a1:p∈es:=by
      have:=Array.mem_toList_iff.mp hp;exact(Array.mem_filter.mp this).1
     have a4:p∈L.map (·.2):=by rw[x.tab.es] at a1;simpa using a1
     obtain⟨r',a5,rfl⟩:=wf.mp a4;obtain⟨b',k',O,X,_⟩:=x.key r' a5;exact⟨b',k',O,X⟩
    .simp only[vq,jz];exact T
end
theorem z5t (n:Nat):∀fuel j,n<2 ^ (j+fuel)->∃k,sizeAbove.go n fuel (2 ^ j)=2 ^ k/\j<=k/\n<2 ^ k/\(k=j\/2 ^ k<=2*n)
 | 0,j,h=>⟨j,rfl,ww _,h,.inl rfl⟩
 | fuel+1,j,h=>by
  rw[sizeAbove.go]
  by_cases b:2 ^ j<=n
  .rw[if_pos b];obtain⟨k,d,f,e,a⟩:=z5t n _ _ (by rw[show j+1+fuel=j+(fuel+1) by lia];exact h);refine⟨k,d,by lia,e,.inr ?_⟩
   rcases a with a | a
   .grind
   .exact a
  .rw[if_neg b];exact⟨j,rfl,ww _,by lia,.inl rfl⟩
def z6y (h:n<2 ^ 60):∃k,sizeAbove n=2 ^ k/\3<=k/\n<2 ^ k/\(k=3\/2 ^ k<=2*n):=z5t n 64 3 (wK h (by decide))
section
variable {prog:Program}{w:World}{A:Around}{E:WvP}{s:Shared}
def TK.stay {h g:Heap}{k:List Int}{a b:Addr}{o:Obj}{es ep t}(x:TK prog w h k b)(q:h.get? a=some o)(p:o.data = .set es ep t)(l:Heap.SameBut a h g):TK prog w g k b:=by
 obtain⟨m,z06,n,f,i,d,j⟩:=x;have e:b≠a:=by
  grind
 exact⟨m,z06,n,(l.2 b e).trans f,i,d,j⟩
structure zed (prog:Program)(w:World)(h:Heap)(a:Addr)(L:List (Rw Value)):Prop where
 ex:∃o es ep t,z9B prog w h a L o es ep t/\L.length*5<t.mask*3
def z8m {h:Heap}{o:Obj}{ep:Nat}{t:SetTable}(e:h.get? a=some o)(d:o.data = .set es ep t)(b:Array (Int × Value))(t':SetTable):
  (h.update a (Obj.putSet b t')).get? a=some { o with data :=.set b (ep+1) t' }:=by
 have:=vJ (Obj.putSet b t') e (by rw[putSet_of b t' d];rfl);rw[putSet_of b t' d] at this;exact this
def z5A {a b:Addr}{S:List Int}{L:List (Rw Value)}(x:zed prog w s.heap a L)(hu:A.units<cLine)(hk:TK prog w s.heap S b)(c9:L.length<2047){Q:Bool->Shared->Prop}
  (Z:(∃r∈L,∃c,r.2.2 = .ref c/\TK prog w s.heap S c)->∀tk,Q false { s with toks:=tk })
  (b6:(¬ ∃r∈L,∃c,r.2.2 = .ref c/\TK prog w s.heap S c)->∀H tk L',Heap.SameBut a s.heap H->zed prog w H a L'->(L'.map (·.2)).Perm ((tupleKeyHash (intKind prog w) S,.ref b)::L.map (·.2))->Q true { s with heap:=H,toks:=tk }):
  wpAny (model prog w) A (setAdd a (.ref b)) Q E s:=by
 obtain⟨o,es,ep,t,y,c3⟩:=x.ex;unfold setAdd;refine uc (wc (wpAny_pyHash_tuple hu hk ?_));generalize Y:({ s with toks:=s.toks+(S.length+1) })=T;have d:z9B prog w T.heap a L o es ep t:=by rw[<- Y];exact y
 have a7:TK prog w T.heap S b:=by rw[<- Y];exact hk
 unfold setAddHashed;refine uc ?_;show wpAny _ _ (setAddHashedIn a (.ref b) _ (99999+1)) _ _ _;unfold setAddHashedIn;refine wc (vW d.get d.data d.fits ?_);dsimp only;have c2:byScan (Value.ref b) es=false:=by unfold byScan;simp[Value.scannable]
 rw[c2];simp only[vq,jz];obtain⟨N,hN,c1⟩:=d.tab.soon d.room (tupleKeyHash (intKind prog w) S);have a9:t.mask<=8191:=d.small;refine wc ?_;unfold setSearch;refine z8f (s:=T) d hu a7 c1 ?_ ?_ 100000 0 none rfl (by unfold turns at hN;lia) (λm hm=>absurd hm (jJ _))
 .intro b3;dsimp only;refine wp ?_;rw[<- Y] at b3 ⊢;exact Z b3 _
 .intro n a3 J;dsimp only;refine wc (vW d.get d.data d.fits ?_);dsimp only;have a0:¬ ∃r∈L,∃c,r.2.2 = .ref c/\TK prog w T.heap S c:=by
   rintro⟨r,C,c,ec,hc⟩;obtain⟨U,k',e',l,eh⟩:=d.key r C;rw[ec] at e'
   cases e'
   have ek:=l.inj hc;subst ek;obtain⟨m,e1,e2⟩:=d.tab.reach r C;rw[eh] at e1 e2
   rcases uG m n with z | z | z
   .obtain⟨r',M,e3,e4⟩:=a3 m z;have:r'=r:=by
     have nd:=d.tab.nodup;have e5:r'.1=r.1:=e3.trans e1;obtain⟨i,hi,ei⟩:=vj.mp M;obtain⟨j,hj,ej⟩:=vj.mp C;have c5:i=j:=by
      rcases uG i j with q | q | q
      .have:=vk.mp d.tab.rise i j hi hj q;rw[ei,ej] at this;lia
      .exact q
      .have:=vk.mp d.tab.rise j i hj hi q;rw[ei,ej] at this;lia
     subst c5;exact ei.symm.trans ej
    subst this;exact e4 c ec hc
   .subst z;exact J ⟨r,C,e1.symm⟩
   .obtain⟨r',M,e3⟩:=e2 n z;exact J ⟨r',M,e3⟩
  generalize hh:tupleKeyHash (intKind prog w) S=I at*;generalize hj:(advs t.mask (st0 t.mask I) n).j=j at*;have c6:j<=t.mask:=by rw[<- hj];exact zch t.mask I n
  have G:TabW (t.put j).1 (insertAt es (t.put j).2 (I,Value.ref b)) (ins L (t.put j).2 (j,I,Value.ref b)):=by
   have:=d.tab.put (x:=Value.ref b) (h:=I) (n:=n) (λm hm=>by
    obtain⟨r,C,e,_⟩:=a3 m hm;exact⟨r,C,e⟩) (by rw[hj];exact J) (by rw[hj];exact c6)
   rw[hj] at this;exact this
  have X:(ins L (t.put j).2 (j,I,Value.ref b)).length=L.length+1:=by
   unfold ins;rw[wG,vg,vi,jD];lia
  have b5:(t.put j).1.mask=t.mask:=rfl;have b0:(t.put j).1.plain=true:=d.plain;have p:((ins L (t.put j).2 (j,I,Value.ref b)).map (·.2)).Perm ((I,Value.ref b)::L.map (·.2)):=by
   unfold ins;rw[wD,wE];refine jW.trans ?_;refine List.Perm.cons _ ?_;rw[<- wD,jg]
  generalize b2:(t.put j).1=t2 at*;generalize d3:ins L (t.put j).2 (j,I,Value.ref b)=L2 at*;generalize d1:insertAt es (t.put j).2 (I,Value.ref b)=f at*;have d0:t.put j=(t2,(t.put j).2):=by rw[<- b2]
  rw[b0];simp only[jI];refine wc (z4o a7 ?_);simp only[jI];have O:f.size=L.length+1:=by rw[G.size.2.1,X]
  refine wc (wpAny_storeSet_of d.get d.data ?_ (by rw[O];exact fits_of_scanBound (by unfold scanBound;lia)));have g2:=z8m d.get d.data f t2;have b1:=uH T.heap a (Obj.putSet f t2);have K:t2.led=t.led:=by rw[<- b2];rfl
  have a5:∀H,Heap.SameBut a T.heap H->∀r:Int × Value,r∈(I,Value.ref b)::L.map (·.2)->Ee2 λU k=>r.2 = .ref U/\TK prog w H k U/\r.1=tupleKeyHash (intKind prog w) k:=λH sb r C=>by
   rcases wn.mp C with rfl | C
   .exact⟨b,S,rfl,a7.stay d.get d.data sb,hh.symm⟩
   .obtain⟨r',M,rfl⟩:=wf.mp C;obtain⟨U,k',e',l,eh⟩:=d.key r' M;exact⟨U,k',e',l.stay d.get d.data sb,eh⟩
  have fin:∀H L',Heap.SameBut a T.heap H->zed prog w H a L'->(L'.map (·.2)).Perm ((I,.ref b)::L.map (·.2))->Q true { T with heap:=H }:=λH L' sb ok pm=>by
   rw[<- Y] at sb a0 ⊢;exact b6 a0 H _ L' sb ok pm
  have h7:7<=t.mask:=by
   obtain⟨k,a8,e⟩:=d.tab.pow;have:2 ^ 3<=2 ^ k:=jS (by decide) a8;lia
  have g:z9B prog w (T.heap.update a (Obj.putSet f t2)) a L2 { o with data :=.set f (ep+1) t2 } f (ep+1) t2:=by
   refine⟨g2,d.ex,rfl,G,?_,?_,b0,?_,λr C =>?_⟩
   .rw[X,b5];lia
   .rw[b5];exact a9
   .rw[K];exact d.led
   .obtain⟨U,k',e',l,eh⟩:=a5 _ b1 r.2 (p.mem_iff.mp (wf.mpr ⟨r,C,rfl⟩));exact⟨U,k',e',l,eh⟩
  have a6:t2.fill=L.length+1:=by rw[G.size.2.2,X]
  by_cases b7:t2.tooFull=true
  .rw[b7];simp only[Bool.not_false,Bool.and_self,jI];obtain⟨k,a1,a8,d4,c7⟩:=z6y (n:=SetTable.grown (es.size+1)) (by
    have:es.size=L.length:=d.tab.size.2.1;unfold SetTable.grown;rw[this,if_neg (by lia)];exact wK (show (L.length+1)*4<8192 by lia) (by decide))
   have c4:SetTable.grown (es.size+1)=(L.length+1)*4:=by
    have:es.size=L.length:=d.tab.size.2.1;unfold SetTable.grown;rw[this,if_neg (by lia)]
   have d5:2 ^ k<=8192:=by
    rcases c7 with z | z
    .subst z;decide
    .rw[c4] at z
     rcases wW k 14 with y | y
     .exact jS (by decide) (show k<=13 by lia)
     .have:=jS (show 0<2 by decide) y;have:(2) ^ 14=16384:=by decide
      lia
   have a2:2 ^ k - 1+1=2 ^ k:=Nat.sub_add_cancel (Nat.one_le_two_pow);obtain⟨t3,u,L3,hl,m1,m2,m3,m4,m5,m6,R,b8⟩:=ziL (es:=f) (mask:=2 ^ k - 1) (finger:=t2.finger) (moves:=t2.movedTo (2 ^ k - 1)) (led:=t2.led) (plain:=t2.plain) a2 a8 (by rw[O,a2];lia);unfold setRelay;refine wc (wc (vW g.get g.data g.fits ?_));dsimp only;rw[a1];rw[if_neg (show ¬ 2 ^ k > sizeLine by rw[sizeLine_eq];lia)]
   try refine wc (wp ?_)
   have c8:t2.relaid (f.map (·.1)) (SetTable.grown (es.size+1))=some (t3,u):=by
    unfold SetTable.relaid;rw[a1];exact hl
   rw[c8];refine wc ?_;show wpAny _ _ (if (((u.filterMap (f[·]?)).size != f.size)=true) then _ else _) _ _ _;rw[if_neg (by rw[m6];simp)];refine wp ?_;dsimp only;generalize d2:u.filterMap (f[·]?)=W at*;have a4:W.size=L.length+1:=by rw[m6,O]
   have b4:L3.length=L.length+1:=by rw[<- R.size.2.1,a4]
   refine wpAny_storeSet_of g.get g.data ?_ (by rw[a4];exact fits_of_scanBound (by unfold scanBound;lia));have g3:=z8m g.get g.data W t3;have b9:=b1.trans (uH (T.heap.update a (Obj.putSet f t2)) a (Obj.putSet W t3));have e3:W.toList=L3.map (·.2):=by rw[R.es]
   have c0:f.toList=L2.map (·.2):=by rw[G.es]
   have pm:(L3.map (·.2)).Perm ((I,Value.ref b)::L.map (·.2)):=by
    rw[e3,c0] at b8;exact b8.trans p
   refine wp (fin _ L3 b9 ⟨_,_,_,_,⟨g3,d.ex,rfl,R,?_,?_,m5.trans b0,?_,λr C =>?_⟩,?_⟩ pm)
   .rw[b4,m1];lia
   .rw[m1];lia
   .rw[m4,K];exact d.led
   .obtain⟨U,k',e',l,eh⟩:=a5 _ b9 r.2 (pm.mem_iff.mp (wf.mpr ⟨r,C,rfl⟩));exact⟨U,k',e',l,eh⟩
   .rw[b4,m1];lia
  .have F:t2.tooFull=false:=by simpa using b7
   rw[F];simp only[Bool.and_false,vq,jz];refine wp (fin _ L2 b1 ⟨_,_,_,_,g,?_⟩ p);unfold SetTable.tooFull at F;rw[a6] at F;rw[X];have:=of_decide_eq_false F;lia
end
inductive Two {α β:Type}(R:α->β->Prop):List α->List β->Prop
 | nil:Two R [] []
 | cons {a b l m}:R a b->Two R l m->Two R (a::l) (b::m)
def Two.imp {d e:Type}{R R':d->e->Prop}(i:∀a b,R a b->R' a b){l:List d}{m:List e}(h:Two R l m):Two R' l m:=by
 induction h with
 | nil=>exact .nil
 | cons h _ f=>exact .cons (i _ _ h) f
def Two.perm {o q:Type}{R:o->q->Prop}{l l':List o}(p:l.Perm l'):∀{m:List q},Two R l m->∃m',m.Perm m'/\Two R l' m':=by
 induction p with
 | nil=>intro m h;exact⟨m,List.Perm.refl _,h⟩
 | cons x _ t=>
  intro m h
  cases h with
  | cons d e=>
   obtain⟨m',j,a⟩:=t e;exact⟨_::m',j.cons _,.cons d a⟩
 | swap x y l=>
  intro m h
  cases h with
  | cons d e=>
   cases e with
   | cons r s=>exact⟨_,List.Perm.swap _ _ _,.cons r (.cons d s)⟩
 | trans _ _ f g=>
  intro m h;obtain⟨m',j,a⟩:=f h;obtain⟨i,n,b⟩:=g a;exact⟨i,j.trans n,b⟩
def Two.mem_left {e f:Type}{R:e->f->Prop}{l:List e}{m:List f}(h:Two R l m){a:e}(d:a∈l):∃b∈m,R a b:=by
 induction h with
 | nil=>simp at d
 | cons h _ g=>
  rcases wn.mp d with rfl | d
  .simp_all
  simp_all
def Two.mem_right {f e:Type}{R:f->e->Prop}{l:List f}{m:List e}(h:Two R l m){b:e}(d:b∈m):∃a∈l,R a b:=by
 induction h with
 | nil=>simp at d
 | cons h _ g=>
  rcases wn.mp d with rfl | d
  .simp_all
  simp_all
section
variable {prog:Program}{w:World}
def IsK (prog:Program)(w:World)(M:Value->Prop)(h:Heap)(v:Value)(k:List Int):Prop:=M v/\∃b,v = .ref b/\TK prog w h k b
structure SetK (prog:Program)(w:World)(M:Value->Prop)(h:Heap)(a:Addr)(kl:List (List Int)):Prop where
 ex:∃L,zed prog w h a L/\Two (IsK prog w M h) (L.map (·.2.2)) kl
 nd:kl.Nodup
def SetK.len {M:Value->Prop}{h:Heap}{a:Addr}{b:List (List Int)}(x:SetK prog w M h a b):∃L,zed prog w h a L/\Two (IsK prog w M h) (L.map (·.2.2)) b/\L.length=b.length:=by
 obtain⟨L,e,d⟩:=x.ex;refine⟨L,e,d,?_⟩;have:∀{l:List _}{m:List _},Two (IsK prog w M h) l m->l.length=m.length:=by
  intro l m t
  induction t with
  | nil=>rfl
  | cons _ _ f=>simp[f]
 have:=this d;simpa using this
def SetK.stay {M:Value->Prop}{h d:Heap}{a:Addr}{kl:List (List Int)}{wr:List Addr}(x:SetK prog w M h a kl)(k:∀b o,b ∉ wr->h.get? b=some o->d.get? b=some o)(l:a ∉ wr)(A:∀b∈wr,∀ks,¬ TK prog w h ks b):SetK prog w M d a kl:=by
 obtain⟨L,⟨o,i,g,t,y,s⟩,j⟩:=x.ex;have f:∀{ks:List Int}{b:Addr},TK _ w h ks b->TK _ w d ks b:=λ{ks b} z=>by
  have p  := λq=>A b q ks z;obtain⟨o,C,n,e,r⟩:=z;exact⟨o,C,n,k _ _ p e,r⟩
 refine⟨⟨L,⟨o,i,g,t,⟨k _ _ l y.get,y.ex,y.data,y.tab,y.room,y.small,y.plain,y.led,λr u =>?_⟩,s⟩,j.imp λa b ⟨m,c,e,z⟩=>⟨m,c,e,f z⟩⟩,x.nd⟩;obtain⟨b,ks,e,z,q⟩:=y.key r u;exact⟨b,ks,e,f z,q⟩
variable {A:Around}{R:Result->Shared->Prop}{I:Addr}{fp wr:List Addr}{G:Array GenState->Array GenState->Prop}{n:Nat}{P:Nat->Value->Prop}{St:Nat->Shared->Prop}
def z9D {M:Value->Prop}(W:WalksS prog w A.in1 I fp wr G n P St)(S:Addr)(Z:S ∉ fp)(hu:A.in1.units<cLine)(ks:Nat->List Int)(hn:n<=2040)(hw:∀i s,St i s->∀b∈wr,∀k,¬ TK prog w s.heap k b)(hM:∀j v,P j v->M v):
  ∀k i s kl,n - i=k->i<=n->St i s->(∀j v,P j v->∃b,v = .ref b/\TK prog w s.heap (ks j) b)->
   SetK prog w M s.heap S kl->kl.length<=i->(∀x,x∈kl↔∃j,j<i/\ks j=x)->
   (∀s' d,Moved (S::wr) G s s'->SetK prog w M s'.heap S d->d.length<=n->(∀x,x∈d↔∃j,j<n/\ks j=x)->R (.ok (.ret .none)) s')->
   codeAny (model prog w) A (.builtin "set.update.loop" ⟨[.ref S,.ref I],[]⟩) R s:=by
 have a0:S ∉ wr:=λh=>Z (W.sub _ h);have K:∀b∈wr,b∈S::wr:=λb hb=>wq _ hb;intro k
 induction k with
 | zero=>
  intro i s kl hk hi C hP hS hl hm hR;have a8:i=n:=by lia
  subst a8;refine uP F.entry_set_update_loop ?_;rw[ug jC _];show wpAny _ A.in1 (pyNext (.ref I) >>= _) _ _ s;refine wc (W.done s _ _ C λs' p =>?_);show wpAny _ A.in1 (ret Value.none) _ _ s';exact wp (hR s' kl (p.mono K) (hS.stay p.heap a0 (hw _ _ C)) hl hm)
 | succ k ih=>
  intro i s kl hk hi C hP hS hl hm hR;have O:i<n:=by lia
  refine uP F.entry_set_update_loop ?_;rw[ug jC _];show wpAny _ A.in1 (pyNext (.ref I) >>= _) _ _ s;refine wc (W.item i s _ _ O C λv s' X a3 p =>?_);have Y:=hS.stay p.heap a0 (hw _ _ C);have U:∀j v,P j v->∃b,v = .ref b/\TK prog w s'.heap (ks j) b:=λj u Q=>by
   obtain⟨b,e,z⟩:=hP j u Q;have hb:b ∉ wr:=λq=>hw _ _ C b q _ z;obtain⟨o,it,m,e',r⟩:=z;exact⟨b,e,o,it,m,p.heap _ _ hb e',r⟩
  obtain⟨b,rfl,a2⟩:=U i v X;show wpAny _ A.in1 (holding [Value.ref b] (setAdd S (.ref b)) >>= _) _ _ s';refine wc (uc ?_);obtain⟨L,hL,h2,b3⟩:=Y.len;have H:∀J N,s'.toks<=N->Heap.SameBut S s'.heap J->Aa3 (St (i+1) { s' with heap:=J,toks:=N }) (∀j v,P j v->∃b,v = .ref b/\TK prog w J (ks j) b) (∀f,Moved (S::wr) G { s' with heap:=J,toks:=N } f->Moved (S::wr) G s f):=λJ N E l=>by
   obtain⟨o,es,ep,t,y,_⟩:=hL.ex;refine⟨W.frame _ s' _ _ a3 E λc hc o' e =>?_,λj u Q =>?_,λf g =>?_⟩
   .rw[l.2 c (λz:c=S=>Z (by rw[<- z];exact hc))];exact e
   .obtain⟨c,e,z⟩:=U j u Q;exact⟨c,e,z.stay y.get y.data l⟩
   .refine Moved.trans W.gtrans ((p.mono K).then_heap E λc o' hc e =>?_) g;rw[l.2 c (λz:c=S=>hc (by rw[z];exact wF))];exact e
  refine wpAny_with_toks (ww s'.toks) ?_;refine z5A hL hu a2 (by lia) ?_ ?_
  .intro a7 N E;obtain⟨g1,g2,g3⟩:=H s'.heap N E (Heap.SameBut.refl _ _);refine wp ⟨uZ jC _,ih (i+1) _ kl (by lia) O g1 g2 Y (by lia) (λx =>?_) λf d g=>hR f d (g3 f g)⟩;rw[hm x]
   constructor
   .rintro⟨j,hj,e⟩;exact⟨j,by lia,e⟩
   .rintro⟨j,hj,e⟩
    rcases wW j i with z | z
    .exact⟨j,z,e⟩
    .have:j=i:=by lia
     subst this;obtain⟨r,hr,c,ec,hc⟩:=a7;obtain⟨y,hy,_,c',T,a6⟩:=h2.mem_left (wf.mpr ⟨r,hr,rfl⟩);rw[ec] at T
     cases T
     have:=hc.inj a6;rw[<- e,this];exact(hm y).mp hy
  .intro a1 J N L' l b0 pm E;obtain⟨g1,g2,g3⟩:=H J N E l;obtain⟨o,es,ep,t,y,_⟩:=hL.ex;have t1:Two (IsK prog w M J) (Value.ref b::L.map (·.2.2)) (ks i::kl) :=.cons ⟨hM i _ X,b,rfl,a2.stay y.get y.data l⟩ (h2.imp λa k ⟨m,c,e,z⟩=>⟨m,c,e,z.stay y.get y.data l⟩);have b2:(Value.ref b::L.map (·.2.2)).Perm (L'.map (·.2.2)):=by
    have:=pm.symm.map (·.2);simpa[Function.comp_def] using this
   obtain⟨d,p',t'⟩:=t1.perm b2;have a9:ks i ∉ kl:=λz=>by
    obtain⟨a',a5,_,c,e,z'⟩:=h2.mem_right z;obtain⟨r,hr,rfl⟩:=wf.mp a5;exact a1 ⟨r,hr,c,e,z'⟩
   have b1:d.Nodup:=p'.nodup_iff.mp (vU.mpr ⟨a9,hS.nd⟩);have b4:d.length=kl.length+1:=by rw[<- p'.length_eq];rfl
   refine wp ⟨uZ jC _,ih (i+1) _ d (by lia) O g1 g2 ⟨⟨L',b0,t'⟩,b1⟩ (by lia) (λx =>?_) λf a4 g=>hR f a4 (g3 f g)⟩;rw[<- p'.mem_iff,wn,hm x]
   constructor
   .rintro(e | ⟨j,hj,e⟩)
    .exact⟨i,by lia,e.symm⟩
    .exact⟨j,by lia,e⟩
   .rintro⟨j,hj,e⟩
    rcases wW j i with z | z
    .exact .inr ⟨j,z,e⟩
    .have:j=i:=by lia
     subst this;exact .inl e.symm
end
section
variable {prog:Program}{w:World}{A:Around}{E:WvP}{s:Shared}
def z7p:isSubtype (.type "tuple") (.type "set")=pure false:=by kernel_rfl
def z4h:isSubtype (.type "tuple") (.type "frozenset")=pure false:=by rfl
abbrev led0 (w:World):Bool := !w.params.followText "set-order"
def z88 (a:Value)
  (h:Q₁ (.ref s.heap.objs.size) { s with heap:=s.heap.push { cls :=.type "set",dict:=none,data :=.set #[] 0 (.fresh 0 0 (led0 w)) } }):
  codeAny (model prog w) A (.call (.builtin "set.__new__") ⟨[.type "set",a],[]⟩) (wants Q₁ E) s:=by
 refine codeAny_of_tree ?_;refine wc (wpAny_of_eq (F.newCall_set_1 a) (wp ⟨uZ F.plain_set_new _,uP F.entry_set_new ?_⟩));rw[ug F.plain_set_new _];unfold Builtin.«set.__new__» Builtin.Frozenset.newClass;have b:=sub_set_self;obtain⟨e,g,d,i,f⟩:=s;dsimp only
 wp_walk
 refine jX (wp ?_);dsimp only;simp only[newObj];refine wc (wpAny_alloc (wp ?_));exact wp h
def zbl (e:h.get? a=some { cls :=.type "set",dict:=none,data :=.set #[] 0 (.fresh 0 0 (led0 w)) }):SetK prog w M h a []:=by
 refine⟨⟨[],⟨_, #[],0,_,⟨e,⟨rfl,rfl,rfl⟩,rfl,⟨rfl,rfl,.nil,(λr b=>by simp at b),rfl,⟨3,ww _,rfl⟩,(λr b=>by simp at b)⟩,(by simp_all),(by show 7<=8191;decide),rfl,rfl,(λr b=>by simp at b)⟩,(by show 0*5<7*3;decide)⟩,.nil⟩,.nil⟩
def zlQ {k:List Int}(x:∃o,h.get? b=some o/\o.cls = .type tn)(i:tn≠"tuple"):¬ TK prog w h k b:=by
 rintro⟨l,_,_,d,a,_⟩;obtain⟨j,g,e⟩:=x;rw[g] at d
 cases d
 rw[e] at a
 injection a with f
 exact i f
def z5x {z06:Array Value}(S:s.heap.get? l=some ol)(b9:isSubtype ol.cls (.type "set")=pure false)(b8:isSubtype ol.cls (.type "frozenset")=pure false)(c4:(ol.cls == .type "dict")=false)(a6:io.isFreed=false)
  (a7:∀{A':Around}{E':WvP}{s':Shared}{Q':WvP},s'.heap.get? l=some ol->Q' (.ref s'.heap.objs.size) { s' with heap:=s'.heap.push io }->wpAny (model prog w) A' (pyIter (.ref l)) Q' E' s')
  (b4:∀{A':Around}(I:Addr),A'.handled=none->l≠I->∃St,Walks prog w A' I [I,l] [I] z06.size (λi v=>z06[i]? = some v) St/\(∀h:Heap,h.get? I=some io->h.get? l=some ol->St 0 h)/\∀i h k,St i h->¬ TK prog w h k I)
  (hh:A.handled=none) (hu:A.units+8<cLine) (hi:Two (IsK prog w M s.heap) z06.toList ks) (X:z06.size<=2040)
  (h:∀(g:Heap) (tk:Nat) n,SetK prog w M g s.heap.objs.size n->n.length<=z06.size->(∀x,x∈n↔x∈ks)->
   (∀b o,b<s.heap.objs.size->s.heap.get? b=some o->g.get? b=some o)->Q (.ref s.heap.objs.size) { s with heap:=g,toks:=tk }):
  wpAny (model prog w) A (call (.type "set") [.ref l]) Q E s:=by
 obtain⟨c,tl,b7⟩:=jK.mro;have b2:=jK.made;have c0:=jK.sub;refine wpAny_call (codeAny_of_tree ?_);show wpAny _ _ (callAny (.type "set") _) _ _ _;refine wp ⟨Code.quiet_builtin _ (by decide +kernel),uP F.entry_type_call ?_⟩;rw[Around.under_plain (weight_type_call_type "set" [.ref l] []) rfl];have h1:=jK.notType;have h2:=jK.canCreate;have c2:=F.typeCall_set_1 (.ref l)
 repeat (any_goals (first | assumption | wp_step))
 refine codeAny_mono (z88 (.ref l) (E:=E) (Q₁:=λT u=>T = .ref s.heap.objs.size/\u={ s with heap:=s.heap.push { cls :=.type "set",dict:=none,data :=.set #[] 0 (.fresh 0 0 (led0 w)) } }) ⟨rfl,rfl⟩) λr u hr =>?_
 cases r with
 | error e=>exact hr
 | ok fl=>
  cases fl with
  | ret T=>
   obtain⟨rfl,rfl⟩:=hr;generalize L:led0 w=a at*;have hS:(s.heap.push { cls :=.type "set",dict:=none,data :=.set #[] 0 (.fresh 0 0 a) }).get? s.heap.objs.size=some { cls :=.type "set",dict:=none,data :=.set #[] 0 (.fresh 0 0 a) }:=wv _ rfl;have hT:Shared.TypeIs { s with heap:=s.heap.push { cls :=.type "set",dict:=none,data :=.set #[] 0 (.fresh 0 0 a) } } (.ref s.heap.objs.size) "set":=⟨_,hS,rfl⟩
   have c3:=jK.init.lookup;have c1:=jK.init.bind (.ref s.heap.objs.size)
   repeat (any_goals (first | assumption | wp_step))
   refine codeAny_mono (codeAny_call_builtin (R:=wants (λr y=>r = .none/\Ee3 λg tk n=>y={ s with heap:=g,toks:=tk }/\SetK prog w M g s.heap.objs.size n/\n.length<=z06.size/\(∀x,x∈n↔x∈ks)/\
     (∀b o,b<s.heap.objs.size->s.heap.get? b=some o->g.get? b=some o)) E) jK.init.plain F.entry_set_init (check_set_init_1 hT ?_)) λU y d =>?_
   .have q:=wg (show Obj from { cls :=.type "set",dict:=none,data :=.set #[] 0 (.fresh 0 0 a) }) S;unfold Builtin.«set.__init__» noKeywords Builtin.Frozenset.updateFrom;generalize a0:pyIter=PI
    wp_walk
    subst a0;apply a7 (by exact q);refine wc (wpAny_runValue ?_);have K:l<s.heap.objs.size:=wC S;have a5:A.in1.in1.in1.handled=none:=by simp[hh]
    have O:l≠(s.heap.push { cls :=.type "set",dict:=none,data :=.set #[] 0 (.fresh 0 0 a) }).objs.size:=by
     rw[vX];exact wJ (v7 K)
    have a1:s.heap.objs.size ∉ [(s.heap.push { cls :=.type "set",dict:=none,data :=.set #[] 0 (.fresh 0 0 a) }).objs.size,l]:=by
     rw[vX];simp only[wn,wj,wA,vA,not_or];exact⟨wJ (uW _),jr K⟩
    have p:∀(i:Nat) v,z06[i]? = some v->M v/\∃b,v = .ref b/\TK prog w s.heap (ks.getD i []) b:=λi v G=>by
     have f:z06.toList[i]? = some v:=by simpa using G
     generalize z06.toList=il at hi f;clear G h
     induction hi generalizing i with
     | nil=>simp at f
     | cons h0 _ ih=>
      cases i with
      | zero=>
       simp at f;subst f;exact h0
      | succ i=>exact ih i (by simpa using f)
    have J:ks.length=z06.size:=by
     have:∀{l:List Value}{m:List (List Int)},Two (IsK prog w M s.heap) l m->l.length=m.length:=by
      intro l m t
      induction t with
      | nil=>rfl
      | cons _ _ ih=>simp[ih]
     have:=this hi;simpa using this.symm
    obtain⟨St,W,st0,hw⟩:=b4 (A':=A.in1.in1.in1) _ a5 O;refine z9D W.toS s.heap.objs.size a1 (by simp;lia) (λi=>ks.getD i []) X (λi s0 b3 b a2 k => ?hw) (λj v G=>(p j v G).1) (z06.size - 0) 0 _ [] (by lia) (vP _) (st0 _ (wv _ a6) (wg _ q)) (λj v G => ?hP) ?hS0 (vP _) (λx=>by simp) ?hR
    case hw=>
     rw[wj.mp a2];exact hw _ _ _ b3
    case hP=>
     obtain⟨_,b,e,o2,it,m,e2,r⟩:=p j v G;exact⟨b,e,o2,it,m,wg _ (wg _ e2),r⟩
    case hS0=>
     refine zbl (h:=(s.heap.push { cls :=.type "set",dict:=none,data :=.set #[] 0 (.fresh 0 0 a) }).push _) ?_;rw[L];exact wg _ hS
    case hR=>
     intro s' n Z C b1 N;obtain⟨g,g',d',b6,b5⟩:=s';have eg:g'=s.gens:=Z.gens;have ed:d'=s.drawn:=Z.drawn;have eo:b5=s.os:=Z.os;subst eg;subst ed;subst eo;show wpAny _ _ _ _ _ _;refine wp ?_;show wpAny _ _ (ret Value.none) _ _ _;refine wp ⟨rfl,g,b6,n,rfl,C,b1,λx =>?_,λb o X e =>?_⟩
     .rw[N x]
      constructor
      .rintro⟨j,Y,e⟩;have H:j<ks.length:=by rw[J];exact Y
       rw[<- e];show ks.getD j []∈ks;rw[ue,wm H];exact jF H
      .intro hx;obtain⟨j,Y,e⟩:=vj.mp hx;refine⟨j,by rw[<- J];exact Y,?_⟩;show ks.getD j []=x;rw[ue,wm Y];exact e
     .have a3:b≠s.heap.objs.size:=wJ X;have a4:b≠(s.heap.push { cls :=.type "set",dict:=none,data :=.set #[] 0 (.fresh 0 0 a) }).objs.size:=by
       rw[vX];exact wJ (v7 X)
      exact Z.heap b o (by simp only[wn,wj,wA,vA,not_or];exact⟨a3,a4⟩) (wg _ (wg _ e))
   .cases U with
    | error e=>exact d
    | ok z=>
     cases z with
     | ret r=>
      obtain⟨rfl,g,tk,n,rfl,C,a9,b0,a8⟩:=d
      repeat (any_goals (first | assumption | wp_step))
      exact h _ _ _ C a9 b0 a8
     | _=>exact d.elim
  | _=>exact hr.elim
def z8b {M:Value->Prop}{l:Addr}{z06:Array Value}{ks:List (List Int)}{Q:WvP}
  (u:A.handled=none) (C:A.units+8<cLine) (z:s.heap.IsList l z06) (y:Two (IsK prog w M s.heap) z06.toList ks) (t:z06.size<=2040)
  (h:∀f tk i,SetK prog w M f s.heap.objs.size i->i.length<=z06.size->(∀x,x∈i↔x∈ks)->
   (∀b o,b<s.heap.objs.size->s.heap.get? b=some o->f.get? b=some o)->Q (.ref s.heap.objs.size) { s with heap:=f,toks:=tk }):
  wpAny (model prog w) A (call (.type "set") [.ref l]) Q E s:=by
 obtain⟨G,g,a,j,d⟩:=z;exact z5x g (by rw[a];exact F.sub_list_set) (by rw[a];exact F.sub_list_frozenset) (by rw[a];rfl) rfl (λe q=>wpAny_pyIter_list ⟨_,e,a,j,d⟩ q) (λI h n=>⟨_,Walks.list h I l n z06,λ_ p r=>⟨⟨_,p,rfl,rfl⟩,_,r,a,j,d⟩,λ_ _ _ m=>zlQ (tn:="list_iterator") ⟨_,m.1.choose_spec.1,m.1.choose_spec.2.1⟩ (by decide)⟩) u C y t h
def z6Q {M:Value->Prop}{l:Addr}{z06:Array Value}{ks:List (List Int)}{Q:WvP}
  (u:A.handled=none) (C:A.units+8<cLine) (z:s.heap.IsTuple l z06) (y:Two (IsK prog w M s.heap) z06.toList ks) (t:z06.size<=2040)
  (h:∀f tk i,SetK prog w M f s.heap.objs.size i->i.length<=z06.size->(∀x,x∈i↔x∈ks)->
   (∀b o,b<s.heap.objs.size->s.heap.get? b=some o->f.get? b=some o)->Q (.ref s.heap.objs.size) { s with heap:=f,toks:=tk }):
  wpAny (model prog w) A (call (.type "set") [.ref l]) Q E s:=by
 obtain⟨F,g,a,j,d⟩:=z;exact z5x g (by rw[a];exact z7p) (by rw[a];exact z4h) (by rw[a];rfl) rfl (λe q=>uh ⟨_,e,a,j,d⟩ q) (λI h n=>⟨_,Walks.tuple h I l n z06,λ_ p r=>⟨⟨_,p,rfl,rfl⟩,_,r,a,j,d⟩,λ_ _ _ m=>zlQ (tn:="tuple_iterator") ⟨_,m.1.choose_spec.1,m.1.choose_spec.2.1⟩ (by decide)⟩) u C y t h
end
end Tab
namespace Tim
open PySem PyProof.Rows PySem.W
def Rn (rk:Nat->Nat)(p:Array Nat)(i:Nat):Nat:=rk (p[i]?.getD 0)
def Up (rk:Nat->Nat)(p:Array Nat)(j:Nat):Prop:=∀a b,a<=b->b<j->Rn rk p a<=Rn rk p b
def Dn (rk:Nat->Nat)(p:Array Nat)(j:Nat):Prop:=∀a b,a<=b->b<j->Rn rk p b<=Rn rk p a
abbrev Ok (n:Nat)(p:Array Nat):Prop:=p.Perm (List.range n).toArray
section
variable {cmp:Nat->Nat->(Bool->Shared->Prop)->Shared->Prop}{s:Shared}{rk:Nat->Nat}{n:Nat}{p:Array Nat}{α:Type}
def z3O (h:Ok n p):p.size=n:=by rw[h.size_eq];simp
def zln (a:0<n)(h:Ok n p)(i:Nat):p[i]?.getD 0<n:=by
 rcases wW i _ with z | z
 .rw[uJ z];have:=(Array.perm_iff_toList_perm.mp h).mem_iff.mp (Array.getElem_mem_toList z);simpa using this
 simp_all
def As (a:Nat->Nat->(Bool->Shared->Prop)->Shared->Prop)(rk:Nat->Nat)(n:Nat)(s:Shared):Prop:=∀i j C,i<n->j<n->C (decide (rk i<rk j)) s->a i j C s
def ask_ {k:Bool->KasT α}(A:As cmp rk n s)(a:0<n)(b:Ok n p)(h:Rn rk p i<Rn rk p j->(k true).kasWp cmp Q s)(d:Rn rk p j<=Rn rk p i->(k false).kasWp cmp Q s):(KasT.ask (p.getD i 0) (p.getD j 0) k).kasWp cmp Q s:=by
 rw[u8,u8];refine A _ _ _ (zln a b i) (zln a b j) ?_
 rcases wW _ _ with z | z
 .rw[show decide (rk _<rk _)=true from vf z];exact h z
 .rw[show decide (rk _<rk _)=false from vR (Nat.not_lt.mpr z)];exact d z
theorem asc_ (A:As cmp rk n s)(g:0<n)(i:Ok n p):∀f m,1<=m->Up rk p m->(∀k,m<=k->k<=m+f->Up rk p k->k=m+f\/Rn rk p k<Rn rk p (k - 1)->Q k s)->(kas_asc p f m).kasWp cmp Q s
 | 0,m,e,d,q=>q m (by lia) (by lia) d (.inl rfl)
 | f+1,m,e,d,q=>by
  refine ask_ A g i (λh =>?_) λh =>?_
  .exact q m (by lia) (by lia) d (.inr h)
  .refine asc_ A g i f (m+1) (by lia) (λa b e j =>?_) λk e j l o=>q k (by lia) (by lia) l (o.imp (by lia) id)
   rcases wW b m with z | z
   .exact d a b e z
   .obtain rfl:b=m:=by lia
    rcases wW a b with w | w
    .exact wV (d a (b - 1) (by lia) (by lia)) h
    grind
def zgu (a:j<=p.size)(k:Nat):Rn rk (kas_rev p i j) k=if i<=k/\k<j then Rn rk p (i+j - 1 - k) else Rn rk p k:=by
 unfold Rn kas_rev;rw[getElem?_mirror_all a k]
 split <;> rfl
def z8T (h:Ok n p):Ok n (kas_rev p i j):=(mirror_perm _ _ _ _).trans h
def zhG (a:j<=p.size)(b:∀k,i<=k->k<j->Rn rk p k=Rn rk p (j - 1))(k:Nat):Rn rk (kas_rev p i j) k=Rn rk p k:=by
 rw[zgu a]
 grind
def z6u (d:1<=m)(h:Dn rk p m)(k:Rn rk p m<=Rn rk p (m - 1)):Dn rk p (m+1):=λa b x y=>by
 rcases wW b m with z | z
 .exact h a b x z
 .obtain rfl:b=m:=by lia
  rcases wW a b with w | w
  .exact wV k (h a _ (by lia) (by lia))
  .obtain rfl:a=b:=by lia
   simp_all
theorem zfX (A:As cmp rk n s)(C:0<n):∀f p m q,Ok n p->Dn rk p m->q<m->(∀i,m - (q+1)<=i->i<m->Rn rk p i=Rn rk p (m - 1))->m+f<=n->
  (∀o l t,Ok n o->Dn rk o l->t<l->m<=l->l<=m+f->(∀i,l - (t+1)<=i->i<l->Rn rk o i=Rn rk o (l - 1))->Q (o,l,t) s)->(kas_desc f p m q).kasWp cmp Q s
 | 0,p,m,q,r,u,F,w,I,h=>h p m q r u F (by lia) (by lia) w
 | f+1,p,m,q,r,u,F,w,I,h=>by
  refine ask_ A C r (λG =>?_) λG =>?_
  .rw[if_pos rfl];have eq:=zhG (rk:=rk) (p:=p) (i:=m - (q+1)) (j:=m) (by rw[z3O r];lia) w
   by_cases E:q > 0
   .rw[if_pos E];refine zfX A C f _ (m+1) 0 (z8T r) (z6u (by lia) (λa b x y=>by rw[eq,eq];exact u a b x y) (by rw[eq,eq];lia)) (by lia) (λi x y=>by rw[show i=m+1 - 1 by lia]) (by lia) λo l t a b c d e g=>h o l t a b c (by lia) (by lia) g
   .rw[if_neg E];exact zfX A C f p (m+1) 0 r (z6u (by lia) u (by lia)) (by lia) (λi x y=>by rw[show i=m+1 - 1 by lia]) (by lia) λo l t a b c d e g=>h o l t a b c (by lia) (by lia) g
  .rw[if_neg (by decide)];refine ask_ A C r (λH =>?_) λH =>?_
   .rw[if_pos rfl];exact h p m q r u F (by lia) (by lia) w
   .rw[if_neg (by decide)];refine zfX A C f p (m+1) (q+1) r (z6u (by lia) u (by lia)) (by lia) (λi x y =>?_) (by lia) λo l t a b c d e g=>h o l t a b c (by lia) (by lia) g
    rcases wW i m with z | z
    .rw[w i (by lia) z,show m+1 - 1=m by lia];lia
    .rw[show i=m+1 - 1 by lia]
def zjp (A:As cmp rk n s)(o:0<n)(f:Ok n p)(h:1<=m)(l:m<=n)(j:Dn rk p m)(q:∀d g,Ok n g->1<=d->d<=n->Up rk g d->Q (d,g) s):(kas_tail3 m n p).kasWp cmp Q s:=by
 unfold kas_tail3;rw[j8];refine asc_ A o (z8T f) _ _ h (λa b x y =>?_) λk x y u _=>q k _ (z8T f) (by lia) (by lia) u;have e:=zgu (rk:=rk) (i:=0) (by rw[z3O f];exact l);rw[e,e,if_pos (by lia),if_pos (by lia)];exact j _ _ (by lia) (by lia)
def zl3 (A:As cmp rk n s)(j:0<n)(t:Ok n p)(u:m<n)(r:Dn rk p (m+1))(q:∀f h,Ok n h->1<=f->f<=n->Up rk h f->Q (f,h) s):(kas_descPart m n p).kasWp cmp Q s:=by
 unfold kas_descPart;rw[j8];refine zfX A j _ p _ 0 t r (by lia) (λi x y=>by rw[show i=m+1 - 1 by lia]) (by lia) λh f w a b c d e g =>?_;dsimp only;have eq:=zhG (by rw[z3O a];lia) g
 split
 .exact zjp A j (z8T a) (by lia) (by lia) (λx y l o=>by rw[eq,eq];exact b x y l o) q
 .exact zjp A j a (by lia) (by lia) b q
def zml (A:As cmp rk n s)(o:0<n)(d:Ok n p)(q:∀r t,Ok n t->1<=r->r<=n->Up rk t r->Q (r,t) s):(kas_count n p).kasWp cmp Q s:=by
 unfold kas_count;rw[j8];refine asc_ A o d _ 1 (ww 1) (λa b x y=>by rw[show a=b by lia];exact ww _) λm l w f u =>?_
 by_cases e:m=n
 .rw[if_pos (by simpa using e)];exact q m p d l (by lia) f
 rw[if_neg (by simpa using e)];have lt:=u.resolve_left (by lia)
 by_cases g:m > 1
 .rw[if_pos g];refine ask_ A o d (λh =>?_) λh =>?_
  .rw[if_pos rfl];exact q m p d l (by lia) f
  .rw[if_neg (by decide)];have eq:=zhG (rk:=rk) (p:=p) (i:=0) (j:=m) (by rw[z3O d];lia) λk _ y=>Nat.le_antisymm (f k (m - 1) (by lia) (by lia)) (wV h (f 0 k (by lia) y));refine zl3 A o (z8T d) (by lia) (z6u l (λa b x y =>?_) ?_) q
   .rw[eq,eq];exact wV (f b (m - 1) (by lia) (by lia)) (wV h (f 0 a (by lia) (by lia)))
   .rw[eq,eq];lia
 .rw[if_neg g];refine zl3 A o d (by lia) (z6u l (λa b x y=>by rw[show a=b by lia];exact ww _) (by lia)) q
theorem zcS (A:As cmp rk n s)(e:0<n)(j:Ok n p){k:Nat}(q:∀l,l<=k->(∀i,i<l->Rn rk p i<=Rn rk p k)->(∀i,l<=i->i<k->Rn rk p k<=Rn rk p i)->Q l s):∀f l r,r - l<=f->l<=r->r<=k->Up rk p k->(∀i,i<l->Rn rk p i<=Rn rk p k)->(∀i,r<=i->i<k->Rn rk p k<=Rn rk p i)->(kas_place p k f l r).kasWp cmp Q s
 | 0,l,r,o,t,m,a,b,d=>q l (by lia) b λi x y=>d i (by lia) y
 | f+1,l,r,o,t,m,a,b,d=>by
  unfold kas_place
  by_cases g:l>=r
  .rw[if_pos g];exact q l (by lia) b λi x y=>d i (by lia) y
  .rw[if_neg g];refine ask_ A e j (λh =>?_) λh =>?_
   .rw[if_pos rfl];exact zcS A e j q f l _ (by lia) (by lia) (by lia) a b λi x y=>wV (uL h) (a _ i (by lia) y)
   .exact zcS A e j q f _ r (by lia) (by lia) m a (λi x=>wV (a i _ (by lia) (by lia)) h) d
theorem bin_ (A:As cmp rk n s)(r:0<n)(q:∀p,Ok n p->Up rk p n->Q p s):∀f p k,Ok n p->Up rk p k->k+f=n->(kas_bin f p k).kasWp cmp Q s
 | 0,p,k,g,d,e=>q p g (by rw[<- e];exact d)
 | f+1,p,k,g,d,e=>by
  unfold kas_bin;rw[j8];refine zcS A r g (λl C t u =>?_) k 0 k (by lia) (by lia) (ww _) d (λi x=>by lia) λi x y=>by lia
  refine bin_ A r q f _ (k+1) ((bubble_perm _ _ _).trans g) (λa b x y =>?_) (by lia);have j:=λi=>getElem?_bubble (xs:=p) (src:=k) (by rw[z3O g];lia) (k - l) (by lia) i;rw[show k - (k - l)=l by lia] at j;have o:∀i,i<l->Rn rk (bubble p k (k - l)) i=Rn rk p i:=λi z=>by unfold Rn;rw[j,if_neg (by lia),if_neg (by lia)]
  have m:Rn rk (bubble p k (k - l)) l=Rn rk p k:=by unfold Rn;rw[j,if_pos rfl]
  have h:∀i,l<i->i<=k->Rn rk (bubble p k (k - l)) i=Rn rk p (i - 1):=λi z w=>by unfold Rn;rw[j,if_neg (by lia),if_pos (by lia)]
  rcases uG a l with z | rfl | z
  .rw[o a z]
   rcases uG b l with w | rfl | w
   .rw[o b w];exact d a b x (by lia)
   .rw[m];exact t a z
   .rw[h b w (by lia)];exact d _ _ (by lia) (by lia)
  .rw[m]
   rcases wW a b with w | w
   .rw[h b w (by lia)];exact u _ (by lia) (by lia)
   .rw[show b=a by lia,m];exact ww _
  .rw[h a z (by lia),h b (by lia) (by lia)];exact d _ _ (by lia) (by lia)
def zmI (A:As cmp rk n s)(a:0<n)(q:∀p,Ok n p->Up rk p n->Q p s):(kas_sort n).kasWp cmp Q s:=by
 unfold kas_sort;rw[j8];refine zml A a (Array.Perm.refl _) λm p b e f d =>?_;dsimp only
 split
 .exact bin_ A a q _ p _ b (by simp_all) (by lia)
 .obtain rfl:m=n:=by lia
  exact q p b d
end
open HT
theorem z6h:∀k:List Int,z0P k k=false
 | []=>rfl
 | x::a=>by rw[z0L,if_pos rfl];exact z6h a
theorem zaP:∀{a b c:List Int},z0P a b=true->z0P b c=true->z0P a c=true
 | [],[],_,h,_=>by cases h
 | [],_::_,[],_,k=>by cases k
 | [],_::_,_::_,_,_=>rfl
 | _::_,[],_,h,_=>by cases h
 | _::_,_::_,[],_,k=>by cases k
 | x::f,y::g,z::i,h,k=>by
  rw[z0L] at h k ⊢
  by_cases e:x=y
  .subst e
   by_cases d:x=z
   .subst d;rw[if_pos rfl] at h k ⊢;exact zaP h k
   .rw[if_neg d] at k ⊢;exact k
  grind
theorem za8:∀(a b:List Int),z0P a b=false->z0P b a=false->a=b
 | [],[],_,_=>rfl
 | [],_::_,h,_=>by cases h
 | _::_,[],_,k=>by cases k
 | x::d,y::f,h,k=>by
  rw[z0L] at h k
  by_cases e:x=y
  .subst e;rw[if_pos rfl] at h k;rw[za8 d f h k]
  grind
def rkL (l:List (List Int))(k:List Int):Nat:=l.countP λq=>z0P q k
def z9o {d:Type}{p q:d->Bool}{l:List d}(h:∀x,p x=true->q x=true){a:d}(b:a∈l)(f:p a=false)(g:q a=true):l.countP p<l.countP q:=by
 induction l with
 | nil=>cases b
 | cons y l j=>
  rw[List.countP_cons,List.countP_cons];have e:l.countP p<=l.countP q:=List.countP_mono_left λx _ i=>h x i
  rcases wn.mp b with rfl | b
  .rw[f,g];simp;omega
  .have:=j b
   by_cases py:p y=true
   .simp_all
   .rw[if_neg py];split <;> omega
def zaB {l:List (List Int)}{a b:List Int}(g:a∈l)(h:b∈l):z0P a b=decide (rkL l a<rkL l b):=by
 cases q:z0P a b with
 | true=>
  symm
  apply vf;exact z9o (λx e=>zaP e q) g (z6h a) q
 | false=>
  symm
  apply vR;intro d
  cases f:z0P b a with
  | true=>
   have:=z9o (p:=λx=>z0P x b) (λx e=>zaP e f) h (z6h b) f;unfold rkL at d;omega
  | false=>
   rw[za8 a b q f] at d;omega
section
variable {prog:Program}{w:World}{A:Around}{E:WvP}{s:Shared}
theorem z6j {b fin:Bool}{Q:Bool->Shared->Prop}:∀{vs ws:List Value}{ns d:List Int} i,IntsAre vs ns->IntsAre ws d->fin=decide (ns.length<d.length)->Q (z0P ns d) s->KatLex prog w A b fin Q (vs.zip ws) i s
 | _,_,_,_,i,.nil,.nil,a,h=>by
  refine kat_nil ?_;rw[a];exact h
 | _,_,_,_,i,.nil,.cons m u r,a,h=>by
  refine kat_nil ?_;rw[a];rw[show decide (([]).length<(m::_).length)=true by simp];exact h
 | _,_,_,_,i,.cons n t r,.nil,a,h=>by
  refine kat_nil ?_;rw[a];rw[show decide ((n::_).length<([]).length)=false by simp];exact h
 | _,_,_,_,i,.cons n t r,.cons m u r2,a,h=>by
  refine kat_cons (wpAny_eqBool_int ?_);rw[z0L] at h
  by_cases e:n=m
  .subst e;rw[if_pos rfl] at h;rw[show (n == n)=true by simp];exact kat_yes (z6j (i+1) r r2 (by rw[a];simp) h)
  .rw[if_neg e] at h;rw[show (n == m)=false by simpa using e];refine kat_no ?_
   cases f:(b && i == 0) with
   | true=>exact oneLt_int h
   | false=>exact kat_one _ _ (lt_int h)
def TI (h:Heap)(v:Value)(k:List Int):Prop:=∃a o z06 n,v = .ref a/\h.get? a=some o/\o.cls = .type "tuple"/\o.data = .seq z06 n/\IntsAre z06.toList k
def TI.keep {h d:Heap}{v:Value}{k:List Int}(x:TI h v k)(g:∀b o,h.get? b=some o->o.cls = .type "tuple"->d.get? b=some o):TI d v k:=by
 obtain⟨a,o,z06,n,e,i,f,j,l⟩:=x;exact⟨a,o,z06,n,e,g _ _ i f,f,j,l⟩
def AsV (prog:Program)(w:World)(A:Around)(s:Shared)(κ:SortKind)(vs:List Value)(rk:Value->Nat):Prop:=∀x∈vs,∀y∈vs,∀Q E,Q (decide (rk x<rk y)) s->wpAny (model prog w) A (keyLt' κ x y) Q E s
def zg8 {vs:List Value}{key:Value->List Int}(a:∀v∈vs,TI s.heap v (key v))(b:Bool):AsV prog w A s (tuples' b) vs (λv=>rkL (vs.map key) (key v)):=by
 intro x f y g Q E h;rw[<- zaB (wf.mpr ⟨_,f,rfl⟩) (wf.mpr ⟨_,g,rfl⟩)] at h;obtain⟨p,G,u,C,l,n,r,i,d⟩:=a _ f;obtain⟨q,H,z,F,m,o,t,j,e⟩:=a _ g;rw[l,m];exact kat_lt n i o j (z6j 0 d e (by rw[<- IntsAre.length d, <- IntsAre.length e,uo,uo]) h)
theorem z6k {h:Heap}{key:Value->List Int}:∀{vs:List Value},(∀v∈vs,TI h v (key v)/\key v≠[])->∃fs,KatTups h vs fs/\fs.length=vs.length/\∀f∈fs,∃n t,f = .int n t
 | [],_=>⟨[],.nil,rfl,λ_ h=>by cases h⟩
 | v::vs,i=>by
  obtain⟨fs,u,w,y⟩:=z6k (λv s=>i v (wq _ s));obtain⟨⟨a,o,z06,n,e,j,l,m,b⟩,g⟩:=i v (wF ..);subst e;obtain⟨x,xs,ex⟩:Ee2 λx xs=>key (.ref a)=x::xs:=by
   cases q:key _ with
   | nil=>exact(g q).elim
   | cons x xs=>exact⟨x,xs,rfl⟩
  rw[ex] at b;generalize p:z06.toList=z at b
  cases b with
  | cons _ t r=>
   refine⟨.int x t::fs,.cons j l m ?_ u,by simp[w],λf d =>?_⟩
   .rw[<- uQ,p];rfl
   .rcases wn.mp d with rfl | d
    .exact⟨_,_,rfl⟩
    .exact y f d
def zfD {vs:List Value}{key:Value->List Int}{Q:SortKind->Shared->Prop}(a:∀v∈vs,TI s.heap v (key v)/\key v≠[])(b:0<vs.length)(h:Q (tuples' true) s):wpAny (model prog w) A (keyKind' vs.toArray) Q E s:=by
 obtain⟨fs,e,g,f⟩:=z6k a;refine kat_kind (T :=.type "int") e (by omega) (λv d =>?_) rfl h;obtain⟨n,t,rfl⟩:=f v d;exact Looks.now
def zf6 {a:Type}{R:a->a->Prop}{l:List a}(h:l.length<2):l.Pairwise R:=by
 match l,h with
 | [],_=>simp_all
 | [x],_=>exact List.pairwise_singleton _ _
def z5F (prog:Program)(w:World)(h:Heap)(vs:List Value)(rk:Value->Nat):Prop:=∀A s,(∀b o,h.get? b=some o->o.cls = .type "tuple"->s.heap.get? b=some o)->
 ∃a,AsV prog w A s a vs rk/\(1<vs.length->∀Q E,Q a s->wpAny (model prog w) A (keyKind' vs.toArray) Q E s)
def z5F.keep {h a:Heap}{vs:List Value}{rk:Value->Nat}(x:z5F prog w h vs rk)(k:∀b o,h.get? b=some o->a.get? b=some o):z5F prog w a vs rk:=λA s d=>x A s λb o e c=>d b o (k b o e) c
def z5F.tups {h:Heap}{vs:List Value}{key:Value->List Int}(b:∀v∈vs,TI h v (key v)/\key v≠[]):z5F prog w h vs (λv=>rkL (vs.map key) (key v)):=λA s k=>
 ⟨_,zg8 (λv a=>(b v a).1.keep k) _,λd Q E q=>zfD (λv a=>⟨(b v a).1.keep k,(b v a).2⟩) (by omega) q⟩
def z92 {vs:List Value}{rk:Value->Nat}{n:Nat}{P:PySem.Fin->Shared->Prop}(z:s.heap.get? a=some (seqObj "list" vs.toArray n))(U:vs.length<=sizeLine)(M:vs.length<64)
  (Z:z5F prog w s.heap vs rk)
  (h:∀l:List Value,l.Perm vs->l.Pairwise (λx y=>rk x<=rk y)->P (.done (.ret .none)) { s with heap:=sortedHeap s.heap a vs l.toArray }):
  wpAny (model prog w) A (Builtin.«list.sort» ⟨[.ref a],[]⟩) P E s:=by
 rw[list_sort_plain];have g:a<s.heap.objs.size:=wC z;refine wc (listItems_at z rfl ?_);refine wc (listUpdate_at z rfl ?_ (by rw[v6];omega) (vP _));obtain⟨L,F⟩:∃L,(s.heap.update a (Obj.mapSeq λ_ => #[])).get? a=some (seqObj "list" #[] L):=⟨_,get?_update_seq z (λ_ => #[])⟩
 refine wc (seqEpoch_at F rfl ?_);refine wc (wpAny_newTuple ?_ (by show vs.length<=_;omega));refine wc (wpAny_newList ?_ (vP _));refine uc ?_;have d:(((s.heap.update a (Obj.mapSeq λ_ => #[])).push (seqObj "tuple" vs.toArray 0)).push (seqObj "list" #[] 0)).get? a=some (seqObj "list" #[] L):=by
  rw[jQ _ _ _ (by rw[size_push',Heap.size_update];exact wJ (v7 g)),jQ _ _ _ (by rw[Heap.size_update];exact wJ g)];exact F
 have keep:∀b o,s.heap.get? b=some o->o.cls = .type "tuple"->(((s.heap.update a (Obj.mapSeq λ_ => #[])).push (seqObj "tuple" vs.toArray 0)).push (seqObj "list" #[] 0)).get? b=some o:=λb o J Y=>by
  have t:b<s.heap.objs.size:=wC J;have O:b≠a:=by
   rintro rfl;rw[z] at J
   cases J
   exact absurd (show Value.type "list"=Value.type "tuple" from Y) (by decide)
  rw[jQ _ _ _ (by rw[size_push',Heap.size_update];exact wJ (v7 t)),jQ _ _ _ (by rw[Heap.size_update];exact wJ t),Heap.get?_update_ne _ _ _ _ O];exact J
 show wpAny (model prog w) A _ P E { s with heap:=((s.heap.update a (Obj.mapSeq λ_ => #[])).push (seqObj "tuple" vs.toArray 0)).push (seqObj "list" #[] 0) };dsimp only;have R:vs.toArray.size=vs.length:=by simp
 by_cases m:vs.toArray.size<2
 .rw[if_pos m,if_pos m];refine wc (wp ?_);rw[StateT.run_pure];refine wc (wp ?_);dsimp only;refine wc (seqEpoch_at d rfl ?_);have W:(arrOf (SortSt.mk' general' (vs.toArray.zip vs.toArray) #[] 7 none)).map (·.2)=vs.toArray:=by
   show (vs.toArray.zip vs.toArray).map (·.2)=_;apply Array.toList_inj.mp;simpa using List.map_snd_zip (l₁:=vs) (l₂:=vs) (ww _)
  rw[W];refine wc (listUpdate_at d rfl ?_ (vP _) (Nat.le_succ_of_le (by rw[R];exact U)));simp only[bne_self_eq_false,vq,jz];exact wp (h vs (List.Perm.refl _) (zf6 (by omega)))
 .rw[if_neg m,if_neg m];obtain⟨κ,ka,kk⟩:=Z A { s with heap:=((s.heap.update a (Obj.mapSeq λ_ => #[])).push (seqObj "tuple" vs.toArray 0)).push (seqObj "list" #[] 0) } keep;refine wc (kk (by omega) _ _ ?_);have H:∀i,i<vs.length->vs.getD i Value.none∈vs:=λi r=>by rw[ue,wm r];exact jF r
  refine wc (vS (kat_run (ks:=vs) (vs:=vs) (κ:=κ) (Q:=λf I=>I=_/\Ee1 λp=>Aa4 (Ok vs.length p) (Up (λi=>rk (vs.getD i Value.none)) p vs.length) (arrOf f=p.map (kas_item (vs.toArray.zip vs.toArray))) (failedOf f=none)) (G:=λp I=>Aa3 (I=_) (Ok vs.length p) (Up (λi=>rk (vs.getD i Value.none)) p vs.length)) rfl (by omega) M (λp f I _ g K ⟨e,o,u⟩=>⟨e,p,o,u,g,K⟩) (zmI (rk:=λi=>rk (vs.getD i Value.none)) (λi j C r T q=>ka _ (H i r) _ (H j T) C _ q) (by omega) λp o u=>⟨rfl,o,u⟩)) ?_ λ_ _ e=>e);rintro⟨⟨⟩,f⟩ I ⟨rfl,p,o,u,g,K⟩;dsimp only at g K ⊢;have X:=kat_snds (ks:=vs) (vs:=vs) rfl g;refine wc (seqEpoch_at d rfl ?_);rw[X];have S:p.toList.length=vs.length:=by rw[uo,z3O o]
  refine wc (listUpdate_at d rfl ?_ (vP _) (Nat.le_succ_of_le (by rw[v6,we,S];exact U)));rw[K];simp only[bne_self_eq_false,vq,jz];refine wp (h _ ?_ ?_)
  .have:=(Array.perm_iff_toList_perm.mp o).map λi=>vs.getD i Value.none;refine this.trans ?_;rw[show (List.range vs.length).toArray.toList.map (λi=>vs.getD i Value.none)=vs from List.ext_getElem (by simp) λi h1 m=>by simp[m]]
  .rw[w5,vk];intro i j r T N;have:=u i j (uL N) (by omega);unfold Rn at this;rw[uJ (by rw[z3O o];omega),uJ (by rw[z3O o];omega)] at this;simpa using this
def zmB (prog:Program)(w:World)(rk:Value->Nat)(Q:WvP)(vs:List Value)(d:Shared):Prop:=
 vs.length<64/\z5F prog w d.heap vs rk/\∀a:List Value,a.Perm vs->a.Pairwise (λx y=>rk x<=rk y)->
  ∀f,(∀b o,d.heap.get? b=some o->f.get? b=some o)->(∃e,f.get? d.heap.objs.size=some (seqObj "list" a.toArray e))->Q (.ref d.heap.objs.size) { d with heap:=f }
def z62 {v:Value}{Q:WvP}(i:∀E',wpAny (model prog w) A.in1 (collect v) (λvs a=>∃rk,zmB prog w rk Q vs a) E' s):wpAny (model prog w) A (call (.builtin "sorted") [v]) Q E s:=by
 refine Calls.call_function_entry kind_sorted plain_sorted entry_sorted (args_sorted1 _) ?_;unfold Builtin.«sorted»;refine wc (m:=checkCount "sorted" 1 1 _) (wp ?_);refine wc (vS (i _) (λvs a q =>?_) λ_ _ e=>e);obtain⟨rk,f,p,h⟩:=q;have n:vs.length<=sizeLine:=wV (uL f) (by decide);refine wc (wpAny_newList ?_ n);have d:(a.heap.push (seqObj "list" vs.toArray 0)).get? a.heap.objs.size=some (seqObj "list" vs.toArray 0):=wv _ rfl;have keep:∀b o,a.heap.get? b=some o->(a.heap.push (seqObj "list" vs.toArray 0)).get? b=some o:=λb o q=>wg _ q;show wpAny _ _ _ _ _ { a with heap:=a.heap.push (seqObj "list" vs.toArray 0) };refine wc (uc (v4 slot_list_sort ⟨_,d,rfl⟩ entry_list_sort (z92 d n f (p.keep keep) λl r t=>⟨_,rfl,?_⟩) (args_list_sort _)));refine wp ⟨_,rfl,h l r t _ (λb o g =>?_) ?_⟩
 .have j:b<a.heap.objs.size:=wC g;rw[sortedHeap_old (wJ j) (by rw[size_push'];exact v7 j)];exact keep b o g
 .exact sortedHeap_at d
def zmA (key:Value->List Int)(Q:WvP)(vs:List Value)(d:Shared):Prop:=
 vs.length<64/\(∀x∈vs,TI d.heap x (key x)/\key x≠[])/\∀a:List Value,a.Perm vs->a.Pairwise (λx y=>z0P (key y) (key x)=false)->
  ∀f,(∀b o,d.heap.get? b=some o->f.get? b=some o)->(∃e,f.get? d.heap.objs.size=some (seqObj "list" a.toArray e))->Q (.ref d.heap.objs.size) { d with heap:=f }
def z9J {v:Value}{key:Value->List Int}(a:∀E',wpAny (model prog w) A.in1 (collect v) (zmA key Q) E' s):wpAny (model prog w) A (call (.builtin "sorted") [v]) Q E s:=
 z62 λE'=>vS (a E') (λvs n ⟨l,f,h⟩=>⟨_,l,z5F.tups f,λd b m=>h d b (m.imp_of_mem λ{x y} g j i=>by
  rw[zaB (wf.mpr ⟨_,b.mem_iff.mp j,rfl⟩) (wf.mpr ⟨_,b.mem_iff.mp g,rfl⟩)]
  simp_all)⟩) λ_ _ e=>e
end
end Tim
namespace Tab
open PySem PySem.SetTable PyProof.Rows
def z6P:entryFor table "set.__iter__"=some Builtin.«frozenset.__iter__»:=
 entryFor_alias (id':="frozenset.__iter__") (by kernel_rfl) rfl (by decide +kernel) (by kernel_rfl)
def z1N:Slot "set_iterator" "__next__" "set_iterator.__next__":=
 .of (owner:="set_iterator") (n:="__next__") (by rfl) (by decide +kernel) (by decide +kernel) (by decide +kernel)
  (by first | exact .inl (by decide +kernel) | grind) (by rfl)
def z5s:Slot "set_iterator" "__iter__" "set_iterator.__iter__":=
 .of (owner:="set_iterator") (n:="__iter__") (by rfl) (by decide +kernel) (by decide +kernel) (by decide +kernel)
  (by first | exact .inl (by decide +kernel) | rfl) (by kernel_rfl)
def z4W:entryFor table "set_iterator.__next__"=some Builtin.«set_iterator.__next__»:=entryFor_of_fast (by kernel_rfl)
def z5z (a:Value):argsOk "set_iterator.__next__" ⟨[a],[]⟩:=by rfl
section
variable {prog:Program}{w:World}{A:Around}{E:WvP}{s:Shared}
def z2L (h:Heap)(it S:Addr)(a i n ep:Nat):Prop:=∃o,h.get? it=some o/\o.cls = .type "set_iterator"/\o.data = .fields #[.int a 0,.int i 0,.ref S,.int n 0,.int ep 0]
def z2L.typeIs {it S:Addr}{a i n ep:Nat}(x:z2L s.heap it S a i n ep):s.TypeIs (.ref it) "set_iterator":=let ⟨o,d,b,_⟩:=x;⟨o,d,b⟩
def z5B {t:SetTable}(b:s.heap.get? S=some o)(g:o.cls = .type "set")(d:o.data = .set es ep t)(e:t.fits es.size=true)(i:t.plain=true)
  (h:Q (.ref s.heap.objs.size) { s with heap:=s.heap.push { cls :=.type "set_iterator",data :=.fields #[.int 0 0,.int 0 0,.ref S,.int es.size 0,.int ep 0] } }):wpAny (model prog w) A (pyIter (.ref S)) Q E s:=by
 have f:s.TypeIs (.ref S) _:=⟨o,b,g⟩
 refine wpAny_pyIter_slot f F.slot_set_iter (v4 F.slot_set_iter f z6P ?_ (F.args_set_iter_1 _));show wpAny _ _ (Builtin.Frozenset.sizeOf S >>= _) _ _ s;refine wc (wc (wc (vW b d e (wp (wp ?_)))));refine wc (wc (vW b d e ?_));show wpAny _ _ (setsByText >>= λa=>pure (!a && (!t.plain && decide _))) _ _ s;refine wc (wc (jX (wp (wp ?_))));rw[i];simp only[Bool.not_true,Bool.false_and,Bool.and_false,vq,jz];refine wc (wp (wc (wc (vW b d e (wp ?_)))));exact wc (uv (wp ⟨_,rfl,"set_iterator",_,⟨_,wv _ rfl,rfl⟩,z1N.lookup,h⟩))
noncomputable def nxt (w:World)(S:Addr)(es:Array (Int × Value))(ep:Nat)(t:SetTable)(a i:Nat):Option (Value × Nat):=
 if w.params.followText "set-order"=true then ((pickOrder (w.params.setOrder S ep) es)[i]?).map λe=>(e.2,a) else
  match es[below t.place a]?, t.place[below t.place a]? with
  | some (_,x),some j=>some (x,j+1)
  | _,_=>none
def z4n {ep:Nat}{t:SetTable}{a i:Nat}(g:s.heap.get? S=some o)(e:o.data = .set es ep t)(f:t.fits es.size=true)(l:t.plain=true)(j:t.led = !w.params.followText "set-order")
  (h:Q (nxt w S es ep t a i) s):wpAny (model prog w) A (setNext S a i ep) Q E s:=by
 unfold setNext;refine wc (vW g e f ?_);show wpAny _ _ (setsByText >>= _) _ _ s;unfold setsByText;refine wc (wc (jX (wp ?_)));unfold nxt at h
 by_cases c:w.params.followText "set-order"=true
 .have d:(model prog w).w.params.followText "set-order"=true:=c;rw[if_pos c] at h;rw[if_pos d];rw[if_neg (by simp)];unfold setWalk;refine wc (wc (vW g e f ?_));show wpAny _ _ (setsByText >>= _) _ _ s;unfold setsByText;refine wc (wc (jX (wp ?_)));rw[if_pos d];exact wc (jX (wp (wp h)))
 .have d:¬ (model prog w).w.params.followText "set-order"=true:=c;rw[if_neg c] at h;rw[if_neg d];have b:t.led=true:=by rw[j];simpa using c
  show wpAny _ _ (if (!t.plain && decide (es.size > 1))=true then _ else _) _ _ s;rw[l,if_neg (by simp)];show wpAny _ _ ((if (!t.led && !es.isEmpty)=true then unsupported "set:maker-not-led" else pure PUnit.unit) >>= _) _ _ s;rw[b,if_neg (by simp)];exact wc (wp (wp h))
def z3D {ep:Nat}{t:SetTable}{d i a:Nat}(e:z2L s.heap it S d i es.size ep)
  (n:s.heap.get? S=some o) (l:o.data = .set es ep t) (m:t.fits es.size=true) (r:t.plain=true) (q:t.led = !w.params.followText "set-order") (u:nxt w S es ep t d i=some (x,a))
  (p:∀g,z2L g it S a (i+1) es.size ep->Heap.SameBut it s.heap g->Q (some x) { s with heap:=g }):wpAny (model prog w) A (pyNext (.ref it)) Q E s:=by
 obtain⟨y,f,h,b⟩:=id e;unfold pyNext;refine wc (j9 (vL e.typeIs z1N
  (v4 z1N e.typeIs z4W ?_ (z5z _))))
 show wpAny _ _ (fieldsOf (.ref it) >>= _) _ _ s;refine wc (wpAny_fieldsOf f b ?_);unfold setEntries;refine wc (wc (vW n l m (wp ?_)));rw[if_neg (by simp)];simp only[Int.toNat_natCast];refine wc (z4n n l m r q ?_);rw[u];dsimp only;refine wc (Wh f b (by simp) ?_);have j:=vJ (Obj.mapFields (·.setIfInBounds 0 (rawInt a))) f (Obj.isFreed_of_fields (uA b _));refine wc (Wh j (uA b _) (by simp) ?_);refine wp ⟨x,rfl,wp (p _ ?_ ((uH ..).trans (uH ..)))⟩;refine⟨_,vJ _ j (Obj.isFreed_of_fields (uA (uA b _) _)),((Obj.cls_mapFields ..).trans (Obj.cls_mapFields ..)).trans h,?_⟩;rw[uA (uA b _)];simp[rawInt]
def z4b {ep:Nat}{t:SetTable}{d i:Nat}(n:A.handled=none)(e:z2L s.heap it S d i es.size ep)
  (p:s.heap.get? S=some o) (j:o.data = .set es ep t) (l:t.fits es.size=true) (x:t.plain=true) (u:t.led = !w.params.followText "set-order") (y:nxt w S es ep t d i=none)
  (q:∀h,Heap.ExtBut it s.heap h->Q none { s with heap:=h }):wpAny (model prog w) A (pyNext (.ref it)) Q E s:=by
 obtain⟨z,g,r,f⟩:=id e;unfold pyNext;refine wc (j9 (vL (name:=Str.ofString "__next__") e.typeIs z1N
  (v4 z1N e.typeIs z4W ?_ (z5z _))))
 show wpAny _ _ (fieldsOf (.ref it) >>= _) _ _ s;refine wc (wpAny_fieldsOf g f ?_);show wpAny _ _ (setEntries S >>= _) _ _ s;unfold setEntries;refine wc (wc (vW p j l (wp ?_)));rw[if_neg (by simp)];show wpAny _ _ (setNext S (d:Int).toNat (i:Int).toNat (ep:Int).toNat >>= _) _ _ s;simp only[Int.toNat_natCast];refine wc (z4n p j l x u ?_);rw[y];dsimp only;refine wc (Wh g f (by simp) ?_);show wpAny _ _ (newExc (.type "StopIteration") [] >>= _) _ _ _;refine wc ?_;simp only[newExc,newTuple];refine wc (uv ?_ (by size_fits));refine wc (m:=firstArgMember _ _) (wpAny_of_eq (a:=Value.none) (by first | rfl | (simp only[firstArgMember];rfl)) ?_);refine uv ?_ (by size_fits);simp only[raiseNew];refine wc (wpAny_handled ?_)
 first | rw[show A.in1.handled=none from n] | rw[n]
 refine wc (wp (wpAny_throw ?_));refine wc (jY (T:="StopIteration") (b:=true) ⟨_,wv _ rfl,rfl⟩ isSubtype_stop ?_);exact wp (q _ (((uH ..).extBut.push _).push _))
end
theorem z8L {d:Type}(next:Nat->Nat):∀n k (left:List d) a,left.length=n->(pickOrder.go next n k left a).toList.Perm (a.toList++left)
 | 0,k,left,a,h=>by
  rw[List.eq_nil_of_length_eq_zero h,vT]
  rfl
 | n+1,k,left,a,h=>by
  have b:next k % left.length<left.length:=jp _ (by lia);rw[pickOrder.go,wm b];refine(z8L _ n _ _ _ (by rw[List.length_eraseIdx_of_lt b];lia)).trans ?_;rw[Array.toList_push,vH];refine jL _ ?_;show (left[next k % left.length]::left.eraseIdx _).Perm _;rw[List.eraseIdx_eq_take_drop_succ];refine(jW.symm).trans ?_;rw[<- uI b,jg]
def z6C {a:Type}(next:Nat->Nat)(xs:Array a):(pickOrder next xs).toList.Perm xs.toList:=by
 have:=z8L next xs.size 0 xs.toList #[] (by simp);simpa[pickOrder] using this
def ordE (w:World)(S:Addr)(es:Array (Int × Value))(ep:Nat):Array (Int × Value):=if w.params.followText "set-order"=true then pickOrder (w.params.setOrder S ep) es else es
def z8Q (w:World)(S:Addr)(es:Array (Int × Value))(ep:Nat):(ordE w S es ep).toList.Perm es.toList:=by
 unfold ordE
 split
 .exact z6C _ _
 rfl
def z68 (w:World)(S:Addr)(es:Array (Int × Value))(ep:Nat):(ordE w S es ep).size=es.size:=by
 rw[<- uo,(z8Q w S es ep).length_eq,uo]
noncomputable def z63 (w:World)(t:SetTable)(i:Nat):Nat:=if w.params.followText "set-order"=true then 0 else if i=0 then 0 else t.place.getD (i - 1) 0+1
def z7g {t:SetTable}(d:Rise t.place){i:Nat}(l:i<=t.place.size):below t.place (if i=0 then 0 else t.place.getD (i - 1) 0+1)=i:=by
 obtain⟨j,a,b⟩:=z5n d (if i=0 then 0 else t.place.getD (i - 1) 0+1);generalize below t.place (if i=0 then 0 else t.place.getD (i - 1) 0+1)=k at*
 by_cases e:i=0
 .subst e;rw[if_pos rfl] at a
  by_cases z:k=0
  .exact z
  .have:=a 0 (by lia);lia
 .rw[if_neg e] at a b
  by_cases c:k<i
  .have:=b (i - 1) (by lia) (by lia);lia
  .by_cases f:i<k
   .have g:=a i f;have h:=d (i - 1) i (by lia) (by lia);lia
   .lia
def zfv {t:SetTable}(f:Rise t.place)(hsz:t.place.size=es.size)(d:i<es.size):
  ∃e,(ordE w S es ep)[i]? = some e/\nxt w S es ep t (z63 w t i) i=some (e.2,z63 w t (i+1)):=by
 have a:i<(ordE w S es ep).size:=by rw[z68];exact d
 refine⟨(ordE w S es ep)[i],j1 _ i a,?_⟩;unfold nxt z63
 by_cases c:w.params.followText "set-order"=true
 .simp only[if_pos c];have b:ordE w S es ep=pickOrder (w.params.setOrder S ep) es:=by unfold ordE;rw[if_pos c]
  rw[<- b,j1 _ i a]
  rfl
 .simp only[if_neg c];have b:ordE w S es ep=es:=by unfold ordE;rw[if_neg c]
  rw[z7g f (by lia),j1 es i d,zoh (xs:=t.place) (by lia)];simp only[Nat.add_sub_cancel,if_neg (Nat.succ_ne_zero i)]
  congr 1
  simp only[b]
def ziA {t:SetTable}(b:Rise t.place)(hsz:t.place.size=es.size):nxt w S es ep t (z63 w t es.size) es.size=none:=by
 unfold nxt z63
 by_cases c:w.params.followText "set-order"=true
 .simp only[if_pos c];have a:ordE w S es ep=pickOrder (w.params.setOrder S ep) es:=by unfold ordE;rw[if_pos c]
  rw[<- a,getElem?_neg _ _ (by rw[z68];lia)]
  rfl
 .simp only[if_neg c];rw[z7g b (by lia),getElem?_neg es es.size (by lia)]
def z82:entryFor table "set_iterator.__iter__"=some Builtin.«dict_keyiterator.__iter__»:=
 entryFor_alias (id':="dict_keyiterator.__iter__") (by kernel_rfl) rfl (by decide +kernel) (by kernel_rfl)
def z9z (a:Value):argsOk "set_iterator.__iter__" ⟨[a],[]⟩:=by rfl
section
variable {prog:Program}{w:World}{A:Around}{E:WvP}{s:Shared}
def z5S {b i n ep:Nat}(a:z2L s.heap it S b i n ep)(h:Q (.ref it) s):wpAny (model prog w) A (pyIter (.ref it)) Q E s:=by
 refine wpAny_pyIter_slot a.typeIs z5s (v4 z5s a.typeIs z82 ?_ (z9z _));exact wp ⟨_,rfl,"set_iterator",_,a.typeIs,z1N.lookup,h⟩
theorem Walks.set (H:A.handled=none)(I S:Addr)(n:S≠I){o:Obj}{es:Array (Int × Value)}{ep:Nat}{t:SetTable}(p:o.data = .set es ep t)(q:t.fits es.size=true)(x:t.plain=true)(u:t.led = !w.params.followText "set-order")(y:Rise t.place)(hsz:t.place.size=es.size):
  Walks prog w A I [I,S] [I] es.size (λi v=>∃e,(ordE w S es ep)[i]? = some e/\v=e.2) (λi h=>z2L h I S (z63 w t i) i es.size ep/\h.get? S=some o) where
 sub:=λb d=>by simp at d;simp[d]
 frame:=λi h l a r=>⟨let ⟨K,F,G⟩:=a.1;⟨K,r I (by simp) _ F,G⟩,r S (by simp) _ a.2⟩
 item:=λi s Q E J a f=>by
  obtain⟨e,z,C⟩:=zfv (w:=w) (S:=S) (ep:=ep) y hsz J;refine z3D a.1 a.2 p q x u C λl g j =>?_;exact f _ l s.toks ⟨e,z,rfl⟩ ⟨g,j.extBut S _ n a.2⟩ λb o d e=>j.extBut b o (λh=>d (by simp[h])) e
 done:=λs Q E a f=>z4b H a.1 a.2 p q x u (ziA y hsz) λl m=>f l s.toks λb o d e=>m b o (λh=>d (by simp[h])) e
 self:=λ_ _ _ _ a f=>z5S a.1 f
def zak {t:SetTable}(hh:A.handled=none)(W:s.heap.get? S=some o)(N:o.cls = .type "set")(T:o.data = .set es ep t)(U:t.fits es.size=true)(X:t.plain=true)(hl:t.led = !w.params.followText "set-order")(hr:Rise t.place)(hsz:t.place.size=es.size)(hz:es.size<=sizeLine)
  (h:∀s',(∀b o,s.heap.get? b=some o->s'.heap.get? b=some o)->s'.gens=s.gens->s'.drawn=s.drawn->s'.os=s.os->s.toks<=s'.toks->Q ((ordE w S es ep).toList.map (·.2)) s'):wpAny (model prog w) A (collect (.ref S)) Q E s:=by
 have d:S<s.heap.objs.size:=wC W;unfold collect;refine wc (wpAny_runValue (uP F.entry_proto_collect ?_));rw[ug F.plain_proto_collect _];show wpAny _ A.in1 (newList [] >>= λl=>again (.builtin "list.__iadd__" ⟨[l,.ref S],[]⟩)) _ _ s;refine wc (uv ?_);refine wp ⟨uZ F.plain_list_iadd _,uP F.entry_list_iadd ?_⟩;rw[ug F.plain_list_iadd _];show wpAny _ A.in1 (Builtin.List.listExtendWith (.ref s.heap.objs.size) (.ref S) (.ref s.heap.objs.size)) _ _ _;unfold Builtin.List.listExtendWith;have j:(s.heap.push { cls :=.type "list",data :=.seq ([]).toArray }).get? S=some o:=wg _ W;have M:Shared.TypeIs { s with heap:=s.heap.push { cls :=.type "list",data :=.seq ([]).toArray } } (.ref S) "set":=⟨o,j,N⟩
 refine wc (Wi M ?_);have h1:Builtin.List.listSameRef (.ref s.heap.objs.size) (.ref S)=false:=by simp[Builtin.List.listSameRef];exact jr d
 have h2:(Value.type "set" == Value.type "list")=false:=by decide
 have h3:(Value.type "set" == Value.type "tuple")=false:=by decide
 simp only[h1,h2,h3,Bool.or_false,vq,jz];refine wc (z5B j N T U X ?_);refine wc (uc ?_);generalize G:s.heap.push { cls :=.type "list",data :=.seq ([]).toArray }=H at*;have q:H.objs.size=s.heap.objs.size+1:=by rw[<- G,vX]
 dsimp only;have u:Shared.TypeIs { s with heap:=H.push { cls :=.type "set_iterator",data :=.fields #[.int 0 0,.int 0 0,.ref S,.int es.size 0,.int ep 0] } } (.ref S) "set":=⟨o,wg _ j,N⟩
 unfold Builtin.List.listLengthHint;refine wc (wpAny_specialOf u F.slot_set_len.lookup ?_)
 wp_delta
 refine wc (jY (b:=true) u (by rw[isSubtype_type];kernel_rfl) ?_);show wpAny _ A.in1 (typeOf (Value.ref S) >>= _) _ _ _;refine wc (Wi u ?_);refine wp ?_;rw[if_pos (by decide)];refine wc (wpAny_rule ?_);refine wc ?_;show wpAny _ A.in1 (updateSeq s.heap.objs.size (·.push .none) >>= λ_=>updateSeq s.heap.objs.size (·.pop)) _ _ _;generalize I:({ cls :=.type "set_iterator",data :=.fields #[.int 0 0,.int 0 0,.ref S,.int es.size 0,.int ep 0] }:Obj)=io at*;have f:(H.push io).get? s.heap.objs.size=some { cls :=.type "list",data :=.seq ([]).toArray }:=wg _ (G ▸ wv _ rfl);refine wc (jM f rfl ?_);have g:=vJ (Obj.mapSeq (·.push Value.none)) f rfl;refine jM g rfl ?_;have r:=vJ (Obj.mapSeq (·.pop)) g rfl;have x:∀b o,b≠s.heap.objs.size->(H.push io).get? b=some o->(((H.push io).update s.heap.objs.size (Obj.mapSeq (·.push Value.none))).update s.heap.objs.size (Obj.mapSeq (·.pop))).get? b=some o:=
  λb o C e=>(vC _ _ (vN C)).trans ((vC _ _ (vN C)).trans e)
 have p:S≠s.heap.objs.size:=wJ d;have n:H.objs.size≠s.heap.objs.size:=by rw[q];exact jr (uW _)
 have K:S≠H.objs.size:=by rw[q];exact wJ (v7 d)
 have L:s.heap.objs.size ∉ [H.objs.size,S]:=by
  simp only[wn,wA,vA,not_or];exact⟨vN n,vN p⟩
 have O:(H.push io).get? H.objs.size=some io:=wv _ (by rw[<- I];rfl);refine wp ⟨uZ F.plain_extend_loop _,codeAny_extend_loopS (Walks.set (A:=A.in1) (w:=w) (prog:=prog) hh H.objs.size S K T U X hl hr hsz).toS hz _ L _ es.size 0 _ _ _ rfl (vP _)
  ⟨⟨io,x _ _ n O,by rw[<- I],by rw[<- I];simp[z63]⟩,x _ _ p (wg _ j)⟩ r (ItemsOf.nil _) λs' a c' z J i =>?_⟩
 show wpAny _ A (load s.heap.objs.size >>= _) _ _ s';refine wc (wpAny_load J ?_);have hq:a.toList=(ordE w S es ep).toList.map (·.2):=by
  apply List.ext_getElem?;intro k;rw[uQ,wO,uQ]
  by_cases R:k<es.size
  .have y:k<a.size:=by rw[i.1];exact R
   obtain⟨e,Z,e2⟩:=i.2 k a[k] (j1 a k y);rw[j1 a k y,Z,e2];rfl
  .rw[getElem?_neg a k (by rw[i.1];exact R),getElem?_neg (ordE w S es ep) k (by rw[z68];exact R)];rfl
 have m:=h s' (λb Y e=>z.heap b Y (λC =>?_) (x b Y (wJ (wC e)) (wg _ (G ▸ wg _ e)))) z.gens z.drawn z.os z.toks
 .rw[<- hq] at m;exact wp m
 .have d:=wC e
  rcases wn.mp C with h | h
  .exact absurd d (h ▸ vZ _)
  .rw[wj.mp h,q] at d;exact absurd d (Nat.not_lt.mpr (Nat.le_succ _))
def zbM {k:List Int}{vs:List Value}(h:ItemsAre (intKind prog w) k vs):IntsAre vs k:=by
 induction h with
 | nil=>exact .nil
 | cons a _ b=>
  obtain⟨t,rfl⟩:=Value.isInt_shape a;exact .cons _ _ b
def TK.ti {k:List Int}(x:TK prog w h k b):Tim.TI h (.ref b) k:=by
 obtain⟨o,z06,n,a,d,e,f⟩:=x;exact⟨b,o,z06,n,rfl,a,d,e,zbM f⟩
def zjo {v:Value}{k k':List Int}(x:Tim.TI h v k)(y:Tim.TI h v k'):k=k':=by
 obtain⟨a,o,z06,n,e,i,q,j,l⟩:=x;obtain⟨m,s,b,r,d,f,p,g3,g⟩:=y;rw[e] at d;cases d;rw[i] at f;cases f;rw[j] at g3;cases g3;exact(IntsAre.nums l).symm.trans (IntsAre.nums g)
def z7V (h:Heap)(v:Value):List Int:=by
 classical exact if c:∃k,Tim.TI h v k then c.choose else []
def z7U {v:Value}{k:List Int}(x:Tim.TI h v k):z7V h v=k:=by
 unfold z7V;have c:∃k,Tim.TI h v k:=⟨k,x⟩
 rw[dif_pos c];exact zjo c.choose_spec x
def zei (t:Two (IsK prog w M h) l m):l.map (z7V h)=m:=by
 induction t with
 | nil=>rfl
 | cons a _ d=>
  obtain⟨_,b,rfl,z⟩:=a;rw[wE,d,z7U (TK.ti z)]
def zbi (T:A.handled=none)(x:SetK prog w M s.heap S kl)(r:∀k∈kl,k≠[])(Y:kl.length<64)
  (h:∀s' (d:List Value),(∀b o,s.heap.get? b=some o->s'.heap.get? b=some o)->s'.gens=s.gens->s'.drawn=s.drawn->s'.os=s.os->s.toks<=s'.toks->
   (d.map (z7V s.heap)).Perm kl->(∀v∈d,M v/\Tim.TI s.heap v (z7V s.heap v))->(d.map (z7V s.heap)).Pairwise (λa b=>HT.z0P b a=false)->
   ∀D,s.heap.get? D=none->(∃e,s'.heap.get? D=some (seqObj "list" d.toArray e))->Q (.ref D) s'):wpAny (model prog w) A (call (.builtin "sorted") [.ref S]) Q E s:=by
 obtain⟨L,R,q,H⟩:=x.len;obtain⟨o,n,G,t,y,_⟩:=R.ex;have p:n.size=L.length:=by rw[y.tab.es];simp
 have f:=zei q;have l:∀v∈L.map (·.2.2),Tim.TI s.heap v (z7V s.heap v):=λv j=>by
  obtain⟨k,_,_,b,rfl,z⟩:=q.mem_left j;rw[z7U (TK.ti z)];exact TK.ti z
 have i:((ordE w S n G).toList.map (·.2)).Perm (L.map (·.2.2)):=by
  refine((z8Q w S n G).map (·.2)).trans ?_;rw[y.tab.es];simp only[wN];exact List.Perm.refl _
 refine Tim.z9J (key:=z7V s.heap) λX =>?_;refine zak (A:=A.in1) T y.get y.ex.1 y.data y.fits y.plain y.led y.tab.riseP (by rw[y.tab.place,p];simp) (wV (show n.size<=64 by omega) (by decide)) λF u I J g3 K =>?_;refine⟨by rw[i.length_eq,we];lia,λv j =>?_,λd C W N keep O =>?_⟩
 .have m:=i.mem_iff.mp j;refine⟨(l v m).keep λb o g _=>u b o g,r _ ?_⟩;rw[<- f];exact wf.mpr ⟨v,m,rfl⟩
 .refine h { F with heap:=N } d (λb o g=>keep b o (u b o g)) I J g3 K ?_ (λv j=>⟨(q.mem_left (i.mem_iff.mp (C.mem_iff.mp j))).choose_spec.2.1,l v (i.mem_iff.mp (C.mem_iff.mp j))⟩) (w5.mpr W) F.heap.objs.size ?_ O
  .rw[<- f];exact(C.trans i).map _
  .cases U:s.heap.get? F.heap.objs.size with
   | none=>rfl
   | some o=>exact absurd (wC (u _ _ U)) (vZ _)
end
end Tab
namespace Pu
open PySem PySem.Spec PyProof.Rows L2 Tab
def SetO (P:Program)(w:World)(a:Addr)(L:List (Rw Value))(h:Heap):Prop:=∃o b d t,h.get? a=some o/\o.ExactSet/\o.data = .set b d t/\TabW t b L/\L.length<=t.mask/\t.mask<=8191/\t.plain=true/\t.led=(!w.params.followText "set-order")/\L.length*5<t.mask*3
def Mem (K:W.Frag)(P:Program)(w:World)(G:Hp)(L:List (Rw Value))(a:List (List Int)):Prop:=Two (λr k=>∃b,r.2.2 = .ref b/\SqT K G b (k.map V.int)/\r.2.1=tupleKeyHash (intKind P w) k) L a
def Tis (K:W.Frag)(G:Hp)(xs:List V)(ks:List (List Int)):Prop:=Two (λx k=>∃b,x = .ref b/\SqT K G b (k.map V.int)) xs ks
def MemV (K:W.Frag)(G:Hp)(v:Value):Prop:=∃b k,v = .ref b/\SqT K G b ((k:List Int).map V.int)
def zc6 {a b:Type}{R:a->b->Prop}{l:List a}{m:List b}(h:Two R l m):l.length=m.length:=by
 induction h with
 | nil=>rfl
 | cons _ _ d=>simp[d]
theorem z9F {a d e:Type}{R:a->d->Prop}{f:e->a}:∀{l:List e}{m:List d},Two R (l.map f) m->Two (λc b=>R (f c) b) l m
 | [],_,h=>by cases h;exact .nil
 | c::l,_,h=>by
  cases h with
  | cons g i=>exact .cons g (z9F i)
theorem zdl {a d e:Type}{R:a->d->Prop}{f:e->a}:∀{l:List e}{m:List d},Two (λc b=>R (f c) b) l m->Two R (l.map f) m
 | [],_,h=>by cases h;exact .nil
 | c::l,_,h=>by
  cases h with
  | cons g i=>exact .cons g (zdl i)
def zhi {b d:Type}{R:b->d->Prop}{S:b->Prop}{l:List b}{m:List d}(h:Two R l m)(a:∀x∈l,S x):Two (λx y=>R x y/\S x) l m:=by
 induction h with
 | nil=>exact .nil
 | cons e _ g=>exact .cons ⟨e,a _ wF⟩ (g λx f=>a x (wq _ f))
def zem {K:W.Frag}{G:Hp}{R:Value->List Int->Prop}(e:∀b k,SqT K G b (k.map V.int)->R (.ref b) k){xs:List V}{ks:List (List Int)}(t:Tis K G xs ks):∀{a:List Value},Vals xs a->Two R a ks:=by
 induction t with
 | nil=>intro a r;cases r;exact .nil
 | cons d _ g=>
  intro a r;obtain⟨b,rfl,f⟩:=d
  cases r with
  | cons r1 r2=>
   cases r1
   exact .cons (e b _ f) (g r2)
def _root_.L2.HOk.none_of {P:Program}{w:World}{H:Hp}{h:Heap}{a:Addr}(x:HOk P w H h)(e:h.get? a=none):H a=none:=by
 cases q:H a with
 | none=>rfl
 | some u=>
  obtain⟨v,z⟩:=z2m.there (x a u q)
  grind
def _root_.L2.Inv.laid' {X:Cx}{H:Hp}{f:List (Addr × Obj)}{i:L2.St}{s:Shared}{g:Heap}{a:Addr}{o:HO}{t':Nat}(I:Inv X f i H s)(k:∀b u,s.heap.get? b=some u->g.get? b=some u)(j:s.heap.get? a=none)(new:z2m X.prog X.w (upd H a o) g a o):
  Inv X f i (upd H a o) { s with heap:=g,toks:=t' }:=by
 have l:=I.hok.none_of j;have ne:∀b u,s.heap.get? b=some u->b≠a:=λb u e z=>by grind
 have d:∀b u,H b=some u->b≠a:=λb u e z=>by grind
 refine I.un ⟨λb o e q _ _=>k b o e,λb o e q _ _=>⟨o.slots,k b o e⟩,λb o e q _=>by rw[z0d (ne b o e)];exact q,λb o e _=>⟨o,k b o e⟩,λb m e=>by rw[z0d (d b _ e)];exact e,λb o u e=>by rw[z0d (d b _ e)];exact e,λb ps e=>⟨#[],by rw[z0d (d b _ e)];exact e⟩⟩ λb u e =>?_
 by_cases h:b=a
 .subst h;rw[z0c] at e;grind
 .rw[z0d h] at e;exact(I.hok b u e).stay (k b) λc _ _ q=>by rw[z0d (d c _ q)];exact q
section
variable {X:Cx}{G H:Hp}{pins:List (Addr × Obj)}{σ:L2.St}{s:Shared}
theorem z78 {P:Program}:∀{ns:List Int}{a:List Value},Vals (ns.map V.int) a->ItemsAre (intKind P w) ns a
 | [],_,r=>by cases r;exact .nil
 | n::ns,_,r=>by
  cases r with
  | cons r1 r2=>
   obtain⟨t,rfl⟩:=r1;exact .cons (by simp[intKind,Value.isInt]) (z78 r2)
def z9H {b:Addr}{k:List Int}(I:Inv X pins σ H s)(g:Same G H)(h:SqT X.K G b (k.map V.int)):TK X.prog X.w s.heap k b:=by
 obtain⟨a,r,⟨o,f,d,n,e⟩,_⟩:=I.tuple (z0G g h);exact⟨o,a.toArray,n,f,d,e,by simpa using z78 r⟩
def zhu {kl:List (List Int)}(I:Inv X pins σ H s)(g:Same G H)(A:H p=some (.ext (SetO X.prog X.w p L)))(d:Mem X.K X.prog X.w G L kl)(E:kl.Nodup):SetK X.prog X.w (MemV X.K G) s.heap p kl:=by
 obtain⟨o,h,f,t,i,j,l,m,n,q,u,x,y⟩:SetO _ X.w p L _:=(I.hok p _ A).1;refine⟨⟨L,⟨o,h,f,t,⟨i,j,l,m,n,q,u,x,λr C =>?_⟩,y⟩,zdl (d.imp λr k ⟨b,e,a,_⟩=>⟨⟨b,k,e,a⟩,b,e,z9H I g a⟩)⟩,E⟩;obtain⟨k,_,b,e,a,z⟩:=Two.mem_left d C;exact⟨b,k,e,z9H I g a,z⟩
def rSet (K:W.Frag)(P:Program)(w:World):List V->Hp->VK->Prop:=λvs H Q=>∃G a b e,vs=[.ref a]/\Same G H/\(SqL K G a b\/SqT K G a b)/\Tis K G b e/\b.length<=63/\
 ∀p L d,H p=none->Mem K P w G L d->d.Nodup->(∀x,x∈d↔x∈e)->Q (.ref p) (upd H p (.ext (SetO P w p L)))
def zg3 (Z:X.calm=true)(hu:X.A.units+64<cLine):z15 X (.type "set") (rSet X.K X.prog X.w):=by
 rintro F s σ H xs us Q I rv ⟨G,a,ys,ks,e,g,l,ht,hl,q⟩;subst e;obtain⟨u,rfl,rx⟩:=z4p rv
 cases rx
 have W:X.A.handled=none:=I.ok.hd Z;have E:∀{f:List Value},Vals ys f->Two (IsK X.prog X.w (MemV X.K G) s.heap) f ks:=λr=>zem (λb k m=>⟨⟨b,k,rfl,m⟩,b,rfl,z9H I g m⟩) ht r;have fin:∀h' i h,SetK X.prog X.w (MemV X.K G) h' s.heap.objs.size h->(∀x,x∈h↔x∈ks)->(∀b o,b<s.heap.objs.size->s.heap.get? b=some o->h'.get? b=some o)->EP X F σ Q (.ref s.heap.objs.size) { s with heap:=h',toks:=i }:=by
  intro h' i h j C keep;have d:∀b o,s.heap.get? b=some o->h'.get? b=some o:=λb o e=>keep b o (wC e) e;obtain⟨L,⟨o,N,J,t,y,hf⟩,U⟩:=j.ex;have so:SetO X.prog X.w s.heap.objs.size L h':=⟨o,N,J,t,y.get,y.ex,y.data,y.tab,y.room,y.small,y.plain,y.led,hf⟩
  refine⟨.ref s.heap.objs.size,_,I.laid (o :=.ext (SetO X.prog X.w s.heap.objs.size L)) (t':=i) d (ww _) ⟨so,⟨o,y.get⟩,λh1 U ⟨o,N,J,t,z,r⟩ st=>⟨o,N,J,t,st _ z,r⟩⟩,rfl,q _ L h (I.hok.fresh (ww _)) ?_ j.nd C⟩;refine(zhi (z9F U) (S:=λr=>∃b k,r.2.2 = .ref b/\TK X.prog X.w h' k b/\r.2.1=tupleKeyHash (intKind X.prog X.w) k) y.key).imp λr k z9 =>?_;obtain⟨⟨⟨b,k1,O,m⟩,b2,R,z2⟩,b3,k3,T,z3,hk⟩:=z9;rw[O] at R T
  cases R;cases T
  have Y:TK X.prog X.w h' k1 b:=by
   obtain⟨o,it,n,w1,w2⟩:=z9H I g m;exact⟨o,it,n,d _ _ w1,w2⟩
  have:=Y.inj z2;subst this;have:=Y.inj z3;subst this;exact⟨b,O,m,hk⟩
 rcases l with l | l
 .obtain⟨f,r,pl,hz⟩:=I.list (z1y g l);have p:=r.length;exact z8b (M:=MemV X.K G) (ks:=ks) W (by lia) pl.isList (by simpa using E r) (by simp only[v6] <;> lia) λh' i h j _ C keep=>fin h' i h j C keep
 .obtain⟨f,r,pl,hz⟩:=I.tuple (z0G g l);have p:=r.length;exact z6Q (M:=MemV X.K G) (ks:=ks) W (by lia) pl (by simpa using E r) (by simp only[v6] <;> lia) λh' i h j _ C keep=>fin h' i h j C keep
def zk0 (K:W.Frag)(P:Program)(w:World):List V->Hp->VK->Prop:=λvs H Q=>∃G p L e,vs=[.ref p]/\Same G H/\H p=some (.ext (SetO P w p L))/\Mem K P w G L e/\e.Nodup/\(∀k∈e,k≠[])/\e.length<=63/\
 ∀D f d,H D=none->Tis K G f d->d.Perm e->d.Pairwise (λa b=>HT.z0P b a=false)->Q (.ref D) (upd H D (.lst f))
def zbX (E:X.calm=true):z15 X (.builtin "sorted") (zk0 X.K X.prog X.w):=by
 rintro A s σ H xs us Q I W ⟨G,p,L,S,e,g,N,J,T,l,hz,q⟩;subst e;obtain⟨u,rfl,Y⟩:=z4p W
 cases Y
 have hn:=z94;have F:(63)<=sizeLine:=by decide
 refine zbi (M:=MemV X.K G) (I.ok.hd E) (zhu I g N J T) l (by lia) λZ a keep t x g3 g4 perm i C D y h =>?_;obtain⟨e,h⟩:=h;obtain⟨h',g',d',n,U⟩:=Z;dsimp only at t x g3 keep h;subst t;subst x;subst g3;have f  := λv m=>(i v m).1;have O:∃d,Vals d a/\Tis X.K G d (a.map (z7V s.heap)):=by
  clear perm C h i
  induction a with
  | nil=>exact⟨[],.nil,.nil⟩
  | cons v a R=>
   obtain⟨d,j,r⟩:=R λv m=>f v (wq _ m);obtain⟨b,k,rfl,z⟩:=f v wF;refine⟨.ref b::d,.cons rfl j,.cons ⟨b,rfl,?_⟩ r⟩;rw[z7U (TK.ti (z9H I g z))];exact z
 obtain⟨d,j,r⟩:=O;have hl:d.length=S.length:=by rw[<- perm.length_eq,we,j.length]
 exact⟨.ref D,upd H D (.lst d),I.laid' (o :=.lst d) (t':=n) keep y ⟨by lia,a,e,j,h⟩,rfl,q D d _ (I.hok.none_of y) r perm C⟩
end
abbrev tupD (k:List Int):D :=.tup (k.map .int)
structure Rows (ks kl:List (List Int)):Prop where
 up:kl.Pairwise (λa b=>HT.z0P a b=true)
 mem:∀x,x∈kl↔x∈ks
def zco (d:D)(P:List (List Int)->Prop):Prop:=match d with
 | .lst l=>∃a,l=a.map tupD/\l.length<=63/\P a
 | .tup l=>∃a,l=a.map tupD/\l.length<=63/\P a
 | _=>False
def zbk {P P':List (List Int)->Prop}(m:∀k,P k->P' k)(h:zco d P):zco d P':=by
 cases d with
 | lst l=>obtain⟨e,a,b,c⟩:=h;exact⟨e,a,b,m _ c⟩
 | tup l=>obtain⟨e,a,b,c⟩:=h;exact⟨e,a,b,m _ c⟩
 | _=>exact h.elim
def zfI (d:D)(Q:DK):Prop:=zco d λb=>(∀k∈b,k≠[])/\∀a,Rows b a->Q (.lst (a.map tupD))
def z7D:Fn:=fn1 zfI λd Q b m h=>zbk (λe q=>⟨q.1,λa z=>m _ (q.2 a z)⟩) h
section
variable {X:Cx}{K:W.Frag}{mg:WmP}{E:XK}{G H:Hp}
theorem z7v:∀{ks:List (List Int)}{xs:List V},RDs K mg G (ks.map tupD) xs->Tis K G xs ks
 | [],_,h=>by subst h;exact .nil
 | k::ks,_,h=>by
  obtain⟨x,r,rfl,d,e⟩:=h;obtain⟨a,g,rfl,b,f⟩:=z1O d;rw[z42 k f] at b;exact .cons ⟨a,rfl,b⟩ (z7v e)
def zhn:∀{ks:List (List Int)}{xs:List V},Tis K G xs ks->RDs K mg G (ks.map tupD) xs:=by
 intro ks xs h
 induction h with
 | nil=>rfl
 | cons a _ e=>
  obtain⟨b,rfl,d⟩:=a;exact RDs.cons (RD.ofT d (z5O _)) e
def zet {d:D}{v:V}{P:List (List Int)->Prop}(r:RD K mg G d v)(h:zco d P):∃a xs ks,v = .ref a/\(SqL K G a xs\/SqT K G a xs)/\Tis K G xs ks/\xs.length<=63/\P ks:=by
 cases d with
 | lst l=>
  obtain⟨ks,rfl,f,q⟩:=h;obtain⟨a,xs,rfl,e,b⟩:=z2r r;exact⟨a,xs,ks,rfl,.inl e,z7v b,by rw[b.len];exact f,q⟩
 | tup l=>
  obtain⟨ks,rfl,f,q⟩:=h;obtain⟨a,xs,rfl,e,b⟩:=z1O r;exact⟨a,xs,ks,rfl,.inr e,z7v b,by rw[b.len];exact f,q⟩
 | _=>exact h.elim
def zgv {d:List (List Int)}(f:d.Nodup)(h:d.Pairwise (λa b=>HT.z0P b a=false)):d.Pairwise (λa b=>HT.z0P a b=true):=by
 induction d with
 | nil=>exact .nil
 | cons a l i=>
  rw[vd] at h ⊢;rw[vU] at f;refine⟨λb g =>?_,i f.2 h.2⟩
  cases z:HT.z0P a b with
  | true=>rfl
  | false=>
   have e  := Tim.za8 a b z (h.1 b g)
   simp_all
theorem z2k {d:Type}[DecidableEq d]:∀{l m:List d},l.Nodup->(∀x∈l,x∈m)->l.length<=m.length
 | [],_,_,_=>vP _
 | a::l,m,b,h=>by
  rw[vU] at b;have g:=h a wF;have:=z2k b.2 λx f=>(List.mem_erase_of_ne (λ(e:x=a)=>b.1 (by simp_all))).mpr (h x (wq _ f))
  grind
def zfE {ks a:List (List Int)}(d:a.Nodup)(h:∀x,x∈a↔x∈ks):a.length<=ks.length:=z2k d λx b=>(h x).mp b
def zbt {e:Expr}{x:Ex}{p1 J K p4:Pos}(hu:X.A.units+64<cLine)(R:X.calm=true)(hg:Gl X "sorted")(hm:X.mg "sorted"=none)(t:Gl X "set")(y:X.mg "set"=none)(ha:QXA X E [e] [x])
  (F:autoParam (sE e [] X) jA1) (h:autoParam (starEach [.Call (.Name "set" J) [e] [] K] X.env=(false,eval (.Call (.Name "set" J) [e] [] K) X.env)::starEach [] X.env) jA1):QF X E (.Call (.Name "sorted" p1) [.Call (.Name "set" J) [e] [] K] [] p4) (.op z7D [x]):=
 QE.imp (z5K (zbX R) hg hm (by rfl) (z67 (z4E (zg3 R hu) t y (by rfl) ha (by decide) (by decide) F (by rfl)) z8F h) (by decide) (by decide) h (by rfl)) <| by
  rintro σ H Q ⟨G,ρ,Z,M,hs,ab,hr,u,hx⟩;refine⟨G,ρ,λN=>z7D.run N Z M,M,hs,ab,hr,λN vs n g q g1 l g3 rds =>?_,hx⟩;obtain⟨d,rfl,q'⟩:=z1F q;obtain⟨v,rfl,rd⟩:=rds1 rds;obtain⟨a,Y,T,rfl,h1,O,h3,C,h4⟩:=zet rd q';refine⟨n,a,Y,T,rfl,l,h1,O,h3,λp L kl hp hM I b =>?_⟩;have m:Same g (upd g p (.ext (SetO X.prog X.w p L))):=z0n hp _;have S:T.length=Y.length:=(zc6 O).symm;refine⟨n,p,L,kl,rfl,z02 l m,z0c,hM,I,λk u=>C k ((b k).mp u),by have:=zfE I b;lia,λD j i r ht U pw =>?_⟩;have f:g D=none:=by
   cases z:g D with
   | none=>rfl
   | some o=>rw[m D o z] at r;cases r
  have s:H D=none:=by
   cases z:H D with
   | none=>rfl
   | some o=>rw[g3 D o z] at f;cases f
  have W:=z0n (H:=upd g p (.ext (SetO X.prog X.w p L))) r (.lst j);refine u (.lst (i.map tupD)) D n _ (h4 i ⟨zgv (U.nodup_iff.mpr I) pw,λz=>by rw[U.mem_iff];exact b z⟩) g1 (z02 l (z02 m W)) (z02 g3 (z02 m W)) s (z13 l f) ⟨j,z0c,zhn ht⟩
end
end Pu
namespace Rev
open PySem PyProof.Rows
def zlO:typeLookup (.type "list_reverseiterator") "__len__"=pure none:=by
 rfl
def zfF:typeLookup (.type "list_reverseiterator") "__length_hint__"=pure (some (.builtin "list_reverseiterator.__length_hint__")):=by
 rfl
section
variable {prog:Program}{w:World}{A:Around}{E:WvP}{s:Shared}{R:Result->Shared->Prop}{r:Addr}
def ziQ (a:s.TypeIs (.ref r) "list_reverseiterator")(q:Q false s):wpAny (model prog w) A (Builtin.List.listLengthHint (.ref r)) Q E s:=by
 unfold Builtin.List.listLengthHint;refine wc (wpAny_specialOf a zlO ?_);show wpAny _ A (specialOf (.ref r) (Str.ofString "__length_hint__") >>= _) Q E s;refine wc (wpAny_specialOf a zfF ?_);generalize d:("list_reverseiterator.__length_hint__")=e
 wp_delta
 rw[show splitId e=some ("list_reverseiterator","__length_hint__") from by rw[<- d];decide +kernel];refine wc (jY (b:=true) a (by rw[isSubtype_type];kernel_rfl) ?_);subst d;exact wp q
def zbS {h wr:List Addr}{P:Nat->Value->Prop}{St:Nat->Shared->Prop}(W:WalksS prog w A.in1 r h wr G n P St)(o:∀i s,St i s->s.TypeIs (.ref r) "list_reverseiterator")(S:Addr)(a:Value)(l:Nat)(st:St 0 s)(d:S ∉ h)(m:r∈h)(p:n<=sizeLine)
  (g:s.heap.get? S=some { cls :=.type "list",data :=.seq #[] l }) (q:∀s' b c,Moved (S::wr) G s s'->s'.heap.get? S=some { cls :=.type "list",dict:=none,data :=.seq b c,slots := #[] }->ItemsOf P b n->R (.ok (.ret a)) s'):
  wpAny (model prog w) A.in1 (Builtin.List.listExtendWith (.ref S) (.ref r) a) (λfin s'=>match fin with | .done f=>R (.ok f) s' | .again j=>j.quiet=true/\codeAny (model prog w) A j R s') (λe s'=>R (.error e) s') s:=by
 have ne:S≠r:=λe=>d (by simp_all);refine wc (Wi (o 0 s st) ?_);have t:Builtin.List.listSameRef (.ref S) (.ref r)=false:=by simp[Builtin.List.listSameRef,ne]
 have x:(Value.type "list_reverseiterator" == .type "list")=false:=by decide
 have u:(Value.type "list_reverseiterator" == .type "tuple")=false:=by decide
 rw[t,u];refine wc (W.self 0 s _ _ st (wc (uc (ziQ (o 0 s st) ?_))));exact wp ⟨uZ F.plain_extend_loop _,codeAny_extend_loopS W p S d a n 0 s #[] l rfl (vP _) st g (ItemsOf.nil P) q⟩
def zfG {j wr:List Addr}{P:Nat->Value->Prop}{St:Nat->Shared->Prop}(W:WalksS prog w A.in1 r j wr G n P St)(x:∀i s,St i s->s.TypeIs (.ref r) "list_reverseiterator")(S:Addr)(st:St 0 s)(h:S ∉ j)(g:r∈j)(p:n<=sizeLine)
  (d:s.heap.get? S=some { cls :=.type "list",data :=.seq #[] }) (q:∀s' a c,Moved (S::wr) G s s'->s'.heap.get? S=some { cls :=.type "list",dict:=none,data :=.seq a c,slots := #[] }->ItemsOf P a n->R (.ok (.ret .none)) s'):
  wpAny (model prog w) A.in1 (Builtin.«list.__init__» ⟨[.ref S,.ref r],[]⟩) (λfin s'=>match fin with | .done f=>R (.ok f) s' | .again m=>m.quiet=true/\codeAny (model prog w) A m R s') (λe s'=>R (.error e) s') s:=by
 show wpAny _ A.in1 (Builtin.List.listItems (.ref S) >>= λu=>Builtin.List.listUpdate (.ref S) _ >>= λ_=>letGo _ >>= λ_=>Builtin.List.listExtendWith (.ref S) (.ref r) .none) _ _ s;refine wc (wc (v9 d rfl (wp ?_)));refine wc (jM d rfl (wc (jN ?_)));have keep:∀b o,b≠S->s.heap.get? b=some o->(s.heap.update S (Obj.mapSeq λ_=>(#[]))).get? b=some o:=λb o z e=>by rw[vC _ _ (vN z)];exact e
 refine zbS W x S .none _ (W.frame 0 s _ s.toks st (ww _) λb l o e=>keep b o (λz=>h (z ▸ l)) e) h g p (vJ _ d rfl) λs' a c mv e t=>q s' a c ?_ e t;exact Moved.trans W.gtrans ((Moved.refl W.grefl).then_heap (ww _) λb o l e=>keep b o (λz=>l (by simp_all)) e) mv
end
end Rev
namespace Pu
open PySem PySem.Spec PyProof.Rows L2 Tab
def Ex.callv (T:Nat->Fn)(i:Nat)(es:List Ex):Ex:=⟨λb Q a=>∃n,b.get i=some (.fn n)/\runs es b (λd=>(T n).run d Q a) a,λb Q h a f m g ⟨n,e,q⟩=>⟨n,e,z3K es b _ _ a f (λd j=>(T n).mono d Q h a f m g j) g q⟩⟩
def FTab (P:Program)(w:World)(K:W.Frag)(mg:WmP)(a:Heap)(CX:CXT)(k:Nat)(T:Nat->Fn):Prop:=∀n f,mg (z6r n)=some (.ref f)->∃j b ps,j<=k/\FnOk P w K mg a CX j f b ps (spP K mg (T n))/\W.keepIn K (.ref f)=true/\z6S K b ps []
def FTab.mk {P:Program}{w:World}{K:W.Frag}{mg:WmP}{a:Heap}{CX:CXT}{k:Nat}{T:Nat->Fn}(g:mg ""=none)
  (h:∀n<4,∀f,mg (z6r n)=some (.ref f)->∃j b ps,j<=k/\FnOk P w K mg a CX j f b ps (spP K mg (T n))/\W.keepIn K (.ref f)=true/\z6S K b ps []):FTab P w K mg a CX k T:=λn f e=>by
 by_cases d:n<4
 .exact h n d f e
 .rw[show z6r n="" from by
   match n,d with
   | 0,h=>simp_all
   | 1,h=>simp_all
   | 2,h=>simp_all
   | 3,h=>simp_all
   | n+4,_=>rfl,g] at e
  cases e
def _root_.L2.Cal.tab {P:Program}{w:World}{K:W.Frag}{mg:WmP}{a:Heap}{CX:CXT}{j k:Nat}{x:Str}{ps:List Str}{F:Fn}(C:Cal P w K mg a CX j x ps (spP K mg F))(h:j<=k)(f:Addr)(e:mg x=some (.ref f)):∃j b ps,j<=k/\FnOk P w K mg a CX j f b ps (spP K mg F)/\W.keepIn K (.ref f)=true/\z6S K b ps []:=by
 obtain⟨m,b,d,l,i,g⟩:=C.ex;rw[l] at e;cases e;exact⟨j,b,ps,h,d,i,g⟩
section
variable {X:Cx}{E:XK}{CX:CXT}{e:Expr}{es:List Expr}{xs:List Ex}{pos:Pos}
def zjy (X:Cx)(CX:CXT)(E:XK)(i:Nat)(t:TA):TE:=λd H Q=>∃f a ps b k,d[i]? = some (some (.ref f))/\FnOk X.prog X.w X.K X.mg X.base CX k f a ps b/\Room k X.A/\W.keepIn X.K (.ref f)=true/\z6S X.K a ps []/\t d H λvs e=>b (vs++[]) e Q E
def zfg {t:TA}(G:z53 CX X E)(C:PE X (.Name x p) (tVar i))(o:PA X (e::es) t)(y:autoParam (sE e es X) jA1)(b:autoParam (bT pos es X) jA1):
  PE X (.Call (.Name x p) (e::es) [] pos) (zjy X CX E i t):=by
 rintro m s g H Q I ⟨f,O,ps,S,k,d,F,A,z,w,h⟩;refine j3 (thn (C _ s g H (λv a=>v = .ref f/\t g a _) I ⟨_,d,rfl,h⟩) λu L M =>?_);obtain⟨v,a,j,K,n,q⟩:=M;subst n
 cases K
 exact W.callWith_K j.ok.mod.kin z (thn (o pos _ L g a _ j q) λT R ⟨vs,N,l,r,J⟩=>⟨l.kIn,zgr F A w .nil G l r J⟩) y b
def zeU {k:Nat}(Z:FTab X.prog X.w X.K X.mg X.base CX k T)(S:Room k X.A)(Y:z53 CX X E)(W:QE X (.Name x p) (tVar i))(I:QXA X E (e::es) xs)
  (L:autoParam (sE e es X) jA1) (d:autoParam (bT pos es X) jA1):QX X E (.Call (.Name x p) (e::es) [] pos) (.callv T i xs):=
 ⟨PE.imp (zfg Y W.p I.p L d) <| by
  rintro σ H Q ⟨G,ρ,r,h,U,l,⟨n,R,g⟩,N,a⟩;obtain⟨v,z,C⟩:=l i _ R;obtain⟨f,rfl,O⟩:=C;obtain⟨j,t,ps,M,F,b,J⟩:=Z n f O;refine⟨f,t,ps,_,j,z,F,S.mono M,b,J,G,ρ,_,h,U,l,g,λs vs m o q u y g3 rds =>?_,a⟩;show spP X.K _ _ _ o Q E;rw[vT];exact⟨m,s,r,h,y,rds,q,N.same u g3,a.same g3⟩⟩
def zgA {n k:Nat}{ps:List Str}(j:z6r n=x)(b:Gl X x)(C:Cal X.prog X.w X.K X.mg X.base CX k x ps sp)(a:dB x):QX X E (.Name x p) (.c (.fn n)):=by
 obtain⟨f,g,e,d,i,h⟩:=C.ex;exact qx_c (v :=.ref f) ⟨zcZ b d rfl a⟩ λ_=>by rw[RD];simp_all
end
def _root_.L2.Inv.spent (I:Inv X pins σ (upd H r (.ext φ)) s)(M:H r=none)(G:X.s₀.heap.objs.size<=r)(k:∀b u,b≠r->s.heap.get? b=some u->h'.get? b=some u)(l:s.heap.get? a=none)
  (new:z2m X.prog X.w (upd H a o) h' a o):Inv X pins σ (upd H a o) { s with heap:=h',toks:=t' }:=by
 have n:upd H r (.ext φ) r=some (.ext φ):=z0c;have back:∀b u,upd H r (.ext φ) b=some u->(∀C,u ≠ .ext C)->H b=some u/\b≠r:=λb u e z=>by
  have f:b≠r:=λy=>by rw[y,n] at e;cases e;exact z φ rfl
  rw[z0d f] at e;exact⟨e,f⟩
 have g:=I.hok.none_of l;have t:a≠r:=λy=>by rw[y,n] at g;cases g
 have K:H a=none:=by rw[z0d t] at g;exact g
 have ne:∀b u,s.heap.get? b=some u->b≠a:=λb u e z=>by rw[z,l] at e;cases e
 have A:∀b u,H b=some u->b≠a:=λb u e z=>by rw[z,K] at e;cases e
 have d:∀b,upd H r (.ext φ) b=none->b≠r/\H b=none:=λb e=>by
  have f:b≠r:=λy=>by rw[y,n] at e;cases e
  rw[z0d f] at e;exact⟨f,e⟩
 have same:∀b u,upd H r (.ext φ) b=some u->(∀C,u ≠ .ext C)->upd H a o b=some u:=λb u e z=>by
  obtain⟨j,_⟩:=back b u e z;rw[z0d (A b u j)];exact j
 refine I.step (g':=s.gens) (d':=s.drawn) (ch:=[r]) (λb f =>?_) (λb u _ _ i e _=>k b u (λz=>i (by simp[z])) e) (λb u _ _ i e _=>⟨u.slots,k b u (λz=>i (by simp[z])) e⟩) (λb u _ e q=>by rw[z0d (ne b u e)];exact(d b q).2)
  (λb u i e=>⟨u,k b u (λz=>i (by simp[z])) e⟩) (λb N e=>same b _ e λ_=>nofun) (λb u v e=>same b _ e λ_=>nofun) (λb ps e=>⟨#[],by rw[same b _ e λ_=>nofun,Array.append_empty]⟩) (λm J =>?_) (λb u e =>?_) I.bare
 .have e:b=r:=by simpa using f
  subst e;exact⟨.inr G,(λz=>(d _ I.free).1 z.symm),λx c e=>(d c (I.freeC x c e)).1,λp l=>(d _ (I.pin p l).2.1).1⟩
 .obtain⟨u,F,E,L,q⟩:=J;exact⟨u,F,E,k _ u (d _ I.free).1 L,q⟩
 by_cases f:b=a
 .subst f;rw[z0c] at e;cases e;exact new
 rw[z0d f] at e;have h:b≠r:=λz=>by rw[z,M] at e;cases e
 have j:upd H r (.ext φ) b=some u:=by rw[z0d h];exact e
 exact(I.hok b u j).stay (λv q=>k b v h q) λc _ _ q=>same c _ q λ_=>nofun
def RevO (r a:Addr)(n:Nat)(h:Heap):Prop:=h.IsRevIter r a (n - 1)
section
variable {X:Cx}{E:XK}
def rRev (X:Cx):List V->Hp->VK->Prop:=λvs H Q=>∃a b,vs=[.ref a]/\SqL X.K H a b/\∀r,H r=none->X.s₀.heap.objs.size<=r->Q (.ref r) (upd H r (.ext (RevO r a b.length)))
def zg4:z15 X (.type "reversed") (rRev X):=by
 rintro f s z H w t Q I i ⟨a,y,e,g,q⟩;subst e;obtain⟨u,rfl,j⟩:=z4p i
 cases j
 obtain⟨h,r,pl,p⟩:=I.list g;have d:=r.length;refine call_reversed_list pl.isList ⟨.ref _,_,I.laid (o :=.ext _) (λb o e=>wg _ e) (ww _) ⟨⟨_,wv _ rfl,rfl,by simp[revObj,d]⟩,⟨_,wv _ rfl⟩,λm n x l=>x.at l⟩,rfl,q _ (I.hok.fresh (ww _)) I.sz⟩
def zeM (X:Cx):List V->Hp->VK->Prop:=λvs H Q=>∃r a e b,vs=[.ref r]/\H=upd b r (.ext (RevO r a e.length))/\b r=none/\X.s₀.heap.objs.size<=r/\SqL X.K b a e/\∀d,b d=none->Q (.ref d) (upd b d (.lst e.reverse))
def z9s (hc:X.calm=true):z15 X (.type "list") (zeM X):=by
 rintro a0 s σ H xs us Q I rv ⟨r,a,E,Z,e,eH,R,h0,J,q⟩;subst e;subst eH;have hS:=z1y (z0n R (.ext (RevO r a E.length))) J;obtain⟨u,rfl,rx⟩:=z4p rv
 cases rx
 have hh:X.A.handled=none:=I.ok.hd hc;obtain⟨g,C,pl,hz⟩:=I.list hS;have f:=C.length;have hR:s.heap.IsRevIter r a (E.length - 1):=(show z2m X.prog X.w _ s.heap r (.ext (RevO r a E.length)) from I.hok r _ z0c).1;have S:a≠r:=by
  obtain⟨o,ho,K,_⟩:=hR;obtain⟨o',p,l,_⟩:=pl.isList;intro z;rw[z,ho] at p;cases p;rw[K] at l
  injection l with h
  exact absurd h (by decide)
 have W:=(Walks.listRev (prog:=X.prog) (w:=X.w) (A:=X.A.in1.in1) (by simp[hh]) r a S g.toArray).toS;have sz:g.toArray.size=E.length:=by simp[f]
 refine callType_codes (Q₁:=λv s1=>v = .ref s.heap.objs.size/\s1={ s with heap:=s.heap.push { cls :=.type "list",data :=.seq #[] } }) F.called_list (F.typeCall_list_1 _) F.entry_list_init (code_list_new _ ⟨rfl,rfl⟩) λv s1 hv =>?_;obtain⟨rfl,rfl⟩:=hv;have hD:(s.heap.push { cls :=.type "list",data :=.seq #[] }).get? s.heap.objs.size=some { cls :=.type "list",data :=.seq #[] }:=wv _ rfl;have m:∀{b:Addr}{o:Obj},s.heap.get? b=some o->b≠s.heap.objs.size:=λe=>wJ (wC e);obtain⟨o1,t,L,M⟩:=hR;obtain⟨o2,x,n2⟩:=pl.isList;refine⟨⟨_,hD,rfl⟩,F.args_list_init_2 _ _,Rev.zfG (A:=X.A.in1) W (λi s st=>st.2.1.typeIs) s.heap.objs.size ⟨vP _,⟨o1,wg _ t,L,by rw[M,sz];simp⟩,⟨o2,wg _ x,n2⟩⟩ (by
  simp only[wn,wA,vA,not_or];exact⟨vN (m t),vN (m x)⟩) (by simp) (by rw[sz];exact hz) hD λs' d c mv G T=>⟨rfl,?_⟩⟩
 have keep:∀b o,b≠r->s.heap.get? b=some o->s'.heap.get? b=some o:=λb o hb e=>mv.heap b o (by
  simp only[wn,wA,vA,not_or];exact⟨m e,hb⟩) (wg _ e)
 obtain⟨h',g',d',Y,U⟩:=s';have eg:g'=s.gens:=mv.gens;have ed:d'=s.drawn:=mv.drawn;have eo:U=s.os:=mv.os;subst eg;subst ed;subst eo;have n:d.toList=g.reverse:=by
  apply List.ext_getElem?;intro k
  by_cases N:k<g.length
  .have j:k<d.size:=by rw[T.1,sz,f];exact N
   have:=T.2 k d[k] (j1 d k j);rw[uQ,j1 d k j,List.getElem?_reverse N, <- this];simp
  .have j:¬ k<d.size:=by rw[T.1,sz,f];exact N
   rw[uQ,getElem?_neg d k j,uO (by simp;lia)]
 have y:s.heap.get? s.heap.objs.size=none:=by
  cases z:s.heap.get? s.heap.objs.size with
  | none=>rfl
  | some o=>exact absurd (wC z) (vZ _)
 have O:Z s.heap.objs.size=none:=by
  have:=I.hok.none_of y
  cases z:Z s.heap.objs.size with
  | none=>rfl
  | some o=>rw[z0n R _ _ _ z] at this;cases this
 refine⟨.ref s.heap.objs.size,_,I.spent (o :=.lst E.reverse) (t':=Y) R h0 keep y ⟨by simpa using hz,g.reverse,c,C.reverse,?_⟩,rfl,q _ O⟩;rw[<- n];exact G
end
section
variable {X:Cx}{K:W.Frag}{mg:WmP}{E:XK}{G H:Hp}
def zfJ (d:D)(Q:DK):Prop:=isLs d λl=>Q (.lst l.reverse)
def z2c:Fn:=fn1 zfJ λd Q a m h=>z9b (λl q=>m _ q) h
def zdz {P:List D->Prop}(h:isLs d P):∃l,d = .lst l/\P l:=by
 cases d with
 | lst l=>exact⟨l,rfl,h⟩
 | _=>exact h.elim
def z58 (L:X.calm=true)(M:Gl X "list")(O:X.mg "list"=none)(i:Gl X "reversed")(j:X.mg "reversed"=none)(K:QXA X E [e] [x])
  (p:autoParam (sE e [] X) jA1) (f:autoParam (starEach [.Call (.Name "reversed" p2) [e] [] p3] X.env=(false,eval (.Call (.Name "reversed" p2) [e] [] p3) X.env)::starEach [] X.env) jA1):QF X E (.Call (.Name "list" p1) [.Call (.Name "reversed" p2) [e] [] p3] [] p4) (.op z2c [x]):=
 QE.imp (z4E (z9s L) M O (by rfl) (z67 (z4E zg4 i j (by rfl) K (by decide) (by decide) p (by rfl)) z8F f) (by decide) (by decide) f (by rfl)) <| by
  rintro Z H Q ⟨G,Y,C,t,S,F,R,N,T⟩;refine⟨G,Y,λu=>z2c.run u C t,t,S,F,R,λu vs y A q I g g3 rds =>?_,T⟩;obtain⟨d,rfl,U⟩:=z1F q;obtain⟨v,rfl,rd⟩:=rds1 rds;obtain⟨l,rfl,W⟩:=zdz U;obtain⟨a,s,rfl,w,J⟩:=z2r rd;refine⟨a,s,rfl,z1y g w,λr m n=>⟨r,a,s,A,rfl,rfl,m,n,z1y g w,λd b =>?_⟩⟩;have h:H d=none:=by
   cases z:H d with
   | none=>rfl
   | some o=>rw[g3 d o z] at b;cases b
  exact N (.lst l.reverse) d y _ W I (z02 g (z0n b _)) (z02 g3 (z0n b _)) h (z13 g b) ⟨s.reverse,z0c,J.rev⟩
def gIn (neg:Bool)(a b:D)(Q:DK):Prop:=match b with
 | .lst l=>Da 60 a/\(∀d∈l,Da 60 d)/\Q (.bl (if neg then !l.any (λd=>deq d a) else l.any (λd=>deq d a)))
 | .tup l=>Da 60 a/\(∀d∈l,Da 60 d)/\Q (.bl (if neg then !l.any (λd=>deq d a) else l.any (λd=>deq d a)))
 | _=>False
def zfL {neg:Bool}(a b:D)(Q Q':DK)(m:∀d,Q d->Q' d)(h:gIn neg a b Q):gIn neg a b Q':=by
 unfold gIn at h ⊢
 split at h
 .exact⟨h.1,h.2.1,m _ h.2.2⟩
 .exact⟨h.1,h.2.1,m _ h.2.2⟩
 grind
def pIn:Fn:=fn2 (gIn false) zfL
open Classical in
def z51 (I:Inv X pins σ H s)(g:Same G H)(hu:X.A.units+64<cLine){v:V}(S:RD X.K X.mg G a v)(T:RelV v u)(o:Da 60 a)(E:∀d∈l,Da 60 d)(rds:RDs X.K X.mg G l xs)(p:Vals xs its):
  ∃e:Value->Bool,(∀y∈its,SeqAt.EqAt X.A.in1 s y u (e y))/\its.any e=l.any (λd=>deq d a)/\∀(i:Nat) (y:Value) (d:D),its[i]? = some y->l[i]? = some d->e y=deq d a:=by
 obtain⟨F,r1⟩:=Rp.reads I (py a) ((Da.rp 60 _ o S).same g) T;have key:∀(d:D) (x:V) (y:Value),Da 60 d->RD X.K X.mg G d x->RelV x y->SeqAt.EqAt X.A.in1 s y u (deq d a):=λd x y b m z=>by
  obtain⟨bs,r2⟩:=Rp.reads I (py d) ((Da.rp 60 _ b m).same g) z;obtain⟨r,J⟩:=Da.canLay 60 d b;obtain⟨L,Y⟩:=Da.canLay 60 a o;exact SeqAt.eqAt_reads (py d) (py a) X.A.in1 s y u bs F r2 r1 r L (by
   have:min (py d).depth (py a).depth<=60:=wV (Nat.min_le_left _ _) J;have:X.A.in1.units<=X.A.units+1:=by simp
   lia)
 let e:Value->Bool:=λy=>if h:∃j bs,Reads s.heap y j bs/\j.canLay0=true then PyData.eqv h.choose (py a) else false
 have C:∀(d:D) (x:V) (y:Value),Da 60 d->RD X.K X.mg G d x->RelV x y->e y=deq d a:=λd x y b m z=>by
  obtain⟨bs,r2⟩:=Rp.reads I (py d) ((Da.rp 60 _ b m).same g) z;have r:=(Da.canLay 60 d b).1;have h:∃j bs,Reads s.heap y j bs/\j.canLay0=true:=⟨_,bs,r2,r⟩
  show (if h:∃j bs,Reads s.heap y j bs/\j.canLay0=true then PyData.eqv h.choose (py a) else false)=deq d a;rw[dif_pos h];obtain⟨Z,W,z2⟩:=h.choose_spec;rw[(Reads.unique W _ _ r2).1]
  rfl
 refine⟨e,?_⟩
 clear_value e
 induction l generalizing xs its with
 | nil=>
  rw[RDs] at rds;subst rds
  cases p
  exact⟨λy n=>(by cases n),rfl,λi y d h=>(by simp at h)⟩
 | cons d l R=>
  rw[RDs] at rds;obtain⟨x,U,rfl,b,m⟩:=rds
  cases p with
  | cons q p=>
   obtain⟨N,O,Q⟩:=R (λd o=>E d (wq _ o)) m p;have f:=E d wF;refine⟨λy n =>?_,by rw[List.any_cons,List.any_cons,C d x _ f b q,O],λi y M t w =>?_⟩
   rotate_left
   .cases i with
    | zero=>
     rw[u3] at t w
     cases t
     cases w
     exact C d x _ f b q
    | succ i=>exact Q i y M (by rwa [u4] at t) (by rwa [u4] at w)
   rcases wn.mp n with rfl | n
   .rw[C d x _ f b q];exact key d x _ f b q
   .exact N y n
def zny (r:X.A.units+64<cLine):OpR X (compareOp .In) (r2 X.K X.mg pIn):=by
 rintro t s N H x y v u Q I z C ⟨G,E,F,Q0,M,g,r1,r2,J,p⟩;have b:gIn false E F Q0:=J;unfold gIn at b
 split at b
 .obtain⟨i,j,q⟩:=b;obtain⟨a,L,rfl,l,m⟩:=z2r r2
  cases C
  obtain⟨d,o,pl,_⟩:=I.list (z1y g l);obtain⟨e,f,h,_⟩:=z51 I g r r1 z i j m o;refine SeqAt.in_listAt e pl.isList (λw n=>f w (by simpa using n)) ⟨.bl _,H,I,rfl,?_⟩;rw[show d.toArray.any e=d.any e by simp,h];exact p.now g q RD.bl'
 .obtain⟨i,j,q⟩:=b;obtain⟨a,L,rfl,l,m⟩:=z1O r2
  cases C
  obtain⟨d,o,pl,_⟩:=I.tuple (z0G g l);obtain⟨e,f,h,_⟩:=z51 I g r r1 z i j m o;refine SeqAt.in_tupleAt e pl (λw n=>f w (by simpa using n)) ⟨.bl _,H,I,rfl,?_⟩;rw[show d.toArray.any e=d.any e by simp,h];exact p.now g q RD.bl'
 .exact b.elim
def zau:∀{xs:List V}{ks:List (List Int)}{a:List Value}{i:Nat}{y:Value},Tis K G xs ks->Vals xs a->a[i]? = some y->∃b k,xs[i]? = some (.ref b)/\ks[i]? = some k/\y = .ref b/\SqT K G b (k.map V.int):=by
 intro xs ks a i y h
 induction h generalizing a i with
 | nil=>intro r e;cases r;simp at e
 | cons d _ g=>
  intro r e
  cases r with
  | cons r1 r2=>
   obtain⟨b,rfl,f⟩:=d
   cases i with
   | zero=>simp at e;subst e;cases r1;exact⟨b,_,rfl,rfl,rfl,f⟩
   | succ i=>simpa using g r2 (by simpa using e)
end
end Pu
namespace Pu
open PySem L2
def z05:Fn:=Fn.mkN 2 5 (.seq (.set 2 (.op pAbs [.v 0]))
 (.seq (.set 3 (.op pAbs [.v 1]))
 (.seq (.wh (.op pNe [.v 3,.c (.int 0)]) (.seq (.set 4 (.op pMod [.v 2,.v 3]))
 (.seq (.set 2 (.v 3))
 (.set 3 (.v 4)))))
 (.ret (.v 2)))))
def z1A:Fn:=Fn.mkN 2 2 (.ret (.op pSub [.op z0b [.op pIx [.v 0,.c (.int 0)],.op pIx [.v 1,.c (.int 1)]],.op z0b [.op pIx [.v 0,.c (.int 1)],.op pIx [.v 1,.c (.int 0)]]]))
def z0A:Fn:=Fn.mkN 2 2 (.ret (.op pTup [.op pSub [.op pIx [.v 1,.c (.int 0)],.op pIx [.v 0,.c (.int 0)]],.op pSub [.op pIx [.v 1,.c (.int 1)],.op pIx [.v 0,.c (.int 1)]]]))
def z3S:Fn:=Fn.mkN 3 3 (.ret (.op z1A [.op z0A [.v 0,.v 1],.op z0A [.v 1,.v 2]]))
def z9g:Fn:=Fn.mkN 3 5 (.seq (.set 3 (.op pSub [.op z0b [.op pIx [.v 1,.c (.int 0)],.op pIx [.v 2,.c (.int 2)]],.op z0b [.op pIx [.v 2,.c (.int 0)],.op pIx [.v 1,.c (.int 2)]]]))
 (.seq (.set 4 (.op pSub [.op z0b [.op pIx [.v 1,.c (.int 1)],.op pIx [.v 2,.c (.int 2)]],.op z0b [.op pIx [.v 2,.c (.int 1)],.op pIx [.v 1,.c (.int 2)]]]))
 (.ret (.op pAdd [.op pSub [.op z0b [.op pIx [.v 0,.c (.int 0)],.v 4],.op z0b [.op pIx [.v 0,.c (.int 1)],.v 3]],.op z0b [.op pIx [.v 0,.c (.int 2)],.op pSub [.op z0b [.op pIx [.v 1,.c (.int 0)],.op pIx [.v 2,.c (.int 1)]],.op z0b [.op pIx [.v 1,.c (.int 1)],.op pIx [.v 2,.c (.int 0)]]]]]))))
def z9h:Fn:=Fn.mkN 2 5 (.seq (.set 2 (.op pSub [.op z0b [.op pIx [.v 1,.c (.int 0)],.op pIx [.v 0,.c (.int 2)]],.op z0b [.op pIx [.v 0,.c (.int 0)],.op pIx [.v 1,.c (.int 2)]]]))
 (.seq (.set 3 (.op pSub [.op z0b [.op pIx [.v 1,.c (.int 1)],.op pIx [.v 0,.c (.int 2)]],.op z0b [.op pIx [.v 0,.c (.int 1)],.op pIx [.v 1,.c (.int 2)]]]))
 (.seq (.set 4 (.op z05 [.v 2,.v 3]))
 (.ret (.op pTup [.op z1w [.v 2,.v 4],.op z1w [.v 3,.v 4]])))))
def zae:Nat->Fn
 | 0=>z3S
 | 1=>z9g
 | 2=>z0A
 | 3=>z9h
 | _=>⟨λ_ _ _=>False,λ_ _ _ _ _ _ _ z=>z⟩
def z3d:Fn:=Fn.mkN 2 4 (.seq (.own 2 (.op pLst []))
 (.seq (.for_ [] (.nm 3) (.v 0) (.seq (.wh (.and (.op pGt [.op pLen [.v 2],.c (.int 1)]) (.op pLe [.callv zae 1 [.op pIx [.v 2,.op pNeg [.c (.int 2)]],.op pIx [.v 2,.op pNeg [.c (.int 1)]],.v 3],.c (.int 0)])) (.pop 2))
 (.app 2 (.v 3))))
 (.ret (.v 2))))
def z2B:Fn:=Fn.mkN 2 4 (.seq (.ifs (.op pLt [.op pLen [.v 0],.c (.int 2)]) (.ret (.op z1u [.v 0])) .skip)
 (.seq (.set 2 (.op z3d [.v 0,.v 1]))
 (.seq (.set 3 (.op z3d [.op z2c [.v 0],.v 1]))
 (.ret (.op z1u [.op pAdd [.sl (.v 2) none (some (.op pNeg [.c (.int 1)])),.sl (.v 3) none (some (.op pNeg [.c (.int 1)]))]])))))
def z0a:Fn:=Fn.mkN 1 1 (.ret (.op z2B [.op z7D [.v 0],.c (.fn 0)]))
def z0R:Fn:=Fn.mkN 2 2 (.ret (.op pAdd [.op z0b [.op pIx [.v 0,.c (.int 0)],.op pIx [.v 1,.c (.int 0)]],.op z0b [.op pIx [.v 0,.c (.int 1)],.op pIx [.v 1,.c (.int 1)]]]))
def z1Q:Fn:=Fn.mkN 2 2 (.ret (.op zim [.comp 1 [1] (.nm 0) (.v 0) none (.op z0R [.v 0,.v 1])]))
def z0m:Fn:=Fn.mkN 2 2 (.seq (.ifs (.op pLt [.v 1,.op pLen [.v 0]]) (.ret (.op pIx [.v 0,.v 1])) .skip)
 (.ret (.c (.int 0))))
def z0T:Fn:=Fn.mkN 2 2 (.ret (.op pTup [.op pAdd [.op pIx [.v 0,.c (.int 0)],.op pIx [.v 1,.c (.int 0)]],.op pAdd [.op pIx [.v 0,.c (.int 1)],.op pIx [.v 1,.c (.int 1)]]]))
def z2D:Fn:=Fn.mkN 1 1 (.ret (.op z0a [.comp 1 [0] (.nm 0) (.op pIx [.v 0,.c (.int 0)]) none (.op z0T [.v 0,.op pIx [.v 1,.c (.int 1)]])]))
open PySem.Spec PyProof.Rows
def Sm.never:Sm:=⟨λ_ _ _ _=>False,λ_ _ _ _ _ _ _ _ _ _ q=>q⟩
def zeQ {st:Stmt}:QZ X E st .never:=QS.imp zeY <| by rintro _ _ _ ⟨_,_,_,_,_,_,_,_,a,_⟩;exact a
section
variable {P:Program}{w:World}{K:W.Frag}{mg:WmP}{base:Heap}{f:Addr}{qual:Str}{N:List Str}
def fnM {st:Stmt}{ps:List Str}{k h g:Nat}(F:Fun K x qual st f fd)(S:z5p N ps (z0e st))
  (j:∀a A d s H E,Room k (A.deeper (envOfC qual (z0e st) s.heap.objs.size f a))->(A.deeper (envOfC qual (z0e st) s.heap.objs.size f a)).units+64<cLine->QZs ((cxOf (CXe P w) P w K mg base N qual (z0e st) f a A d s H E).wish λ_ _=>False) E0 (z21 st) b) (l:autoParam (ps.length=h) jA1) (i:autoParam (N.length=g) jA1):
  FnOk P w K mg base (CXe P w) (k+1) f fd ps (spP K mg (Fn.mkN h g b)):=fnN F S l i λa A d s H E e=>j a A _ s H E e e.units
end
def z2p:Fn:=Fn.mkN 2 7 (.seq (.set 2 (.op z05 [.op pIx [.v 0,.c (.int 1)],.op pIx [.v 1,.c (.int 1)]]))
 (.seq (.set 3 (.op z1w [.op pIx [.v 1,.c (.int 1)],.v 2]))
 (.seq (.set 4 (.op z1w [.op pIx [.v 0,.c (.int 1)],.v 2]))
 (.seq (.set 5 (.op pAdd [.op z0b [.op pIx [.v 0,.c (.int 0)],.v 3],.op z0b [.op pIx [.v 1,.c (.int 0)],.v 4]]))
 (.seq (.set 6 (.op z05 [.v 2,.v 5]))
 (.ret (.op pTup [.op z1w [.v 5,.v 6],.op z0b [.v 4,.op z1w [.op pIx [.v 1,.c (.int 1)],.v 6]]])))))))
def z0q:Fn:=Fn.mkN 1 4 (.seq (.set 1 (.op pTup [.c (.int 0),.c (.int 1)]))
 (.seq (.for_ [] (.tp [2,3]) (.v 0) (.set 1 (.op z2p [.v 1,.v 3])))
 (.ret (.v 1))))
def z49:Fn:=Fn.mkN 1 1 (.ret (.and (.op pGt [.op pIx [.v 0,.c (.int 0)],.c (.int 0)]) (.and (.op pGt [.op pIx [.v 0,.c (.int 1)],.c (.int 0)]) (.op pEq [.op z05 [.op pIx [.v 0,.c (.int 0)],.op pIx [.v 0,.c (.int 1)]],.c (.int 1)]))))
def z0C:Fn:=Fn.mkN 2 5 (.seq (.set 2 (.op pNeg [.c (.int 1)]))
 (.seq (.for_ [] (.tp [3,4]) (.v 1) (.seq (.ifs (.or (.op pLe [.v 3,.v 2]) (.or (.op pGeI [.v 3,.op pLen [.v 0]]) (.not (.op z49 [.v 4])))) (.ret (.c (.bl false))) .skip)
 (.set 2 (.v 3))))
 (.ret (.c (.bl true)))))
def z14:Fn:=Fn.mkN 2 8 (.seq (.set 2 (.op z05 [.op pIx [.v 0,.c (.int 2)],.op pIx [.v 1,.c (.int 2)]]))
 (.seq (.set 3 (.op z1w [.op pIx [.v 1,.c (.int 2)],.v 2]))
 (.seq (.set 4 (.op z1w [.op pIx [.v 0,.c (.int 2)],.v 2]))
 (.seq (.set 5 (.op pAdd [.op z0b [.op pIx [.v 0,.c (.int 0)],.v 3],.op z0b [.op pIx [.v 1,.c (.int 0)],.v 4]]))
 (.seq (.set 6 (.op pAdd [.op z0b [.op pIx [.v 0,.c (.int 1)],.v 3],.op z0b [.op pIx [.v 1,.c (.int 1)],.v 4]]))
 (.seq (.set 7 (.op z05 [.op z05 [.v 2,.v 5],.v 6]))
 (.ret (.op pTup [.op z1w [.v 5,.v 7],.op z1w [.v 6,.v 7],.op z0b [.v 4,.op z1w [.op pIx [.v 1,.c (.int 2)],.v 7]]]))))))))
def z2g:Fn:=Fn.mkN 3 4 (.seq (.set 3 (.op z05 [.op z05 [.v 2,.v 0],.v 1]))
 (.ret (.op pTup [.op z1w [.v 0,.v 3],.op z1w [.v 1,.v 3],.op z1w [.v 2,.v 3]])))
def z0B:Fn:=Fn.mkN 2 2 (.ret (.op z2g [.op z0b [.op pIx [.v 0,.c (.int 0)],.op pIx [.v 1,.c (.int 0)]],.op z0b [.op pIx [.v 0,.c (.int 1)],.op pIx [.v 1,.c (.int 0)]],.op z0b [.op pIx [.v 0,.c (.int 2)],.op pIx [.v 1,.c (.int 1)]]]))
def z2W:Fn:=Fn.mkN 2 6 (.seq (.ifs (.not (.op z0C [.v 0,.v 1])) .never .skip)
 (.seq (.set 2 (.op pTup [.c (.int 0),.c (.int 0),.c (.int 1)]))
 (.seq (.for_ [] (.tp [3,4]) (.v 1) (.seq (.set 5 (.op pIx [.v 0,.v 3]))
 (.set 2 (.op z14 [.v 2,.op z0B [.op pTup [.op pIx [.v 5,.c (.int 0)],.op pIx [.v 5,.c (.int 1)],.c (.int 1)],.v 4]]))))
 (.ret (.v 2)))))
def z0f:Fn:=Fn.mkN 2 3 (.seq (.set 2 (.op pAdd [.op z0b [.c (.int 2),.v 1],.c (.int 1)]))
 (.ret (.op pTup [.op pSub [.op pMod [.v 0,.v 2],.v 1],.op pSub [.op pMod [.op z1w [.v 0,.v 2],.v 2],.v 1]])))
def z0v:Fn:=Fn.mkN 1 7 (.seq (.set 1 (.op pIx [.op pLst [.c (.int 3),.c (.int 12),.op pPow [.c (.int 10),.c (.int 9)]],.op pMod [.op z1w [.op pIx [.v 0,.c (.int 0)],.c (.int 2)],.c (.int 3)]]))
 (.seq (.own 2 (.op pLst []))
 (.seq (.set 3 (.c (.int 1)))
 (.seq (.wh (.and (.op pLt [.v 3,.op zbw [.op pLen [.v 0],.c (.int 61)]]) (.op pLt [.op pLen [.v 2],.c (.int 12)])) (.seq (.set 4 (.op pAdd [.c (.int 1),.op pMod [.op pIx [.v 0,.v 3],.c (.int 12)]]))
 (.seq (.set 5 (.op z1w [.op pIx [.v 0,.v 3],.c (.int 12)]))
 (.seq (.own 6 (.op pLst [.op z0f [.v 5,.v 1]]))
 (.seq (.ext 6 (.comp 1 [1] (.nm 0) (.sl (.v 0) (some (.op pAdd [.v 3,.c (.int 1)])) (some (.op zbw [.op pAdd [.v 3,.v 4],.c (.int 61)]))) none (.op z0f [.v 0,.v 1])))
 (.seq (.app 2 (.op pTup [.op z1u [.v 6],.op z0f [.op z1w [.v 5,.op pPow [.op pAdd [.op z0b [.c (.int 2),.v 1],.c (.int 1)],.c (.int 2)]],.v 1]]))
 (.set 3 (.op pAdd [.v 3,.v 4]))))))))
 (.ret (.op z1u [.v 2]))))))
def z00:Fn:=Fn.mkN 3 5 (.seq (.set 3 (.c (.int 170141183460469231731687303715884105727)))
 (.seq (.set 4 (.op pMod [.op z0b [.op pAdd [.op pMod [.v 0,.v 3],.op z0b [.op pAdd [.v 1,.c (.int 3)],.c (.int 1000000007)]],.c (.int 105172331949523456789012345678901234567)],.v 3]))
 (.seq (.set 4 (.op pMod [.op z0b [.v 4,.v 4],.v 3]))
 (.ret (.op pMod [.op z1w [.op pMod [.op z0b [.op pAdd [.v 4,.v 1],.c (.int 83492791123456789012345678901234567891)],.v 3],.c (.int 7)],.v 2])))))
def z0Q:Fn:=Fn.mkN 3 4 (.seq (.ifs (.op z75 [.v 2,.c .non]) (.seq (.set 3 (.op pSub [.op z00 [.v 0,.c (.int 2),.c (.int 7)],.c (.int 3)]))
 (.ret (.op pTup [.op z0b [.op pIx [.v 2,.c (.int 0)],.v 3],.op z0b [.op pIx [.v 2,.c (.int 1)],.v 3]]))) .skip)
 (.ret (.op pTup [.op pSub [.op z00 [.v 0,.c (.int 2),.op pAdd [.op z0b [.c (.int 2),.v 1],.c (.int 1)]],.v 1],.op pSub [.op z00 [.v 0,.c (.int 3),.op pAdd [.op z0b [.c (.int 2),.v 1],.c (.int 1)]],.v 1]])))
def z0E:Fn:=Fn.mkN 1 10 (.seq (.set 1 (.op z0m [.v 0,.c (.int 0)]))
 (.seq (.ifs (.op pEq [.op pMod [.v 1,.c (.int 2)],.c (.int 1)]) (.ret (.op z0v [.v 0])) .skip)
 (.seq (.set 2 (.op pIx [.op pLst [.c (.int 3),.c (.int 3),.c (.int 12),.op pPow [.c (.int 10),.c (.int 9)]],.op z00 [.v 1,.c (.int 1),.c (.int 4)]]))
 (.seq (.set 3 (.c .non))
 (.seq (.ifs (.op pEq [.op z00 [.v 1,.c (.int 4),.c (.int 5)],.c (.int 0)]) (.set 3 (.op pTup [.op pSub [.op z00 [.v 1,.c (.int 5),.c (.int 7)],.c (.int 3)],.op pSub [.op z00 [.v 1,.c (.int 6),.c (.int 7)],.c (.int 3)]])) .skip)
 (.seq (.set 4 (.op pIx [.op pLst [.c (.int 3),.c (.int 3),.c (.int 5),.c (.int 12)],.op z00 [.v 1,.c (.int 8),.c (.int 4)]]))
 (.seq (.own 5 (.op pLst []))
 (.seq (.set 6 (.c (.int 1)))
 (.seq (.wh (.and (.op pLt [.v 6,.op zbw [.op pLen [.v 0],.c (.int 61)]]) (.op pLt [.op pLen [.v 5],.c (.int 12)])) (.seq (.set 7 (.op pAdd [.c (.int 1),.op z00 [.op pIx [.v 0,.v 6],.c (.int 7),.v 4]]))
 (.seq (.own 8 (.comp 1 [2,3] (.nm 0) (.sl (.v 0) (some (.v 6)) (some (.op zbw [.op pAdd [.v 6,.v 7],.c (.int 61)]))) none (.op z0Q [.v 0,.v 1,.v 2])))
 (.seq (.set 9 (.op pTup [.c (.int 0),.c (.int 0)]))
 (.seq (.ifs (.op pEq [.op z00 [.op pIx [.v 0,.v 6],.c (.int 9),.c (.int 2)],.c (.int 1)]) (.set 9 (.op z0Q [.op pAdd [.op pIx [.v 0,.v 6],.c (.int 1)],.v 2,.v 3])) .skip)
 (.seq (.app 5 (.op pTup [.op z1u [.v 8],.v 9]))
 (.set 6 (.op pAdd [.v 6,.v 7]))))))))
 (.ret (.op z1u [.v 5])))))))))))
def z20:Fn:=Fn.mkN 2 2 (.ret (.op pSum [.comp 2 [1] (.tp [0,1]) (.v 0) none (.op pAdd [.op z1Q [.v 0,.v 2],.op z0R [.v 1,.v 2]])]))
end Pu
namespace Zp
open PySem PySem.Spec PyProof.Rows L2
section
variable {prog:Program}{w:World}{A:Around}{E:WvP}{s:Shared}
def nx {j t:Addr}{n:Nat}{xs:Array Value}{x:Value}{Q:WvP}(it:s.heap.IsTupleIter j t n)(i:s.heap.IsTuple t xs)(e:xs[n]? = some x)
  (q:∀d,d.IsTupleIter j t (n+1)->Heap.SameBut j s.heap d->Q x { s with heap:=d }):wpAny (model prog w) A (Builtin.SmallTypes.nextOf (.ref j)) Q E s:=by
 obtain⟨m,g,f,a⟩:=id it;obtain⟨o,h,_,l,b⟩:=i;refine wc (vL it.typeIs ja (v4 ja it.typeIs F.entry_tuple_iterator_next ?_ (F.args_tuple_iterator_next_1 _)));show wpAny _ _ (PySem.field _ 0 >>= _) _ _ s;refine wc (vV g a rfl ?_);refine wc (vV g a rfl ?_);refine wc (v9 h b ?_);simp[Int.toNat_natCast,e];refine wc (Wh g a (by simp) (wp ⟨x,rfl,wp (q _ ⟨_,vJ _ g (Obj.isFreed_of_fields (uA a _)),(Obj.cls_mapFields ..).trans f,by rw[uA a];rfl⟩ (uH ..))⟩))
def nxE {j t:Addr}{n:Nat}{xs:Array Value}{Q:WvP}(h:A.handled=none)(it:s.heap.IsTupleIter j t n)(l:s.heap.IsTuple t xs)(e:xs[n]? = none)
  (q:∀f z,Heap.ExtBut j s.heap f->(∃o,f.get? z=some o/\o.cls = .type "StopIteration")->E (.ref z) { s with heap:=f }):wpAny (model prog w) A (Builtin.SmallTypes.nextOf (.ref j)) Q E s:=by
 obtain⟨u,g,p,b⟩:=id it;obtain⟨y,i,_,r,d⟩:=l
 delta Builtin.SmallTypes.nextOf
 refine wc (vL (name:=Str.ofString "__next__") it.typeIs ja (v4 ja it.typeIs F.entry_tuple_iterator_next ?_ (F.args_tuple_iterator_next_1 _)));show wpAny _ _ (PySem.field (.ref j) 0 >>= _) _ _ s;refine wc (vV g b (x :=.ref t) rfl ?_);rw[if_neg (show ¬ (Value.ref t == Value.none)=true from vI)];refine wc (vV g b (x :=.int n 0) rfl ?_);show wpAny _ _ (seqItems? (.ref t) >>= λ_=>_) _ _ s;refine wc (v9 i d ?_);simp only[Int.toNat_natCast,e];refine wc (wpAny_rule (wc (Wh g b (by simp) (show wpAny _ _ (newExc (.type "StopIteration") [] >>= λ_=>_) _ _ _ from wc ?_))));simp only[newExc,newTuple];refine wc (uv (wc (m:=firstArgMember _ _) (wpAny_of_eq (a:=Value.none) (by first | rfl | (simp only[firstArgMember];rfl)) (uv ?_ (by size_fits)))) (by size_fits));simp only[raiseNew];refine wc (wpAny_handled ?_)
 first | rw[show A.in1.handled=none from h] | rw[h]
 exact wc (wp (wpAny_throw (q _ _ (((uH ..).extBut.push _).push _) ⟨_,wv _ rfl,rfl⟩)))
structure St (h:Heap)(z TI TO i1 i2 t1 t2:Addr)(f:Value)(n:Nat):Prop where
 z:IsZip h z TI TO f
 ti:IsPair h TI (.ref i1) (.ref i2)
 to:∃a b,IsPair h TO a b
 a:h.IsTupleIter i1 t1 n
 b:h.IsTupleIter i2 t2 n
def tat {h a:Heap}{t:Addr}{xs:Array Value}(x:h.IsTuple t xs)(k:∀o,h.get? t=some o->a.get? t=some o):a.IsTuple t xs:=by
 obtain⟨o,e,r⟩:=x;exact⟨o,k o e,r⟩
variable {z TI TO i1 i2 t1 t2:Addr}{n:Nat}{xs ys:Array Value}{x y:Value}
def item {Q:Option Value->Shared->Prop}(D:ZipApart z TI TO i1 i2 t1 t2)(S:St s.heap z TI TO i1 i2 t1 t2 .none n)(hx:s.heap.IsTuple t1 xs)(hy:s.heap.IsTuple t2 ys)(ex:xs[n]? = some x)(ey:ys[n]? = some y)
  (q:∀i,St i z TI TO i1 i2 t1 t2 (rawInt s.heap.objs.size) (n+1)->IsPair i s.heap.objs.size x y->i.objs.size=s.heap.objs.size+1->(∀c o,c≠z->c≠TO->c≠i1->c≠i2->s.heap.get? c=some o->i.get? c=some o)->Q (some (.ref s.heap.objs.size)) { s with heap:=i }):
  wpAny (model prog w) A (pyNext (.ref z)) Q E s:=by
 obtain⟨sz,m,⟨pa,pb,L⟩,sa,sb⟩:=S;have X:s.TypeIs (.ref z) "zip":=⟨_,sz,rfl⟩
 delta pyNext
 refine wc (j9 (vL (name:=Str.ofString "__next__") X F.slot_zip_next (v4 F.slot_zip_next X F.entry_zip_next ?_ (F.args_zip_next_1 _))));show wpAny _ _ (PySem.field (.ref z) 2 >>= λ_=>_) _ _ _;refine wc (vV sz rfl (x :=.bool false) rfl (show wpAny _ _ (PySem.field (.ref z) 3 >>= λ_=>_) _ _ _ from wc (vV sz rfl (x :=.ref TI) rfl (wc (v9 m rfl ?_)))));show wpAny _ _ (Builtin.SmallTypes.ownedTupleIsFree (.ref z) >>= λ_=>_) _ _ _;refine wc ?_
 delta Builtin.SmallTypes.ownedTupleIsFree
 refine wc (vV sz rfl (x:=Value.none) rfl (wp ?_));simp only[jI];refine wc (wpAny_rule (wc (vV sz rfl (x:=Value.ref TO) rfl (wc (vY sz (by simp) λg1 M d =>?_)))))
 replace M:IsZip g1 z TI TO .ellipsis:=M
 refine wc ?_;simp only[List.zipIdx_cons,List.zipIdx_nil,List.forIn_cons,List.forIn_nil];refine wc (wc (wpAny_onRaise (show wpAny _ _ (Builtin.SmallTypes.nextOf (.ref i1) >>= λ_=>_) _ _ _ from wc (nx (sa.extBut d.extBut D.i1z) (tat hx λo e=>d.extBut _ _ D.l1z e) ex λg2 Z f=>wp ?_))));have R:IsPair g2 TO pa pb:=f.extBut _ _ D.TOi1 (d.extBut _ _ D.TOz L);refine wc (v9 R rfl (wc (wpAny_updateSeq_pair R λg3 K g =>?_)))
 replace K:IsPair g3 TO x pb:=K
 refine wc (jN (wp ?_));refine wc (wc (wpAny_onRaise (show wpAny _ _ (Builtin.SmallTypes.nextOf (.ref i2) >>= λ_=>_) _ _ _ from wc (nx (((sb.extBut d.extBut D.i2z).extBut f.extBut D.i12.symm).extBut g.extBut D.TOi2.symm)
  (tat hy λo e=>g.extBut _ _ D.l2TO (f.extBut _ _ D.l2i1 (d.extBut _ _ D.l2z e))) ey λg4 b4 j=>wp ?_))))
 have T:IsPair g4 TO x pb:=j.extBut _ _ D.TOi2 K;refine wc (v9 T rfl (wc (wpAny_updateSeq_pair T λa u l =>?_)))
 replace u:IsPair a TO x y:=u
 refine wc (jN (wp (wp (wc (v9 u rfl (wc (wpAny_newTuple ?_)))))));have p:a.objs.size=s.heap.objs.size:=by rw[l.1,j.1,g.1,f.1,d.1]
 have Y:IsZip a z TI TO .ellipsis:=l.extBut _ _ D.TOz.symm (j.extBut _ _ D.i2z.symm (g.extBut _ _ D.TOz.symm (f.extBut _ _ D.i1z.symm M)));have O:∀c o,c≠z->c≠TO->c≠i1->c≠i2->s.heap.get? c=some o->a.get? c=some o:=λc o b t G H e=>l.extBut _ _ t (j.extBut _ _ H (g.extBut _ _ t (f.extBut _ _ G (d.extBut _ _ b e))));have a5:a.IsTupleIter i1 t1 (n+1):=((Z.extBut g.extBut D.TOi1.symm).extBut j.extBut D.i12).extBut l.extBut D.TOi1.symm;have b5:a.IsTupleIter i2 t2 (n+1):=b4.extBut l.extBut D.TOi2.symm;have r:z<a.objs.size:=wC Y;show wpAny _ _ (Builtin.SmallTypes.ownedTupleHandOut (.ref z) (.ref a.objs.size) >>= λ_=>_) _ _ _;refine wc ?_
 delta Builtin.SmallTypes.ownedTupleHandOut
 have z6:IsZip (a.push { cls :=.type "tuple",data :=.seq #[x,y] }) z TI TO .ellipsis:=wg _ Y;refine wc (vY z6 (by simp) λg7 N I =>?_)
 replace N:IsZip g7 z TI TO (rawInt a.objs.size):=N
 refine vY N (by simp) λh C J =>?_
 replace C:IsZip h z TI TO (rawInt a.objs.size):=C
 have up:∀c o,c≠z->a.get? c=some o->h.get? c=some o:=λc o b e=>J.extBut _ _ b (I.extBut _ _ b (wg _ e));have W:IsPair h a.objs.size x y:=J.extBut _ _ (jr r) (I.extBut _ _ (jr r) (wv _ rfl));have U:h.objs.size=a.objs.size+1:=by rw[J.1,I.1,vX]
 rw[p] at C W U;refine wp ⟨_,rfl,wp ?_⟩;show Q (some (.ref a.objs.size)) _;rw[p];exact q h ⟨C,up _ _ D.TIz (O _ _ D.TIz D.TITO D.TIi1 D.TIi2 m),⟨_,_,up _ _ D.TOz u⟩,a5.at λo e=>up _ o D.i1z e,b5.at λo e=>up _ o D.i2z e⟩ W U λc o b t G H e=>up c o b (O c o b t G H e)
def fin {Q:Option Value->Shared->Prop}(C:A.handled=none)(D:ZipApart z TI TO i1 i2 t1 t2)(S:St s.heap z TI TO i1 i2 t1 t2 .none n)(G:s.heap.IsTuple t1 xs)(hy:s.heap.IsTuple t2 ys)(e:xs[n]? = none\/ys[n]? = none)
  (q:∀h,(∀c o,c≠z->c≠TO->c≠i1->c≠i2->s.heap.get? c=some o->h.get? c=some o)->Q none { s with heap:=h }):wpAny (model prog w) A (pyNext (.ref z)) Q E s:=by
 obtain⟨sz,u,⟨pa,pb,y⟩,K,sb⟩:=S;have L:s.TypeIs (.ref z) "zip":=⟨_,sz,rfl⟩
 have stop:∀h v,(∀c o,c≠z->c≠TO->c≠i1->c≠i2->s.heap.get? c=some o->h.get? c=some o)->(∃o,h.get? v=some o/\o.cls = .type "StopIteration")->wpAny (model prog w) A (isInstance (.ref v) (.type "StopIteration") >>= λb=>if b=true then pure none else throw (Value.ref v)) Q E { s with heap:=h }:=λh v kk ⟨o,ho,Z⟩=>
  wc (jY (T:="StopIteration") (b:=true) ⟨o,ho,Z⟩ isSubtype_stop (wp (q _ kk)))
 delta pyNext
 refine wc (j9 (vL (name:=Str.ofString "__next__") L F.slot_zip_next (v4 F.slot_zip_next L F.entry_zip_next ?_ (F.args_zip_next_1 _))));show wpAny _ _ (PySem.field (.ref z) 2 >>= λ_=>_) _ _ _;refine wc (vV sz rfl (x :=.bool false) rfl (show wpAny _ _ (PySem.field (.ref z) 3 >>= λ_=>_) _ _ _ from wc (vV sz rfl (x :=.ref TI) rfl (wc (v9 u rfl ?_)))));show wpAny _ _ (Builtin.SmallTypes.ownedTupleIsFree (.ref z) >>= λ_=>_) _ _ _;refine wc ?_
 delta Builtin.SmallTypes.ownedTupleIsFree
 refine wc (vV sz rfl (x:=Value.none) rfl (wp ?_));simp only[jI];refine wc (wpAny_rule (wc (vV sz rfl (x:=Value.ref TO) rfl (wc (vY sz (by simp) λW l f =>?_)))))
 replace l:IsZip W z TI TO .ellipsis:=l
 refine wc ?_;simp only[List.zipIdx_cons,List.zipIdx_nil,List.forIn_cons,List.forIn_nil];refine wc (wc (wpAny_onRaise (show wpAny _ _ (Builtin.SmallTypes.nextOf (.ref i1) >>= λ_=>_) _ _ _ from wc ?_)))
 cases ex:xs[n]? with
 | none=>
  refine nxE C (K.extBut f.extBut D.i1z) (tat G λo e=>f.extBut _ _ D.l1z e) ex λp v g r =>?_;obtain⟨t,a,d⟩:=r;have M:IsZip p z TI TO .ellipsis:=g _ _ D.i1z.symm l;have ne:v≠z:=λw=>by subst w;rw[M] at a;cases a;simp at d
  exact vY M (by simp) λg3 _ i=>stop g3 v (λc o j _ m _ w=>i.extBut _ _ j (g _ _ m (f.extBut _ _ j w))) ⟨t,i.extBut _ _ ne a,d⟩
 | some x=>
  have U:ys[n]? = none:=e.resolve_left (by rw[ex];exact λw=>nomatch w);refine nx (K.extBut f.extBut D.i1z) (tat G λo e=>f.extBut _ _ D.l1z e) ex λp a2 g=>wp ?_;have J:IsPair p TO pa pb:=g.extBut _ _ D.TOi1 (f.extBut _ _ D.TOz y);refine wc (v9 J rfl (wc (wpAny_updateSeq_pair J λg3 o3 i =>?_)));refine wc (jN (wp ?_));refine wc (wc (wpAny_onRaise (show wpAny _ _ (Builtin.SmallTypes.nextOf (.ref i2) >>= λ_=>_) _ _ _ from wc (nxE C (((sb.extBut f.extBut D.i2z).extBut g.extBut D.i12.symm).extBut i.extBut D.TOi2.symm)
   (tat hy λo e=>i.extBut _ _ D.l2TO (g.extBut _ _ D.l2i1 (f.extBut _ _ D.l2z e))) U λX v H r =>?_))))
  obtain⟨t,a,d⟩:=r;have N:IsZip X z TI TO .ellipsis:=H _ _ D.i2z.symm (i.extBut _ _ D.TOz.symm (g.extBut _ _ D.i1z.symm l));have ne:v≠z:=λw=>by subst w;rw[N] at a;cases a;simp at d
  exact vY N (by simp) λY _ I=>stop Y v (λc o j O m R w=>I.extBut _ _ j (H _ _ R (i.extBut _ _ O (g.extBut _ _ m (f.extBut _ _ j w))))) ⟨t,I.extBut _ _ ne a,d⟩
end
noncomputable abbrev mk1 (h:Heap)(t:Addr):Heap:=h.push { cls :=.type "tuple_iterator",data :=.fields #[.ref t,.int 0 0] }
abbrev mk3 (h:Heap)(t1 t2:Addr):Heap:=((mk1 (mk1 h t1) t2).push { cls :=.type "tuple",data :=.seq #[.ref h.objs.size,.ref (mk1 h t1).objs.size] }).push { cls :=.type "tuple",data :=.seq #[.none,.none] }
abbrev mk5 (h:Heap)(t1 t2:Addr):Heap:=(mk3 h t1 t2).push { cls :=.type "zip",data :=.fields #[.none,.bool false,.bool false,.ref (mk1 (mk1 h t1) t2).objs.size,.ref ((mk1 (mk1 h t1) t2).push { cls :=.type "tuple",data :=.seq #[.ref h.objs.size,.ref (mk1 h t1).objs.size] }).objs.size] }
def newZ (a b:Addr)(xs ys:Array Value):Meets (Builtin.«zip.__new__» ⟨[.type "zip",.ref a,.ref b],[]⟩) (λ_ R s=>s.heap.IsTuple a xs/\s.heap.IsTuple b ys/\R (.ok (.ret (.ref (mk3 s.heap a b).objs.size))) { s with heap:=mk5 s.heap a b }):=
 .of_wp λi w A R s h=>by
  obtain⟨e,g,d,j,f⟩:=s;obtain⟨l,m,h⟩:=h;have sub:=sub_zip;have n:Heap.IsTuple (Shared.heap ⟨e,g,d,j,f⟩) a xs:=l;have o:Heap.IsTuple (Shared.heap ⟨mk1 e a,g,d,j,f⟩) b ys:=Heap.IsTuple.push m _
  wp_walk using uh n,uh o
  exact⟨_,rfl,h⟩
section
variable {prog:Program}{w:World}{A:Around}{E:WvP}{s:Shared}{t1 t2:Addr}{xs ys:Array Value}
def zo8 (t:s.heap.IsTuple t1 xs)(u:s.heap.IsTuple t2 ys)
  (q:∀d,St d (s.heap.objs.size+4) (s.heap.objs.size+2) (s.heap.objs.size+3) s.heap.objs.size (s.heap.objs.size+1) t1 t2 .none 0->(∀c o,s.heap.get? c=some o->d.get? c=some o)->Q (.ref (s.heap.objs.size+4)) { s with heap:=d }):
  wpAny (model prog w) A (call (.type "zip") [.ref t1,.ref t2]) Q E s:=by
 refine callType_new F.called_zip (by decide) (F.typeCall_zip_2 _ _) (F.newCall_zip_2 _ _) (λj=>F.args_object_init_3 j _ _) F.entry_zip_new (newZ t1 t2 xs ys) ⟨t,u,?_⟩;have f:(mk1 s.heap t1).objs.size=s.heap.objs.size+1:=vX ..;have g:(mk1 (mk1 s.heap t1) t2).objs.size=s.heap.objs.size+2:=by rw[vX,f]
 have i:((mk1 (mk1 s.heap t1) t2).push { cls :=.type "tuple",data :=.seq #[.ref s.heap.objs.size,.ref (mk1 s.heap t1).objs.size] }).objs.size=s.heap.objs.size+3:=by rw[vX,g]
 have p:(mk3 s.heap t1 t2).objs.size=s.heap.objs.size+4:=by rw[vX,i]
 have a:∀{h:Heap}{c:Addr}{o x:Obj},h.get? c=some o->(h.push x).get? c=some o:=λe=>wg _ e;have b:(mk5 s.heap t1 t2).get? (mk3 s.heap t1 t2).objs.size=some _:=wv _ rfl;have n:(mk5 s.heap t1 t2).get? ((mk1 (mk1 s.heap t1) t2).push { cls :=.type "tuple",data :=.seq #[.ref s.heap.objs.size,.ref (mk1 s.heap t1).objs.size] }).objs.size=some _:=a (wv _ rfl);have m:(mk5 s.heap t1 t2).get? (mk1 (mk1 s.heap t1) t2).objs.size=some _:=a (a (wv _ rfl));have l:(mk5 s.heap t1 t2).get? (mk1 s.heap t1).objs.size=some _:=a (a (a (wv _ rfl)));have r:(mk5 s.heap t1 t2).get? s.heap.objs.size=some _:=a (a (a (a (wv _ rfl))));show _/\_;rw[p,g,i] at b;rw[i] at n;rw[f,g] at m;rw[f] at l;rw[p];exact⟨⟨_,b,rfl⟩,q _ ⟨b,m,⟨_,_,n⟩,⟨_,r,rfl,rfl⟩,⟨_,l,rfl,rfl⟩⟩ λc o e=>a (a (a (a (a e))))⟩
end
end Zp
namespace L2
open PySem PySem.Spec PyProof.Rows
section
variable {X:Cx}{pins:List (Addr × Obj)}{σ:List (Option V)}{H H':Hp}{s:Shared}{h':Heap}
def Inv.turnedL {t':Nat}{fp:List Addr}(I:Inv X pins σ H s)(k:∀b o,b ∉ fp->s.heap.get? b=some o->h'.get? b=some o)(d:∀b∈fp,FpOk X pins H b):Inv X pins σ H { s with heap:=h',toks:=t' }:=by
 have f:∀b u,H b=some u->b ∉ fp:=λb u e z=>by rw[(d b z).1] at e;cases e
 have t  := λz=>(d _ z).2.1 rfl;refine I.step (λb w =>?_) (λb o _ _ a e _=>k b o a e) (λb o _ _ a e _=>⟨o.slots,k b o a e⟩) (λ_ _ _ _ n=>n)
  (λb o a e=>⟨o,k b o a e⟩) (λ_ _ e=>e) (λ_ _ _ e=>e) (λb ps e=>⟨#[],by rw[e];simp⟩) (λm x =>?_) (λb u e =>?_) I.bare
 .obtain⟨A,i,C,j,l,p⟩:=d b w;exact⟨j,i,l,p⟩
 .obtain⟨o,h,g,y,r⟩:=x;exact⟨o,h,g,k _ o t y,r⟩
 .exact(I.hok b u e).stay λv q=>k b v (f b u e) q
def Inv.pair {d:List Addr}{x y:V}{u v:Value}(I:Inv X pins σ H s)(h:∀b∈d,FpOk X pins H b)(l:∀b∈d,b≠s.heap.objs.size)(m:RelV x u)(n:RelV y v)
  (p:h'.get? s.heap.objs.size=some { cls :=.type "tuple",data :=.seq #[u,v] }) (j:∀b o,b ∉ d->s.heap.get? b=some o->h'.get? b=some o):
  Inv X pins σ (upd H s.heap.objs.size (.tup [x,y])) { s with heap:=h',toks:=t' }/\∀b∈d,upd H s.heap.objs.size (.tup [x,y]) b=none:=by
 have new:(s.heap.push { cls :=.type "tuple",data :=.seq #[u,v] }).get? s.heap.objs.size=some _:=wv _ rfl;have i:=I.laid (t':=s.toks) (o :=.tup [x,y]) (λ_ _ q=>wg _ q) (ww _) ⟨wV (show 2<=64 by decide) (by decide),[u,v],.cons m (.cons n .nil),⟨_,new,rfl,_,rfl⟩,_,new,rfl⟩;have f:∀b∈d,FpOk X pins (upd H s.heap.objs.size (.tup [x,y])) b:=λb a=>⟨by rw[z0d (l b a)];exact(h b a).1,(h b a).2⟩
 refine⟨i.turnedL (λb o a e =>?_) f,λb a=>(f b a).1⟩
 by_cases g:b=s.heap.objs.size
 .subst g;rw[new] at e;cases e;exact p
 .rw[jQ _ _ _ g] at e;exact j b o a e
end
end L2
namespace Zp
open PySem PySem.Spec PyProof.Rows L2
def Itz (K:W.Frag)(d e:Addr):It:=
 ⟨λi H=>∃a b x y,SqT K H d a/\SqT K H e b/\a[i]? = some x/\b[i]? = some y,
  λi H v f=>∃p x y,v = .ref p/\H p=none/\f=upd H p (.tup [x,y])/\∀a b,SqT K H d a->SqT K H e b->a[i]? = some x/\b[i]? = some y,
  λi H=>∃a b,SqT K H d a/\SqT K H e b/\(a.length<=i\/b.length<=i)⟩
def zej {P:Program}{w:World}{K:W.Frag}{es:List Expr}{kk:Nat}{a0:Pos}{z TI TO n p C F:Addr}(D:ZipApart z TI TO n p C F):Turn P w K (.Tuple es kk a0) (Itz K C F) [z,TO,n,p,TI] z (λi h=>St h z TI TO n p C F .none i) where
 mem:=by simp
 obj:=λi h j b d=>by
  obtain⟨sz,f,⟨r,t,g⟩,⟨oa,L,ca,da⟩,⟨U,M,cb,db⟩⟩:=j;simp only[wn,wA,vA] at d
  rcases d with rfl | rfl | rfl | rfl | rfl
  .exact⟨_,sz,λv q=>by cases (show Data.fields _=Data.cell v from q)⟩
  .exact⟨_,g,λv q=>by cases (show Data.seq _ _=Data.cell v from q)⟩
  .exact⟨_,L,λv q=>by rw[da] at q;cases q⟩
  .exact⟨_,M,λv q=>by rw[db] at q;cases q⟩
  .exact⟨_,f,λv q=>by cases (show Data.seq _ _=Data.cell v from q)⟩
 keep:=λi h h' j k=>by
  obtain⟨sz,f,⟨r,t,g⟩,sa,sb⟩:=j;exact⟨k z (by simp) _ sz,k TI (by simp) _ f,⟨r,t,k TO (by simp) _ g⟩,sa.at λo e=>k n (by simp) o e,sb.at λo e=>k p (by simp) o e⟩
 item:=by
  intro X O S N hc i A s σ H E I Q j R;subst O S N;obtain⟨xs,ys,x,y,G,J,ex,ey⟩:=R;obtain⟨us,r1,Y,_⟩:=I.tuple G;obtain⟨vs,r2,Z,_⟩:=I.tuple J;obtain⟨u,hu,ru⟩:=r1.get ex;obtain⟨v,hv,rv⟩:=r2.get ey;refine item D j (show s.heap.IsTuple C us.toArray from Y) (show s.heap.IsTuple F vs.toArray from Z) (x:=u) (y:=v) (by simpa using hu) (by simpa using hv) λh' m tp _ T=>⟨_,rfl,?_⟩
  refine wpAny_letOwnedTupleGo_zip m.z λh2 z2 l =>?_;have lt:∀{b o},s.heap.get? b=some o->b≠s.heap.objs.size:=λe=>wJ (wC e);have U:∀b∈[z,TO,n,p,TI],b≠s.heap.objs.size:=λb d=>by
   obtain⟨sz,f,⟨r,t,g⟩,⟨oa,L,_⟩,⟨oo,M,_⟩⟩:=j;simp only[wn,wA,vA] at d
   rcases d with rfl | rfl | rfl | rfl | rfl
   .exact lt sz
   .exact lt g
   .exact lt L
   .exact lt M
   .exact lt f
  obtain⟨I2,nn⟩:=I.pair (t':=s.toks) Q U ru rv (l.extBut _ _ (U z (by simp)).symm tp) λb o d e=>by
   simp only[wn,wA,vA,not_or] at d;exact l.extBut _ _ d.1 (T b o d.1 d.2.1 d.2.2.1 d.2.2.2.1 e)
  refine⟨.ref s.heap.objs.size,_,I2,rfl,⟨_,x,y,rfl,I.fresh,rfl,λas bs ha d=>⟨by rw[I.tuple_inj ha G];exact ex,by rw[I.tuple_inj d J];exact ey⟩⟩,⟨z2,l.extBut _ _ D.TIz m.ti,?_,m.a.extBut l.extBut D.i1z,m.b.extBut l.extBut D.i2z⟩,nn⟩;obtain⟨r,t,e⟩:=m.to;exact⟨r,t,l.extBut _ _ D.TOz e⟩
 done:=by
  intro X O S N hc i A s σ H E I Q j R;subst O S N;obtain⟨xs,ys,G,J,e⟩:=R;obtain⟨us,r1,Y,_⟩:=I.tuple G;obtain⟨vs,r2,Z,_⟩:=I.tuple J;have l1:=r1.length;have l2:=r2.length;refine fin (I.ok.hd hc) D j (show s.heap.IsTuple C us.toArray from Y) (show s.heap.IsTuple F vs.toArray from Z) (e.imp (λq=>by simp;lia) λq=>by simp;lia) λh' T=>⟨rfl,I.turnedL (t':=s.toks) (λb o d e =>?_) Q⟩
  simp only[wn,wA,vA,not_or] at d;exact T b o d.1 d.2.1 d.2.2.1 d.2.2.2.1 e
 self:=λ_ _ _ _ _ j h=>wpAny_pyIter_zip j.z h
def iZip (K:W.Frag)(e:TA):TI:=λh H R=>e h H λvs d=>∃a b,vs=[.ref a,.ref b]/\(∃f,SqT K d a f)/\(∃g,SqT K d b g)/\R (Itz K a b) d
section
variable {X:Cx}{es:List Expr}{kk:Nat}{tp:Pos}
def zkQ {a b:Expr}{A:TA}{p l:Pos}(L:Gl X "zip")(M:X.mg "zip"=none)(J:PA X [a,b] A)(N:autoParam (starEach [a,b] X.env=[(false,eval a X.env),(false,eval b X.env)]) jA1)(j:autoParam (starEach [b] X.env=[(false,eval b X.env)]) jA1):PI X (.Tuple es kk tp) (.Call (.Name "zip" p) [a,b] [] l) (iZip X.K A):=by
 intro d s E H R I h;refine Call_ (z95 I L M (show bootBuiltins "zip"=some (.type "zip") from rfl) (u6 (thn (J l d s E H _ I h) λC f z9 =>?_) (by rw[N,j]) (by rw[j];rfl)));obtain⟨vs,u,g,r1,U⟩:=z9;obtain⟨n,t,e,⟨xs,W⟩,⟨ys,Y⟩,q⟩:=U;subst e
 cases r1 with
 | cons r m=>
  cases m with
  | cons Z m=>
   cases m
   cases (show _=Value.ref n from r)
   cases (show _=Value.ref t from Z)
   obtain⟨C,a0,x,_⟩:=g.tuple W;obtain⟨vs,a1,y,_⟩:=g.tuple Y;have Q:n<f.heap.objs.size:=by obtain⟨o,e,_⟩:=x;exact wC e
   have T:t<f.heap.objs.size:=by obtain⟨o,e,_⟩:=y;exact wC e
   refine zo8 (show f.heap.IsTuple n C.toArray from x) (show f.heap.IsTuple t vs.toArray from y) λG S O =>?_;refine wpAny_pyIter_zip S.z ?_;have F:Inv X d E u { f with heap:=G,toks:=f.toks }:=g.kept (t':=f.toks) O;refine⟨_,_,_,_,u,rfl,F,zej (zipApart_new Q T),S,λb w =>?_,q⟩;have i:f.heap.objs.size<=b:=by
    simp only[wn,wA,vA] at w
    rcases w with rfl | rfl | rfl | rfl | rfl
    .exact Nat.le_add_right _ 4
    .exact Nat.le_add_right _ 3
    .exact ww _
    .exact Nat.le_add_right _ 1
    .exact Nat.le_add_right _ 2
   exact g.fpOk i (g.hok.fresh i)
end
end Zp
namespace Pu
open PySem PySem.Spec PyProof.Rows L2 Zp
def gZip (a b:D)(Q:DK):Prop:=match a,b with
 | .tup l,.tup m=>Q (.lst ((l.zip m).map λp =>.tup [p.1,p.2]))
 | _,_=>False
def zdH (a b:D)(Q Q':DK)(m:∀d,Q d->Q' d)(h:gZip a b Q):gZip a b Q':=by
 unfold gZip at h ⊢
 split at h
 .exact m _ h
 omega
def z7C:Fn:=fn2 gZip zdH
def zee {K:W.Frag}{mg:WmP}{G:Hp}{a b:Addr}{xs ys:List V}{l m:List D}(I:SqT K G a xs)(J:SqT K G b ys)(r1:RDs K mg G l xs)(r2:RDs K mg G m ys):Walk K mg G ((l.zip m).map λp =>.tup [p.1,p.2]) (Itz K a b):=λi F H g f=>by
 have j:=z0G (z02 g f) I;have n:=z0G (z02 g f) J;refine⟨λd e =>?_,λL=>⟨xs,ys,j,n,?_⟩⟩
 .rw[wO,vD] at e;obtain⟨⟨N,O⟩,e,rfl⟩:=e;rw[List.getElem?_zip_eq_some] at e;obtain⟨w,s,o⟩:=r1.get e.1;obtain⟨A,t,r⟩:=r2.get e.2;refine⟨⟨xs,ys,w,A,j,n,s,t⟩,λv M y =>?_⟩;obtain⟨p,x,y,rfl,h,rfl,q⟩:=y;obtain⟨C,E⟩:=q xs ys j n;rw[s] at C;rw[t] at E
  cases C
  cases E
  refine⟨z0n h _,upd F p (.tup [w,A]),?_,?_,?_⟩
  .exact Gr.new f h
  .intro c u e
   by_cases z:c=p
   .subst z;rw[z0c] at e ⊢;exact e
   .rw[z0d z] at e ⊢;exact f c u e
  .exact RD.newT (RDs.cons (o.same g) (RDs.cons (r.same g) RDs.nil)) f h
 .simp only[we,uk] at L;rw[r1.len,r2.len];lia
section
variable {X:Cx}{E:XK}
def zf1 {Q p l:Pos}(K:Gl X "zip")(M:X.mg "zip"=none)(J:QXA X E [a,b] [x,y])(i:autoParam (starEach [a,b] X.env=[(false,eval a X.env),(false,eval b X.env)]) jA1)(j:autoParam (starEach [b] X.env=[(false,eval b X.env)]) jA1):
  QXI X E (.Tuple es kk Q) (.Call (.Name "zip" p) [a,b] [] l) (.op z7C [x,y]):=QI.imp (⟨zkQ K M J.p i j⟩) <| by
 rintro σ H R ⟨G,o,Q0,e,i,w,N,Y,L,O⟩;refine⟨G,o,_,e,i,w,(show runs _ o (λf=>z7C.run f Q0 e) e from N),λf vs r s q C g g3 rds =>?_,O⟩
 match f,q,rds with
 | [z,A],q,rds=>
  have d:gZip z A Q0:=q;unfold gZip at d
  split at d
  .obtain⟨Z,r1,rfl,F,h⟩:=rds;obtain⟨v2,r2,rfl,h,I⟩:=h;subst I;obtain⟨t,U,rfl,m,S⟩:=z1O F;obtain⟨u,W,rfl,n,T⟩:=z1O h;exact⟨t,u,rfl,⟨U,z0G g m⟩,⟨W,z0G g n⟩,L _ r s d C g g3 _ _ rfl (zee m n S T)⟩
  .exact d.elim
end
end Pu
namespace Pu
open PySem L2
def z30:Fn:=Fn.mkN 2 4 (.seq (.set 2 (.op pGt [.v 0,.op pTup [.c (.int 0),.c (.int 0)]]))
 (.seq (.set 3 (.op pGt [.v 1,.op pTup [.c (.int 0),.c (.int 0)]]))
 (.seq (.ifs (.op pNe [.v 2,.v 3]) (.ret (.v 2)) .skip)
 (.ret (.op pGt [.op z1A [.v 0,.v 1],.c (.int 0)])))))
def z2e:Fn:=Fn.mkN 2 5 (.seq (.own 2 (.op pLst []))
 (.seq (.set 3 (.c (.int 0)))
 (.seq (.for_ [] (.nm 4) (.v 1) (.seq (.wh (.and (.op pLt [.v 3,.op pLen [.v 0]]) (.op z30 [.op pIx [.v 0,.v 3],.v 4])) (.seq (.app 2 (.op pIx [.v 0,.v 3]))
 (.set 3 (.op pAdd [.v 3,.c (.int 1)]))))
 (.app 2 (.v 4))))
 (.ret (.op pAdd [.v 2,.sl (.v 0) (some (.v 3)) none])))))
def z1Z:Fn:=Fn.mkN 2 3 (.seq (.ifs (.op pEq [.op pLen [.v 0],.c (.int 1)]) (.ret (.op pLst [])) .skip)
 (.seq (.set 2 (.op pAdd [.sl (.v 0) (some (.c (.int 1))) none,.sl (.v 0) none (some (.c (.int 1)))]))
 (.ret (.comp 2 [1] (.tp [0,1]) (.op z7C [.v 0,.v 2]) none (.callv zae 2 [.v 0,.v 1])))))
def z48:Fn:=Fn.mkN 2 7 (.seq (.set 2 (.op z0a [.v 0]))
 (.seq (.set 3 (.op z0a [.v 1]))
 (.seq (.set 4 (.op z0T [.op pIx [.v 2,.c (.int 0)],.op pIx [.v 3,.c (.int 0)]]))
 (.seq (.own 5 (.op pLst [.v 4]))
 (.seq (.for_ [] (.nm 6) (.op z2e [.op z1Z [.v 2,.c (.fn 2)],.op z1Z [.v 3,.c (.fn 2)]]) (.seq (.set 4 (.op z0T [.v 4,.v 6]))
 (.app 5 (.v 4))))
 (.ret (.op z0a [.v 5])))))))
open PySem.Spec PyProof.Rows Tab
mutual
def z99 (K:W.Frag):D->Value->Bool
 | .int i,.int j _=>i == j
 | .str x,.str y _=>x == y
 | .non,.none=>true
 | .bl b,.bool c=>b == c
 | .tup e,.ref a=>match K.lookup a with
  | some o=>(match o.cls with | .type t=>t == "tuple" | _=>false) && (match o.data with
   | .seq d _=>(decide (d.size<=sizeLine) && o.dict.isNone) && zaR K e d.toList
   | _=>false)
  | none=>false
 | _,_=>false
def zaR (K:W.Frag):List D->List Value->Bool
 | [],[]=>true
 | d::a,v::vs=>z99 K d v && zaR K a vs
 | _,_=>false
end
def zmC (K:W.Frag)(mg:WmP)(x:Str)(d:D):Prop:=∃v,mg x=some v/\z99 K d v=true
section
variable {K:W.Frag}{mg:WmP}
set_option tactic.hygienic true in
mutual
theorem zaS:∀(d:D) {u:Value},z99 K d u=true->∃v,RelV v u/\∀G,RD K mg G d v
 | .non,u,h=>by
  cases u with
  | none=>exact⟨.non,rfl,λ_=>by rw[RD]⟩
  | _=>cases h
 | .bl b,u,h=>by
  cases u with
  | bool c=>rw[z99] at h;cases (eq_of_beq h);exact⟨.bl b,rfl,λ_=>RD.bl'⟩
  | _=>cases h
 | .int i,u,h=>by
  cases u with
  | int j t=>rw[z99] at h;cases (eq_of_beq h);exact⟨.int i,⟨t,rfl⟩,λ_=>RD.int'⟩
  | _=>cases h
 | .str x,u,h=>by
  cases u with
  | str y t=>rw[z99] at h;cases (eq_of_beq h);exact⟨.str x,⟨t,rfl⟩,λ_=>RD.str'⟩
  | _=>cases h
 | .tup l,u,h=>by
  cases u with
  | ref a=>
   rw[z99] at h
   split at h
   .rename_i o p
    rw[vQ] at h;obtain⟨f,e⟩:=h
    split at e
    .rename_i g n m
     rw[vQ,vQ] at e;obtain⟨vs,r,q⟩:=z98 l e.2;refine⟨.ref a,rfl,λG=>by
      rw[RD];refine⟨a,vs,rfl,.inr ⟨o,g,n,p,?_,m,uw e.1.1,r,Option.isNone_iff_eq_none.mp e.1.2⟩,q G⟩
      split at f
      .rename_i t s;rw[s,eq_of_beq f]
      .cases f⟩
    .cases e
   .cases h
  | _=>cases h
 | .lst _,_,h=>by cases h
 | .dct _ _,_,h=>by cases h
 | .fn _,_,h=>by cases h
theorem z98:∀(ds:List D) {a:List Value},zaR K ds a=true->∃vs,Vals vs a/\∀G,RDs K mg G ds vs
 | [],[],_=>⟨[],.nil,λ_=>RDs.nil⟩
 | [],_::_,h=>by cases h
 | _::_,[],h=>by cases h
 | d::ds,u::a,h=>by
  rw[zaR,vQ] at h;obtain⟨v,r,q⟩:=zaS d h.1;obtain⟨vs,e,b⟩:=z98 ds h.2;exact⟨v::vs,.cons r e,λG=>RDs.cons (q G) (b G)⟩
end
end
def zn5 {a:Pos}(e:Gl X x)(f:zmC X.K X.mg x d)(b:autoParam (dB x) jB1):QX X E (.Name x a) (.c d):=by
 obtain⟨u,g,h⟩:=f;obtain⟨v,r,q⟩:=zaS d h;exact qx_c ⟨zcZ e g r b⟩ q
noncomputable def z3r:D :=.tup [.tup [.int (1),.int (0)],.tup [.int (0),.int (1)],.tup [.int (-1),.int (0)],.tup [.int (0),.int (-1)]]
def z2C:Fn:=Fn.mkN 1 1 (.ret (.op pTup [.op pIx [.v 0,.c (.int 1)],.op pNeg [.op pIx [.v 0,.c (.int 0)]]]))
def z1K:Fn:=Fn.mkN 2 6 (.seq (.ifs (.op pEq [.op pLen [.v 0],.c (.int 1)]) (.ret (.comp 1 [0] (.nm 0) (.c z3r) none (.op pTup [.v 0,.op pIx [.v 1,.c (.int 0)]]))) .skip)
 (.seq (.own 2 (.op pLst []))
 (.seq (.forr [.op pLen [.v 0]] (.nm 3) (.seq (.set 4 (.op pIx [.v 0,.v 3]))
 (.seq (.set 5 (.callv zae 1 [.op pIx [.v 0,.op pSub [.v 3,.c (.int 1)]],.v 4]))
 (.seq (.app 2 (.op pTup [.op z2C [.v 5],.v 4]))
 (.ifs (.op pEq [.op pLen [.v 0],.c (.int 2)]) (.app 2 (.op pTup [.v 5,.v 4])) .skip)))))
 (.ret (.v 2)))))
def z26:Fn:=Fn.mkN 1 2 (.seq (.set 1 (.op z1K [.op z0a [.v 0],.c (.fn 2)]))
 (.ret (.op z1u [.comp 2 [] (.tp [0,1]) (.v 1) none (.op pTup [.v 0,.op z0R [.v 0,.v 1]])])))
end Pu
namespace Geo
def Hd (l h:List P):Prop:=∃a:List P,a.Pairwise Lx/\(∀p,p∈a↔p∈l)/\h=hull a
def Hd.is {l h:List P}(x:Hd l h)(e:l≠[]):z03 (· ∈ l) h:=by
 obtain⟨f,b,d,rfl⟩:=x;have a:f≠[]:=λz=>by
  cases l with
  | nil=>exact e rfl
  | cons p l=>have:=(d p).mpr (by simp);grind
 have:=ziP a b
 simp_all
theorem z7A:∀{l:List P}{i:Nat}{a b:P},Path R l->l[i]? = some a->l[i+1]? = some b->R a b
 | [],_,_,_,_,e,_=>by simp at e
 | [_],i,_,_,_,e,f=>by simp at f
 | x::y::r,0,a,b,h,e,f=>by
  simp at e f;subst e;subst f;exact h.1
 | x::y::r,i+1,a,b,h,e,f=>z7A h.2 (by simpa using e) (by simpa using f)
theorem z4H:∀{u v:List P},Path R (u++v)->Path R v
 | [],_,h=>h
 | [x],[],_=>trivial
 | [x],y::v,h=>h.2
 | x::y::u,v,h=>z4H (u:=y::u) h.2
theorem z73 (det:∀a b c,R a b->R a c->b=c):∀{t:List P},m ∉ t->Path R (t++[m])->t.Nodup
 | [],_,_ =>.nil
 | a::t,i,h=>by
  rw[vU];have d  := λz=>i (wq _ z);refine⟨λg =>?_,z73 det d (z4H (u:=[a]) h)⟩;obtain⟨u,v,e⟩:=List.append_of_mem g;have f  := by
   have:Path R ((a::u)++(a::v++[m])):=by simp_all
   exact z4H this
  have j:m ∉ v:=λz=>d (by rw[e];simp[z]);have:=z4f det d j h f;have:=congrArg List.length this;rw[e] at this;simp at this;lia
def z03.nodup (x:z03 S h):h.Nodup:=by
 obtain⟨m,t,rfl,i,j,g,d⟩:=x.ex
 rcases d with ⟨rfl,_⟩ | ⟨_,d⟩
 .simp
 .rw[vU];exact⟨g,z73 (λa b c e f=>e.det f) g (z4H (u:=[m]) d)⟩
def z03.sub {S:P->Prop}{h:List P}(x:z03 S h):∀p∈h,S p:=by
 obtain⟨m,t,rfl,j,l,n,a⟩:=x.ex
 rcases a with ⟨rfl,_⟩ | ⟨o,a⟩
 .simp_all
 .intro p g;obtain⟨i,b,e⟩:=vj.mp g;have f:(m::t++[m])[i]? = some p:=by rw[wM b,wm b,e]
  have d:i+1<(m::t++[m]).length:=by simp at b ⊢;lia
  exact(z7A a f (wm d)).sa
def Edge.less (e:Edge S a b)(h:∀p,T p->S p)(f:T a)(g:T b):Edge T a b:=⟨f,g,e.ne,λp d=>e.left p (h p d),λp d=>e.btw p (h p d)⟩
theorem z8N (h:∀p,T p->S p):∀{l:List P},(∀p∈l,T p)->Path (Edge S) l->Path (Edge T) l
 | [],_,_=>trivial
 | [_],_,_=>trivial
 | a::b::r,e,d=>⟨d.1.less h (e a (by simp)) (e b (by simp)),z8N h (λp d=>e p (wq _ d)) d.2⟩
def z03.of {S T:P->Prop}{h:List P}(x:z03 S h)(e:∀p,T p->S p)(i:∀p∈h,T p):z03 T h:=by
 obtain⟨m,t,rfl,j,f,g,a⟩:=x.ex;refine⟨m,t,rfl,i m (by simp),λp b=>f p (e p b),g,?_⟩
 rcases a with ⟨rfl,a⟩ | ⟨d,a⟩
 .exact .inl ⟨rfl,λp b=>a p (e p b)⟩
 .exact .inr ⟨d,z8N e (λp b=>by
   grind) a⟩
def z4X {a b c:P}(e:Edge S a b)(f:Edge S b c)(h:a≠c):0<Qa a b c:=by
 have H:=e.left c f.sb
 rcases uV H with z | z
 .exact z
 exfalso
 have x:Qa a b c=0:=z.symm;have U:Qa b c a=0:=by rw[<- x];unfold Qa;grind
 obtain⟨Y,Q⟩:=e.btw c f.sb x;obtain⟨Z,R⟩:=f.btw a e.sa U;have o:=e.ne;have p:=f.ne;obtain⟨m,n⟩:=a;obtain⟨g,i⟩:=b;obtain⟨j,l⟩:=c;simp only[Qa,dot] at*;generalize K:g - m=u1 at*;generalize L:i - n=u2 at*;generalize M:j - m=v1 at*;generalize N:l - n=v2 at*;have F:(j - g)*(m - g)+(l - i)*(n - i)=(u1*u1+u2*u2) - (u1*v1+u2*v2):=by
  have:j - g=v1 - u1:=by lia
  have:l - i=v2 - u2:=by lia
  have:m - g = -u1:=by lia
  have:n - i = -u2:=by lia
  grind
 have G:(m - j)*(g - j)+(n - l)*(i - l)=(v1*v1+v2*v2) - (u1*v1+u2*v2):=by
  have:m - j = -v1:=by lia
  have:n - l = -v2:=by lia
  have:g - j=u1 - v1:=by lia
  have:i - l=u2 - v2:=by lia
  grind
 rw[F] at Q;rw[G] at R;have u:(u1*v1+u2*v2)*(u1*v1+u2*v2)=(u1*u1+u2*u2)*(v1*v1+v2*v2):=by
  have:(u1*u1+u2*u2)*(v1*v1+v2*v2) - (u1*v1+u2*v2)*(u1*v1+u2*v2)=(u1*v2 - u2*v1)*(u1*v2 - u2*v1):=by grind
  rw[x] at this;lia
 have J:0<=u1*v1+u2*v2:=by
  have:(v1*u1+v2*u2)=u1*v1+u2*v2:=by grind
  lia
 generalize W:u1*v1+u2*v2=d at*;generalize I:u1*u1+u2*u2=uu at*;generalize X:v1*v1+v2*v2=vv at*;have w:0<=uu:=by have:=z0g u1;have:=z0g u2;lia
 have T:0<=vv:=by have:=z0g v1;have:=z0g v2;lia
 have C:d*d<=uu*d:=wo (by lia) J;have E:uu*d<=uu*vv:=wL (by lia) w;have s:uu*(vv - d)=0:=by
  have:uu*(vv - d)=uu*vv - uu*d:=by grind
  omega
 rcases wI.mp s with z | z
 .obtain⟨y,A⟩:=z4i (I.trans z);exact o (ua (by show m=g;lia) (by show n=i;lia))
 .have r:vv=d:=by lia
  have t:d*(uu - d)=0:=by
   have:d*(uu - d)=uu*d - d*d:=by grind
   rw[r] at u;omega
  rcases wI.mp t with z | z
  .have q:v1*v1+v2*v2=0:=by lia
   obtain⟨y,A⟩:=z4i q;exact h (ua (by show m=j;lia) (by show n=l;lia))
  .have O:(u1 - v1)*(u1 - v1)+(u2 - v2)*(u2 - v2)=0:=by
    have:(u1 - v1)*(u1 - v1)+(u2 - v2)*(u2 - v2)=(u1*u1+u2*u2) - 2*(u1*v1+u2*v2)+(v1*v1+v2*v2):=by grind
    lia
   obtain⟨y,A⟩:=z4i O;exact p (ua (by show g=j;lia) (by show i=l;lia))
end Geo
open Lean in
def al (s:String)(r:=true):MacroM (TSyntax `tactic):=do
 let a←(s.splitOn " ").toArray.mapM λw=>do
  let h:=w.toList.dropWhile (!"?!#%=~*^$".contains ·)
  let f:=mkIdent (w.dropEnd h.length).toString.toName
  if h=[] then `(tacticSeq|exact $f) else if h=['$'] then `(tacticSeq|refine $f ?_;with_unfolding_all rfl) else
   let x←h.toArray.mapM λc=>if c='?' then `(?_) else if c='*' then `(_) else if c='^' then `(by decide) else pure (mkIdent (if c='!' then `S else if c='=' then `rfl else if c='#' then `lk2 else if c='~' then `n1 else `lk1))
   if h.contains '?' then `(tacticSeq|refine $f $x*) else `(tacticSeq|exact $f $x*)
 if r then `(tactic|with_reducible first $[|$a]*) else `(tactic|first $[|$a]*)
open Lean in
def rf (s:String):MacroM Term:=do
 let l:=s.splitOn ":"
 return Syntax.mkApp (mkIdent l.head!.toName) (←l.getLast!.toList.toArray.mapM λc=>if c='?' then `(?_) else if c='_' then `(_) else if c='n' then pure (mkIdent `lkN) else do
  let i:=mkIdent (if c='i' then `id else if c='c' then `CX else if c='k' then `k else if c='p' then `ps else if c='s' then `sp else if c='G' then `G else if c='t' then `t else `n)
  let v←if c='0' then `(0) else if c='2' then `(2) else `(?_)
  return⟨(←`(Parser.Term.namedArgument|($i:ident:=$v))).raw⟩)
open Lean in
def sh (s:String)(t:TSyntax `tactic):MacroM (TSyntax `tactic):=do `(tactic|((with_reducible show $(←rf s));$t))
open Lean in
def sq (s:String):MacroM (TSyntax `tactic):=do
 let a←(s.splitOn " ").toArray.mapM λw=>do
  let l:=w.splitOn ":"
  let x←l.tail.toArray.mapM λv=>if v="a" then `(tactic|try apply Pu.zaM) else if v="b" then `(tactic|apply Pu.zaM) else if v="c" then `(tactic|focus exact⟨by decide,by decide,by decide⟩) else if v="d" then `(tactic|focus (simp only[vg,jn];decide)) else `(tactic|focus walk_at $(Syntax.mkStrLit v))
  let x:=#[←`(tactic|with_reducible apply $(mkIdent (`Pu++l.head!.toName)))]++x
  `(tacticSeq|$[$x:tactic];*)
 `(tactic|first $[|$a]*)
open Lean in
def rl (s:String)(n:Nat)(t:TSyntax `tactic):MacroM (TSyntax `Lean.Parser.Tactic.tacticSeq):=do `(tacticSeq|with_reducible refine $(←rf s);rotate_left $(quote n);$t:tactic)
local macro_rules | `(tactic| walk_at "bt") => `(tactic| first | assumption | (refine L2.Bt.add ?_ ?_ <;> walk_at "bt") | (refine L2.Bt.sub ?_ ?_ <;> walk_at "bt") | (refine L2.Bt.mul ?_ ?_ <;> walk_at "bt") | (apply L2.Bt.neg;walk_at "bt") | exact L2.bt_k (by decide +kernel) | exact L2.bt_n (by omega) (by omega))
local macro_rules | `(tactic| walk_at "mu") => `(tactic| exact⟨L2.Bt.le (by walk_at "bt") (by decide),L2.Bt.le (by walk_at "bt") (by decide)⟩)
local macro_rules | `(tactic| walk_at "ps") => `(tactic| first | assumption | decide | omega)
local macro_rules | `(tactic| walk_at "bb") => `(tactic| first | exact L2.zba (by decide) (by decide) | exact L2.Bt.le (by walk_at "bt") (by decide) | exact L2.zba (by omega) (by omega))
local macro_rules | `(tactic| walk_at "sf") => `(tactic| first | exact Pu.Safe.of_noL rfl rfl _ | exact Pu.Safe.of_noL (Pu.z19 _) (Pu.z1a _) _ | (repeat (first | exact trivial | refine⟨trivial,?_⟩)) | assumption)
local macro_rules | `(tactic| walk_at "en") => do
 let a←("List.set_cons_zero List.set_cons_succ wE u5 List.replicate jZ List.nil_append Nat.reduceSub Pu.dem Pu.vis Pu.visB Pu.demB u3 u4 Option.getD_some Pu.z1f List.replicate_succ List.replicate_zero".splitOn " ").toArray.mapM λw=>`(Lean.Parser.Tactic.simpLemma|$(Lean.mkIdent w.toName):ident)
 `(tactic| try simp only[$a,*])
local macro_rules | `(tactic| walk_at "st") => sq "e_c e_v:b zmd zfT zo2 zo1 zo0 zhH zjU znM znD znE znI:mu zgL:ps:bb zlD:ps zlC:c znK:a znL:a o_lt o_le o_gt o_ge o_eq o_ne o_is zix zlH zlG znC:d znJ:d zlA znN zlE zo4 e_or zo3 n_bl zh5 znT znS e_sl zl6 zl5 zm7 zob zoa z4d z3H z4c zmJ zeA zjH s_if zmK zgj zmN:en zhD z0h:sf:en zo7:en zmm:en"
local macro_rules | `(tactic| walk_at "go") => `(tactic| repeat walk_at "st")
local macro_rules | `(tactic| walk_at "fn") => `(tactic| ((refine Pu.zmS rfl ?_);(walk_at "en")))
local macro_rules | `(tactic| walk_at "fe") => `(tactic| ((refine Pu.zmT rfl ?_);(walk_at "en")))
local macro_rules | `(tactic| ac_nf) => `(tactic| walk_at "go")
local macro_rules | `(tactic| ac_rfl) => `(tactic| walk_at "en")
namespace Pu
open PySem L2
def szl {n:Nat}(h:n<=1000000):n<=sizeLine:=wV h (by decide)
def szl' {n:Nat}(h:n<=1000000):n<sizeLine:=Nat.lt_of_le_of_lt h (by decide)
abbrev Vb (n:Nat)(p:Int × Int):Prop:=Bt n p.1/\Bt n p.2
abbrev Wb (n:Nat)(l:List (Int × Int)):Prop:=∀p∈l,Vb n p
theorem Vb.le {m n:Nat}{p:Int × Int}(h:Vb m p)(q:autoParam (m<=n) jB1):Vb n p:=⟨h.1.le q,h.2.le q⟩
theorem Wb.le {m n:Nat}{l:List (Int × Int)}(h:Wb m l)(q:autoParam (m<=n) jB1):Wb n l:=λp a=>(h p a).le q
def z3J (b:Vb 30000000 p)(e:Vb 30000000 r)(q:Q (.int (p.1*r.2 - p.2*r.1))):z1A.run [vec p,vec r] Q X:=by
 obtain⟨f,g⟩:=b;obtain⟨i,j⟩:=e;walk_at "fn";ac_nf;exact q
def z3n (b:Vb 30000000 p)(e:Vb 30000000 r)(q:Q (.int (p.1*r.1+p.2*r.2))):z0R.run [vec p,vec r] Q X:=by
 obtain⟨f,g⟩:=b;obtain⟨i,j⟩:=e;walk_at "fn";ac_nf;exact q
def z2j (q:Q (vec (r.1 - p.1,r.2 - p.2))):z0A.run [vec p,vec r] Q X:=by
 walk_at "fn";ac_nf;exact q
def Vb.step {p r:Int × Int}(h:Vb 20000000 p)(k:Vb 20000000 r):Vb 30000000 (r.1 - p.1,r.2 - p.2):=⟨(Bt.sub k.1 h.1).le,(Bt.sub k.2 h.2).le⟩
def zcr {a b c:Int × Int}{Q:DK}{X:XP}(g:Vb 20000000 a)(f:Vb 20000000 b)(i:Vb 20000000 c)(q:Q (.int (Qa a b c))):z3S.run [vec a,vec b,vec c] Q X:=by
 walk_at "fn";ac_nf;refine z2j ?_;ac_nf;refine z2j ?_;refine z3J (g.step f) (f.step i) ?_;have e:(b.1 - a.1)*(c.2 - b.2) - (b.2 - a.2)*(c.1 - b.1)=Qa a b c:=by unfold Qa;grind
 simp_all
def zag {T:Nat->Fn}{i n:Nat}{es:List Ex}{a:Pu.Env}{Q:DK}{X:XP}(h:a.get i=some (.fn n))(q:runs es a (λds=>(T n).run ds Q X) X):(Ex.callv T i es).run a Q X:=⟨n,h,q⟩
def zdc (q:Q (.lst l.reverse)):z2c.run [.lst l] Q X:=q
def zmx {a:Type}{b:a}{r:List a}:atI (b::r).reverse (-1)=some b:=by
 unfold atI ixN;rw[if_neg (by decide),List.length_reverse,vg,if_pos (by lia)];rw[show ((-1)+((r.length+1:Nat):Int)).toNat=r.length by lia];simp
def zj7 {d:Type}{a b:d}{r:List d}:atI (b::a::r).reverse (-2)=some a:=by
 unfold atI ixN;rw[if_neg (by decide),List.length_reverse,vg,vg,if_pos (by lia)];rw[show ((-2)+((r.length+1+1:Nat):Int)).toNat=r.length by lia];simp
def z72 {l:List (Int × Int)}{Q:DK}{X:XP}(N:Wb 20000000 l)(U:l.length<=100000)(q:Q (.lst ((z2K l).reverse.map vec))):z3d.run [.lst (l.map vec),.fn 0] Q X:=by
 walk_at "fn";refine z4c (zeA ?_);ac_nf;refine z1v (λx R=>by cases R) ?_;ac_rfl;ac_nf;refine z0i (f:=vec) (λJ j=>Ee2 λ(y:List (Int × Int)) x=>Aa4 (y=z2K J) (∀p∈y,p∈l) (y.length<=J.length) (j=[.s (.lst (l.map vec)),.s (.fn 0),.o (.lst (y.reverse.map vec)),x])) ⟨[],_,rfl,(λp I=>by cases I),ww _,rfl⟩ ?_ ?_
 .rintro J v r j e ⟨y,x,w,C,z,rfl⟩;have M:v∈l:=by rw[e];simp
  show Sm.run _ _ _ _ _;ac_rfl;refine Sm.cut (λj=>Ee1 λ(g:List (Int × Int))=>Aa4 (g=pops v y) (∀p∈g,p∈l) (g.length<=J.length) (j=[.s (.lst (l.map vec)),.s (.fn 0),.o (.lst (g.reverse.map vec)),.s (vec v)])) ?_ ?_
  .refine z5U (λj=>Ee1 λ(g:List (Int × Int))=>Aa4 (pops v g=pops v y) (∀p∈g,p∈l) (g.length<=J.length) (j=[.s (.lst (l.map vec)),.s (.fn 0),.o (.lst (g.reverse.map vec)),.s (vec v)])) (λj=>nL j 2) ⟨y,rfl,C,z,rfl⟩ ?_;rintro j ⟨g,m,i,u,rfl⟩;ac_nf
   match g,m,i,u with
   | [],m,i,u=>
    refine t_no (by simp) ?_;refine z3H ?_;exact⟨[],by rw[<- m];rfl,i,u,rfl⟩
   | [b],m,i,u=>
    refine t_no (by simp) ?_;refine z3H ?_;exact⟨[b],by rw[<- m];rfl,i,u,rfl⟩
   | b::a::r,m,i,u=>
    refine z2M (by simp;lia) ?_;ac_nf;refine zag rfl ?_;ac_nf;refine z0V (z0x zj7) ?_;ac_nf;refine z0V (z0x zmx) ?_;ac_nf;have K:∀p,p∈l->Vb 20000000 p:=N;refine zcr (K a (i a (by simp))) (K b (i b (by simp))) (K v M) ?_;ac_nf;refine z0r (λL =>?_) (λL =>?_)
    .refine zmL (z0k rfl ?_);unfold popL;rw[we,List.length_reverse,wO,show (b::a::r).reverse[(b::a::r).length - 1]? = some b by simp];refine⟨⟨a::r,?_,λp I=>i p (wq _ I),by simp at u ⊢;lia,?_⟩,?_⟩
     .rw[<- m];show _=pops v (b::a::r);rw[pops,if_pos L]
     .simp
     .show List.length _<List.length _;simp
    .exact⟨b::a::r,by rw[<- m,pops,if_neg L],i,u,rfl⟩
  .rintro j ⟨g,m,i,u,rfl⟩;refine z3C (l:=[]) (z0k rfl ?_);ac_nf;have O:J.length<l.length:=by rw[e];simp
   refine⟨by simp;exact szl' (by lia),Safe.of_noL rfl rfl _,?_⟩;ac_rfl;refine⟨v::g,.s (vec v),?_,λp I =>?_,by simp;lia,by simp⟩
   .unfold z2K at w ⊢;rw[List.foldl_append, <- w,m]
    rfl
   .rcases wn.mp I with rfl | I
    .exact M
    .exact i p I
 rintro j ⟨y,x,w,C,z,rfl⟩;ac_nf;rw[w];exact q
def z87 {a:Type}(l:List a):(l.drop (HT.sIx l.length 0 none)).take (HT.sIx l.length l.length (some (-1)) - HT.sIx l.length 0 none)=l.dropLast:=by
 rw[List.dropLast_eq_take];show (l.drop 0).take ((if (-1)<0 then ((-1:Int)+l.length).toNat else min (-1).toNat l.length) - 0)=_
 grind
def z7s (g:Wb 20000000 l)(i:l.length<=100000)(q:Q (vecs (hull l))):z2B.run [.lst (l.map vec),.fn 0] Q X:=by
 walk_at "fn";ac_nf;rw[we];refine z0r (λh =>?_) (λh =>?_)
 .ac_nf;rw[hull,if_pos (by lia)] at q;exact q
 ac_nf;refine z72 g i ?_;have f:∀(l:List (Int × Int)) s,(l.foldl (λs v=>v::pops v s) s).length<=l.length+s.length:=by
  have j:∀v s,(pops v s).length<=s.length:=by
   intro v s
   induction s with
   | nil=>exact ww _
   | cons b s e=>
    cases s with
    | nil=>exact ww _
    | cons a s=>
     rw[pops]
     split
     .exact Nat.le_succ_of_le e
     .exact ww _
  intro l
  induction l with
  | nil=>intro s;simp
  | cons v l e=>
   intro s;rw[List.foldl_cons];have:=e (v::pops v s);have:=j v s;simp only[vg] at*;lia
 have o:(z2K l).length<=l.length:=wV (f l []) (ww _);have r:(z2K l.reverse).length<=l.length:=wV (f l.reverse []) (by simp);refine z0h ?_ ?_
 .exact⟨trivial,trivial,trivial,trivial,trivial⟩
 ac_rfl;ac_nf;refine zdc ?_;ac_nf;rw[<- List.map_reverse];refine z72 (λp m=>g p (by simpa using m)) (by simpa using i) ?_;refine z0h ⟨trivial,trivial,trivial,trivial,trivial⟩ ?_;ac_rfl;ac_nf;rw[z2q,z2q,z87,z87];refine zde (by simp;exact szl (by lia)) ?_;ac_nf;rw[<- wD];rw[hull,if_neg (by lia)] at q;exact q
def zh0:HT.z0P [a.1,a.2] [b.1,b.2]=true↔Lx a b:=by
 rw[HT.z0L,HT.z0L];unfold Lx
 split
 .split
  .rw[HT.z7T]
   simp_all
  .simp;lia
 .simp;lia
def pk (p:Int × Int):List Int:=[p.1,p.2]
def zgF (h:pk p=pk r):p=r:=by
 unfold pk at h
 grind
def zeG:∀{ks b:List (List Int)}{l:List (Int × Int)},ks=l.map pk->Rows ks b->∃a:List (Int × Int),b=a.map pk/\a.Pairwise Lx/\∀p,p∈a↔p∈l:=by
 intro ks b l e h;have j:∀k∈b,∃p,k=pk p:=λk i=>by
  have:=(h.mem k).mp i;rw[e] at this;obtain⟨p,_,rfl⟩:=wf.mp this;exact⟨p,rfl⟩
 have m:∃a:List _,b=a.map pk:=by
  clear h e
  induction b with
  | nil=>exact⟨[],rfl⟩
  | cons k b n=>
   obtain⟨p,d⟩:=j k wF;obtain⟨a,f⟩:=n λk i=>j k (wq _ i);exact⟨p::a,by rw[d,f];rfl⟩
 obtain⟨a,rfl⟩:=m;refine⟨a,rfl,?_,λp =>?_⟩
 .have:=h.up;rw[w5] at this;exact this.imp λz=>zh0.mp z
 .have:=h.mem (pk p);rw[e] at this
  constructor
  .intro d;obtain⟨r,f,g⟩:=wf.mp (this.mp (wf.mpr ⟨p,d,rfl⟩));rw[<- zgF g];exact f
  .intro d;obtain⟨r,f,g⟩:=wf.mp (this.mpr (wf.mpr ⟨p,d,rfl⟩));rw[<- zgF g];exact f
def Vs (d:D)(l:List (Int × Int)):Prop:=d = .tup (l.map vec)\/d = .lst (l.map vec)
def zc4 (l:List (Int × Int)):l.map vec=(l.map pk).map tupD:=by rw[wN];rfl
def Vs.set {d:D}{l:List (Int × Int)}{P:List (List Int)->Prop}(h:Vs d l)(a:l.length<=63)(q:P (l.map pk)):zco d P:=by
 rcases h with rfl | rfl
 .exact⟨l.map pk,zc4 l,by simpa using a,q⟩
 .exact⟨l.map pk,zc4 l,by simpa using a,q⟩
def z0K (g:Vs d l)(f:Wb 20000000 l)(o:l.length<=63)(q:∀h,Hd l h->Q (vecs h)):z0a.run [d] Q X:=by
 walk_at "fn";refine g.set o ⟨λk i =>?_,λw h =>?_⟩
 .obtain⟨p,_,rfl⟩:=wf.mp i;unfold pk;simp
 obtain⟨r,rfl,e,b⟩:=zeG rfl h;ac_nf;rw[<- zc4];have nd  := e.imp λz=>z.ne;have u  := z2k nd λx m=>(b x).mp m;exact z7s (λp j=>f p ((b p).mp j)) (by lia) (q _ ⟨r,e,b,rfl⟩)
def dot (p r:Int × Int):Int:=p.1*r.1+p.2*r.2
def z70 (j:Vb 30000000 b)(r:Wb 30000000 l)(u:l≠[])(x:l.length<sizeLine)(q:∀m,m∈l.map (dot · b)->(∀p∈l,dot p b<=m)->Q (.int m)):z1Q.run [vecs l,vec b] Q X:=by
 walk_at "fn";refine⟨by simp_all,?_⟩;refine z1e (g:=λp =>.int (dot p b)) (λp f K i =>?_) ?_
 .ac_nf;exact z3n (r p f) j i
 have e:(l.map λp=>D.int (dot p b))=(l.map (dot · b)).map D.int:=by rw[wN];rfl
 rw[e];refine zlF (by simpa using u) λk o w=>q k o λp f=>w _ (wf.mpr ⟨p,f,rfl⟩)
end Pu
namespace Geo
def z03.cyc {S:P->Prop}{h:List P}(x:z03 S h)(l:2<=h.length){j:Nat}(g:j<h.length){a b:P}(e:h[(j+h.length - 1) % h.length]? = some a)(f:h[j]? = some b):Edge S a b:=by
 obtain⟨m,t,rfl,n,o,p,d⟩:=x.ex
 rcases d with ⟨rfl,_⟩ | ⟨_,d⟩
 .simp at l
 cases j with
 | zero=>
  rw[show (0+(m::t).length - 1) % (m::t).length=(m::t).length - 1 by simp_all] at e;simp at f;subst f;refine z7A (i:=(m::t).length - 1) d ?_ ?_
  .grind
  .simp
 | succ j=>
  rw[show (j+1+(m::t).length - 1) % (m::t).length=j by rw[show j+1+(m::t).length - 1=j+(m::t).length by lia,ud];exact wY (by lia)] at e;refine z7A (i:=j) d ?_ ?_
  .rw[wM (by lia)];exact e
  .rw[wM g];exact f
def In (h:List P)(p:P):Prop:=match h with
 | []=>False
 | [m]=>p=m
 | [a,b]=>Qa a b p=0/\0<=dot a b p/\0<=dot b a p
 | h=>∀j a b,j<h.length->h[(j+h.length - 1) % h.length]? = some a->h[j]? = some b->0<=Qa a b p
def In.three (d:3<=h.length):In h p↔∀j a b,j<h.length->h[(j+h.length - 1) % h.length]? = some a->h[j]? = some b->0<=Qa a b p:=by
 match h,d with
 | a::b::c::r,_=>rfl
def z03.in {S:P->Prop}{h:List P}(x:z03 S h){p:P}(d:S p):In h p:=by
 match h,x with
 | [],x=>obtain⟨m,t,e,_⟩:=x.ex;cases e
 | [m],x=>
  obtain⟨w,t,e,q,s,u,f⟩:=x.ex
  cases e
  rcases f with ⟨_,f⟩ | ⟨f,_⟩
  .exact f p d
  simp_all
 | [a,b],x=>
  have g:Edge S a b:=x.cyc (j:=1) (by simp) (by simp) (by simp) rfl;have i:Edge S b a:=x.cyc (j:=0) (by simp) (by simp) (by simp) rfl;have A:Qa b a p = -Qa a b p:=by unfold Qa;grind
  have z:Qa a b p=0:=by have:=g.left p d;have:=i.left p d;lia
  exact⟨z,g.btw p d z⟩
 | a::b::c::r,x=>exact λj y z o l n=>(x.cyc (by simp) o l n).left p d
def cy (h:List P)(i:Nat):P:=h.getD (i % h.length) (0,0)
def z12 {h:List P}{i:Nat}(a:0<h.length):h[i % h.length]? = some (cy h i):=by
 unfold cy;have:=jp i a
 simp_all
def z2s (a:0<h.length):cy h i∈h:=wz (z12 a)
def z7y (a:0<n):((i+1) % n+n - 1) % n=i % n:=by
 have b:=jp i a;have e:(i+1) % n=(i % n+1) % n:=by simp
 rw[e]
 rcases wW (i % n+1) n with z | z
 .rw[wY z,show i % n+1+n - 1=i % n+n by lia,ud,wY b]
 .have:i % n+1=n:=by lia
  rw[this,Nat.mod_self,Wj,wY (by lia)];lia
def z35 (x:z03 S h)(a:2<=h.length)(i:Nat):Edge S (cy h i) (cy h (i+1)):=
 x.cyc a (jp _ (by lia)) (by rw[z7y (by lia)];exact z12 (by lia)) (z12 (by lia))
def zdX (x:z03 S h)(o:3<=h.length)(i:Nat):cy h i≠cy h (i+2):=λz=>by
 have f:=x.nodup;have m:=z12 (h:=h) (i:=i) (by lia);have d:=z12 (h:=h) (i:=i+2) (by lia);rw[<- z] at d;obtain⟨a,g⟩:=wu.mp m;obtain⟨b,j⟩:=wu.mp d;have e:i % h.length=(i+2) % h.length:=by
  rcases uG _ _ with y | y | y
  .exact(vk.mp f _ _ a b y (g.trans j.symm)).elim
  .exact y
  .exact(vk.mp f _ _ b a y (j.trans g.symm)).elim
 have l:(i+2) % h.length=(i % h.length+2) % h.length:=by simp
 rw[l] at e;generalize i % h.length=r at*
 rcases wW (r+2) h.length with y | y
 .rw[wY y] at e;lia
 .have n:(r+2) % h.length=r+2 - h.length:=by
   rw[Nat.mod_eq_sub_mod y];exact wY (by lia)
  lia
theorem zd1:∀{l:List P},(∀i a b,l[i]? = some a->l[i+1]? = some b->R a b)->Path R l
 | [],_=>trivial
 | [_],_=>trivial
 | x::y::r,h=>⟨h 0 x y rfl rfl,zd1 λi a b d e=>h (i+1) a b (by simpa using d) (by simpa using e)⟩
def zfA (a:0<=Qa y m p)(b:0<=Qa m z p)(d:0<Qa y m z)(e:Lx m y)(f:Lx m z)(g:Lx p m):False:=by
 unfold Lx at e f g;have q:=zhk (u1:=y.1 - m.1) (u2:=y.2 - m.2) (w1:=m.1 - p.1) (w2:=m.2 - p.2) (z1:=z.1 - m.1) (z2:=z.2 - m.2) (by lia) (by lia) (by lia) (by unfold Qa at a;grind) (by unfold Qa at b;grind);unfold Qa at d
 grind
def z03.fill (x:z03 S h)(l:∀p∈h,T p)(g:∀p,T p->In h p):z03 T h:=by
 have sub:=x.sub
 match h,x,l,g,sub with
 | [],x,_,_,_=>obtain⟨m,t,e,_⟩:=x.ex;cases e
 | [m],x,l,g,_=>exact⟨m,[],rfl,l m (by simp),λp d=>by rw[g p d];exact Lx.irr,by simp,.inl ⟨rfl,g⟩⟩
 | [a,b],x,l,g,sub=>
  obtain⟨m,t,e,h1,w,I,h4⟩:=x.ex
  cases e
  have r:Edge S a b:=x.cyc (j:=1) (by simp) (by simp) (by simp) rfl;have a3:Lx a b:=by
   rcases Lx.tri a b with z | z | z
   .exact z
   .exact absurd z r.ne
   .exact absurd z (w b r.sb)
  refine⟨a,[b],rfl,l a (by simp),λp d z =>?_,I,.inr ⟨by simp,⟨⟨l a (by simp),l b (by simp),r.ne,λp d =>?_,λp d _=>(g p d).2⟩,⟨l b (by simp),l a (by simp),vN r.ne,λp d =>?_,λp d _=>⟨(g p d).2.2,(g p d).2.1⟩⟩,trivial⟩⟩⟩
  .obtain⟨y1,y2,y3⟩:=g p d;obtain⟨L,M⟩:=a;obtain⟨U,W⟩:=b;obtain⟨C,E⟩:=p;simp only[Qa,dot,Lx] at*;generalize a6:U - L=u1 at*;generalize a7:W - M=u2 at*;generalize a4:C - L=q1 at*;generalize a5:E - M=F at*;have hz:q1<0\/q1=0/\F<0:=by lia
   rcases(show 0<u1\/u1=0/\0<u2 by lia) with u | ⟨u,k2⟩
   .have r:(q1*u1+F*u2)*u1=q1*(u1*u1+u2*u2):=by grind
    have n1:=z0g u1;have n2:=z0g u2;have n3:0<u1*u1:=wS u u;have Y:0<=q1*(u1*u1+u2*u2):=by rw[<- r];exact wR y2 (wt u)
    have e3:0<=q1:=z4A (show 0<u1*u1+u2*u2 by lia) Y;have Z:q1=0:=by lia
    subst Z;have G:u1*F=0:=by lia
    rcases wI.mp G with z | z <;> lia
   .subst u;have G:u2*q1=0:=by lia
    rcases wI.mp G with z | z
    .lia
    .subst z;have:0<=F*u2:=by lia
     have:=z4A k2 this;lia
  .rw[(g p d).1];exact vO _
  .have z0:Qa b a p = -Qa a b p:=by unfold Qa;grind
   rw[z0,(g p d).1];exact vO _
 | a0::R::X::r0,x,l,g,sub=>
  generalize hh:a0::R::X::r0=h at*;have A:3<=h.length:=by rw[<- hh];simp
  have n:∀p,T p->∀i,0<=Qa (cy h i) (cy h (i+1)) p:=λp d i=>by
   have q:=(In.three A).mp (g p d) ((i+1) % h.length) (cy h i) (cy h (i+1)) (jp _ (by lia));exact q (by rw[z7y (by lia)];exact z12 (by lia)) (z12 (by lia))
  have Qb:=z35 x (by lia);have J:=zdX x A;have K:∀i,0<Qa (cy h i) (cy h (i+1)) (cy h (i+2)):=λi=>z4X (Qb i) (Qb (i+1)) (J i);have N:∀i,T (cy h i):=λi=>l _ (z2s (by lia));have H:∀i,Edge T (cy h (i+1)) (cy h (i+2)):=λi=>⟨N _,N _,(Qb (i+1)).ne,λp d=>n p d (i+1),λp d z=>⟨zaO (K i) (n p d i) z,zdf (K (i+1)) (n p d (i+2)) z⟩⟩
  have f:∀i,cy h (i+h.length)=cy h i:=λi=>by unfold cy;rw[ud]
  obtain⟨m,t,e,h1,w,I,h4⟩:=x.ex;have s:cy h 0=m:=by unfold cy;rw[e];simp
  refine⟨m,t,e,l m (by rw[e];simp),λp d z =>?_,I,.inr ⟨λy=>by rw[e,y] at A;simp at A,zd1 λi a b ea eb =>?_⟩⟩
  .have l1:Lx m (cy h 1):=by
    rcases Lx.tri m (cy h 1) with y | y | y
    .exact y
    .exact absurd (s.trans y) (Qb 0).ne
    .exact absurd y (w _ (Qb 0).sb)
   have O:Edge S (cy h (h.length - 1)) m:=by
    have:=Qb (h.length - 1);rw[show h.length - 1+1=0+h.length by lia,f,s] at this;exact this
   have l2:Lx m (cy h (h.length - 1)):=by
    rcases Lx.tri m (cy h (h.length - 1)) with y | y | y
    .exact y
    .exact absurd y.symm O.ne
    .exact absurd y (w _ O.sa)
   have C:=n p d (h.length - 1);rw[show h.length - 1+1=0+h.length by lia,f,s] at C;have E:=n p d 0;rw[s] at E;have Q:=K (h.length - 1);rw[show h.length - 1+1=0+h.length by lia,show h.length - 1+2=1+h.length by lia,f,f,s] at Q;exact zfA C E Q l2 l1 z
  .have hn:h.length=t.length+1:=by rw[e];simp
   have get:∀i z,(m::t++[m])[i]? = some z->i<=h.length/\z=cy h i:=λi z o=>by
    rcases uG i h.length with y | y | y
    .rw[<- e,wM y] at o;refine⟨by lia,?_⟩;have:=z12 (h:=h) (i:=i) (by lia);rw[wY y,o] at this;exact(w6 this)
    .rw[<- e,wX (by lia),y] at o;simp at o;refine⟨by lia,?_⟩;rw[show i=0+h.length by lia,f,s];exact o.symm
    .rw[<- e,uO (by simp;lia)] at o
     cases o
   obtain⟨i1,rfl⟩:=get i a ea;obtain⟨i2,rfl⟩:=get (i+1) b eb;have:=H (i+h.length - 1);rw[show i+h.length - 1+1=i+h.length by lia,show i+h.length - 1+2=i+1+h.length by lia,f,f] at this;exact this
end Geo
namespace Pu
open PySem L2
def z50 {a:Type}{l:List a}{k:Nat}(h:k<l.length):atI l k=l[k]? := by
 unfold atI ixN
 simp_all
def zea {a:Type}{x:a}{r:List a}:atI (x::r) 0=some x:=z50 (by simp)
def zj8 {d:Type}{l:List d}{k:Nat}(h:k<l.length):atI l (k - 1)=l[(k+l.length - 1) % l.length]? := by
 unfold atI ixN
 by_cases a:0<=(k:Int) - 1
 .rw[if_pos a,if_pos (by lia)];show l[((k:Int) - 1).toNat]? = _;rw[show (k+l.length - 1) % l.length=k - 1 by rw[show k+l.length - 1=(k - 1)+l.length by lia,ud];exact wY (by lia)]
  congr 1
  lia
 .rw[if_neg a,if_pos (by lia)];have b:k=0:=by lia
  subst b;show l[(((0):Int) - 1+l.length).toNat]? = _;rw[show (0+l.length - 1) % l.length=l.length - 1 by rw[Wj];exact wY (by lia)]
  congr 1
  lia
abbrev P:=Geo.P
def stp (a b:P):P:=(b.1 - a.1,b.2 - a.2)
def rt (s:P):P:=(s.2,-s.1)
noncomputable def z0s (h:List P)(j:Nat):List (P × P):=(rt (stp (Geo.cy h (j+h.length - 1)) (Geo.cy h j)),Geo.cy h j)::if h.length=2 then [(stp (Geo.cy h (j+h.length - 1)) (Geo.cy h j),Geo.cy h j)] else []
def ways:List P:=[(1,0),(0,1),(-1,0),(0,-1)]
noncomputable def z07 (h:List P):List (P × P):=if h.length=1 then ways.map λb=>(b,Geo.cy h 0) else (List.range h.length).flatMap (z0s h)
abbrev zik (x:P × P):D :=.tup [vec x.1,vec x.2]
def z6Y (q:Q (vec (rt s))):z2C.run [vec s] Q X:=by
 walk_at "fn";ac_nf;exact q
def z9l {h:List P}{k:Nat}(a:k<h.length):atI h k=some (Geo.cy h k):=by
 rw[z50 a, <- z12 (by lia),wY a]
def zmj {h:List P}{k:Nat}(a:k<h.length):atI h (k - 1)=some (Geo.cy h (k+h.length - 1)):=by rw[zj8 a,z12 (by lia)]
def z5D (W:h.length<=100000)(N:h≠[])(q:Q (.lst ((z07 h).map zik))):z1K.run [vecs h,.fn 2] Q X:=by
 have C:0<h.length:=w9.mpr N;walk_at "fn";ac_nf;rw[we];refine z0r (λL =>?_) (λL =>?_)
 .ac_nf;show onL (z06 (vecs ways)) _;ac_nf;refine⟨by rw[we];exact szl' (by decide),?_⟩;refine z1e (g:=λb=>zik (b,Geo.cy h 0)) (λb R K J =>?_) ?_
  .ac_nf;refine z0V (z0x (z9l (k:=0) C)) ?_;ac_nf;exact J
  .rw[z07,if_pos (by lia),wN] at q;exact q
 refine zgj ?_;refine z4c (zeA ?_);ac_nf;refine z1v (λx O=>by cases O) ?_;ac_rfl;ac_nf;rw[we];refine zaD (by lia) (by lia) ?_;have w:(h.length:Int).toNat=h.length:=by simp
 rw[w];have m:∀i:List Nat,(i.flatMap (z0s h)).length<=2*i.length:=by
  intro i
  induction i with
  | nil=>simp
  | cons k i Y=>
   rw[List.flatMap_cons,wG];have:(z0s h k).length<=2:=by unfold z0s;split <;> simp
   simp only[vg];lia
 refine z0i (f:=λ(j:Nat)=>D.int j) (λi p=>Ee3 λ(x y z)=>(∀d,noL d=true->noD d=true->True)/\p=[.s (vecs h),.s (.fn 2),.o (.lst ((i.flatMap (z0s h)).map zik)),x,y,z]) ⟨_,_,_,λ_ _ _=>trivial,rfl⟩ ?_ ?_
 .rintro i k r p e ⟨x,y,z,_,rfl⟩;have u:k<h.length:=by
   have:k∈List.range h.length:=by rw[e];simp
   simpa using this
  have U:i.length<h.length:=by
   have:=congrArg List.length e;simp at this;lia
  have M:=m i;show Sm.run _ _ _ _ _;ac_rfl;ac_nf;refine z0V (z0x (z9l u)) ?_;refine z0h (Safe.of_noL rfl rfl _) ?_;ac_rfl;ac_nf;refine zag rfl ?_;ac_nf;refine z0V (z0x (zmj u)) ?_;ac_nf;refine z2j ?_;refine z0h (Safe.of_noL rfl rfl _) ?_;ac_rfl;refine z4c (z3C (l:=[]) (z0k rfl ?_));ac_nf;refine z6Y ?_;ac_nf;refine⟨by rw[we];exact szl' (by lia),Safe.of_noL rfl rfl _,?_⟩;ac_rfl;ac_nf;rw[we];refine z0r (λI =>?_) (λI =>?_)
  .refine z3C (l:=[]) (z0k rfl ?_);ac_nf;refine⟨by rw[wG,we];exact szl' (by simp only[vg,jn];lia),Safe.of_noL rfl rfl _,?_⟩;ac_rfl;refine⟨.s (.int k),.s (vec (Geo.cy h k)),.s (vec (stp (Geo.cy h (k+h.length - 1)) (Geo.cy h k))),λ_ _ _=>trivial,?_⟩;rw[List.flatMap_append,wD,List.flatMap_cons,List.flatMap_nil,vT,z0s,if_pos (by lia)];simp[stp]
  .ac_nf;refine⟨.s (.int k),.s (vec (Geo.cy h k)),.s (vec (stp (Geo.cy h (k+h.length - 1)) (Geo.cy h k))),λ_ _ _=>trivial,?_⟩;rw[List.flatMap_append,wD,List.flatMap_cons,List.flatMap_nil,vT,z0s,if_neg (by lia)];simp[stp]
 rintro p ⟨x,y,z,_,rfl⟩;ac_nf;rw[z07,if_neg (by lia)] at q;exact q
def z4y:dot p (rt (stp a b))<=dot b (rt (stp a b))↔0<=Qa a b p:=by
 have e:dot b (rt (stp a b)) - dot p (rt (stp a b))=Qa a b p:=by
  unfold dot rt stp Qa
  grind
 lia
def z65:dot p (stp a b)<=dot b (stp a b)↔0<=Geo.dot b a p:=by
 have e:dot b (stp a b) - dot p (stp a b)=Geo.dot b a p:=by
  unfold dot stp Geo.dot
  grind
 lia
def z3b (a:h.length≠1)(b:s∈z07 h):∃j,j<h.length/\s∈z0s h j:=by
 rw[z07,if_neg a] at b
 simp_all
def z1z (b:h.length≠1)(a:j<h.length)(d:s∈z0s h j):s∈z07 h:=by
 rw[z07,if_neg b,List.mem_flatMap];exact⟨j,ub.mpr a,d⟩
def z7r (A:h≠[])(d:∀s∈z07 h,dot p s.1<=dot s.2 s.1):In h p:=by
 match h,A,d with
 | [m],_,d=>
  have g:=d ((1,0),m) (by simp[z07,ways,Geo.cy]);have l:=d ((0,1),m) (by simp[z07,ways,Geo.cy]);have e:=d ((-1,0),m) (by simp[z07,ways,Geo.cy]);have f:=d ((0,-1),m) (by simp[z07,ways,Geo.cy]);unfold dot at g l e f;dsimp only at g l e f;show p=m;exact ua (by lia) (by lia)
 | [a,b],_,d=>
  have t:∀s,s∈z0s [a,b] 0->s∈z07 [a,b]:=λs z=>z1z (by simp) (by simp) z;have u:∀s,s∈z0s [a,b] 1->s∈z07 [a,b]:=λs z=>z1z (by simp) (by simp) z;have g:=z4y.mp (d _ (t (rt (stp b a),a) (by simp[z0s,Geo.cy])));have l:=z4y.mp (d _ (u (rt (stp a b),b) (by simp[z0s,Geo.cy])));have e:=z65.mp (d _ (t (stp b a,a) (by simp[z0s,Geo.cy])));have f:=z65.mp (d _ (u (stp a b,b) (by simp[z0s,Geo.cy])));have C:Qa b a p = -Qa a b p:=by unfold Qa;grind
  exact⟨by lia,e,f⟩
 | a::b::c::r,_,d=>
  refine(In.three (by simp)).mpr λj x y q ex w =>?_;have n:Geo.cy (a::b::c::r) j=y:=by
   have:=z12 (h:=a::b::c::r) (i:=j) (by simp);rw[wY q,w] at this;exact(w6 this).symm
  have o:Geo.cy (a::b::c::r) (j+(a::b::c::r).length - 1)=x:=by
   have:=z12 (h:=a::b::c::r) (i:=j+(a::b::c::r).length - 1) (by simp);rw[ex] at this;exact(w6 this).symm
  have:=d (rt (stp x y),y) (z1z (j:=j) (by simp) q (by rw[z0s,n,o];exact wF));exact z4y.mp this
set_option tactic.hygienic true in
def z4z (x:z03 S h)(a:s∈z07 h):s.2∈h/\∀p,S p->dot p s.1<=dot s.2 s.1:=by
 by_cases i:h.length=1
 .obtain⟨m,rfl⟩:∃m,h=[m]:=by
   match h,i with
   | [m],_=>exact⟨m,rfl⟩
  rw[z07,if_pos i] at a;obtain⟨b,o,rfl⟩:=wf.mp a;refine⟨by simp[Geo.cy],λp d =>?_⟩;have:p=m:=x.in d;subst this;exact vO _
 .obtain⟨j,q,a⟩:=z3b i a;have l:2<=h.length:=by lia
  have e:=z35 x l (j+h.length - 1);rw[show j+h.length - 1+1=j+h.length by lia,show Geo.cy h (j+h.length)=Geo.cy h j by unfold Geo.cy;rw[ud]] at e;unfold z0s at a
  rcases wn.mp a with rfl | a
  .exact⟨z2s (by lia),λp d=>z4y.mpr (e.left p d)⟩
  .split at a
   .rename_i g
    rw[wj.mp a];refine⟨z2s (by lia),λp d=>z65.mpr ?_⟩;have f:=z35 x l j;have n:Geo.cy h (j+h.length - 1)=Geo.cy h (j+1):=by unfold Geo.cy;rw[g];congr 1
    rw[n] at e ⊢;have u:Qa (Geo.cy h j) (Geo.cy h (j+1)) p = -Qa (Geo.cy h (j+1)) (Geo.cy h j) p:=by unfold Qa;grind
    have r:=e.left p d;have t:=f.left p d;exact(f.btw p d (by lia)).1
   .cases a
end Pu
namespace Geo
def sc (p b:P):Int:=p.1*b.1+p.2*b.2
def zbT (b:P):∀{h:List P},h≠[]->∃i,i<h.length/\∀p∈h,sc p b<=sc (cy h i) b:=by
 have d:∀{h:List P},h≠[]->∃c∈h,∀p∈h,sc p b<=sc c b:=by
  intro h
  induction h with
  | nil=>intro z;exact absurd rfl z
  | cons x r m=>
   intro _
   cases r with
   | nil=>simp_all
   | cons y r=>
    obtain⟨c,g,f⟩:=m (by simp)
    by_cases z:sc x b<=sc c b
    .refine⟨c,wq _ g,λp a =>?_⟩
     rcases wn.mp a with rfl | a
     .exact z
     .exact f p a
    .refine⟨x,by simp,λp a =>?_⟩
     rcases wn.mp a with rfl | a
     .exact vO _
     .have:=f p a;lia
 intro h l;obtain⟨c,g,f⟩:=d l;obtain⟨i,j,e⟩:=vj.mp g;refine⟨i,j,λp a =>?_⟩;have:cy h i=c:=by
  have:=z12 (h:=h) (i:=i) (by lia);rw[wY j,wm j,e] at this
  simp_all
 rw[this];exact f p a
def z03.far (x:z03 S h)(l:In h p)(b:P):∃c∈h,sc p b<=sc c b:=by
 match h,x,l with
 | [],x,_=>obtain⟨m,t,e,_⟩:=x.ex;cases e
 | [m],x,l=>exact⟨m,by simp,by rw[show p=m from l];exact vO _⟩
 | [y,z],x,l=>
  obtain⟨H,O,I⟩:=l;have E:Edge S y z:=x.cyc (j:=1) (by simp) (by simp) (by simp) rfl;have J:=E.ne;obtain⟨y1,y2⟩:=y;obtain⟨r,s⟩:=z;obtain⟨u,w⟩:=p;obtain⟨d,f⟩:=b;simp only[Qa,dot] at H O I;generalize a3:r - y1=u1 at*;generalize a4:s - y2=u2 at*;generalize a1:u - y1=n at*;generalize a2:w - y2=o at*;have g:0<u1*u1+u2*u2:=by
   have:=z0g u1;have:=z0g u2
   rcases uV (show 0<=u1*u1+u2*u2 by lia) with k | k
   .exact k
   .obtain⟨U,W⟩:=z4i k.symm;exact(J (ua (by show y1=r;lia) (by show y2=s;lia))).elim
  by_cases hb:0<=u1*d+u2*f
  .refine⟨(r,s),by simp,?_⟩;simp only[sc];have U:y1 - r = -u1:=by lia
   have W:y2 - s = -u2:=by lia
   have k3:u - r=n - u1:=by lia
   have k4:w - s=o - u2:=by lia
   rw[U,W,k3,k4] at I;have a:(r*d+s*f - (u*d+w*f))*(u1*u1+u2*u2)=((n - u1) * -u1+(o - u2) * -u2)*(u1*d+u2*f)+(u1*o - u2*n)*(u2*d - u1*f):=by
    have E:r=u1+y1:=by lia
    have e2:s=u2+y2:=by lia
    have F:u=n+y1:=by lia
    have G:w=o+y2:=by lia
    subst E e2 F G
    grind
   rw[H,jf,uy] at a;have:=z4A g (by rw[a];exact wR I hb);lia
  .refine⟨(y1,y2),by simp,?_⟩;simp only[sc];have a:(y1*d+y2*f - (u*d+w*f))*(u1*u1+u2*u2)=(n*u1+o*u2) * -(u1*d+u2*f) - (u1*o - u2*n)*(u1*f - u2*d):=by
    have F:u=n+y1:=by lia
    have G:w=o+y2:=by lia
    subst F G
    grind
   rw[H,jf,Int.sub_zero] at a;have:=z4A g (by rw[a];exact wR O (by lia));lia
 | a0::Z::c0::r0,x,l=>
  generalize Q:a0::Z::c0::r0=h at*;have R:3<=h.length:=by rw[<- Q];simp
  have A:∀i,0<=Qa (cy h i) (cy h (i+1)) p:=λi=>by
   have q:=(In.three R).mp l ((i+1) % h.length) (cy h i) (cy h (i+1)) (jp _ (by lia));exact q (by rw[z7y (by lia)];exact z12 (by lia)) (z12 (by lia))
  have Qb:=z35 x (by lia);have L:=zdX x R;have tn:∀i,0<Qa (cy h i) (cy h (i+1)) (cy h (i+2)):=λi=>z4X (Qb i) (Qb (i+1)) (L i);have C:∀i,cy h (i+h.length)=cy h i:=λi=>by unfold cy;rw[ud]
  obtain⟨i,hi,T⟩:=zbT b (h:=h) (by rw[<- Q];simp);refine⟨cy h i,z2s (by lia),?_⟩;have m1:=T (cy h (i+h.length - 1)) (z2s (by lia));have m2:=T (cy h (i+1)) (z2s (by lia));have M:=tn (i+h.length - 1);have X:=A (i+h.length - 1);have Y:=A i;rw[show i+h.length - 1+1=i+h.length by lia,C] at M X;rw[show i+h.length - 1+2=(i+1)+h.length by lia,C] at M;generalize cy h (i+h.length - 1)=y at*;generalize cy h i=c at*;generalize cy h (i+1)=z at*;unfold Qa at M X Y;unfold sc at m1 m2 ⊢;have N:0<(z.1 - c.1)*(y.2 - c.2) - (z.2 - c.2)*(y.1 - c.1):=by grind
  have K:0<=(p.1 - c.1)*(y.2 - c.2) - (p.2 - c.2)*(y.1 - c.1):=by grind
  have a:(c.1*b.1+c.2*b.2 - (p.1*b.1+p.2*b.2))*((z.1 - c.1)*(y.2 - c.2) - (z.2 - c.2)*(y.1 - c.1))=((p.1 - c.1)*(y.2 - c.2) - (p.2 - c.2)*(y.1 - c.1))*(c.1*b.1+c.2*b.2 - (z.1*b.1+z.2*b.2))+((z.1 - c.1)*(p.2 - c.2) - (z.2 - c.2)*(p.1 - c.1))*(c.1*b.1+c.2*b.2 - (y.1*b.1+y.2*b.2)):=by grind
  have n1:=wR K (show 0<=c.1*b.1+c.2*b.2 - (z.1*b.1+z.2*b.2) by lia);have n2:=wR Y (show 0<=c.1*b.1+c.2*b.2 - (y.1*b.1+y.2*b.2) by lia);have:=z4A N (by rw[a];lia);lia
def sca (c:Int)(v:P):P:=(v.1*c,v.2*c)
def zcq {c:Int}(f:0<c)(h:sca c a=sca c b):a=b:=by
 have d:=congrArg Prod.fst h;have e:=congrArg Prod.snd h;exact ua (wU (by lia) d) (wU (by lia) e)
def zlW {c:Int}(f:0<c):Lx (sca c a) (sca c b)->Lx a b:=by
 intro h
 rcases h with h | ⟨d,e⟩
 .exact .inl (Int.lt_of_mul_lt_mul_right h (by lia))
 .exact .inr ⟨wU (by lia) d,Int.lt_of_mul_lt_mul_right e (by lia)⟩
def zhd (c:Int)(a b p:P):Qa (sca c a) (sca c b) (sca c p)=c*c*Qa a b p:=by
 simp[Qa,sca]
 grind
def zdQ (c:Int)(a b p:P):dot (sca c a) (sca c b) (sca c p)=c*c*dot a b p:=by
 simp[dot,sca]
 grind
theorem Path.mapTo (d:∀a b,R a b->R' (f a) (f b)):∀{l:List P},Path R l->Path R' (l.map f)
 | [],_=>trivial
 | [_],_=>trivial
 | a::b::r,h=>⟨d a b h.1,Path.mapTo d h.2⟩
theorem z03.sca {l h:List P}{c:Int}(j:0<c)(x:z03 (· ∈ l) h):z03 (· ∈ l.map (sca c)) (h.map (sca c)):=by
 have u:0<c*c:=wS j j;obtain⟨m,t,rfl,o,r,s,i⟩:=x.ex;refine⟨Geo.sca c m,t.map (Geo.sca c),by rw[wE],wf.mpr ⟨m,o,rfl⟩,λp g z =>?_,λz =>?_,?_⟩
 .obtain⟨q,d,rfl⟩:=wf.mp g;exact r q d (zlW j z)
 .obtain⟨q,d,e⟩:=wf.mp z;exact s (zcq j e ▸ d)
 .rcases i with ⟨rfl,i⟩ | ⟨n,i⟩
  .refine .inl ⟨rfl,λp g =>?_⟩;obtain⟨q,d,rfl⟩:=wf.mp g;rw[i q d]
  .refine .inr ⟨by simpa using n,?_⟩;have:=i.mapTo (R':=Edge (· ∈ l.map (Geo.sca c))) (f:=Geo.sca c) λa b e =>?_
   .rw[wD,wE] at this;exact this
   refine⟨wf.mpr ⟨a,e.sa,rfl⟩,wf.mpr ⟨b,e.sb,rfl⟩,λz=>e.ne (zcq j z),λp g =>?_,λp g z =>?_⟩
   .obtain⟨q,d,rfl⟩:=wf.mp g;rw[zhd];exact wR (by lia) (e.left q d)
   .obtain⟨q,d,rfl⟩:=wf.mp g;rw[zhd] at z;have w:Qa a b q=0:=(wI.mp z).resolve_left (by lia);have:=e.btw q d w;rw[zdQ,zdQ];exact⟨wR (by lia) this.1,wR (by lia) this.2⟩
theorem z5j:∀{l:List Int},(∀x∈l,0<=x)->0<=l.sum/\∀x∈l,x<=l.sum
 | [],_=>⟨by simp,λx a=>by cases a⟩
 | y::l,h=>by
  have d:=z5j (l:=l) λx a=>h x (by simp[a]);have b:=h y (by simp);rw[wP]
  grind
end Geo
namespace Pu
open PySem L2
def Far (m:Int)(p:Int × Int):Prop:=(-m<=p.1/\p.1<=m) /\ -m<=p.2/\p.2<=m
def Far.vb {m:Int}{n:Nat}{p:Int × Int}(h:Far m p)(f:m<2 ^ n):Vb n p:=by
 obtain⟨⟨a,b⟩,d,e⟩:=h;refine⟨z04 ?_,z04 ?_⟩ <;> lia
def zjP {s t:Sm}{b:Pu.Env}{N:Pu.Env->Prop}{Q:DK}{X:XP}(W:Pu.Env->Prop)(h:s.run b W Q X)(k:∀a,W a->t.run a N Q X):(Sm.seq s t).run b N Q X:=s.mono b W _ Q Q X X k (λ_ z=>z) (λ_ z=>z) h
def zhc {a:Type}{f:a->D}{l:List a}{k:Int}(h:0<=k):cutD (l.map f) (some k) none=(l.drop k.toNat).map f:=by
 have b:HT.sIx l.length 0 (some k)=min k.toNat l.length:=by
  show (if k<0 then (k+l.length).toNat else min _ _)=_;rw[if_neg (by lia)]
 rw[z2q,b];show ((l.drop _).take (l.length - min _ _)).map f=_;rw[uD (by simp)]
 simp_all
open Mth
structure Pl (x y b u v t:Int):Prop where
 pos:0<t
 cop:Int.gcd ((Int.gcd u v):Int) t=1
 cx:u*b=x*t
 cy:v*b=y*t
def Pl.of {x y b u v t:Int}(h:Plc x y b u v t):Pl x y b u v t:=⟨by have:=h.pos;lia,h.cop,h.cx,h.cy⟩
def z84 {u v t b:Int}(e:Int.gcd ((Int.gcd u v):Int) t=1)(h:t ∣ u*b)(i:t ∣ v*b):t ∣ b:=by
 have f:t.natAbs ∣ u.natAbs*b.natAbs:=by rw[<- uj];simp_all
 have g:t.natAbs ∣ v.natAbs*b.natAbs:=by rw[<- uj];simp_all
 have d:=Wg f g;rw[Nat.gcd_mul_right] at d;have a:Nat.Coprime t.natAbs (Nat.gcd u.natAbs v.natAbs):=by
  rw[z3s,j0] at e;exact e
 exact uN.mp (a.dvd_of_dvd_mul_left d)
def Pl.dvd {x y b u v t:Int}(h:Pl x y b u v t):t ∣ b:=z84 h.cop ⟨x,by rw[h.cx,wT]⟩ ⟨y,by rw[h.cy,wT]⟩
def Pl.eq {x y b u v t a i t':Int}(q:0<b)(h:Pl x y b u v t)(k:Pl x y b a i t'):u=a/\v=i/\t=t':=by
 have g:b≠0:=by lia
 have j:∀{u a x:Int},u*b=x*t->a*b=x*t'->u*t'=a*t:=λ{u a x} o p=>by
  apply wU g
  calc u*t'*b=(u*b)*t':=by grind
   _=(a*b)*t:=by rw[o,p];grind
   _=a*t*b:=by grind
 have d:=j h.cx k.cx;have f:=j h.cy k.cy;have m:t ∣ t':=z84 h.cop ⟨a,by rw[d,wT]⟩ ⟨i,by rw[f,wT]⟩;have n:t' ∣ t:=z84 k.cop ⟨u,by rw[<- d,wT]⟩ ⟨v,by rw[<- f,wT]⟩;have e:t=t':=Int.dvd_antisymm (by have:=h.pos;lia) (by have:=k.pos;lia) m n;subst e;have l:t≠0:=by have:=h.pos;lia
 exact⟨wU l d,wU l f,rfl⟩
def Pl.bt {x y b u v t:Int}{n m:Nat}(i:0<b)(h:Pl x y b u v t)(f:Bt n b)(g:Bt m x)(d:Bt m y):Bt n t/\Bt m u/\Bt m v:=by
 obtain⟨k,a⟩:=h.dvd;have j:=h.pos;have le:∀{u x:Int},u*b=x*t->u.natAbs<=x.natAbs:=λ{u x} e=>by
  have:u*k=x:=by
   apply wU (show t≠0 by lia);rw[<- e,a]
   grind
  rw[<- this,uj];exact Nat.le_mul_of_pos_right _ (by lia)
 refine⟨f.of_abs ?_,g.of_abs (le h.cx),d.of_abs (le h.cy)⟩;rw[a,uj];exact Nat.le_mul_of_pos_right _ (by lia)
def zec (a:Int):(if a<0 then -a else a)=a.natAbs:=by split <;> lia
def z1X (q:Q (.int ((Int.gcd a b):Int))):z05.run [.int a,.int b] Q X:=by
 walk_at "fn";ac_nf;rw[zec,zec];refine z5U (λf=>Ee3 λ(g s:Nat) x=>Nat.gcd g s=Int.gcd a b/\f=[.s (.int a),.s (.int b),.s (.int g),.s (.int s),x]) (λf=>(nI f 3).toNat) ⟨a.natAbs,b.natAbs,_,rfl,rfl⟩ ?_;rintro f ⟨g,s,x,e,rfl⟩;ac_nf;refine z24 (z0r (λz =>?_) (λz =>?_))
 .ac_nf;have:s=0:=by lia
  subst this;rw[Nat.gcd_zero_right] at e;rw[e];exact q
 .ac_nf;have i:g % s=((g % s:Nat):Int):=by simp
  refine⟨⟨s,g % s,_,by rw[<- e,j0 g s,Nat.gcd_rec s g,j0],by rw[i]⟩,?_⟩;show (g % (s:Int)).toNat<(s:Int).toNat
  rw[i];have:=jp g (show 0<s by lia);lia
def z4e (e:0<b)(f:Bt 8000 b)(q:∀u v t,Pl x y b u v t->Q (.tup [.int u,.int v,.int t])):z2g.run [.int x,.int y,.int b] Q X:=by
 have g:=zgD (x:=x) (y:=y) e;have j:=zaZ (x:=x) (y:=y) e;have i:Bt 9000 _:=Bt.le (f.of_abs (by
  have:=uN.mpr (z5P x y b);exact j7 (by lia) this))
 walk_at "fn";ac_nf;refine z1X ?_;ac_nf;refine z1X ?_;rw[show ((Int.gcd _ y):Int)=g3 x y b from rfl];ac_nf;exact q _ _ _ (Pl.of g)
def z3m {x y z a b c:Int}(J:0<z)(I:0<c)(w:Int.gcd ((Int.gcd x y:Nat)) z=1)(C:Int.gcd ((Int.gcd a b:Nat)) c=1)(bx:Bt 8000 x)(R:Bt 8000 y)(e:Bt 8000 z)(U:Bt 8000 a)(W:Bt 8000 b)(f:Bt 8000 c)
  (q:∀u v t,Pl (x*c+a*z) (y*c+b*z) (z*c) u v t->Q (.tup [.int u,.int v,.int t])):z14.run [.tup [.int x,.int y,.int z],.tup [.int a,.int b,.int c]] Q X:=by
 obtain⟨g,i⟩:∃g,g=((Int.gcd z c):Int):=⟨_,rfl⟩
 obtain⟨u,m⟩:∃u,u=x*(c / g)+a*(z / g):=⟨_,rfl⟩
 obtain⟨v,o⟩:∃v,v=y*(c / g)+b*(z / g):=⟨_,rfl⟩
 obtain⟨r,j⟩:∃r,r=((Int.gcd ((Int.gcd g u):Int) v:Nat):Int):=⟨_,rfl⟩
 obtain⟨p,K,gl,L,pl⟩:=z8J J I w C i m o j;have Y:Bt 9000 g:=Bt.le (e.of_abs gl);have Z:Bt 9000 r:=Bt.le (e.of_abs L);have M:Bt 8000 (c / g):=f.of_abs (z0u p);have N:Bt 8000 (z / g):=e.of_abs (z0u p);have O:Bt 8000 (c / r):=f.of_abs (z0u K);walk_at "fn";ac_nf;refine z1X ?_;rw[<- i];ac_nf;rw[<- m, <- o];refine z1X ?_;ac_nf;refine z1X ?_;rw[<- j];ac_nf;exact q _ _ _ (Pl.of pl)
def gcd0 (u t:Int):Int.gcd ((Int.gcd u 0):Int) t=Int.gcd u t:=by simp[Int.gcd]
def Pl.low {t b:Int}(f:0<b):Pl t 0 b (t / (Int.gcd t b)) 0 (b / (Int.gcd t b)):=by
 obtain⟨i,a,d,h,e⟩:=z3x (t:=t) f;refine⟨by lia,by rw[gcd0];exact e,?_,by simp⟩;generalize (Int.gcd t b)=g at*;generalize t / g=u at*;generalize b / g=w at*;rw[d,a]
 grind
def z57 {a b c d:Int}(C:0<b)(I:0<d)(p:Int.gcd a b=1)(w:Int.gcd c d=1)(O:Bt 8000 a)(e:Bt 8000 b)(R:Bt 8000 c)(f:Bt 8000 d)
  (q:∀u t,Pl (a*d+c*b) 0 (b*d) u 0 t->Q (.tup [.int u,.int t])):z2p.run [.tup [.int a,.int b],.tup [.int c,.int d]] Q X:=by
 obtain⟨g,i⟩:∃g,g=((Int.gcd b d):Int):=⟨_,rfl⟩
 obtain⟨t,m⟩:∃t,t=a*(d / g)+c*(b / g):=⟨_,rfl⟩
 obtain⟨r,j⟩:∃r,r=((Int.gcd g t):Int):=⟨_,rfl⟩
 obtain⟨o,J,gl,K,pl⟩:=z8J (x:=a) (y:=0) (z:=b) (a:=c) (b:=0) (c:=d) (v:=0) (r:=r) C I (by rw[gcd0];exact p) (by rw[gcd0];exact w) i m (by simp) (by rw[j];simp);have U:Bt 9000 g:=Bt.le (e.of_abs gl);have W:Bt 9000 r:=Bt.le (e.of_abs K);have L:Bt 8000 (d / g):=f.of_abs (z0u o);have M:Bt 8000 (b / g):=e.of_abs (z0u o);have N:Bt 8000 (d / r):=f.of_abs (z0u J);walk_at "fn";ac_nf;refine z1X ?_;rw[<- i];ac_nf;rw[<- m];refine z1X ?_;rw[<- j];ac_nf;have:=Pl.of pl;simp only[Int.zero_ediv,jf,uy] at this;exact q _ _ this
abbrev Sh:=Nat × Int × Int
noncomputable abbrev shD (s:Sh):D :=.tup [.int (s.1),.tup [.int s.2.1,.int s.2.2]]
def wx (l:List P)(k:Nat):Int:=(Geo.cy l k).1
def wy (l:List P)(k:Nat):Int:=(Geo.cy l k).2
def z0H {c k m:Int}(g:0<=k)(b:k<=1000)(e:0<m)(q:∀r:Int,0<=r->r<m->Q (.int r)):z00.run [.int c,.int k,.int m] Q X:=by
 have f:Bt 700 (c % 170141183460469231731687303715884105727+(k+3)*1000000007):=(Bt.add (z04 (n:=130) (by lia)) (z04 (n:=130) (by lia))).le;walk_at "fn";ac_nf;exact q _ (Wa _ (by lia)) (jH _ e)
def Ln (d:D):Prop:=d = .non\/∃p:P,d=vec p/\Far 3 p
def zcz {c m:Int}(u:0<=m)(r:m<=1000000000)(q:∀p,Far 1000000000 p->Q (vec p)):z0f.run [.int c,.int m] Q X:=by
 have b:0<2*m+1:=by lia
 have e:Bt 640 m:=z04 (by lia);have f:Bt 9000 (2*m+1):=Bt.le (m:=40) (z04 (by lia));walk_at "fn";ac_nf;have g:=Wa c (show 2*m+1≠0 by lia);have i:=jH c b;have j:=Wa (c / (2*m+1)) (show 2*m+1≠0 by lia);have o:=jH (c / (2*m+1)) b;exact q (c % (2*m+1) - m,c / (2*m+1) % (2*m+1) - m) ⟨⟨by lia,by lia⟩,by lia,by lia⟩
abbrev wtD (x:List P × P):D :=.tup [vecs x.1,vec x.2]
def zgM (x:List P × P):noL (wtD x)=true:=by
 have:=z19 x.1;simpa[noLs,noL] using this
def zgO (x:List P × P):noD (wtD x)=true:=by
 have:=z1a x.1;simpa[noDs,noD] using this
def min2 (a b:Int):(if b<a then b else a)=min a b:=by split <;> lia
def z8y {k:Int}(h:0<=k):HT.sIx n d (some k)=min k.toNat n:=by
 show (if k<0 then (k+n).toNat else min _ n)=_;rw[if_neg (by lia)]
def zcC (q:∀c,(c % 2=1->ns≠[])->Q (.int c)):z0m.run [.lst (ns.map .int),.int 0] Q X:=by
 walk_at "fn";refine z0r (λh =>?_) (λh =>?_)
 .ac_nf;rw[we] at h;obtain⟨v,_,e⟩:=z5y (by decide) h;rw[z0x e];exact q v λ_ z=>by simp_all
 .exact q 0 λz=>by lia
theorem z3T {a b:Type}{f:a->D}{g:b->D}{P:a->b->Prop}{G:D->(Option D->Prop)->Prop}:∀{l:List a}{M:List D->Prop},(∀x∈l,∀K:Option D->Prop,(∀y,P x y->K (some (g y)))->G (f x) K)->(∀ys:List b,ys.length=l.length->(∀(i:Nat) h,∃y,ys[i]? = some y/\P l[i] y)->M (ys.map g))->z4Z G (l.map f) M
 | [],_,_,q=>q [] rfl (λi h=>absurd h (by simp))
 | x::r,M,h,q=>h x wF _ λy j=>z3T (λz m=>h z (wq _ m)) λys e d=>q (y::ys) (by simp[e]) λi n=>by
  cases i with
  | zero=>exact⟨y,rfl,j⟩
  | succ i=>exact d i _
def most (l:List P)(b:P):Int->Prop:=λm=>m∈l.map (dot · b)/\∀p∈l,dot p b<=m
def ziF (h:most l b m)(k:most l b n):m=n:=by
 obtain⟨p,a,rfl⟩:=wf.mp h.1;obtain⟨r,d,rfl⟩:=wf.mp k.1;exact Int.le_antisymm (k.2 p a) (h.2 r d)
def Sums (ws:List (List P × P))(b:P)(t:Int):Prop:=∃a:List Int,a.length=ws.length/\(∀(i:Nat) h,∃m,most ws[i].1 b m/\a[i]? = some (m+dot ws[i].2 b))/\t=a.sum
abbrev zer (s:P × P):D :=.tup [vec s.1,.int (dot s.2 s.1)]
def zht (o:h≠[])(m:Wb 10000000 h)(a:s∈z07 h):Vb 20000000 s.1/\s.2∈h:=by
 have e  := w9.mpr o
 by_cases n:h.length=1
 .rw[z07,if_pos n] at a;obtain⟨b,d,rfl⟩:=wf.mp a;refine⟨?_,z2s e⟩;show Vb _ b;unfold ways at d;simp[wn,wA,vA] at d
  rcases d with rfl | rfl | rfl | rfl <;> exact⟨(bt_k (by decide +kernel)).le,(bt_k (by decide +kernel)).le⟩
 .obtain⟨j,p,a⟩:=z3b n a;have g:=m _ (z2s (i:=j+h.length - 1) e);have l:=m _ (z2s (i:=j) e);have f:Vb 20000000 (stp _ _):=⟨(Bt.sub l.1 g.1).le,(Bt.sub l.2 g.2).le⟩
  rcases wn.mp a with rfl | a
  .exact⟨⟨f.2,f.1.neg⟩,z2s e⟩
  .split at a
   .rw[wj.mp a];exact⟨f,z2s e⟩
   .cases a
def zcl (x:z03 S h)(d:s∈z07 h):s.1≠(0,0):=by
 by_cases f:h.length=1
 .rw[z07,if_pos f] at d;obtain⟨b,a,rfl⟩:=wf.mp d;show b≠(0,0);unfold ways at a;simp only[wn,wA,vA] at a
  rcases a with rfl | rfl | rfl | rfl <;> decide
 .obtain⟨j,m,d⟩:=z3b f d;have e:=z35 x (by lia) (j+h.length - 1);rw[show j+h.length - 1+1=j+h.length by lia,show Geo.cy h (j+h.length)=Geo.cy h j by unfold Geo.cy;rw[ud]] at e;have i:stp (Geo.cy h (j+h.length - 1)) (Geo.cy h j)≠(0,0):=λz=>by
   unfold stp at z
   injection z with g l
   exact e.ne (ua (by lia) (by lia))
  unfold z0s at d
  rcases wn.mp d with rfl | d
  .intro z;unfold rt at z
   injection z with g l
   exact i (ua (by dsimp only;lia) g)
  simp_all
def z64 (h:List P):(z07 h).length<=2*h.length+4:=by
 unfold z07
 split
 .simp[ways]
 .have:∀a:List Nat,(a.flatMap (z0s h)).length<=2*a.length:=by
   intro a
   induction a with
   | nil=>simp
   | cons k a b=>
    rw[List.flatMap_cons,wG];have:(z0s h k).length<=2:=by unfold z0s;split <;> simp
    grind
  grind
def z56 (z:Vs d l)(f:Wb 10000000 l)(C:l≠[])(L:l.length<=63)(q:∀h,Hd l h->Q (.tup ((z07 h).map zer))):z26.run [d] Q X:=by
 walk_at "fn";ac_nf;refine z0K z f.le L λh o =>?_;have x:=o.is C;have i:=x.sub;have M:h.length<=l.length:=z2k x.nodup i;have b:h≠[]:=by
  obtain⟨m,t,w,_⟩:=x.ex;rw[w];simp
 ac_nf;refine z5D (by lia) b ?_;have J:=z64 h;refine z0h ⟨trivial,trivial,trivial⟩ ?_;ac_rfl;ac_nf;refine⟨by rw[we];exact szl' (by lia),?_⟩;refine z1e (g:=zer) (λs j K y =>?_) ?_
 .obtain⟨r,u⟩:=zht b (λp I=>f p (i p I)) j;refine⟨rfl,?_⟩;show Ex.run _ _ _ _;unfold z09 z09 z09;ac_rfl;ac_nf;refine z3n r.le ((f _ (i _ u)).le) ?_;ac_nf;have e:s.1.1*s.2.1+s.1.2*s.2.2=dot s.2 s.1:=by unfold dot;grind
  rw[e];exact y
 ac_nf;exact q h o
def znG (q:Q (.bl (!decide (x=y)))):pNe.run [.bl x,.bl y] Q X:=q
theorem filterMap_map {a b:Type}{f:a->Option b}{g:a->b}:∀{ks:List a},(∀k∈ks,f k=some (g k))->ks.filterMap f=ks.map g
 | [],_=>rfl
 | k::ks,h=>by rw[uE,h k (by simp),wE,filterMap_map λx d=>h x (by simp[d])]
def zdD (x:z03 T h)(d:∀p∈h,S p)(g:∀p,S p->∀b:P,∃c,T c/\dot p b<=dot c b):z03 S h:=by
 refine x.fill d λp i=>z7r (by obtain⟨m,t,e,_⟩:=x.ex;rw[e];simp) λs d =>?_;obtain⟨c,f,a⟩:=g p i s.1;exact ju a ((z4z x d).2 c f)
def z33 (q:Q (vec (p.1+r.1,p.2+r.2))):z0T.run [vec p,vec r] Q X:=by
 walk_at "fn";ac_nf;exact q
def mv (s p:P):P:=(p.1+s.1,p.2+s.2)
def z71 (b:Wb 600 l)(f:Vb 600 s)(m:l.length<=62)(q:∀h,Hd (l.map (mv s)) h->Q (vecs h)):z2D.run [.tup [vecs l,vec s]] Q X:=by
 walk_at "fn";ac_nf;refine⟨by rw[we];exact szl' (by lia),?_⟩;refine z1e (g:=λp=>vec (mv s p)) (λp e K j =>?_) ?_
 .ac_nf;exact z33 j
 refine z0K (.inr (by rw[wN];rfl)) (λp e =>?_) (by simp;lia) q;obtain⟨v,i,rfl⟩:=wf.mp e;exact⟨(Bt.add (b v i).1 f.1).le,(Bt.add (b v i).2 f.2).le⟩
end Pu
namespace Geo
def cx (u v:P):Int:=u.1*v.2 - u.2*v.1
def Rs (u:P):Prop:=0<u.1\/(u.1=0/\0<u.2)
instance (u:P):Decidable (Rs u):=inferInstanceAs (Decidable (_\/_))
def Be (u v:P):Prop:=(Rs u/\¬ Rs v)\/((Rs u↔Rs v)/\0<cx u v)
instance (u v:P):Decidable (Be u v):=inferInstanceAs (Decidable (_\/_))
def z8z (h:u≠(0,0)):Rs (ng u)↔¬ Rs u:=by
 obtain⟨a,b⟩:=u;have:¬ (a=0/\b=0):=λ⟨d,e⟩=>h (by rw[d,e]);simp[Rs,ng];lia
def zbU (u v:P):cx (ng u) (ng v)=cx u v:=by simp[cx,ng];grind
def zha (u v:P):cx (ng u) v=cx v u:=by simp[cx,ng];grind
def zdZ (u v:P):cx u (ng v) = -cx u v:=by simp[cx,ng];grind
def znP (h:u≠(0,0)):ng u≠(0,0):=λz=>h (by
 have a:=congrArg Prod.fst z;have b:=congrArg Prod.snd z;simp[ng] at a b;exact ua (by lia) (by lia))
def zdG {u v w:P}(n:Rs u)(f:Rs v)(o:Rs w)(g:0<cx u v)(h:0<cx v w):0<cx u w:=by
 obtain⟨u1,b⟩:=u;obtain⟨a,d⟩:=v;obtain⟨w1,e⟩:=w;simp only[Rs,cx] at*;have j:(u1*e - b*w1)*a=(u1*d - b*a)*w1+(a*e - d*w1)*u1:=by grind
 rcases f with f | ⟨f,i⟩
 .rcases ui 0 (u1*e - b*w1) with z | z
  .exact z
  .exfalso
   have p:(u1*e - b*w1)*a<=0:=vG z (by lia);have q:0<=(u1*d - b*a)*w1:=wR (by lia) (by lia);have r:0<=(a*e - d*w1)*u1:=wR (by lia) (by lia);have m:(a*e - d*w1)*u1=0:=by omega
   have l:u1=0:=(wI.mp m).resolve_left (by lia);subst l;have:=wS (show 0<b by lia) f;simp at g;lia
 .subst f;have:0<=d*w1:=wR (by lia) (by lia);simp at h;lia
def zdF {u v w:P}(n:Rs u)(a:Rs v)(o:Rs w)(h:0<cx u w):0<cx u v\/0<cx v w:=by
 obtain⟨b,g⟩:=u;obtain⟨i,j⟩:=v;obtain⟨w1,m⟩:=w;simp only[Rs,cx] at*
 rcases ui 0 _ with d | d
 .exact .inl d
 rcases ui 0 _ with f | f
 .exact .inr f
 exfalso
 have p:(b*j - g*i)*w1<=0:=vG d (by lia);have r:(i*m - j*w1)*b<=0:=vG f (by lia)
 rcases a with a | ⟨a,e⟩
 .have:=wS h a;lia
 .subst a;simp at d;have l:b=0:=by
   rcases ui 0 b with q | q
   .have:=wS q e;lia
   .lia
  subst l;have:0<=g*w1:=wR (by lia) (by lia);simp at h;lia
def Be.tr {u v w:P}(g:u≠(0,0))(h:v≠(0,0))(i:w≠(0,0))(f:Be u v)(e:Be v w):Be u w:=by
 rcases f with ⟨a,b⟩ | ⟨a,b⟩
 .rcases e with ⟨c,d⟩ | ⟨c,d⟩
  .exact absurd c b
  .exact .inl ⟨a,λz=>b (c.mpr z)⟩
 .rcases e with ⟨c,d⟩ | ⟨c,d⟩
  .exact .inl ⟨a.mpr c,d⟩
  .refine .inr ⟨a.trans c,?_⟩
   by_cases r:Rs u
   .exact zdG r (a.mp r) (c.mp (a.mp r)) b d
   .have:=zdG ((z8z g).mpr r) ((z8z h).mpr λz=>r (a.mpr z)) ((z8z i).mpr λz=>r (a.mpr (c.mpr z))) (by rw[zbU];exact b) (by rw[zbU];exact d)
    rwa [zbU] at this
def Be.wk {u v w:P}(d:u≠(0,0))(e:v≠(0,0))(f:w≠(0,0))(h:Be u w):Be u v\/Be v w:=by
 rcases h with ⟨a,b⟩ | ⟨a,b⟩
 .by_cases r:Rs v
  .exact .inr (.inl ⟨r,b⟩)
  .exact .inl (.inl ⟨a,r⟩)
 .by_cases r:Rs u
  .by_cases s:Rs v
   .rcases zdF r s (a.mp r) b with z | z
    .exact .inl (.inr ⟨⟨λ_=>s,λ_=>r⟩,z⟩)
    .exact .inr (.inr ⟨⟨λ_=>a.mp r,λ_=>s⟩,z⟩)
   .exact .inl (.inl ⟨r,s⟩)
  .by_cases s:Rs v
   .exact .inr (.inl ⟨s,λz=>r (a.mpr z)⟩)
   .rcases zdF ((z8z d).mpr r) ((z8z e).mpr s) ((z8z f).mpr λz=>r (a.mpr z)) (by rw[zbU];exact b) with z | z
    .rw[zbU] at z;exact .inl (.inr ⟨⟨λq=>absurd q r,λq=>absurd q s⟩,z⟩)
    .rw[zbU] at z;exact .inr (.inr ⟨⟨λq=>absurd q s,λq=>absurd (a.mpr q) r⟩,z⟩)
def Be.irr:¬ Be u u:=by
 rintro(⟨a,b⟩ | ⟨_,b⟩)
 .exact b a
 .have:cx u u=0:=by simp[cx];grind
  lia
noncomputable def Dt (t:P)(l:List P):Int:=(l.map (cx · t)).sum
def Dt.app (t:P)(l m:List P):Dt t (l++m)=Dt t l+Dt t m:=by unfold Dt;simp_all
theorem Dt.nonneg {t:P}:∀{l:List P},(∀u∈l,0<=cx u t)->0<=Dt t l
 | [],_=>by simp[Dt]
 | u::l,h=>by
  have:=Dt.nonneg (l:=l) λx a=>h x (by simp[a]);have:=h u (by simp);simp[Dt] at*;lia
theorem Dt.nonpos {t:P}:∀{l:List P},(∀u∈l,cx u t<=0)->Dt t l<=0
 | [],_=>by simp[Dt]
 | u::l,h=>by
  have:=Dt.nonpos (l:=l) λx a=>h x (by simp[a]);have:=h u (by simp);simp[Dt] at*;lia
theorem z7B {t:P}(d:∀u v:P,R u v->Be v t->Be u t):∀{E:List P},E.Pairwise R->∃F G,E=F++G/\(∀u∈F,Be u t)/\(∀u∈G,¬ Be u t)
 | [],_=>⟨[],[],rfl,λ_ h=>by(cases h),λ_ h=>by(cases h)⟩
 | u::E,h=>by
  rw[vd] at h
  by_cases b:Be u t
  .obtain⟨F,G,e,f,g⟩:=z7B d h.2;exact⟨u::F,G,by rw[e];rfl,λx a=>(wn.mp a).elim (λz=>z ▸ b) (f x),g⟩
  .exact⟨[],u::E,rfl,λ_ h=>by(cases h),λx a=>(wn.mp a).elim (λz=>z ▸ b) λz q=>b (d u x (h.1 x z) q)⟩
def lead {t:P}(p:t≠(0,0))(i:∀u∈E,u≠(0,0))(j:E.Pairwise Be)(J:Dt t E=0)(e:E=F++G)(y:∀u∈F,Be u t)(n:∀u∈G,¬ Be u t)(k:E=K++L):Dt t K<=Dt t F:=by
 have x:Dt t F+Dt t G=0:=by rw[<- Dt.app, <- e];exact J
 have M:∀u∈F,u≠(0,0):=λu b=>i u (by rw[e];simp[b]);have N:∀u∈G,u≠(0,0):=λu b=>i u (by rw[e];simp[b]);have H:=znP p
 by_cases r:Rs t
 .have A:∀u∈F,0<cx u t:=λu b=>by
   rcases y u b with ⟨_,z⟩ | ⟨_,z⟩
   .exact absurd r z
   .exact z
  have S:0<=Dt t F:=Dt.nonneg λu b=>wt (A u b)
  rcases jT.mp (k.symm.trans e) with ⟨a,d,f⟩ | ⟨c,d,f⟩
  .have:0<=Dt t a:=Dt.nonneg λu b=>wt (A u (by rw[d];simp[b]));rw[d,Dt.app];lia
  .rw[d,Dt.app]
   rcases ui 0 (Dt t c) with z | z
   .exfalso
    obtain⟨u,b,o⟩:∃u∈c,0<cx u t:=by
     apply v8;intro q;have:=Dt.nonpos (t:=t) (l:=c) λu b=>by
      rcases ui 0 (cx u t) with w | w
      .exact absurd ⟨u,b,w⟩ q
      .exact w
     lia
    have s:¬ Rs u:=λw=>n u (by rw[f];simp[b]) (.inr ⟨⟨λ_=>r,λ_=>w⟩,o⟩);have rt:¬ Rs (ng t):=λw=>(z8z p).mp w r;have m:Be (ng t) u :=.inr ⟨⟨λw=>absurd w rt,λw=>absurd w s⟩,by rw[zha];exact o⟩;have W:0<=Dt t L:=Dt.nonneg λv h=>by
     have g:Be u v:=by
      rw[k,d,uf] at j;exact j.2.2 u (by simp[b]) v h
     have Q:=i v (by rw[k];simp[h]);have I:=m.tr H (N u (by rw[f];simp[b])) Q g
     rcases I with ⟨w,_⟩ | ⟨_,w⟩
     .exact absurd w rt
     .rw[zha] at w;lia
    rw[f,Dt.app] at x;lia
   .lia
 .have C:∀u∈G,cx u t<=0:=λu b=>by
   have s:¬ Rs u:=λw=>n u b (.inl ⟨w,r⟩)
   rcases ui 0 (cx u t) with w | w
   .exact absurd (.inr ⟨⟨λq=>absurd q s,λq=>absurd q r⟩,w⟩) (n u b)
   .exact w
  have T:Dt t G<=0:=Dt.nonpos C
  rcases jT.mp (k.symm.trans e) with ⟨a,d,f⟩ | ⟨c,d,f⟩
  .rw[d,Dt.app]
   rcases ui (Dt t a) 0 with z | z
   .exfalso
    obtain⟨v,h,o⟩:∃v∈a,cx v t<0:=by
     apply v8;intro q;have:=Dt.nonneg (t:=t) (l:=a) λu b=>by
      rcases ui (cx u t) 0 with w | w
      .exact absurd ⟨u,b,w⟩ q
      .exact w
     lia
    have R:Rs v:=by
     rcases y v (by rw[d];simp[h]) with ⟨w,_⟩ | ⟨_,w⟩
     .exact w
     .lia
    have rt:Rs (ng t):=(z8z p).mpr r;have m:Be v (ng t) :=.inr ⟨⟨λ_=>rt,λ_=>R⟩,by rw[zdZ];lia⟩;have U:Dt t K<=0:=Dt.nonpos λu b=>by
     have g:Be u v:=by
      rw[k,f,uf] at j;exact j.2.2 u b v (by simp[h])
     have O:=i u (by rw[k];simp[b])
     rcases g.tr O (M v (by rw[d];simp[h])) H m with ⟨_,w⟩ | ⟨_,w⟩
     .exact absurd rt w
     .rw[zdZ] at w;lia
    rw[d,Dt.app] at x;lia
   .lia
  .have:Dt t c<=0:=Dt.nonpos λu b=>C u (by rw[f];simp[b]);rw[d,Dt.app];lia
def sb (a b:P):P:=(b.1 - a.1,b.2 - a.2)
def pl (a b:P):P:=(a.1+b.1,a.2+b.2)
noncomputable def vs (l:List P):P:=((l.map (·.1)).sum,(l.map (·.2)).sum)
def z23 (u:P)(l:List P):vs (u::l)=pl u (vs l):=rfl
def zaq (l m:List P):vs (l++m)=pl (vs l) (vs m):=by
 simp[vs,pl,wD,ul]
def vs_perm (h:l.Perm m):vs l=vs m:=by
 induction h with
 | nil=>rfl
 | cons x _ d=>rw[z23,z23,d]
 | swap x y l=>simp only[z23,pl];exact ua (by simp;lia) (by simp;lia)
 | trans _ _ a b=>exact a.trans b
theorem zai (t:P):∀l:List P,Dt t l=cx (vs l) t
 | []=>by simp[Dt,vs,cx]
 | u::l=>by
  have a:=zai t l;rw[z23,show Dt t _=cx u t+Dt t l by simp[Dt],a];simp[cx,pl]
  grind
def df:List P->List P
 | a::b::r=>sb a b::df (b::r)
 | _=>[]
theorem zb3:∀{r:List P}{a q:P},q∈a::r->∃K L,df (a::r)=K++L/\vs K=sb a q
 | [],a,q,h=>by
  rw[wj.mp h];exact⟨[],[],rfl,by simp[vs,sb]⟩
 | b::r,a,q,h=>by
  rcases wn.mp h with rfl | h
  .exact⟨[],_,rfl,by simp[vs,sb]⟩
  .obtain⟨K,L,e,v⟩:=zb3 h;refine⟨sb a b::K,L,by rw[df,e];rfl,?_⟩;rw[z23,v];simp only[pl,sb];exact ua (by simp;lia) (by simp;lia)
theorem zmg:∀{r:List P}{a:P}{K L:List P},df (a::r)=K++L->∃q∈a::r,vs K=sb a q
 | [],a,K,L,h=>by
  have  := (jG.mp h.symm).1;subst this;exact⟨a,by simp,by simp[vs,sb]⟩
 | b::r,a,[],L,h=>⟨a,by simp,by simp[vs,sb]⟩
 | b::r,a,u::K,L,h=>by
  obtain⟨rfl,d⟩:=List.cons.inj h;obtain⟨q,e,v⟩:=zmg d;refine⟨q,wq _ e,?_⟩;rw[z23,v];simp only[pl,sb];exact ua (by simp;lia) (by simp;lia)
theorem zb5:∀{r:List P}{a z:P},vs (df (a::r++[z]))=sb a z
 | [],a,z=>by simp[df,vs,sb]
 | b::r,a,z=>by
  show vs (sb a b::df (b::r++[z]))=_;rw[z23,zb5];simp only[pl,sb];exact ua (by simp;lia) (by simp;lia)
theorem zh8:∀{r s:List P}{a m:P},df (a::r++m::s)=df (a::r++[m])++df (m::s)
 | [],s,a,m=>by
  rfl
 | b::r,s,a,m=>by
  show sb a b::df (b::r++m::s)=sb a b::df _++df _;rw[zh8]
  rfl
noncomputable def mg:List P->List P->List P
 | E,[]=>E
 | E,f::F=>E.takeWhile (λu=>decide (Be u f))++f::mg (E.dropWhile (λu=>decide (Be u f))) F
theorem z5i:∀(E F:List P),(mg E F).Perm (E++F)
 | E,[]=>by simp[mg]
 | E,f::F=>by
  have a:=z5i (E.dropWhile (λu=>decide (Be u f))) F;refine(jL _ (a.cons f)).trans ?_
  conv=>rhs;rw[<- jq (p:=λu=>decide (Be u f)) (l:=E),vH]
  exact jL _ jW.symm
theorem zgU:∀{E F K L:List P},mg E F=K++L->∃b g d i,E=b++g/\F=d++i/\K.Perm (b++d)
 | E,[],K,L,h=>⟨K,L,[],[],h,rfl,by simp⟩
 | E,f::F,K,L,h=>by
  rw[mg] at h;have m:=jq (p:=λu=>decide (Be u f)) (l:=E);generalize E.takeWhile (λu=>decide (Be u f))=T at*;generalize E.dropWhile (λu=>decide (Be u f))=R at*
  rcases jT.mp h with ⟨a,e,j⟩ | ⟨c,e,j⟩
  .cases a with
   | nil=>exact⟨T,R,[],f::F,m.symm,rfl,by rw[e]⟩
   | cons x a=>
    rw[jZ] at j;obtain⟨rfl,n⟩:=List.cons.inj j;obtain⟨b,g,d,i,o,q,r⟩:=zgU n;refine⟨T++b,g,f::d,i,by rw[<- m,o,vH],by rw[q,jZ],?_⟩;rw[e,vH];exact jL _ ((r.cons f).trans jW.symm)
  .exact⟨K,c++R,[],f::F,by rw[<- m,e,vH],rfl,by simp⟩
def Nz (l:List P):Prop:=∀u∈l,u≠(0,0)
def Be.asym {u v:P}(a:u≠(0,0))(b:v≠(0,0))(h:Be u v):¬ Be v u:=λz=>Be.irr (h.tr a b a z)
theorem zlT:∀{E F:List P},Nz E->Nz F->E.Pairwise (λx y=>¬ Be y x)->F.Pairwise (λx y=>¬ Be y x)->(mg E F).Pairwise (λx y=>¬ Be y x)
 | E,[],_,_,h,_=>by rw[mg];exact h
 | E,f::F,H,I,g,n=>by
  have A:=jq (p:=λu=>decide (Be u f)) (l:=E);have G:∀u∈E.takeWhile (λu=>decide (Be u f)),Be u f:=λu a=>by
   have:=List.all_eq_true.mp (List.all_takeWhile (p:=λu=>decide (Be u f)) (l:=E)) u a;simpa using this
  have o:∀d r,E.dropWhile (λu=>decide (Be u f))=d::r->¬ Be d f:=λd r e z=>by
   have:=List.head?_dropWhile_not (λu=>decide (Be u f)) E;rw[e] at this;simp at this;exact this z
  rw[mg];have K:=z5i (E.dropWhile (λu=>decide (Be u f))) F;generalize E.takeWhile (λu=>decide (Be u f))=T at*;generalize E.dropWhile (λu=>decide (Be u f))=R at*;have J:Nz T:=λu a=>H u (by rw[<- A];simp[a]);have s:Nz R:=λu a=>H u (by rw[<- A];simp[a]);have t:=I f (by simp);have m:Nz F:=λu a=>I u (by simp[a]);rw[<- A,uf] at g;rw[vd] at n;have L:=zlT s m g.2.1 n.2;have j:∀y∈mg R F,y∈R\/y∈F:=λy b=>wB.mp (K.mem_iff.mp b);rw[uf,vd];refine⟨g.1,⟨λy b =>?_,L⟩,λx i y b =>?_⟩
  .rcases j y b with z | z
   .cases R with
    | nil=>cases z
    | cons d r=>
     have C:=o d r rfl
     rcases wn.mp z with rfl | z
     .exact C
     .intro w
      rcases w.wk (v:=d) (s y (by simp[z])) (s d (by simp)) t with q | q
      .exact(vd.mp g.2.1).1 y z q
      .exact C q
   .exact n.1 y z
  .rcases wn.mp b with rfl | b
   .exact(G x i).asym (J x i) t
   .rcases j y b with z | z
    .exact g.2.2 x i y z
    .intro w;exact n.1 y z (w.tr (m y z) (J x i) t (G x i))
def ziH {t:P}(p:t≠(0,0))(j:Nz E)(m:Nz F)(C:E.Pairwise Be)(G:F.Pairwise Be)(zE:vs E=(0,0))(zF:vs F=(0,0)):
  ∃K L,mg E F=K++L/\∀r H s I,E=r++H->F=s++I->Dt t r+Dt t s<=Dt t K:=by
 have J:∀{l:List P},vs l=(0,0)->Dt t l=0:=λ{l} h=>by rw[zai,h];simp[cx]
 have wk:∀{l:List P},Nz l->l.Pairwise Be->l.Pairwise (λx y=>¬ Be y x):=λ{l} n h=>by
  have:l.Pairwise λx y=>(x∈l/\y∈l):=jk λx g y i=>⟨g,i⟩
  exact(h.and this).imp λ{x y} ⟨q,g,i⟩=>q.asym (n x g) (n y i)
 have z:∀{l:List P}{R:P->P->Prop},Nz l->l.Pairwise R->l.Pairwise λx y=>(x≠(0,0)/\y≠(0,0))/\R x y:=λ{l R} n h=>by
  have:l.Pairwise λx y=>(x≠(0,0)/\y≠(0,0)):=jk λx g y i=>⟨n x g,n y i⟩
  exact this.and h
 have e:∀u v:P,((u≠(0,0)/\v≠(0,0))/\Be u v)->Be v t->Be u t:=λu v ⟨⟨a,b⟩,c⟩ d=>c.tr a b p d;have o:∀u v:P,((u≠(0,0)/\v≠(0,0))/\¬ Be v u)->Be v t->Be u t:=λu v ⟨⟨a,b⟩,c⟩ d=>(d.wk b a p).resolve_left c;have nM:Nz (mg E F):=λu f=>(wB.mp ((z5i E F).mem_iff.mp f)).elim (j u) (m u);obtain⟨X,E2,M,S,U⟩:=z7B e (z j C);obtain⟨F1,F2,N,T,W⟩:=z7B e (z m G);obtain⟨K,L,Q,pK,qK⟩:=z7B o (z nM (zlT j m (wk j C) (wk m G)));refine⟨K,L,Q,λr H s I Y Z =>?_⟩;have a1:=lead p j C (J zE) M S U Y;have a2:=lead p m G (J zF) N T W Z;have w:∀{A B:List P},(∀u∈A,Be u t)->(∀u∈B,¬ Be u t)->(A++B).filter (λu=>decide (Be u t))=A:=λ{A B} ha hb=>by
  rw[List.filter_append,List.filter_eq_self.mpr λu f=>vf (ha u f),List.filter_eq_nil_iff.mpr λu f=>by simpa using hb u f,vT]
 have O:=(z5i E F).filter (λu=>decide (Be u t));rw[Q,w pK qK,List.filter_append,M,w S U,N,w T W] at O;have:Dt t K=Dt t X+Dt t F1:=by rw[zai,vs_perm O, <- zai,Dt.app]
 lia
def rd (h:List P):List P:=if h.length=1 then [] else df (h++h.take 1)
def zlV {a b c:P}(h:Lx a b)(k:Lx b c):Lx a c:=by
 simp[Lx] at*;lia
def ziI (h:Lx a b):Rs (sb a b):=by
 simp[Lx,Rs,sb] at*;lia
def zdn (h:Lx b a):¬ Rs (sb a b):=by
 simp only[Lx,Rs,sb] at*;lia
def zjE (h:a≠b):sb a b≠(0,0):=λz=>h (by
 have d:=congrArg Prod.fst z;have e:=congrArg Prod.snd z;simp[sb] at d e
 grind)
theorem zfW (e:∀a b,R a b->a≠b):∀{p:List P},Path R p->Nz (df p)
 | [],_=>λu d=>by(cases d)
 | [_],_=>λu d=>by(cases d)
 | a::b::r,h=>λu d=>by
  rcases wn.mp d with rfl | d
  .exact zjE (e a b h.1)
  .exact zfW e h.2 u d
theorem zb4:u∈df p->∃a b,(∀R:P->P->Prop,Path R p->R a b)/\u=sb a b:=by
 match p with
 | []=>intro h;cases h
 | [_]=>intro h;cases h
 | a::b::r=>
  intro h
  rcases wn.mp h with rfl | h
  .exact⟨a,b,λR q=>q.1,rfl⟩
  .obtain⟨x,y,q,e⟩:=zb4 h;exact⟨x,y,λR w=>q R w.2,e⟩
theorem z7z:∀{p:List P},p.Pairwise R->Path R p
 | [],_=>trivial
 | [_],_=>trivial
 | a::b::r,h=>by
  rw[vd] at h;exact⟨h.1 b (by simp),z7z h.2⟩
theorem ziW (j:∀a b c d:P,O a b->O c d->(Rs (sb a b)↔Rs (sb c d)))(tr:∀a b c:P,O a b->O b c->a≠c):∀{p:List P},Path (Edge S) p->Path O p->(df p).Pairwise Be
 | [],_,_ =>.nil
 | [_],_,_ =>.nil
 | [a,b],_,_=>List.pairwise_singleton _ _
 | a::b::c::r,h,o=>by
  have g:=ziW j tr h.2 o.2;have i:=zfW (λ_ _ e=>e.ne) h.2;rw[df,vd];refine⟨λu f =>?_,g⟩;have first:Be _ _ :=.inr ⟨j a b b c o.1 o.2.1,by
   have:=z4X h.1 h.2.1 (tr a b c o.1 o.2.1);have e:Qa a b c=cx (sb a b) (sb b c):=by simp[Qa,cx,sb];grind
   rwa [e] at this⟩
  rw[df] at f g i
  rcases wn.mp f with rfl | f
  .exact first
  .exact first.tr (zjE h.1.ne) (i _ (by simp)) (i u (by simp[f])) ((vd.mp g).1 u f)
structure Rnd (h:List P):Prop where
 nz:Nz (rd h)
 up:(rd h).Pairwise Be
 zero:vs (rd h)=(0,0)
def Hd.rnd (x:Hd l h)(G:l≠[]):Rnd h:=by
 obtain⟨rl,C,E,rfl⟩:=x;have H:rl≠[]:=λz=>by
  obtain⟨p,r,rfl⟩:=List.exists_cons_of_ne_nil G;have:=(E p).mpr (by simp);rw[z] at this
  cases this
 have N:=w9.mpr H
 rcases wW rl.length 2 with z | z
 .have e:hull rl=rl:=if_pos (by lia);have:rd (hull rl)=[]:=by rw[e];exact if_pos (by lia)
  refine⟨?_,?_,?_⟩ <;> rw[this]
  .exact λu f=>by(cases f)
  .exact .nil
  .rfl
 .obtain⟨m,M,A,B,e,Q,L,F,o,n,J,K,s,t⟩:=z79 z C;have i:rd (hull rl)=df (m::A++[M])++df (M::B++[m]):=by
   unfold rd;rw[if_neg (by rw[e];simp),e];show df (m::A++M::B++[m])=_;rw[vH,jZ];exact zh8
  have up:=z7z J;have j:=z7z K;have g:∀a b,Edge (· ∈ rl) a b->a≠b:=λa b e=>e.ne;refine⟨?_,?_,?_⟩
  .rw[i];intro u f
   rcases wB.mp f with f | f
   .exact zfW g s u f
   .exact zfW g t u f
  .rw[i,uf];refine⟨ziW (O:=Lx) (λa b c d q w=>⟨λ_=>ziI w,λ_=>ziI q⟩) (λa b c q w z=>by subst z;exact Lx.irr (zlV q w)) s up,ziW (O:=λx y=>Lx y x) (λa b c d q w=>⟨λz=>absurd z (zdn q),λz=>absurd z (zdn w)⟩) (λa b c q w z=>by subst z;exact Lx.irr (zlV q w)) t j,λu f v I =>?_⟩;obtain⟨a,b,q,rfl⟩:=zb4 f;obtain⟨c,d,w,rfl⟩:=zb4 I;exact .inl ⟨ziI (q _ up),zdn (w _ j)⟩
  .rw[i,zaq,zb5,zb5];simp only[pl,sb];exact ua (by simp;lia) (by simp;lia)
def zjZ (e:h=a::r)(k:rd h=K++L):∃q∈h,vs K=sb a q:=by
 subst e;unfold rd at k
 split at k
 .have  := (jG.mp k.symm).1;subst this;exact⟨a,by simp,by simp[vs,sb]⟩
 .obtain⟨q,b,v⟩:=zmg k;refine⟨q,?_,v⟩;simp at b ⊢
  grind
set_option tactic.hygienic true in
def zaC (e:h=a::r)(b:q∈h):∃K L,rd h=K++L/\vs K=sb a q:=by
 subst e;unfold rd
 split
 .rename_i z
  have  := uz.mp (by simpa using z);subst this;rw[wj.mp b];exact⟨[],[],rfl,by simp[vs,sb]⟩
 .exact zb3 (by simp at b ⊢;rcases b with z | z;exact .inl z;simp_all)
def join {r s e f r1 r2:List P}(N:Hd r e)(O:Hd s f)(G:r≠[])(H:s≠[])(m:e=a::r1)(n:f=b::r2):
  (∀K L,mg (rd e) (rd f)=K++L->∃p∈e,∃q∈f,pl (pl a b) (vs K)=pl p q)/\
  ∀p∈e,∀q∈f,∀d:P,∃K L,mg (rd e) (rd f)=K++L/\sc (pl p q) d<=sc (pl (pl a b) (vs K)) d:=by
 have g:=N.rnd G;have R2:=O.rnd H;refine⟨λK L k =>?_,λp h q i d =>?_⟩
 .obtain⟨Q,R,S,T,I,J,M⟩:=zgU k;obtain⟨p,h,j⟩:=zjZ m I;obtain⟨q,i,l⟩:=zjZ n J;refine⟨p,h,q,i,?_⟩;rw[vs_perm M,zaq,j,l];simp only[pl,sb]
  grind
 .by_cases o:d=(0,0)
  .subst o;exact⟨[],_,rfl,by simp[sc]⟩
  .have C:((-d.2,d.1):P)≠(0,0):=λz=>o (by
    have t:=congrArg Prod.fst z;have u:=congrArg Prod.snd z;simp at t u;exact ua u t)
   obtain⟨K,L,k,far⟩:=ziH C g.nz R2.nz g.up R2.up g.zero R2.zero;obtain⟨w,y,E,j⟩:=zaC m h;obtain⟨x,A,F,l⟩:=zaC n i;refine⟨K,L,k,?_⟩;have:=far w y x A E F;rw[zai,zai,zai,j,l] at this;simp only[cx,sb,sc,pl] at*
   grind
end Geo
namespace Pu
open PySem L2
def zlJ (q:Q (.bl (HT.z0P [r.1,r.2] [p.1,p.2]))):pGt.run [vec p,vec r] Q X:=q
def zgZ (u:P):HT.z0P [(0),0] [u.1,u.2]=decide (Geo.Rs u):=by
 rw[j2];exact(zh0 (a:=(0,0))).trans ⟨λh=>by simp[Lx,Geo.Rs] at *;lia,λh=>by simp[Lx,Geo.Rs] at *;lia⟩
def z8w {u v:P}(hu:Vb 30000000 u)(g:Vb 30000000 v)(q:Q (.bl (decide (Be u v)))):z30.run [vec u,vec v] Q X:=by
 walk_at "fn";ac_nf;refine zlJ (p:=u) (r:=(0,0)) ?_;rw[show HT.z0P [((0,0)).1,((0,0)).2] [u.1,u.2]=decide (Geo.Rs u) from zgZ u];ac_nf;refine zlJ (p:=v) (r:=(0,0)) ?_;rw[show HT.z0P [((0,0)).1,((0,0)).2] [v.1,v.2]=decide (Geo.Rs v) from zgZ v];ac_nf;refine znG ?_;refine z24 (z0r (λe =>?_) (λe =>?_))
 .ac_nf;refine z3J hu g ?_;ac_nf;have f:Geo.Rs u↔Geo.Rs v:=by rw[<- Wc (p:=Geo.Rs u),e,Wc]
  have:decide (0<u.1*v.2 - u.2*v.1)=decide (Be u v):=decide_eq_decide.mpr ⟨λz =>.inr ⟨f,z⟩,λz=>by
   rcases z with ⟨a,b⟩ | ⟨_,b⟩
   .exact absurd (f.mp a) b
   .exact b⟩
  rw[this];exact q
 .ac_nf;have:decide (Geo.Rs u)=decide (Be u v):=decide_eq_decide.mpr ⟨λz =>.inl ⟨z,λw=>e (by rw[vf z,vf w])⟩,λz=>by
   rcases z with ⟨a,_⟩ | ⟨a,_⟩
   .exact a
   .exact absurd (decide_eq_decide.mpr a) e⟩
  rw[this];exact q
def z6z (Z:Wb 30000000 E)(hF:Wb 30000000 F)(zE:E.length<=1000)(zF:F.length<=1000)(q:Q (.lst ((Geo.mg E F).map vec))):z2e.run [.lst (E.map vec),.lst (F.map vec)] Q X:=by
 walk_at "fn";ac_nf;refine z1v (λx hx=>by cases hx) ?_;ac_rfl;ac_nf;refine z0i (f:=vec) (λI y=>Ee3 λ(m:List P) n R=>Aa4 (∀G,Geo.mg E (I++G)=m++Geo.mg (E.drop n) G) (n<=E.length) (m.length=n+I.length) (y=[.s (.lst (E.map vec)),.s (.lst (F.map vec)),.o (.lst (m.map vec)),.s (.int n),R])) ⟨[],0,_,λG=>by simp,by simp,by simp,rfl⟩ ?_ ?_
 .rintro I f r y e ⟨m,n,R,O,Y,W,rfl⟩;have hf:=hF f (by rw[e];simp);have hd:I.length<=1000:=by
   have:=congrArg List.length e;simp at this;lia
  show Sm.run _ _ _ _ _;ac_rfl;refine zjP (λL=>Ee2 λg j=>g=m++(E.drop n).takeWhile (λu=>decide (Be u f))/\E.drop j=(E.drop n).dropWhile (λu=>decide (Be u f))/\j<=E.length/\g.length=j+I.length/\L=[.s (.lst (E.map vec)),.s (.lst (F.map vec)),.o (.lst (g.map vec)),.s (.int j),.s (vec f)]) ?_ ?_
  .refine z5U (λy=>Ee2 λ(g:List P) j=>Aa5 (g++(E.drop j).takeWhile (λu=>decide (Be u f))=m++(E.drop n).takeWhile (λu=>decide (Be u f))) ((E.drop j).dropWhile (λu=>decide (Be u f))=(E.drop n).dropWhile (λu=>decide (Be u f))) (j<=E.length) (g.length=j+I.length) (y=[.s (.lst (E.map vec)),.s (.lst (F.map vec)),.o (.lst (g.map vec)),.s (.int j),.s (vec f)])) (λy=>(E.length - nI y 3).toNat) ⟨m,n,rfl,rfl,Y,W,rfl⟩ ?_;rintro y ⟨g,j,J,w,N,K,rfl⟩;ac_nf;rw[we];refine z0r (λz =>?_) (λz =>?_)
   .have C:j<E.length:=by lia
    obtain⟨u,hu,M⟩:=z5y (xs:=E) (i:=j) (by lia) (by lia);have p:E.drop j=u::E.drop (j+1):=by
     rw[uI C]
     congr 1
     rw[z50 C,wm C] at M;exact w6 M
    ac_nf;refine z0V (z0x M) ?_;ac_nf;refine z8w (Z u hu) hf ?_;refine z0r (λb =>?_) (λb =>?_)
    .refine z4c (z3C (l:=[]) (z0k rfl ?_));ac_nf;refine z0V (z0x M) ?_;refine⟨by rw[we];exact szl' (by lia),Safe.of_noL rfl rfl _,?_⟩;ac_rfl;ac_nf;refine⟨⟨g++[u],j+1,?_,?_,by lia,by simp;lia,by rw[wD];simp⟩,?_⟩
     .rw[<- J,p,List.takeWhile_cons,if_pos (by simpa using b),vH]
      rfl
     .rw[<- w,p,List.dropWhile_cons,if_pos (by simpa using b)]
     .show ((E.length:Int) - (j+1)).toNat<(E.length - (j:Int)).toNat
      lia
    .rw[p,List.takeWhile_cons,if_neg (by simpa using b),vT] at J;rw[p,List.dropWhile_cons,if_neg (by simpa using b), <- p] at w;exact⟨g,j,J,w,N,K,rfl⟩
   .ac_nf;have p:E.drop j=[]:=List.drop_eq_nil_of_le (by lia);rw[p] at J w;simp only[List.takeWhile_nil,vT,List.dropWhile_nil] at J w;exact⟨g,j,J,by rw[p];exact w,N,K,rfl⟩
  rintro L ⟨g,j,rfl,w,N,K,rfl⟩;refine z3C (l:=[]) (z0k rfl ?_);ac_nf;refine⟨by rw[we,K];exact szl' (by lia),Safe.of_noL rfl rfl _,?_⟩;ac_rfl;refine⟨m++(E.drop n).takeWhile (λu=>decide (Be u f))++[f],j,_,λG =>?_,N,by rw[wG,K];simp;lia,by rw[wD (l₂:=[f])];rfl⟩;rw[vH,List.singleton_append,O (f::G),Geo.mg,w];simp
 rintro y ⟨m,n,R,O,Y,W,rfl⟩;have U:=O [];rw[vT,Geo.mg] at U;ac_nf;rw[zhc (by lia)];refine zde (by simp;exact szl (by lia)) ?_;rw[<- wD,show ((n:Int)).toNat=n by lia, <- U];exact q
def zlx (q:Q (.lst ((l.zip m).map λp =>.tup [p.1,p.2]))):z7C.run [.tup l,.tup m] Q X:=q
def z9m {a:Type}{f:a->D}{l:List a}{k:Int}(h:0<=k):cutD (l.map f) none (some k)=(l.take k.toNat).map f:=by
 have b:HT.sIx l.length l.length (some k)=min k.toNat l.length:=by
  show (if k<0 then (k+l.length).toNat else min _ _)=_;rw[if_neg (by lia)]
 rw[z2q,b];show ((l.drop 0).take (min _ _ - 0)).map f=_
 simp_all
theorem zga:∀r (a z:P),((a::r).zip (r++[z])).map (λp=>Geo.sb p.1 p.2)=df (a::r++[z])
 | [],a,z=>rfl
 | b::r,a,z=>by
  show Geo.sb a b::((b::r).zip (r++[z])).map _=Geo.sb a b::df (b::r++[z]);rw[zga r b z]
def z4B (b:h.length<=1000)(i:h≠[])(q:Q (.lst ((Geo.rd h).map vec))):z1Z.run [vecs h,.fn 2] Q X:=by
 walk_at "fn";ac_nf;rw[we];refine z0r (λz =>?_) (λz =>?_)
 .ac_nf;have:Geo.rd h=[]:=if_pos (by lia);rw[this] at q;exact q
 ac_nf;obtain⟨a,r,rfl⟩:=List.exists_cons_of_ne_nil i;rw[zhc (by decide),z9m (by decide)];refine z3A (by simp;exact szl (by simp at b;lia)) ?_;rw[<- wD,show (a::r).drop (1:Int).toNat++(a::r).take (1:Int).toNat=r++[a] from rfl];refine z0h (Safe.of_noL (z19 _) (z1a _) _) ?_;ac_rfl;ac_nf;refine zlx ?_;rw[List.zip_map,wN];ac_nf;refine⟨by rw[we];exact szl' (by simp at b ⊢;lia),?_⟩;refine z1e (g:=λp:P × P=>vec (Geo.sb p.1 p.2)) (λp j K f =>?_) ?_
 .refine⟨rfl,?_⟩;show Ex.run _ _ _ _;unfold z09 z09 z09;ac_rfl;refine zag rfl ?_;ac_nf;exact z2j f
 have e:Geo.rd (a::r)=df (a::r++[a]):=if_neg (by lia);rw[show (((a::r).zip (r++[a])).map λp=>vec (Geo.sb p.1 p.2))=(((a::r).zip (r++[a])).map λp=>Geo.sb p.1 p.2).map vec by rw[wN];rfl,zga, <- e];exact q
theorem zh7:∀(l:List P),(df l).length<=l.length - 1
 | []=>by simp[df]
 | [_]=>by simp[df]
 | a::b::r=>by
  have:=zh7 (b::r);rw[df]
  simp_all
def zjV (e:Wb 20000000 h):Wb 30000000 (Geo.rd h):=λu d=>by
 unfold Geo.rd at d
 split at d
 .cases d
 .obtain⟨a,b,R,rfl⟩:=zb4 d;have:∀p∈h++h.take 1,p∈h:=λp g=>(wB.mp g).elim id vB;have f:=R (λa b=>a∈h/\b∈h) (z7z (jk λx i y j=>⟨this x i,this y j⟩));exact(e a f.1).step (e b f.2)
def Sm2 (d e:List P)(p:P):Prop:=∃a∈d,∃b∈e,p=Geo.pl a b
end Pu
namespace Geo
def In.of_far (x:z03 S h)(d:∀b,∃c∈h,sc p b<=sc c b):In h p:=by
 match h,x,d with
 | [],x,_=>obtain⟨m,t,e,_⟩:=x.ex;cases e
 | [m],x,d=>
  have g:∀b,sc p b<=sc m b:=λb=>by
   obtain⟨c,f,le⟩:=d b;rw[wj.mp f] at le;exact le
  have i:=g (1,0);have n:=g (-1,0);have o:=g (0,1);have q:=g (0,-1);simp only[sc] at i n o q;show p=m;exact ua (by omega) (by omega)
 | [a,b],x,d=>
  have g:∀u,sc p u<=sc a u\/sc p u<=sc b u:=λu=>by
   obtain⟨c,f,le⟩:=d u;simp only[wn,wA,vA] at f
   rcases f with rfl | rfl
   .exact .inl le
   .exact .inr le
  have K:=z0g (b.1 - a.1);have L:=z0g (b.2 - a.2);have i:=g (-(b.2 - a.2),b.1 - a.1);have n:=g (b.2 - a.2,-(b.1 - a.1));have o:=g (a.1 - b.1,a.2 - b.2);have q:=g (b.1 - a.1,b.2 - a.2);clear g d x;have r:sc p (-(b.2 - a.2),b.1 - a.1)=sc a (-(b.2 - a.2),b.1 - a.1)+Qa a b p:=by simp only[sc,Qa];grind
  have s:sc b (-(b.2 - a.2),b.1 - a.1)=sc a (-(b.2 - a.2),b.1 - a.1):=by simp only[sc];grind
  have w:sc p (b.2 - a.2,-(b.1 - a.1))=sc a (b.2 - a.2,-(b.1 - a.1)) - Qa a b p:=by simp only[sc,Qa];grind
  have y:sc b (b.2 - a.2,-(b.1 - a.1))=sc a (b.2 - a.2,-(b.1 - a.1)):=by simp only[sc];grind
  have z:sc p (a.1 - b.1,a.2 - b.2)=sc a (a.1 - b.1,a.2 - b.2) - dot a b p:=by simp only[sc,dot];grind
  have A:sc b (a.1 - b.1,a.2 - b.2)=sc a (a.1 - b.1,a.2 - b.2) - ((b.1 - a.1)*(b.1 - a.1)+(b.2 - a.2)*(b.2 - a.2)):=by simp only[sc];grind
  have C:sc p (b.1 - a.1,b.2 - a.2)=sc b (b.1 - a.1,b.2 - a.2) - dot b a p:=by simp only[sc,dot];grind
  have E:sc a (b.1 - a.1,b.2 - a.2)=sc b (b.1 - a.1,b.2 - a.2) - ((b.1 - a.1)*(b.1 - a.1)+(b.2 - a.2)*(b.2 - a.2)):=by simp only[sc];grind
  show Qa a b p=0/\0<=dot a b p/\0<=dot b a p;generalize Qa a b p=M at*;generalize dot a b p=N at*;generalize dot b a p=O at*;generalize (b.1 - a.1)*(b.1 - a.1)=Q at*;generalize (b.2 - a.2)*(b.2 - a.2)=R at*;rw[r,s] at i;rw[w,y] at n;rw[z,A] at o;rw[C,E] at q;refine⟨?_,?_,?_⟩ <;> omega
 | a0::I::J::t,x,d=>
  refine(In.three (by simp)).mpr λj a b H F G =>?_;have e:=x.cyc (by simp) H F G;obtain⟨c,f,le⟩:=d (b.2 - a.2,-(b.1 - a.1));have l:=e.left c (x.sub c f);simp only[sc] at le;simp only[Qa] at l ⊢
  grind
def Ms:List (List P)->P->Prop
 | [],p=>p=(0,0)
 | d::a,p=>∃q∈d,∃r,Ms a r/\p=pl q r
def zcU (a b:P):pl a b=pl b a:=by simp only[pl];grind
def zcT (a b c:P):pl a (pl b c)=pl b (pl a c):=by simp[pl];grind
def zdj (h:l.Perm m):∀p,Ms l p->Ms m p:=by
 induction h with
 | nil=>exact λ_ h=>h
 | cons x _ j=>rintro p ⟨q,a,r,i,e⟩;exact⟨q,a,r,j r i,e⟩
 | swap x y l=>rintro p ⟨q,a,r,⟨n,b,o,d,rfl⟩,rfl⟩;exact⟨n,b,_,⟨q,a,o,d,rfl⟩,zcT _ _ _⟩
 | trans _ _ f g=>exact λp h=>g p (f p h)
def z7R:Ms (ds++[d]) p↔∃r,Ms ds r/\∃q∈d,p=pl r q:=by
 constructor
 .intro h;obtain⟨q,a,r,b,e⟩:=zdj (List.perm_append_singleton d ds) p h;exact⟨r,b,q,a,by rw[e,zcU]⟩
 .rintro⟨r,b,q,a,e⟩;exact zdj (List.perm_append_singleton d ds).symm p ⟨q,a,r,b,by rw[e,zcU]⟩
def zhv (a b u:P):sc (pl a b) u=sc a u+sc b u:=by simp[sc,pl];grind
def zfx (x:z03 (Ms ds) h)(l:z03 (· ∈ d0) d)(y:z03 (λp=>∃a∈h,∃b∈d,p=pl a b) h'):z03 (Ms (ds++[d0])) h':=by
 refine y.fill (λp i =>?_) (λp i =>?_)
 .obtain⟨a,o,b,s,e⟩:=y.sub p i;exact z7R.mpr ⟨a,x.sub a o,b,l.sub b s,e⟩
 .obtain⟨r,z,q,w,rfl⟩:=z7R.mp i;refine In.of_far y λu =>?_;obtain⟨c,t,le⟩:=x.far (x.in z) u;obtain⟨n,g,A⟩:=l.far (l.in w) u;obtain⟨m,f,j⟩:=y.far (y.in ⟨c,t,n,g,rfl⟩) u;refine⟨m,f,?_⟩;rw[zhv] at j ⊢;omega
def zlS:z03 (Ms []) [(0,0)]:=⟨(0,0),[],rfl,rfl,λp a=>by(have  := a;rw[this];exact Lx.irr),by simp,.inl ⟨rfl,λ_ h=>h⟩⟩
def Far (S:P->Prop)(b:P)(F:Int):Prop:=(∀p,S p->sc p b<=F)/\∃p,S p/\sc p b=F
def zaf:Far (Ms []) b 0:=⟨λp a=>by(have  := a;rw[this];simp[sc]),(0,0),rfl,by simp[sc]⟩
end Geo
namespace Pu
open PySem L2
structure Wt4 (x:List P × P)(n:Nat:=140):Prop where
 wb:Wb n x.1
 ne:x.1≠[]
 len:x.1.length<=12
 vb:Vb n x.2
def Wt4.up (h:Wt4 x 136):Wt4 x:=⟨λp a=>⟨(h.wb p a).1.le,(h.wb p a).2.le⟩,h.ne,h.len,⟨h.vb.1.le,h.vb.2.le⟩⟩
def zgi {c m:Int}(M:0<=m)(w:m<=10000000000000000000000000000000000000000)(o:Ln d)(q:∀p,Far 10000000000000000000000000000000000000000 p->Q (vec p)):z0Q.run [.int c,.int m,d] Q X:=by
 have I:Bt 640 m:=z04 (by lia)
 rcases o with rfl | ⟨⟨a,b⟩,rfl,⟨⟨e,f⟩,g,i⟩⟩
 .walk_at "fn";ac_nf;refine z24 (z8k rfl ?_);ac_nf;refine z0H (by decide) (by decide) (by lia) λr y r1 =>?_;ac_nf;refine z0H (by decide) (by decide) (by lia) λu N O =>?_;ac_nf;exact q (r - m,u - m) ⟨⟨by show _<=r - m;lia,by show r - m<=_;lia⟩,by show _<=u - m;lia,by show u - m<=_;lia⟩
 .dsimp only at e f g i;have z:Bt 640 a:=z04 (by lia);have C:Bt 640 b:=z04 (by lia);walk_at "fn";ac_nf;refine z24 (z9I rfl ?_);ac_nf;refine z0H (by decide) (by decide) (by decide) λr y r1 =>?_;ac_nf;have J:Bt 640 (r - 3):=z04 (by lia);ac_nf;have j:∀x:Int,-3<=x->x<=3 -> -9<=x*(r - 3)/\x*(r - 3)<=9:=λx K L=>by
   rcases(by lia:x = -3\/x = -2\/x = -1\/x=0\/x=1\/x=2\/x=3) with rfl | rfl | rfl | rfl | rfl | rfl | rfl <;> lia
  have:=j a e f;have:=j b g i;exact q (a*(r - 3),b*(r - 3)) ⟨⟨by show _<=a*(r - 3);lia,by show a*(r - 3)<=_;lia⟩,by show _<=b*(r - 3);lia,by show b*(r - 3)<=_;lia⟩
def z0W (x:z03 S h):h≠[]:=by obtain⟨m,t,e,_⟩:=x.ex;rw[e];simp
def vs_perm (h:l.Perm m):Geo.vs l=Geo.vs m:=by
 induction h with
 | nil=>rfl
 | cons x _ a=>rw[z23,z23,a]
 | swap x y l=>rw[z23,z23,z23,z23,zcT]
 | trans _ _ i j=>rw[i,j]
def zjf (h:List P):Geo.vs (Geo.rd h)=(0,0):=by
 unfold Geo.rd
 split
 .rfl
 .cases h with
  | nil=>rfl
  | cons a r=>rw[show (a::r)++(a::r).take 1=a::r++[a] from rfl,zb5];simp[Geo.sb]
def zeI (k:h.length≠1->h.length<=n):(Geo.rd h).length<=n:=by
 unfold Geo.rd
 split
 .simp
 .have:=zh7 (h++h.take 1);simp at*;lia
def z8u (R:Wb 600 l1)(U:Wb 600 l2)(N:z03 (· ∈ l1) l1)(O:z03 (· ∈ l2) l2)(z1:l1.length<=62)(z2:l2.length<=62)(z:(Geo.rd l1).length+(Geo.rd l2).length<=62)
  (q:∀h,z03 (Sm2 l1 l2) h->(Geo.rd h).length<=(Geo.rd l1).length+(Geo.rd l2).length->Q (vecs h)):z48.run [vecs l1,vecs l2] Q X:=by
 walk_at "fn";ac_nf;have n1:l1≠[]:=z0W N;have n2:l2≠[]:=z0W O;refine z0K (.inl rfl) R.le (by lia) λh1 x1 =>?_;obtain rfl:h1=l1:=(x1.is n1).unique N;refine z0h (Safe.of_noL (z19 _) (z1a _) _) ?_;ac_rfl;ac_nf;refine z0K (.inl rfl) U.le (by lia) λh2 x2 =>?_;obtain rfl:h2=l2:=(x2.is n2).unique O;refine z0h (Safe.of_noL (z19 _) (z1a _) _) ?_;ac_rfl;obtain⟨a,r1,I,_⟩:=N.ex;obtain⟨b,r2,e2,_⟩:=O.ex;have J:=Geo.join x1 x2 n1 n2 I e2;have c1:Wb 20000000 h1:=R.le;have c2:Wb 20000000 h2:=U.le;ac_nf;refine z0V (d:=vec a) (by rw[I];exact zea) ?_;ac_nf;refine z0V (d:=vec b) (by rw[e2];exact zea) ?_;refine z33 ?_;refine z0h (Safe.of_noL rfl rfl _) ?_;ac_rfl;ac_nf;refine z1v (λx hx=>by rw[wj.mp hx];exact Safe.of_noL rfl rfl _) ?_;ac_rfl;ac_nf;refine z4B (by lia) (by rw[I];simp) ?_;ac_nf;refine z4B (by lia) (by rw[e2];simp) ?_;refine z6z (zjV c1) (zjV c2) (by lia) (by lia) ?_;have km:=(z5i (Geo.rd h1) (Geo.rd h2)).length_eq;rw[wG] at km;have vM:Geo.vs (Geo.mg (Geo.rd h1) (Geo.rd h2))=(0,0):=by
  rw[vs_perm (z5i _ _),zaq,zjf,zjf]
  rfl
 generalize Geo.mg (Geo.rd h1) (Geo.rd h2)=M at*;ac_nf;refine z0i (f:=vec) (λi ρ=>Ee2 λH x6=>H.length=i.length+1/\(∀p,p∈H↔∃K L,i=K++L/\p=Geo.pl (Geo.pl a b) (Geo.vs K))/\ρ=[.s (vecs h1),.s (vecs h2),.s (vecs h1),.s (vecs h2),.s (vec (Geo.pl (Geo.pl a b) (Geo.vs i))),.o (.lst (H.map vec)),x6]) ⟨[Geo.pl a b],_,rfl,λp =>?_,by simp[Geo.vs,Geo.pl];rfl⟩ ?_ ?_
 .constructor
  .intro h;exact⟨[],[],rfl,by rw[wj.mp h];simp[Geo.vs,Geo.pl]⟩
  .rintro⟨K,L,e,rfl⟩;rw[(jG.mp e.symm).1];simp[Geo.vs,Geo.pl]
 .rintro i u r ρ e ⟨H,x6,W,C,rfl⟩;have hd:i.length<M.length:=by rw[e];simp
  show Sm.run _ _ _ _ _;ac_rfl;ac_nf;refine z33 ?_;refine z0h (Safe.of_noL rfl rfl _) ?_;ac_rfl;refine z3C (l:=[]) (z0k rfl ?_);ac_nf;refine⟨by rw[we];exact szl' (by lia),Safe.of_noL rfl rfl _,?_⟩;ac_rfl;have ev:(((Geo.pl (Geo.pl a b) (Geo.vs i)).1+u.1,(Geo.pl (Geo.pl a b) (Geo.vs i)).2+u.2))=Geo.pl (Geo.pl a b) (Geo.vs (i++[u])):=by
   rw[zaq];simp[Geo.pl,Geo.vs,Int.add_assoc]
  rw[ev];refine⟨H++[Geo.pl (Geo.pl a b) (Geo.vs (i++[u]))],_,by simp[W],λp =>?_,by rw[wD];rfl⟩;rw[wB,C,wj]
  constructor
  .rintro(⟨K,L,e,rfl⟩ | rfl)
   .exact⟨K,L++[u],by rw[e,vH],rfl⟩
   .exact⟨i++[u],[],by simp,rfl⟩
  .rintro⟨K,L,e,rfl⟩
   rcases uR L with rfl | ⟨L',w,rfl⟩
   .rw[vT] at e;exact .inr (by rw[e])
   .rw[jh, <- vH] at e;exact .inl ⟨K,L',(List.append_inj' e rfl).1,rfl⟩
 rintro ρ ⟨H,x6,W,C,rfl⟩;have j:∀p∈H,Sm2 h1 h2 p:=λp g=>by
  obtain⟨K,L,e,rfl⟩:=(C p).mp g;obtain⟨p,g,q,hq,e⟩:=J.1 K L e;exact⟨p,g,q,hq,e⟩
 ac_nf;refine z0K (l:=H) (.inr rfl) (λp g =>?_) (by lia) λh x =>?_
 .obtain⟨u,hu,v,Y,rfl⟩:=j p g;exact⟨(Bt.add (R u hu).1 (U v Y).1).le,(Bt.add (R u hu).2 (U v Y).2).le⟩
 have hn:H≠[]:=λz=>by rw[z] at W;simp at W
 have y:=x.is hn;refine q h (zdD y (λp g=>j p (y.sub p g)) λp g w =>?_) (zeI λn1 =>?_)
 .obtain⟨u,hu,v,Y,rfl⟩:=g;obtain⟨Z,a0,lu⟩:=N.far (N.in hu) w;obtain⟨cv,a1,lv⟩:=O.far (O.in Y) w;obtain⟨K,L,e,le⟩:=J.2 Z a0 cv a1 w;refine⟨_,(C _).mpr ⟨K,L,e,rfl⟩,?_⟩;have s1:dot (Geo.pl u v) w=Geo.sc u w+Geo.sc v w:=by simp only[dot,Geo.pl,Geo.sc];grind
  have s2:Geo.sc (Geo.pl Z cv) w=Geo.sc Z w+Geo.sc cv w:=by simp only[Geo.pl,Geo.sc];grind
  have s3:dot (Geo.pl (Geo.pl a b) (Geo.vs K)) w=Geo.sc (Geo.pl (Geo.pl a b) (Geo.vs K)) w:=rfl;rw[s1,s3];lia
 .have e0:M≠[]:=λe=>by
   have:=z2k (m:=[Geo.pl a b]) y.nodup λp g=>by
    obtain⟨K,L,e',rfl⟩:=(C p).mp (y.sub p g);rw[e] at e';rw[(jG.mp e'.symm).1];simp[Geo.vs,Geo.pl]
   have h0:0<h.length:=w9.mpr (z0W y);simp at this;lia
  have:=z2k (m:=(List.range M.length).map λk=>Geo.pl (Geo.pl a b) (Geo.vs (M.take k))) y.nodup λp g=>by
   obtain⟨K,L,e,rfl⟩:=(C p).mp (y.sub p g);have I:=congrArg List.length e;rw[wG] at I;have hM:=w9.mpr e0
   rcases wW K.length M.length with z | z
   .exact wf.mpr ⟨K.length,ub.mpr z,by rw[e,List.take_left]⟩
   .have:L=[]:=uz.mp (by lia);rw[this,vT] at e;exact wf.mpr ⟨0,ub.mpr hM,by rw[<- e,vM];rfl⟩
  rw[we,ux] at this;lia
noncomputable def tl (ws:List (List P × P)):Nat:=(ws.map λx=>x.1.length).sum
def z5X (ws:List (List P × P))(x:List P × P):tl (ws++[x])=tl ws+x.1.length:=by simp[tl]
theorem kxF {a S K L:Nat}(h:K<=61)(i:K<=a+S)(e:L<=K-a):L<=S/\L<=61 - a:=have z:=Nat.le_trans e (Nat.sub_le_sub_right i a)
 ⟨by rwa [Nat.add_sub_cancel_left] at z,Nat.le_trans e (Nat.sub_le_sub_right h a)⟩
theorem kxI {a s:Int}:(if 61<a+(1+s) then 61 else a+(1+s))<=61/\(if 61<a+(1+s) then 61 else a+(1+s))<=a+(1+s):=by
 split <;> omega
theorem kxA {a:Nat}{s k:Int}(e:k=if 61<(a:Int)+(1+s) then 61 else a+(1+s))(o:0<=s)(f:s<12)(L:Nat)(h:L<=k.toNat - a):L<=12/\L<=1+s.toNat/\L<=61 - a:=by
 subst e;obtain⟨S,rfl⟩:=Int.eq_ofNat_of_zero_le o;obtain⟨y,z⟩:=kxF (S:=1+S) (Int.toNat_le.2 kxI.1) (Int.toNat_le.2 kxI.2) h;exact⟨Nat.le_trans y (by omega),y,z⟩
theorem kxB {a:Nat}{s:Int}(h:(a:Int)<61)(f:0<=s):(a:Int)<if 61<(a:Int)+(1+s) then 61 else a+(1+s):=by split <;> omega
theorem kxC {a n k:Nat}(e:min (min k n - a) (n - a)=0)(h:a<n)(i:a<k):False:=by
 have:=Nat.lt_min.2 ⟨Nat.sub_pos_of_lt (Nat.lt_min.2 ⟨i,h⟩),Nat.sub_pos_of_lt h⟩;rw[e] at this;cases this
theorem kxD {a:Nat}{s:Int}(o:0<=s)(g:s<12)(L:Nat)(h:L<=(if 61<(a:Int)+(1+s) then 61 else a+(1+s)).toNat - ((a:Int)+1).toNat):L<=11/\L<=s.toNat/\L<=60 - a:=by
 obtain⟨S,rfl⟩:=Int.eq_ofNat_of_zero_le o;obtain⟨y,z⟩:=kxF (a:=a+1) (S:=S) (Int.toNat_le.2 kxI.1) (Int.toNat_le.2 (by rw[show ((a+1+S:Nat):Int)=a+(1+S) by omega];exact kxI.2)) h;rw[Nat.add_sub_add_right 60 1 a] at z;exact⟨Nat.le_trans y (by omega),y,z⟩
theorem kxE {a:Nat}{s:Int}(f:0<=s):0<=(if 61<(a:Int)+(1+s) then 61 else a+(1+s)):=by split <;> omega
def ziG (A B n:Nat):min A n - min B n<=A - B:=by omega
def zhC (h0:ns≠[])(hz:ns.length<=63)(q:∀ws:List (List P × P),(∀x∈ws,Wt4 x 136)->ws.length<=12->tl ws<=60->Q (.tup (ws.map wtD))):z0v.run [.lst (ns.map .int)] Q X:=by
 have J:=w9.mpr h0;obtain⟨c0,_,e0⟩:=z5y (xs:=ns) (i:=0) (by decide) (by lia);walk_at "fn";ac_nf;refine z0V (z0x e0) ?_;ac_nf;refine menu (ns:=[3,12,10 ^ 9]) (by lia) (by show c0 / 2 % 3<3;lia) λm W =>?_;have b:0<=m/\m<=1000000000:=by
  simp only[wn,wA,vA] at W;lia
 clear W;have bm:Bt 640 m:=z04 (by lia);ac_nf;refine z1v (λx e=>by cases e) ?_;ac_rfl;ac_nf;refine z5U (λM=>Ee5 λws a (x4 x5 x6:B)=>(∀x∈ws,Wt4 x 136)/\ws.length<=12/\1<=a/\a<=100/\tl ws<a/\tl ws<=60/\M=[.s (.lst (ns.map .int)),.s (.int m),.o (.lst (ws.map wtD)),.s (.int a),x4,x5,x6]) (λM=>(100 - nI M 3).toNat) ⟨[],1,_,_,_,λ_ z=>by(cases z),by simp,by simp,by simp,by simp[tl],by simp[tl],rfl⟩ ?_;rintro M ⟨ws,a,x4,x5,x6,r,j,a0,ha,a1,I,rfl⟩;ac_nf;rw[we,min2];refine z0r (λh =>?_) (λh =>?_)
 .ac_nf;rw[we];refine z0r (λN =>?_) (λN =>?_)
  .obtain⟨c,_,C⟩:=z5y (xs:=ns) (i:=a) (by lia) (by lia);ac_nf;refine z0V (z0x C) ?_;ac_nf;have Y:0<=c % 12/\c % 12<12:=by lia
   generalize c % 12=sz at*;refine z0V (z0x C) ?_;ac_nf;generalize c / 12=f at*;refine zcz b.1 b.2 λu O =>?_;ac_nf;refine z1v (λx e=>by rw[wj.mp e];exact Safe.of_noL rfl rfl _) ?_;ac_rfl;refine z4c (zjM (z0k rfl ?_));ac_nf;rw[z2q];have key:=@kxD a _ Y.1 Y.2
   have U:=@kxE a _ Y.1
   have a3:=key ((ns.drop (HT.sIx ns.length 0 (some (a+1)))).take (HT.sIx ns.length ns.length (some (if 61<a+(1+sz) then 61 else a+(1+sz))) - HT.sIx ns.length 0 (some (a+1)))).length (by rw[vi,jD,z8y (k:=(a:Int)+1) (by lia),z8y U];exact wV (Nat.min_le_left ..) (ziG ..));clear key U;generalize (ns.drop (HT.sIx ns.length 0 (some ((a:Int)+1)))).take (HT.sIx ns.length ns.length (some (if 61<(a:Int)+(1+sz) then 61 else a+(1+sz))) - HT.sIx ns.length 0 (some ((a:Int)+1)))=Z at*;refine⟨by rw[we];exact szl' (by lia),?_⟩;refine z4Y (g:=vec) (P:=λ_ p=>Far 1000000000 p) (λc _ K hK =>?_) λw a2 hy =>?_
   .ac_nf;exact zcz b.1 b.2 hK
   refine⟨by simp;exact szl (by lia),λd hd =>?_,?_⟩
   .obtain⟨y,_,rfl⟩:=wf.mp hd;exact Safe.of_noL rfl rfl _
   ac_rfl;rw[show vec u::w.map vec=(u::w).map vec from rfl];refine z4c (z3C (l:=[]) (z0k rfl ?_));ac_nf;refine zlC ⟨by decide,by decide,by lia⟩ ?_;have hw:0<(2*m+1) ^ (2:Int).toNat:=by
    show 0<(2*m+1) ^ 2;exact Int.pow_pos (by lia)
   have bw:Bt 9000 ((2*m+1) ^ (2:Int).toNat):=by
    have R:Bt 40 (2*m+1):=z04 (by lia);show Bt 9000 ((2*m+1) ^ 2);rw[show (2*m+1) ^ 2=(2*m+1)*(2*m+1) by grind];exact(Bt.mul R R).le
   refine zgL hw bw ?_;ac_nf;refine zcz b.1 b.2 λs Y =>?_;ac_nf;refine⟨by rw[we];exact szl' (by lia),Safe.of_noL (zgM (u::w,s)) (zgO (u::w,s)) _,?_⟩;ac_rfl;ac_nf;refine⟨⟨ws++[(u::w,s)],a+(1+sz.toNat),.s (.int (1+sz)),.s (.int f),.o (.lst ((u::w).map vec)),λx e =>?_,by simp;lia,by lia,by lia,by rw[z5X];simp;lia,by rw[z5X];simp;lia,?_⟩,?_⟩
   .rcases wB.mp e with e | e
    .exact r x e
    .rw[wj.mp e];refine⟨λp J =>?_,by simp,by show (u::w).length<=12;simp;lia,(Y.vb (n:=30) (by decide)).le⟩
     rcases wn.mp J with rfl | J
     .exact(O.vb (n:=30) (by decide)).le
     .obtain⟨_,_,hf⟩:=hy p J;exact(hf.vb (n:=30) (by decide)).le
   .rw[wD,show ((a+(1+sz.toNat):Nat):Int)=(a:Int)+(1+sz) by lia]
    rfl
   .show (100 - ((a:Int)+(1+sz))).toNat<(100 - (a:Int)).toNat
    lia
  .ac_nf;exact q ws r j I
 .ac_nf;exact q ws r j I
noncomputable def tr (x:List P × P):List P:=x.1.map (mv x.2)
abbrev MS (ws:List (List P × P)):P->Prop:=Ms (ws.map tr)
def zjk (h:most x.1 b m):Geo.Far (· ∈ tr x) b (m+dot x.2 b):=by
 have e:∀v,Geo.sc (mv x.2 v) b=dot v b+dot x.2 b:=λv=>by
  simp[Geo.sc,mv,dot]
  grind
 refine⟨λp f =>?_,?_⟩
 .obtain⟨v,a,rfl⟩:=wf.mp f;have:=h.2 v a;rw[e];lia
 .obtain⟨v,a,d⟩:=wf.mp h.1;refine⟨mv x.2 v,uq a,?_⟩;rw[e, <- d]
def z5Q (h:Geo.Far (Ms ds) b F)(k:Geo.Far (· ∈ d) b M):Geo.Far (Ms (d::ds)) b (M+F):=by
 refine⟨λp i =>?_,?_⟩
 .obtain⟨q,a,r,e,rfl⟩:=i;have:=h.1 r e;have:=k.1 q a;rw[zhv];lia
 .obtain⟨r,e,f⟩:=h.2;obtain⟨q,a,g⟩:=k.2;exact⟨Geo.pl q r,⟨q,a,r,e,rfl⟩,by rw[zhv,f,g]⟩
theorem z7m:∀{ws:List (List P × P)}{t:Int},Sums ws b t->Geo.Far (MS ws) b t
 | [],t,⟨d,a,_,e⟩=>by
  have  := uz.mp a;rw[e,this];exact zaf
 | x::ws,t,⟨d,a,g,e⟩=>by
  obtain⟨m,l,f⟩:=g 0 (by simp)
  cases d with
  | nil=>simp at a
  | cons o d=>
   have f  := by simpa using f
   have j:=z7m ⟨d,by simpa using a,λi h=>by
    obtain⟨n,r1,r2⟩:=g (i+1) (by simpa using h);exact⟨n,by simpa using r1,by simpa using r2⟩,rfl⟩
   rw[e,f];exact z5Q j (zjk l)
theorem ziE:∀{ds:List (List P)}{p:P},(∀d∈ds,Wb 150 d)->Ms ds p->Vb (150+ds.length) p
 | [],p,_,h=>by
  have  := h;rw[this];exact⟨Bt.le (m:=1) (z04 (by decide)),Bt.le (m:=1) (z04 (by decide))⟩
 | d::ds,p,g,⟨q,i,r,j,e⟩=>by
  have b:=g d (by simp) q i;have f:=ziE (λd a=>g d (by simp[a])) j;rw[e];exact⟨Bt.le (Bt.add b.1 f.1) (by simp;lia),Bt.le (Bt.add b.2 f.2) (by simp;lia)⟩
def zca (h:Wt4 x):Wb 150 (tr x):=λp b=>by
 obtain⟨v,a,rfl⟩:=wf.mp b;exact⟨Bt.le (Bt.add (h.wb v a).1 h.vb.1),Bt.le (Bt.add (h.wb v a).2 h.vb.2)⟩
def zoj (b:∀x∈ws,Wt4 x)(f:ws.length<=20)(h:MS ws p):Vb 200 p:=by
 have:=ziE (λd a=>by obtain⟨x,e,rfl⟩:=wf.mp a;exact zca (b x e)) h;rw[we] at this;exact⟨this.1.le (by lia),this.2.le (by lia)⟩
def zcc (ws:List (List P × P))(n:Nat):tl (ws.take n)<=tl ws:=by
 have:=congrArg tl (jg n ws);simp only[tl,wD,ul] at this ⊢;lia
def zjX (h:List P):h.length<=(Geo.rd h).length+1:=by
 unfold Geo.rd
 split
 .simp;lia
 .have:∀l,l.length<=(df l).length+1:=λl=>by
   induction l with
   | nil=>simp
   | cons a r d=>cases r with
    | nil=>simp
    | cons b r=>rw[df];simp_all
  grind
def z8q (x:z03 S h):z03 (· ∈ h) h:=x.of x.sub λ_ a=>a
def z2A:Fn:=Fn.mkN 3 3 (.ret (.op pGt [.op pAdd [.op z0b [.op pIx [.v 1,.c (.int 0)],.op pIx [.v 0,.c (.int 0)]],.op z0b [.op pIx [.v 1,.c (.int 1)],.op pIx [.v 0,.c (.int 1)]]],.op z0b [.v 2,.op pIx [.v 0,.c (.int 2)]]]))
end Pu
namespace Geo
def zhh (ne:a≠b):(Qa a b p=0/\0<=dot a b p/\0<=dot b a p)↔(0<=Qa a b p/\0<=Qa b a p/\(a.1 - p.1)*(b.1 - p.1)+(a.2 - p.2)*(b.2 - p.2)<=0):=by
 obtain⟨f,g⟩:=a;obtain⟨h,i⟩:=b;obtain⟨d,e⟩:=p;simp only[Qa,dot];have q:(h - f)*(e - g) - (i - g)*(d - f)=(f - d)*(i - e) - (g - e)*(h - d):=by grind
 have r:(f - h)*(e - i) - (g - i)*(d - h) = -((f - d)*(i - e) - (g - e)*(h - d)):=by grind
 have t:(d - f)*(h - f)+(e - g)*(i - g)=((f - d)*(f - d)+(g - e)*(g - e)) - ((f - d)*(h - d)+(g - e)*(i - e)):=by grind
 have u:(d - h)*(f - h)+(e - i)*(g - i)=((h - d)*(h - d)+(i - e)*(i - e)) - ((f - d)*(h - d)+(g - e)*(i - e)):=by grind
 have o:¬ (f - d=h - d/\g - e=i - e):=λz=>ne (ua (by simp;lia) (by simp;lia));rw[q,r,t,u];generalize f - d=A at*;generalize g - e=B at*;generalize h - d=C at*;generalize i - e=E at*;clear q r t u ne;have l:∀x:Int,0<=x*x:=λx=>by
  rcases Int.le_total 0 x with z | z
  .exact wR z z
  .exact v5 z z
 constructor
 .rintro⟨y,F,G⟩;refine⟨by lia,by lia,?_⟩
  rcases ui 0 (A*C+B*E) with z | z
  .exfalso
   have j:(A*C+B*E)*(A*C+B*E)+(A*E - B*C)*(A*E - B*C)=(A*A+B*B)*(C*C+E*E):=by grind
   rw[y,jf,uy] at j;have df:(A - C)*(A - C)+(B - E)*(B - E)=(A*A+B*B)+(C*C+E*E) - 2*(A*C+B*E):=by grind
   have L:=l (A - C);have M:=l (B - E);generalize A*C+B*E=s at*;generalize A*A+B*B=m at*;generalize C*C+E*E=n at*;have H:m=s:=by
    rcases ui s m with w | w
    .have:=uB w (show 0<n by lia);have:=wL (show s<=n by lia) (show 0<=s by lia);lia
    .lia
   have K:n=s:=by
    rw[H] at j;exact(Int.eq_of_mul_eq_mul_left (by lia) j).symm
   have I:(A - C)*(A - C)=0:=by omega
   have J:(B - E)*(B - E)=0:=by omega
   have N:=wI.mp I;have O:=wI.mp J;exact o ⟨by lia,by lia⟩
  .exact z
 .rintro⟨y,F,G⟩;have:=l A;have:=l B;have:=l C;have:=l E;exact⟨by lia,by lia,by lia⟩
end Geo
namespace Pu
open PySem L2 Mth
abbrev Rs:=Int × Int × Int
noncomputable abbrev rsD (r:Rs):D :=.tup [.int r.1,.tup [.int r.2.1,.int r.2.2]]
noncomputable def z9c (n:Int):Int->List Rs->Bool
 | _,[]=>true
 | a,r::l=>decide (a<r.1) && (decide (r.1<n) && (decide (0<r.2.1) && (decide (0<r.2.2) && (decide (Int.gcd r.2.1 r.2.2=1) && z9c n r.1 l))))
def zez {t b:Int}(q:Q (.bl (decide (0<t) && (decide (0<b) && decide (Int.gcd t b=1))))):z49.run [.tup [.int t,.int b]] Q X:=by
 walk_at "fn";ac_nf;refine z0r (λe =>?_) (λe =>?_)
 .rw[vf e] at q;ac_nf;refine z0r (λf =>?_) (λf =>?_)
  .rw[vf f] at q;ac_nf;refine z1X ?_;ac_nf;rw[show (decide ((Int.gcd t b:Int)=1))=decide (Int.gcd t b=1) from z85 ⟨λh=>by lia,λh=>by lia⟩];exact q
  simp_all
 simp_all
def zdq (t:z9c l.length (-1) rs=false->Q (.bl false))(u:z9c l.length (-1) rs=true->∀a g i,N [.s (vecs l),.s (.tup (rs.map rsD)),.s (.int a),g,i])
  (w:∀a (r:Rs) o,(a<r.1/\r.1<l.length/\0<r.2.1/\0<r.2.2/\Int.gcd r.2.1 r.2.2=1->o [.s (vecs l),.s (.tup (rs.map rsD)),.s (.int r.1),.s (.int r.1),.s (.tup [.int r.2.1,.int r.2.2])])->(¬ (a<r.1/\r.1<l.length/\0<r.2.1/\0<r.2.2/\Int.gcd r.2.1 r.2.2=1)->Q (.bl false))->
   b.run [.s (vecs l),.s (.tup (rs.map rsD)),.s (.int a),.s (.int r.1),.s (.tup [.int r.2.1,.int r.2.2])] o Q X):
  forL (.tp [3,4]) b N Q X (rs.map rsD) [.s (vecs l),.s (.tup (rs.map rsD)),.s (.int (-1)),.n,.n]:=by
 refine z0i (f:=rsD) (λp m=>Ee3 λa (g i)=>(∀d,rs=p++d->z9c l.length (-1) rs=z9c l.length a d)/\m=[.s (vecs l),.s (.tup (rs.map rsD)),.s (.int a),g,i]) ⟨-1,_,_,λd e=>by rw[e];rfl,rfl⟩ ?_ ?_
 .rintro p r d m e ⟨a,g,i,j,rfl⟩;have h:=j _ e;refine⟨rfl,?_⟩;show Sm.run _ _ _ _ _;unfold z09 z09 z09;ac_rfl;refine w a r _ (λc =>?_) (λc =>?_)
  .refine⟨r.1,_,_,λrest' q =>?_,rfl⟩;have:d=rest':=by
    rw[e,vH] at q;have:=List.append_cancel_left q;simpa using this
   rw[h, <- this];show (_ && _)=_;rw[vf c.1,vf c.2.1,vf c.2.2.1,vf c.2.2.2.1,vf c.2.2.2.2]
   rfl
  .refine t ?_;rw[h];show (_ && _)=_;rw[Bool.eq_false_iff];intro z;simp only[vQ,decide_eq_true_eq] at z;exact c ⟨z.1,z.2.1,z.2.2.1,z.2.2.2.1,z.2.2.2.2.1⟩
 rintro m ⟨a,g,i,j,rfl⟩;exact u (by rw[j [] (by simp)];rfl) a g i
def zcs (q:Q (.bl (z9c l.length (-1) rs))):z0C.run [vecs l,.tup (rs.map rsD)] Q X:=by
 walk_at "fn";ac_nf;refine zdq (λe=>by rw[e] at q;exact q) (λe a m o =>?_) (λa r j i b =>?_)
 .ac_nf;rw[e] at q;exact q
 .ac_nf;refine z0r (λf =>?_) (λf =>?_)
  .ac_nf;exact b λc=>by lia
  ac_nf;rw[we];refine z0r (λg =>?_) (λg =>?_)
  .ac_nf;exact b λc=>by lia
  ac_nf;refine zez ?_;ac_nf;refine z24 (t_bl (λe =>?_) (λe =>?_))
  .simp only[vQ,decide_eq_true_eq] at e;ac_nf;exact i ⟨by lia,by lia,e.1,e.2.1,e.2.2⟩
  .ac_nf;refine b λc =>?_;rw[vf c.2.2.1,vf c.2.2.2.1,vf c.2.2.2.2] at e
   cases e
def toR (s:Sh):Rs:=((s.1),s.2)
def zhm (sh:List Sh):sh.map shD=(sh.map toR).map rsD:=by rw[wN];rfl
abbrev pcD (x y t:Int):D :=.tup [.int x,.int y,.int t]
structure Pc (x y t:Int):Prop where
 pos:0<t
 bx:Bt 800 x
 bY:Bt 800 y
 bt:Bt 110 t
 cop:Int.gcd ((Int.gcd x y):Int) t=1
def Pl.pc {x y b u v t:Int}(h:Pl x y b u v t)(f:0<b)(d:Bt 110 b)(e:Bt 800 x)(a:Bt 800 y):Pc u v t:=by
 obtain⟨g,i,j⟩:=h.bt f d e a;exact⟨h.pos,i,j,g,h.cop⟩
def deq3 (a b c x y z:Int):deq (pcD a b c) (pcD x y z)=decide (a=x/\b=y/\c=z):=by
 show PyData.eqv (.tuple [.int a,.int b,.int c]) (.tuple [.int x,.int y,.int z])=_;simp[PyData.eqv,PyData.eqvAll]
 rfl
def Da3 (a b c:Int):Da (n+1) (pcD a b c):=Da.tup.mpr λd e=>by
 simp[wn,wA,vA] at e
 rcases e with rfl | rfl | rfl <;> exact Da.int
def zfU (f:Wb 600 l)(a:Vb 700 b)(h:m∈l.map (dot · b)):Bt 1400 m:=by
 obtain⟨p,g,rfl⟩:=wf.mp h;obtain⟨d,e⟩:=f p g;exact Bt.le (Bt.add (Bt.mul d a.1) (Bt.mul e a.2))
def zeC {x y t m:Int}(pc:Pc x y t)(f:Vb 700 b)(j:Bt 1400 m)(q:Q (.bl (decide (m*t<dot (x,y) b)))):z2A.run [pcD x y t,vec b,.int m] Q X:=by
 obtain⟨g,o,i,e,_⟩:=pc;obtain⟨p,r⟩:=f;walk_at "fn";ac_nf;rw[show b.1*x+b.2*y=dot (x,y) b by simp[dot];rw[wT b.1,wT b.2]];exact q
def zbG (q:Q (.bl (decide (x=y)))):pEq.run [.str x,.str y] Q X:=q
end Pu
namespace Tim
open PySem PyProof.Rows PySem.W HT
def TP (h:Heap)(v:Value)(n:Int):Prop:=∃a o b m t r,v = .ref a/\h.get? a=some o/\o.cls = .type "tuple"/\o.data = .seq b m/\b.toList=[.int n t,r]
def TP.keep {h f:Heap}{v:Value}{n:Int}(x:TP h v n)(g:∀b o,h.get? b=some o->o.cls = .type "tuple"->f.get? b=some o):TP f v n:=by
 obtain⟨a,o,d,m,t,r,e,j,i,l,p⟩:=x;exact⟨a,o,d,m,t,r,e,g _ _ j i,i,l,p⟩
noncomputable def keyP (h:Heap)(v:Value):Int:=match v with
 | .ref a=>match h.get? a with
  | some o=>match o.data with
   | .seq b _=>match b.toList with
    | .int n _::_=>n
    | _=>0
   | _=>0
  | none=>0
 | _=>0
def TP.key {h:Heap}{v:Value}{n:Int}(x:TP h v n):keyP h v=n:=by
 obtain⟨a,o,f,m,t,r,rfl,b,_,d,e⟩:=x;simp[keyP,b,d,e]
section
variable {prog:Program}{w:World}{A:Around}{s:Shared}
def lex1 (a b:Int):z0P [a] [b]=decide (a<b):=by
 rw[z0L]
 by_cases e:a=b
 .rw[if_pos e]
  symm
  exact vR (by omega)
 .rw[if_neg e]
def ziM {t u:Tok}(a:n=m->r=r')(h:Q (decide (n<m)) s):KatLex prog w A b false Q ([Value.int n t,r].zip [Value.int m u,r']) 0 s:=by
 refine kat_cons (wpAny_eqBool_int ?_)
 by_cases e:n=m
 .subst e;rw[show (n == n)=true by simp];obtain rfl:=a rfl;refine kat_yes (kat_cons (SeqAt.EqAt.same r _ w _ _ (kat_yes (kat_nil ?_))))
  grind
 .rw[show (n == m)=false by simpa using e];refine kat_no ?_
  cases d:(b && 0 == 0) with
  | true=>exact oneLt_int h
  | false=>exact kat_one _ _ (lt_int h)
theorem z9a {key:Value->Int}:∀{vs:List Value},(∀v∈vs,TP h v (key v))->∃fs,KatTups h vs fs/\fs.length=vs.length/\∀f∈fs,∃n t,f = .int n t
 | [],_=>⟨[],.nil,rfl,λ_ h=>by cases h⟩
 | v::vs,d=>by
  obtain⟨fs,q,s,u⟩:=z9a (λv m=>d v (wq _ m));obtain⟨a,o,p,n,t,r,e,g,i,j,l⟩:=d v (wF ..);subst e;refine⟨.int _ t::fs,.cons g i j (by rw[<- uQ,l];rfl) q,by simp[s],λf b =>?_⟩
  rcases wn.mp b with rfl | b
  .exact⟨_,_,rfl⟩
  .exact u f b
def z5F.prs {h:Heap}{vs:List Value}{key:Value->Int}(a:∀v∈vs,TP h v (key v))(inj:∀u∈vs,∀v∈vs,key u=key v->u=v):z5F prog w h vs (λv=>rkL (vs.map λv=>[key v]) [key v]):=λA s k=>by
 refine⟨tuples' true,?_,λO Q E q =>?_⟩
 .intro x d y f Q E g;rw[<- zaB (wf.mpr ⟨_,d,rfl⟩) (wf.mpr ⟨_,f,rfl⟩),lex1] at g;have R:=inj _ d _ f;obtain⟨K,W,C,S,Z,r1,o,r,M,l,i⟩:=(a _ d).keep k;obtain⟨L,X,F,U,t2,r2,p,z,N,m,j⟩:=(a _ f).keep k;rw[o,p];have G:C.size=2:=by rw[<- uo,i];rfl
  have H:F.size=2:=by rw[<- uo,j];rfl
  refine kat_lt r l z m ?_;rw[i,j,show decide _=false by rw[G,H];rfl];refine ziM (λe =>?_) g
  grind
 .obtain⟨fs,I,Y,J⟩:=z9a λv b=>(a v b).keep k;refine kat_kind (T :=.type "int") I (by omega) (λv b =>?_) rfl q;obtain⟨n,t,rfl⟩:=J v b;exact Looks.now
end
end Tim
namespace Pu
open PySem PySem.Spec PyProof.Rows L2 Tab
abbrev pdD (x:Int × D):D :=.tup [.int x.1,x.2]
def zmb (d:D)(Q:DK):Prop:=∃e,d = .lst (e.map pdD)/\(e.map (·.1)).Nodup/\e.length<=63/\∀f:List (Int × D),f.Perm e->f.Pairwise (λa b=>a.1<b.1)->Q (.lst (f.map pdD))
def zgI:Fn:=fn1 zmb λd Q l m h=>by
 obtain⟨j,e,f,g,q⟩:=h;exact⟨j,e,f,g,λi a b=>m _ (q i a b)⟩
section
variable {X:Cx}
theorem zcM {G:Hp}{P:Value->Int->Prop}(g:∀b n u,SqT X.K G b [.int n,u]->P (.ref b) n):∀{e:List (Int × D)}{xs:List V}{d:List Value},RDs X.K X.mg G (e.map pdD) xs->Vals xs d->Two (λv p=>P v p.2.1/\RelV p.1 v/\RD X.K X.mg G (pdD p.2) p.1) d (xs.zip e)
 | [],xs,d,h,r=>by
  subst h
  cases r
  exact .nil
 | x::e,xs,d,h,r=>by
  obtain⟨v,vs,rfl,f,i⟩:=h
  cases r with
  | cons r1 r2=>
   refine .cons ⟨?_,r1,f⟩ (zcM g i r2);obtain⟨a,q,rfl,j,l⟩:=z1O f
   cases r1
   obtain⟨y,z,rfl,m,o⟩:=rds2 l;subst m;exact g a x.1 z j
theorem z9E {G:Hp}{P:Value->Int->Prop}:∀{a:List Value}{m:List (V × Int × D)},Two (λv p=>P v p.2.1/\RelV p.1 v/\RD X.K X.mg G (pdD p.2) p.1) a m->Vals (m.map (·.1)) a/\RDs X.K X.mg G ((m.map (·.2)).map pdD) (m.map (·.1))
 | _,_,.nil=>⟨.nil,RDs.nil⟩
 | _,_,.cons ⟨_,b,d⟩ t=>⟨.cons b (z9E t).1,RDs.cons d (z9E t).2⟩
theorem z5W {d e j:Type}{R:d->e->Prop}{f:d->j}{g:e->j}(i:∀a b,R a b->f a=g b):∀{l:List d}{m:List e},Two R l m->l.map f=m.map g
 | _,_,.nil=>rfl
 | _,_,.cons h t=>by rw[wE,wE,i _ _ h,z5W i t]
theorem zdB {i m:Type}{f:i->m}:∀{l:List i},(l.map f).Nodup->∀u∈l,∀v∈l,f u=f v->u=v
 | a::l,h,u,j,v,g,e=>by
  rw[wE,vU] at h
  rcases wn.mp j with rfl | d
  .rcases wn.mp g with rfl | b
   .rfl
   .exact(h.1 (wf.mpr ⟨v,b,e.symm⟩)).elim
  .rcases wn.mp g with rfl | b
   .simp_all
   .exact zdB h.2 u d v b e
def zgh {h:Heap}{o:Type}{d e:List Value}{m:List o}{g:o->Int}(j:e.Perm d)(t:e.Pairwise λx y=>Tim.rkL (d.map λv=>[Tim.keyP h v]) [Tim.keyP h x]<=Tim.rkL (d.map λv=>[Tim.keyP h v]) [Tim.keyP h y])(s:e.map (Tim.keyP h)=m.map g)(i:(m.map g).Nodup):m.Pairwise λa b=>g a<g b:=by
 have n:(e.map (Tim.keyP h)).Pairwise (· <= ·):=by
  rw[w5];refine t.imp_of_mem λ{x y} q r f =>?_;have p:=Tim.zaB (l:=d.map λv=>[Tim.keyP h v]) (wf.mpr ⟨y,j.mem_iff.mp r,rfl⟩) (wf.mpr ⟨x,j.mem_iff.mp q,rfl⟩);rw[Tim.lex1,vR (Nat.not_lt.mpr f)] at p;lia
 rw[s,w5] at n;unfold List.Nodup at i;rw[w5] at i;exact(n.and i).imp λ{x y} h=>by
  lia
def zbY:z15 X (.builtin "sorted") (λvs H Q=>∃(G:Hp) (a:Addr) (xs:List V) (rs:List (Int × D)),vs=[.ref a]/\Same G H/\SqL X.K G a xs/\RDs X.K X.mg G (rs.map pdD) xs/\(rs.map (·.1)).Nodup/\rs.length<=63/\
  ∀x f (L:List (Int × D)),H x=none->RDs X.K X.mg G (L.map pdD) f->L.Perm rs->L.Pairwise (λa b=>a.1<b.1)->Q (.ref x) (upd H x (.lst f))):=by
 rintro R s σ H xs us Q I rv ⟨G,a,w,rs,e,g,hs,N,J,hz,q⟩;subst e;obtain⟨u,rfl,rx⟩:=z4p rv
 cases rx
 obtain⟨d,r,pl,_⟩:=I.list (z1y g hs);have j:=zcM (P:=λv n=>Tim.TP s.heap v n) (λb n u h=>by
  obtain⟨a1,r',⟨o,ho,Y,m,Z⟩,_⟩:=I.tuple (z0G g h)
  cases r' with
  | cons r1 r2=>
   obtain⟨t,rfl⟩:=r1
   cases r2 with
   | cons r3 r4=>
    cases r4
    exact⟨b,o,_,m,t,_,rfl,ho,Y,Z,rfl⟩) N r
 have i:d.map (Tim.keyP s.heap)=(w.zip rs).map (·.2.1):=z5W (λv p h=>h.1.key) j;have l:w.length=rs.length:=by rw[N.len,we]
 have U:(w.zip rs).map (·.2.1)=rs.map (·.1):=by
  rw[show ((w.zip rs).map (·.2.1))=((w.zip rs).map (·.2)).map (·.1) by rw[wN];rfl,List.map_snd_zip (by lia)]
 have A:∀v∈d,Tim.TP s.heap v (Tim.keyP s.heap v):=λv E=>by
  obtain⟨p,_,y,_⟩:=j.mem_left E;rw[y.key];exact y
 have inj:∀u∈d,∀v∈d,Tim.keyP s.heap u=Tim.keyP s.heap v->u=v:=λu hu v E e=>by
  rw[U] at i;rw[<- i] at J;exact zdB J u hu v E e
 have a0:d.length=rs.length:=by rw[<- r.length,l]
 refine Tim.z62 λE' =>?_;refine collect_list (vs:=d) (by simpa using pl.isList) ?_ (by lia);have keep:∀b o,s.heap.get? b=some o->((s.heap.push (seqObj "list" #[] 0)).update s.heap.objs.size (Obj.mapSeq (· ++ d.toArray))).get? b=some o:=λb o z=>by
  rw[Heap.get?_update_ne _ _ _ _ (wJ (wC z))];exact wg _ z
 refine⟨_,by lia,(Tim.z5F.prs A inj).keep keep,λf O p2 h' kp C =>?_⟩;obtain⟨e,C⟩:=C;obtain⟨m,S,T⟩:=j.perm O.symm;obtain⟨v1,v2⟩:=z9E T;have M:s.heap.get? ((s.heap.push (seqObj "list" #[] 0)).update s.heap.objs.size (Obj.mapSeq (· ++ d.toArray))).objs.size=none:=by
  cases z:s.heap.get? ((s.heap.push (seqObj "list" #[] 0)).update s.heap.objs.size (Obj.mapSeq (· ++ d.toArray))).objs.size with
  | none=>rfl
  | some o=>exact absurd (wC (keep _ _ z)) (vZ _)
 have perm:(m.map (·.2)).Perm rs:=by
  have:=(S.map (·.2)).symm
  rwa [List.map_snd_zip (by lia)] at this
 have F:(m.map (·.1)).length<=sizeLine:=by
  have y:=S.length_eq;have W:=perm.length_eq;rw[we] at W ⊢;exact wV (show m.length<=64 by lia) (by decide)
 refine⟨.ref _,upd H _ (.lst (m.map (·.1))),I.laid' (o :=.lst (m.map (·.1))) (t':=s.toks) (λb o z=>kp b o (keep b o z)) M ⟨F,f,e,v1,C⟩,rfl,q _ _ _ (I.hok.none_of M) v2 perm ?_⟩;refine w5.mpr (zgh (h:=s.heap) (g:=λp:V × Int × D=>p.2.1) O p2 (z5W (λv p h=>h.1.key) T) ?_);have:=perm.map (·.1);rw[wN] at this;exact this.nodup_iff.mpr J
def zg1:z15 X (.builtin "sorted") (rNf X.K X.mg zgI):=zbY.imp <| by
 rintro vs H Q ⟨G,y,w,x,g,rds,j,i⟩;obtain⟨d,rfl,b⟩:=z1F j;obtain⟨v,rfl,rd⟩:=rds1 rds;obtain⟨t,rfl,n,m,q⟩:=b;obtain⟨a,u,rfl,e,f⟩:=z2r rd;exact⟨G,a,u,t,rfl,g,e,f,n,m,λD o s h l p r=>i.newL g h (q s p r) l⟩
end
end Pu
namespace Idx
open PySem PySem.Spec PyProof.Rows SeqAt
def zje {M:Model}{A:Around}{E:WvP}{s:Shared}{g:Type}{hi:Nat}(f:Nat->g->Sem (ForInStep g))(J:Nat->g->Shared->Prop)(Q:g->Shared->Prop){b:g}
  (step:∀i b s,i<hi->J i b s->wpAny M A (f i b) (λr s'=>match r with | .yield d=>J (i+1) d s' | .done d=>Q d s') E s)
  (last:∀b s,J hi b s->Q b s) (h:J 0 b s):wpAny M A (forIn [:hi] b f) Q E s:=by
 rw[Std.Legacy.Range.forIn_eq_forIn_range'];have sz:([:hi]).size=hi:=by simp_all
 rw[sz];refine jV f (λa b s=>∃i,i<=hi/\a=List.range' i (hi - i)/\J i b s) Q ?_ ?_ _ b ⟨0,by omega,rfl,h⟩
 .rintro x a b s ⟨i,m,e,l⟩
  rcases wW i hi with z | z
  .rw[show hi - i=hi - (i+1)+1 by omega] at e;obtain⟨rfl,rfl⟩:=List.cons.inj e;refine vS (step x b s z l) (λr s' n =>?_) λ_ _ j=>j
   cases r with
   | yield d=>grind
   | done d=>exact n
  simp_all
 grind
def zji (l:Addr)(a:Array Value)(n:Nat)(u:Option Addr)(sl:Array (Option Value))(x:Value)(e:Value->Bool)(j:Nat)(K:j<a.size)(q:e a[j]=true)(r:∀m L,m<j->e a[m]=false):
  Meets (Builtin.«tuple.index» ⟨[.ref l,x],[]⟩) (λA R s=>s.heap.get? l=some { cls :=.type "tuple",dict:=u,data :=.seq a n,slots:=sl }/\(∀y,y∈a->EqAt A.in1 s y x (e y))/\R (.ok (.ret (.int j s.toks))) { s with toks:=s.toks+1 }):=
 .of_wp λo w A R s h=>by
  obtain⟨G,g,d,I,H⟩:=s;obtain⟨F,E,h⟩:=h
  wp_walk using j4 F,zje _ (λi b t=>Aa3 (b.1=none) (t=⟨G,g,d,I,H⟩) (i<=j)) _
  case step=>
   rintro i b t J ⟨C,rfl,p⟩;have f:i<a.size:=by omega
   rw[uJ f];refine wc (E a[i] (Array.getElem_mem f) o w _ _ ?_)
   rcases wW i j with z | z
   .rw[r i f z]
    wp_walk
    exact⟨rfl,rfl,z⟩
   .obtain rfl:i=j:=by omega
    rw[q]
    wp_walk
    exact⟨_,rfl,h⟩
  case last=>
   rintro b t ⟨C,rfl,p⟩;omega
  case h=>exact⟨rfl,rfl,by omega⟩
end Idx
namespace Pu
open PySem PySem.Spec PyProof.Rows L2 Tab
section
variable {X:Cx}{G H:Hp}
def z5w (b a:D)(Q:DK):Prop:=match b with
 | .tup l=>Da 60 a/\(∀d∈l,Da 60 d)/\(∃d∈l,deq d a=true)/\∀(i:Nat) d,l[i]? = some d->deq d a=true->(∀j e,j<i->l[j]? = some e->deq e a=false)->Q (.int i)
 | _=>False
def zad (a b:D)(Q Q':DK)(m:∀d,Q d->Q' d)(h:z5w a b Q):z5w a b Q':=by
 unfold z5w at h ⊢
 split at h
 .exact⟨h.1,h.2.1,h.2.2.1,λi d e f g=>m _ (h.2.2.2 i d e f g)⟩
 omega
def zd2:Fn:=fn2 z5w zad
open Classical in
theorem z6s {d:Type}(f:d->Bool):∀(l:List d),(∃x∈l,f x=true)->∃(i:Nat) (x:d),l[i]? = some x/\f x=true/\∀(j:Nat) (y:d),j<i->l[j]? = some y->f y=false
 | [],⟨x,b,_⟩=>by cases b
 | a::l,⟨x,b,h⟩=>by
  cases g:f a with
  | true=>exact⟨0,a,rfl,g,λj y p=>by omega⟩
  | false=>
   rcases wn.mp b with rfl | b
   .rw[g] at h;cases h
   .obtain⟨i,y,m,n,o⟩:=z6s f l ⟨x,b,h⟩;refine⟨i+1,y,by rw[u4];exact m,n,λj z p e =>?_⟩
    cases j with
    | zero=>rw[u3] at e;cases e;exact g
    | succ j=>exact o j z (by omega) (by rwa [u4] at e)
def zhI (X:Cx):V->List V->Hp->VK->Prop:=λx g H Q=>∃(G:Hp) (a:Addr) (f:List V) (l:List D) (d:D) (v:V),x = .ref a/\g=[v]/\Same G H/\SqT X.K G a f/\RDs X.K X.mg G l f/\RD X.K X.mg G d v/\Da 60 d/\(∀e∈l,Da 60 e)/\(∃e∈l,deq e d=true)/\
 ∀(i:Nat) e,l[i]? = some e->deq e d=true->(∀j b,j<i->l[j]? = some b->deq b d=false)->Q (.int i) H
def z6M (hu:X.A.units+64<cLine):MtR X "tuple.index" (zhI X):=by
 rintro N s σ H x xs v us Q I rx rs ⟨G,a,ys,l,d,w,T,U,g,hT,J,hd,W,Y,Z,q⟩;subst T;subst U
 cases rx
 obtain⟨u,rfl,ru⟩:=rs.one;obtain⟨b,O,pl,_⟩:=I.tuple (z0G g hT);obtain⟨e,q1,_,q2⟩:=z51 I g hu hd ru W Y J O;obtain⟨⟨R,S,t,sl⟩,K,C,n,f⟩:=id pl;simp only at C f;subst C f;obtain⟨i,x,j,L,h⟩:=z6s (λe=>deq e d) l Z;have il:i<l.length:=by
  rcases wW i l.length with z | z
  .exact z
  .rw[uO z] at j;cases j
 have len:b.length=l.length:=by rw[<- O.length,J.len]
 have E:i<b.toArray.size:=by simpa[len] using il
 have val:∀(m:Nat) o y,l[m]? = some y->e b.toArray[m]=deq y d:=λm o y r=>q2 m _ y (by rw[wm (by simpa using o)];simp) r;refine call_meets PySem.F.slot_tuple_index ⟨_,K,rfl⟩ PySem.F.entry_tuple_index (PySem.F.args_tuple_index_2 _ _) (Idx.zji a b.toArray n S sl u e i E ((val i E x j).trans L) λm o p =>?_) ⟨K,λy r=>q1 y (by simpa using r),?_⟩
 .have M:m<l.length:=by omega
  rw[val m o _ (wm M)];exact h m _ p (wm M)
 .exact⟨.int i,H,I.tok _,⟨_,rfl⟩,q i x j L h⟩
end
section
variable {X:Cx}{E:XK}{o e:Expr}{apos cpos:Pos}{i j:Nat}
def tBMT (K:W.Frag)(r:V->List V->Hp->VK->Prop)(f:TE)(t:TA):TE:=λd H Q=>f d H λx b=>(∃p a,x = .ref p/\SqT K b p a)/\t d b λa e=>r x a e Q
def zkD {id:String}{name:Str}{r:V->List V->Hp->VK->Prop}{w:TE}{n:TA}(g:Slot "tuple" name id)(l:typeOf (.builtin id)=pure (.type "method_descriptor"))(L:MtR X id r)(M:QE X o w)(J:QA X [e] n)
  (b:autoParam (aB o name X) jA1)
  (f:autoParam (aG cpos [e] X) jA1)
  (d:autoParam (aL apos cpos) jA1) (N:autoParam (sE e [] X) jA1) (i:autoParam (bT cpos [] X) jA1):
  QE X (.Call (.Attribute o name apos) [e] [] cpos) (tBMT X.K r w n):=⟨by
 intro u s m H Q I h;refine wpAny_Call_method_late b f d rfl (thn (M.p _ s m H _ I h) λv U Z =>?_);obtain⟨x,y,j,r1,⟨p,xs,ex,t⟩,S⟩:=Z;subst ex
 cases r1
 obtain⟨O,_,⟨R,E,G,_⟩,_⟩:=j.tuple t;refine⟨"tuple",id,PySem.F.plainAttrs_tuple,g,l,⟨R,E,G⟩,λa C =>?_,?_⟩
 .cases C
  exact j.tupNoD t
 have q:=J.p cpos _ U m y _ j S;rw[N] at q ⊢;refine u9 (by rfl) (Calls.evalArgs_plain ?_);exact thn q λY W ⟨vs,z,A,r2,T⟩=>L _ W m z (.ref p) vs _ Y Q A rfl r2 T⟩
set_option tactic.hygienic true in
def zbq (hu:X.A.units+64<cLine)(ho:QX X E o (.v i))(ha:QXA X E [e] [.v j])
  (s:autoParam (aB o "index" X) jA1)
  (u:autoParam (aG cpos [e] X) jA1)
  (t:autoParam (aL apos cpos) jA1) (hs:autoParam (sE e [] X) jA1) (h:autoParam (bT cpos [] X) jA1):
  QX X E (.Call (.Attribute o "index" apos) [e] [] cpos) (.op zd2 [.v i,.v j]):=
 QE.imp (zkD PySem.F.slot_tuple_index PySem.F.type_tuple_index (z6M hu) ho ha s u t hs h) <| by
  rintro σ H Q ⟨G,p,Q0,K,g,L,hr,hk,S⟩;have b:onV (p.get i) _:=hr
  cases C:p.get i with
  | none=>rw[C] at b;exact b.elim
  | some d=>
   rw[C] at b
   cases I:p.get j with
   | none=>
    have f:onV (p.get j) (λr=>z5w d r Q0):=b;rw[I] at f;exact f.elim
   | some r=>
    have f:onV (p.get j) (λr=>z5w d r Q0):=b;rw[I] at f;have m:z5w d r Q0:=f;refine⟨G,p,λc=>c=d,K,g,L,(by show onV (p.get i) _;rw[C];exact rfl),?_,S⟩;rintro c v W H1 rfl N O g3 rd;unfold z5w at m
    split at m
    .rename_i l
     obtain⟨h1,h2,h3,q⟩:=m;obtain⟨a,U,rfl,R,hl⟩:=z1O rd;refine⟨⟨a,U,rfl,z0G O R⟩,W,p,λM=>M=[r],K,O,L.same N.1,(by show onV (p.get j) _;rw[I];exact rfl),?_,S.same g3⟩;rintro M vs J Y rfl y T k3 rds;obtain⟨w,rfl,z⟩:=rds1 rds;exact⟨J,a,U,l,r,w,rfl,rfl,T,z0G y.1 R,hl.same y.1,z,h1,h2,h3,λn c Z e2 e3=>hk _ _ J Y (q n c Z e2 e3) (N.trans g3 y) T (z02 g3 k3) RD.int'⟩
    .exact m.elim
end
section
variable {X:Cx}
theorem zbb (f:Nat->Int):∀k,argBest (λi j=>decide (f i<f j)) k<=k/\∀j,j<=k->f (argBest (λi j=>decide (f i<f j)) k)<=f j
 | 0=>⟨ww _,λj h=>by rw[show j=0 by lia];exact vO _⟩
 | k+1=>by
  obtain⟨a,b⟩:=zbb f k;rw[argBest]
  grind
def ze5 (hc:X.calm=true):z15 X (.builtin "min") (λvs H Q=>∃G a ns,vs=[.ref a]/\Same G H/\SqT X.K G a (ns.map V.int)/\ns≠[]/\∀m,m∈ns->(∀x∈ns,m<=x)->Q (.int m) H):=by
 rintro O s σ H xs us Q I rv ⟨G,a,ns,e,g,Z,r,q⟩;subst e;obtain⟨u,rfl,rx⟩:=z4p rv
 cases rx
 have hh:X.A.handled=none:=I.ok.hd hc;obtain⟨a1,rr,pl,_⟩:=I.tuple (z0G g Z);obtain⟨l,rfl,L⟩:=z5V ns rr;have a0:l.length=ns.length:=by rw[<- L,we]
 have N:0<ns.length:=w9.mpr r;obtain⟨o,M,f,n,hd⟩:=id pl;have F:a<s.heap.objs.size:=wC M;have val:∀i v,(l.map λp=>Value.int p.1 p.2).toArray[i]? = some v->∃t,v = .int ((ns[i]?).getD 0) t/\i<ns.length:=λi v e=>by
  have d:(l.map λp=>Value.int p.1 p.2)[i]? = some v:=by simpa using e
  rw[wO] at d
  cases z:l[i]? with
  | none=>rw[z] at d;cases d
  | some p=>
   rw[z] at d
   cases d
   have h:i<l.length:=by
    rcases wW i l.length with w | w
    .exact w
    .rw[uO w] at z;cases z
   exact⟨p.2,by rw[<- L,wO,z];rfl,by lia⟩
 have W:=(Walks.tuple (prog:=X.prog) (w:=X.w) (A:=X.A.in1) (show X.A.in1.handled=none from by simp[hh]) s.heap.objs.size a (wJ F) (l.map λp=>Value.int p.1 p.2).toArray).toS;refine call_min_walkS (uh pl ⟨_,_,_,_,_,_,_,λi j=>decide ((ns[i]?).getD 0<(ns[j]?).getD 0),rfl,W,⟨⟨_,wv _ rfl,rfl,rfl⟩,⟨o,wg _ M,f,n,hd⟩⟩,λb J =>?_,by simp;lia,?_,λv s' pv mv =>?_⟩)
 .rw[vX];simp only[wn,wA,vA] at J
  rcases J with e | e
  .rw[e];exact uW _
  .rw[e];exact v7 F
 .intro i j x y s1 Q1 E1 px py q1;obtain⟨t,rfl,_⟩:=val i x px;obtain⟨t',rfl,_⟩:=val j y py;exact lt_int q1
 .obtain⟨t,rfl,h⟩:=val _ v pv;obtain⟨h',Y,R,E,C⟩:=s';have T:Y=s.gens:=mv.gens;have S:R=s.drawn:=mv.drawn;have U:C=s.os:=mv.os;subst T;subst S;subst U;refine⟨.int _,H,I.kept (t':=E) λb o e=>mv.heap b o ?_ (wg _ e),⟨t,rfl⟩,q _ ?_ λx hx =>?_⟩
  .simp only[wj];exact wJ (wC e)
  .rw[wm h];exact jF h
  .obtain⟨j,hj,rfl⟩:=vj.mp hx;have:=(zbb (λi=>(ns[i]?).getD 0) ((l.map λp=>Value.int p.1 p.2).toArray.size - 1)).2 j (by simp;lia);simpa[wm hj] using this
def znW (d:D)(Q:DK):Prop:=∃a,d = .tup (a.map .int)/\a≠[]/\∀m,m∈a->(∀x∈a,m<=x)->Q (.int m)
def zl8:Fn:=fn1 znW λd Q i m ⟨h,e,f,g⟩=>⟨h,e,f,λk a b=>m _ (g k a b)⟩
theorem z9Q:∀{ns:List Int}{vs:List V}{K:W.Frag}{mg:WmP}{G:Hp},RDs K mg G (ns.map D.int) vs->vs=ns.map V.int
 | [],vs,K,mg,G,h=>by
  exact h
 | n::ns,vs,K,mg,G,h=>by
  obtain⟨x,r,rfl,a,b⟩:=h;rw[a,z9Q b]
  rfl
def zj1 (l:X.calm=true):z15 X (.builtin "min") (rN X.K X.mg zl8):=(ze5 l).imp <| by
 rintro vs H Q ⟨G,t,r,s,g,rds,o,n⟩;obtain⟨d,rfl,e⟩:=z1F o;obtain⟨v,rfl,rd⟩:=rds1 rds;obtain⟨p,rfl,b,q⟩:=e;obtain⟨a,u,rfl,f,h⟩:=z1O rd;rw[z9Q h] at f;exact⟨G,a,p,rfl,g,f,b,λm i j=>n.now g (q m i j) RD.int'⟩
def ze3 (y:X.calm=true):z15 X (.builtin "sum") (λvs H Q=>∃(G:Hp) (a:Addr) (ns:List Int),vs=[.ref a]/\Same G H/\SqT X.K G a (ns.map V.int)/\Q (.int ns.sum) H):=by
 rintro t s W H U T Q I N ⟨G,a,ns,e,g,x,q⟩;subst e;obtain⟨u,rfl,O⟩:=z4p N
 cases O
 have E:X.A.handled=none:=I.ok.hd y;obtain⟨L,M,pl,_⟩:=I.tuple (z0G g x);obtain⟨l,rfl,m⟩:=z5V ns M;have J:l.length=ns.length:=by rw[<- m,we]
 obtain⟨o,r,f,n,C⟩:=id pl;have h:a<s.heap.objs.size:=wC r;refine call_sum_walkG (uh pl ⟨_,_,_,_,_,_,λi=>ns.getD i 0,rfl,Walks.tuple (prog:=X.prog) (w:=X.w) (A:=X.A.in1) (show X.A.in1.handled=none from by simp[E]) s.heap.objs.size a (wJ h) (l.map λp=>Value.int p.1 p.2).toArray,⟨⟨_,wv _ rfl,rfl,rfl⟩,⟨o,wg _ r,f,n,C⟩⟩,λb j =>?_,λi v e =>?_,λS R t' F =>?_⟩)
 .rw[vX];simp only[wn,wA,vA] at j
  rcases j with e | e
  .rw[e];exact uW _
  .rw[e];exact v7 h
 .have d:(l.map λp=>Value.int p.1 p.2)[i]? = some v:=by simpa using e
  rw[wO] at d
  cases z:l[i]? with
  | none=>rw[z] at d;cases d
  | some p=>
   rw[z] at d
   cases d
   exact⟨p.2,by dsimp only;rw[ue, <- m,wO,z];rfl⟩
 .refine⟨.int _,H,I.kept (t':=R) λb o e=>F b o ?_ (wg _ e),⟨t',rfl⟩,?_⟩
  .simp only[wj];exact wJ (wC e)
  .rw[preSum_getD,uD (by simp;lia)];exact q
def znV (d:D)(Q:DK):Prop:=∃a:List Int,d = .tup (a.map .int)/\Q (.int a.sum)
def zl7:Fn:=fn1 znV λd Q b m ⟨a,e,h⟩=>⟨a,e,m _ h⟩
def zj0 (h:X.calm=true):z15 X (.builtin "sum") (rN X.K X.mg zl7):=(ze3 h).imp <| by
 rintro vs H Q ⟨G,o,m,n,g,rds,j,i⟩;obtain⟨d,rfl,b⟩:=z1F j;obtain⟨v,rfl,rd⟩:=rds1 rds;obtain⟨l,rfl,q⟩:=b;obtain⟨a,p,rfl,e,f⟩:=z1O rd;rw[z9Q f] at e;exact⟨G,a,l,rfl,g,e,i.now g q RD.int'⟩
end
end Pu
namespace Pu
open PySem L2
def z1s:Fn:=Fn.mkN 2 4 (.seq (.for_ [] (.tp [2,3]) (.op z26 [.v 0]) (.ifs (.op z2A [.v 1,.v 2,.v 3]) (.ret (.v 2)) .skip))
 (.ret (.c .non)))
def z47:Fn:=Fn.mkN 2 2 (.ret (.op pTup [.op pSub [.op pIx [.v 1,.c (.int 0)],.op z0b [.op pIx [.v 0,.c (.int 0)],.op pIx [.v 1,.c (.int 2)]]],.op pSub [.op pIx [.v 1,.c (.int 1)],.op z0b [.op pIx [.v 0,.c (.int 1)],.op pIx [.v 1,.c (.int 2)]]]]))
def z2Y:Fn:=Fn.mkN 2 5 (.seq (.set 2 (.op z0A [.op pIx [.v 0,.c (.int 0)],.op pIx [.v 0,.c (.int 1)]]))
 (.seq (.set 3 (.op z0b [.op z0R [.v 2,.v 2],.op pIx [.v 1,.c (.int 2)]]))
 (.seq (.set 4 (.op z0R [.op z47 [.op pIx [.v 0,.c (.int 0)],.v 1],.v 2]))
 (.ret (.op pTup [.op pSub [.v 3,.v 4],.v 4])))))
def z0M:Fn:=Fn.mkN 2 8 (.seq (.set 2 (.op z0A [.op pIx [.v 0,.c (.int 0)],.op pIx [.v 0,.c (.int 1)]]))
 (.seq (.set 3 (.op z0A [.op pIx [.v 0,.c (.int 0)],.op pIx [.v 0,.c (.int 2)]]))
 (.seq (.set 4 (.op z47 [.op pIx [.v 0,.c (.int 0)],.v 1]))
 (.seq (.set 5 (.op z0b [.op z1A [.v 2,.v 3],.op pIx [.v 1,.c (.int 2)]]))
 (.seq (.set 6 (.op z1A [.v 4,.v 3]))
 (.seq (.set 7 (.op z1A [.v 2,.v 4]))
 (.ret (.op pTup [.op pSub [.op pSub [.v 5,.v 6],.v 7],.v 6,.v 7]))))))))
def z1o:Fn:=Fn.mkN 2 4 (.seq (.set 2 (.c (.int 2)))
 (.seq (.set 3 (.sl (.v 0) none (some (.c (.int 3)))))
 (.seq (.wh (.op pLt [.op zl8 [.op z0M [.v 3,.v 1]],.c (.int 0)]) (.seq (.set 2 (.op pAdd [.v 2,.c (.int 1)]))
 (.set 3 (.op pTup [.op pIx [.v 0,.c (.int 0)],.op pIx [.v 0,.op pSub [.v 2,.c (.int 1)]],.op pIx [.v 0,.v 2]]))))
 (.ret (.v 3)))))
def z1b:Fn:=Fn.mkN 2 3 (.seq (.ifs (.op pEq [.v 1,.c (.int 0)]) .never .skip)
 (.seq (.set 2 (.op z05 [.v 1,.v 0]))
 (.seq (.ifs (.op pLt [.v 1,.c (.int 0)]) (.set 2 (.op pNeg [.v 2])) .skip)
 (.ret (.op pTup [.op z1w [.v 0,.v 2],.op z1w [.v 1,.v 2]])))))
def z0X:Fn:=Fn.mkN 3 5 (.seq (.set 3 (.op zl7 [.v 2]))
 (.seq (.set 4 (.comp 2 [3,0] (.tp [0,1]) (.op z7C [.v 1,.v 2]) (some (.op pGt [.v 1,.c (.int 0)])) (.op pTup [.op zd2 [.v 3,.v 0],.op z1b [.v 1,.v 2]])))
 (.ret (.op z1u [.op zgI [.v 4]]))))
def z3u:Fn:=Fn.mkN 2 6 (.seq (.set 2 (.op z0a [.v 0]))
 (.seq (.set 3 (.op z1s [.v 2,.v 1]))
 (.seq (.ifs (.op z75 [.v 3,.c .non]) (.ret (.op pTup [.c (.str "barred"),.v 3])) .skip)
 (.seq (.set 4 (.v 2))
 (.seq (.set 5 (.op pTup [.c (.int 1)]))
 (.seq (.ifs (.op pEq [.op pLen [.v 2],.c (.int 2)]) (.set 5 (.op z2Y [.v 4,.v 1])) .skip)
 (.seq (.ifs (.op pGt [.op pLen [.v 2],.c (.int 2)]) (.seq (.set 4 (.op z1o [.v 2,.v 1]))
 (.set 5 (.op z0M [.v 4,.v 1]))) .skip)
 (.ret (.op pTup [.c (.str "sailed"),.op z0X [.v 0,.v 4,.v 5]])))))))))
end Pu
namespace Geo
def zdg {a b c d:Int}(g:0<a)(h:0<=b)(i:c<0)(j:0<=d)(e:a*b=c*d):d=0:=by
 have l:=wR (wt g) h;have m:=vG (wt i) j;have f:c*d=0:=by lia
 rcases wI.mp f with z | z
 .lia
 .exact z
def sqp {a b:Int}(h:¬ (a=0/\b=0)):0<a*a+b*b:=by
 have d:∀x:Int,0<=x*x:=λx=>by
  rcases Int.le_total 0 x with z | z
  .exact wR z z
  .exact v5 z z
 have e:=d a;have f:=d b
 rcases uV (Int.add_nonneg e f) with z | z
 .exact z
 .exfalso
  have g:a*a=0:=by omega
  have i:b*b=0:=by omega
  have j:=wI.mp g;have l:=wI.mp i;exact h ⟨by lia,by lia⟩
def zlP {a b o c:P}(j:Edge S a b)(l:Edge S o c)(K:a≠o)(L:b≠o):0<Qa a b o:=by
 rcases uV (j.left o l.sa) with z | z
 .exact z
 exfalso
 have z:=z.symm;have bt:=j.btw o l.sa z;have R:=((zhh j.ne).mp ⟨z,bt.1,bt.2⟩).2.2;have N:=l.left a j.sa;have O:=l.left b j.sb;have G:=l.btw a j.sa;have H:=l.btw b j.sb;have Q:=l.ne;obtain⟨r,s⟩:=a;obtain⟨t,u⟩:=b;obtain⟨m,n⟩:=o;obtain⟨I,J⟩:=c;simp only[Qa,dot] at z R N O G H;have x:¬ (r - m=0/\s - n=0):=λw=>K (ua (by simp;lia) (by simp;lia));have y:¬ (t - m=0/\u - n=0):=λw=>L (ua (by simp;lia) (by simp;lia));have A:¬ (I - m=0/\J - n=0):=λw=>Q (ua (by simp;lia) (by simp;lia));have T:(r - m)*(u - n) - (s - n)*(t - m)=0:=by rw[<- z];grind
 clear z K L Q bt j l;generalize r - m=d at*;generalize s - n=e at*;generalize t - m=h at*;generalize u - n=i at*;generalize I - m=f at*;generalize J - n=g at*;have U:=sqp x;have V:=sqp y;have C:=sqp A;have p:(d*h+e*i)*(d*h+e*i)+(d*i - e*h)*(d*i - e*h)=(d*d+e*e)*(h*h+i*i):=by grind
 have q:(d*d+e*e)*(f*i - g*h)=(d*h+e*i)*(f*e - g*d)+(d*i - e*h)*(f*d+g*e):=by grind
 have M:(d*d+e*e)*(h*f+i*g)=(d*h+e*i)*(d*f+e*g) - (d*i - e*h)*(f*e - g*d):=by grind
 have W:(d*f+e*g)*(d*f+e*g)+(f*e - g*d)*(f*e - g*d)=(d*d+e*e)*(f*f+g*g):=by grind
 rw[T,jf,uy] at p q;rw[T,jf,Int.sub_zero] at M;have UV:=wS U V;have neg:d*h+e*i<0:=by
  rcases uV R with w | w
  .exact w
  .rw[w] at p;lia
 have E:f*e - g*d=0:=zdg U O neg N q;have F:f*i - g*h=0:=by
  rw[E,jv] at q
  rcases wI.mp q with w | w
  .lia
  .exact w
 have X:=(G E).1;have Y:=(H F).1;have Z:d*f+e*g=0:=zdg U Y neg X M;rw[E,Z] at W;have:=wS U C;lia
def Qb (a b:P)(x y t:Int):Int:=(b.1 - a.1)*(y - a.2*t) - (b.2 - a.2)*(x - a.1*t)
def zdP (a b:P)(x y t:Int):Qb b a x y t = -Qb a b x y t:=by simp[Qb];grind
def z9k (f:h.Nodup)(a:i<h.length)(b:j<h.length)(ne:i≠j):cy h i≠cy h j:=λe=>by
 have g:=z12 (h:=h) (i:=i) (by lia);have l:=z12 (h:=h) (i:=j) (by lia);rw[wY a] at g;rw[wY b] at l;have d:h[i]=h[j]:=by
  simp_all
 rcases Nat.lt_or_gt_of_ne ne with z | z
 .exact(vk.mp f i j a b z) d
 .exact(vk.mp f j i b a z) d.symm
def zfR (x:z03 S h){k:Nat}(a:1<=k)(b:k+1<h.length):0<Qa (cy h k) (cy h (k+1)) (cy h 0):=
 zlP (z35 x (by lia) k) (z35 x (by lia) 0) (z9k x.nodup (by lia) (by lia) (by lia)) (z9k x.nodup (by lia) (by lia) (by lia))
end Geo
namespace Pu
open PySem L2 Mth
def cyw (b:h≠[])(a:Wb n h)(k:Nat):Vb n (Geo.cy h k):=a _ (wz (z12 (w9.mpr b)))
def zcm (i:h≠[])(g:Wb 600 h)(a:s∈z07 h):Vb 700 s.1:=by
 unfold z07 at a
 split at a
 .obtain⟨b,d,rfl⟩:=wf.mp a;unfold ways at d;simp[wn,wA,vA] at d
  rcases d with rfl | rfl | rfl | rfl <;> exact⟨Bt.le (m:=1) (z04 (by dsimp only;decide)),Bt.le (m:=1) (z04 (by dsimp only;decide))⟩
 .obtain⟨j,_,a⟩:=List.mem_flatMap.mp a;obtain⟨l,n⟩:=cyw i g (j+h.length - 1);obtain⟨o,p⟩:=cyw i g j;have e:Bt 601 _:=Bt.le (Bt.sub o l);have f:Bt 601 _:=Bt.le (Bt.sub p n)
  rcases wn.mp a with rfl | a
  .exact⟨f.le,Bt.le (Bt.neg e)⟩
  .split at a
   .rw[wj.mp a];exact⟨e.le,f.le⟩
   .cases a
def Wthn (h:List P)(x y t:Int):Prop:=∀s∈z07 h,dot (x,y) s.1<=dot s.2 s.1*t
def zcD {l h:List P}{x y t:Int}(i:z03 (· ∈ l) h)(q:Wb 600 h)(Z:h.length<=62)(pc:Pc x y t)
  (O:∀b,b≠(0,0)->Vb 700 b->(∀p∈l,dot p b*t<dot (x,y) b)->Q (vec b)) (R:Wthn h x y t->Q .non):z1s.run [vecs h,pcD x y t] Q X:=by
 obtain⟨m,tl,N,_⟩:=i.ex;have C:h≠[]:=by rw[N];simp
 walk_at "fn";ac_nf;refine z56 (.inl rfl) q.le C (by lia) λh' w =>?_;have o:z03 (· ∈ h) h:=i.of (λp j=>i.sub p j) λp j=>j;obtain rfl:h'=h:=(w.is C).unique o;ac_nf;refine z0i (f:=zer) (λM L=>Ee2 λ(J K)=>(∀s∈M,dot (x,y) s.1<=dot s.2 s.1*t)/\L=[.s (vecs h'),.s (pcD x y t),J,K]) ⟨_,_,by simp,rfl⟩ ?_ ?_
 .rintro M s r L e ⟨J,K,u,rfl⟩;have I:s∈z07 h':=by rw[e];simp
  have sb:=zcm C q I;obtain⟨W,Y⟩:=z4z i I;refine⟨rfl,?_⟩;show Sm.run _ _ _ _ _;unfold z09 z09 z09;ac_rfl;ac_nf;refine zeC pc sb (zfU q sb (wf.mpr ⟨s.2,W,rfl⟩)) ?_;refine z0r (λz =>?_) (λz =>?_)
  .ac_nf;refine O s.1 (zcl i I) sb λp j =>?_;have:=wo (Y p j) (wt pc.pos);lia
  .ac_nf;refine⟨_,_,λU g =>?_,rfl⟩
   rcases wB.mp g with g | g
   .exact u U g
   .rw[wj.mp g];lia
 rintro L ⟨J,K,u,rfl⟩;ac_nf;exact R u
def z9C {x y t:Int}(d:2<=h.length)(w:Wthn h x y t){k:Nat}(b:k<h.length):0<=Qb (Geo.cy h k) (Geo.cy h (k+1)) x y t:=by
 have key:∀j,j<h.length->0<=Qb (Geo.cy h (j+h.length - 1)) (Geo.cy h j) x y t:=λj a=>by
  have:=w _ (z1z (by lia) a (wF ..));simp only[dot,rt,stp] at this;simp only[Qb]
  grind
 rcases wW (k+1) h.length with z | z
 .have:=key (k+1) z;rw[show k+1+h.length - 1=k+h.length by lia] at this
  rwa [show Geo.cy h (k+h.length)=Geo.cy h k by unfold Geo.cy;rw[ud]] at this
 .have:=key 0 (by lia);rw[show 0+h.length - 1=k by lia] at this
  rwa [show Geo.cy h 0=Geo.cy h (k+1) by unfold Geo.cy;rw[show k+1=h.length by lia,Nat.mod_self,Nat.zero_mod]] at this
def zax {x y t:Int}(e:Vb 600 a)(pc:Pc x y t)(q:Q (vec (x - a.1*t,y - a.2*t))):z47.run [vec a,pcD x y t] Q X:=by
 obtain⟨f,m,j,b,_⟩:=pc;obtain⟨g,i⟩:=e;walk_at "fn";ac_nf;exact q
def zgc {x y t:Int}(b:Vb 600 a)(pc:Pc x y t):Vb 900 (x - a.1*t,y - a.2*t):=⟨Bt.le (Bt.sub pc.bx (Bt.mul b.1 pc.bt)),Bt.le (Bt.sub pc.bY (Bt.mul b.2 pc.bt))⟩
def z6U (d:Vb 600 a)(e:Vb 600 b):Vb 601 (b.1 - a.1,b.2 - a.2):=⟨Bt.le (Bt.sub e.1 d.1),Bt.le (Bt.sub e.2 d.2)⟩
def zjG {a b c:P}{x y t:Int}(g:Vb 600 a)(r:Vb 600 b)(u:Vb 600 c)(pc:Pc x y t)(q:Q (.tup ([Qb b c x y t,Qb c a x y t,Qb a b x y t].map .int))):z0M.run [vecs [a,b,c],pcD x y t] Q X:=by
 have e:=z6U g r;have f:=z6U g u;have i:=zgc g pc;have j:=pc.bt;walk_at "fn";ac_nf;refine z2j ?_;ac_nf;refine z2j ?_;ac_nf;refine zax g pc ?_;ac_nf;refine z3J ⟨e.1.le,e.2.le⟩ ⟨f.1.le,f.2.le⟩ ?_;have w:Bt 1203 ((b.1 - a.1)*(c.2 - a.2) - (b.2 - a.2)*(c.1 - a.1)):=Bt.le (Bt.sub (Bt.mul e.1 f.2) (Bt.mul e.2 f.1));ac_nf;refine z3J ⟨i.1.le,i.2.le⟩ ⟨f.1.le,f.2.le⟩ ?_;ac_nf;refine z3J ⟨e.1.le,e.2.le⟩ ⟨i.1.le,i.2.le⟩ ?_;ac_nf;have m:((b.1 - a.1)*(c.2 - a.2) - (b.2 - a.2)*(c.1 - a.1))*t - ((x - a.1*t)*(c.2 - a.2) - (y - a.2*t)*(c.1 - a.1)) - ((b.1 - a.1)*(y - a.2*t) - (b.2 - a.2)*(x - a.1*t))=Qb b c x y t:=by simp only[Qb];grind
 have o:(x - a.1*t)*(c.2 - a.2) - (y - a.2*t)*(c.1 - a.1)=Qb c a x y t:=by simp only[Qb];grind
 have p:(b.1 - a.1)*(y - a.2*t) - (b.2 - a.2)*(x - a.1*t)=Qb a b x y t:=rfl;rw[m,o,p];exact q
structure Fan (h:List P)(x y t:Int)(k:Nat):Prop where
 lo:1<=k
 hi:k+1<h.length
 a:0<=Qb (Geo.cy h k) (Geo.cy h (k+1)) x y t
 b:0<=Qb (Geo.cy h (k+1)) (Geo.cy h 0) x y t
 c:0<=Qb (Geo.cy h 0) (Geo.cy h k) x y t
def zmH (d:3<=h.length):h.take 3=[Geo.cy h 0,Geo.cy h 1,Geo.cy h 2]:=by
 match h,d with
 | a::b::c::r,_=>
  rfl
def zeD {x y t:Int}(i:Wb 600 h)(C:3<=h.length)(O:h.length<=62)(pc:Pc x y t)(w:Wthn h x y t)
  (q:∀k,Fan h x y t k->Q (vecs [Geo.cy h 0,Geo.cy h k,Geo.cy h (k+1)])):z1o.run [vecs h,pcD x y t] Q X:=by
 have r:h≠[]:=List.ne_nil_of_length_pos (by lia);have g:=λ{k:Nat}(K:k<h.length)=>z9C (by lia) w K;have f:0<=Qb (Geo.cy h (h.length - 1)) (Geo.cy h 0) x y t:=by
  have:=g (k:=h.length - 1) (by lia)
  rwa [show Geo.cy h (h.length - 1+1)=Geo.cy h 0 by unfold Geo.cy;rw[show h.length - 1+1=h.length by lia,Nat.mod_self,Nat.zero_mod]] at this
 have u:cutD (h.map vec) none (some 3)=(h.take 3).map vec:=by
  rw[z2q,show HT.sIx h.length h.length (some (3))=min 3 h.length by
   show (if (3)<0 then ((3:Int)+h.length).toNat else min (3:Int).toNat h.length)=_;rw[if_neg (by decide)]
   rfl]
  show (h.take (min 3 h.length)).map vec=_;rw[show min 3 h.length=3 by lia]
 walk_at "fn";ac_nf;rw[u,zmH C];ac_nf;refine z4c (z5U (λb=>Ee1 λk=>Aa4 (1<=k) (k+1<h.length) (0<=Qb (Geo.cy h 0) (Geo.cy h k) x y t) (b=[.s (vecs h),.s (pcD x y t),.s (.int (k+1)),.s (vecs [Geo.cy h 0,Geo.cy h k,Geo.cy h (k+1)])])) (λb=>(100 - nI b 2).toNat) ⟨1,by lia,by lia,g (k:=0) (by lia),rfl⟩ ?_);rintro b ⟨k,M,N,J,rfl⟩;have I:=g (k:=k) (by lia);ac_nf;refine zjG (cyw r i _) (cyw r i _) (cyw r i _) pc ?_;refine⟨_,rfl,by simp,λm L p =>?_⟩;ac_nf;have R:=p _ (wq _ (wF ..));refine z0r (λz =>?_) (λz =>?_)
 .have j:Qb (Geo.cy h (k+1)) (Geo.cy h 0) x y t<0:=by
   simp only[wn,wA,vA] at L;lia
  have ne:k+1≠h.length - 1:=λe=>by rw[e] at j;lia
  have o:0<=Qb (Geo.cy h 0) (Geo.cy h (k+1)) x y t:=by rw[zdP];lia
  ac_nf;refine z0V (z0x (z9l (k:=0) (by lia))) ?_;ac_nf;rw[show k+1+1 - 1=((k+1):Int) by lia];refine z0V (z0x (z9l (k:=k+1) (by lia))) ?_;ac_nf;rw[show k+1+1=((k+2):Int) by lia];refine z0V (z0x (z9l (k:=k+2) (by lia))) ?_;ac_nf;refine⟨⟨k+1,by lia,by lia,o,rfl⟩,?_⟩;show (100 - ((k+2):Int)).toNat<(100 - ((k:Int)+1)).toNat
  lia
 .ac_nf;refine q k ⟨M,N,I,by lia,J⟩
def z5J (b:0<W)(e:Bt 1400 W)(q:Q (vec (p / (Int.gcd p W),W / (Int.gcd p W)))):z1b.run [.int p,.int W] Q X:=by
 obtain⟨g,_,_,_,_⟩:=z3x b;have i:(Int.gcd p W)<=W:=Int.le_of_dvd b (jP ..);have f:Bt 9000 (Int.gcd p W):=Bt.le (e.of_abs (by lia));walk_at "fn";refine t_no (by lia) ?_;ac_nf;refine z1X ?_;rw[Int.gcd_comm];ac_nf;refine t_no (by lia) ?_;ac_nf;exact q
def idx (l:List P)(c:P):Nat:=l.findIdx λp=>decide (p=c)
def z7W {c:P}(h:c∈l):l[idx l c]? = some c:=by
 have a:idx l c<l.length:=List.findIdx_lt_length_of_exists ⟨c,h,by simp⟩;rw[wm a];have:=List.findIdx_getElem (w:=a);exact congrArg _ (uw this)
def zaW {c:P}(h:c∈l):idx l c<l.length:=List.findIdx_lt_length_of_exists ⟨c,h,by simp⟩
def ziO {c d:P}(b:c∈l)(f:d∈l)(e:idx l c=idx l d):c=d:=by
 have a:=z7W b;rw[e,z7W f] at a
 simp_all
def zm8 {c:P}(h:c∈l):Geo.cy l (idx l c)=c:=by
 have b:=z7W h;have a:=z12 (h:=l) (i:=idx l c) (by have:=zaW h;lia);rw[wY (zaW h),b] at a;exact(w6 a).symm
def ziy {c:P}(h:c∈l)(q:Q (.int (idx l c))):zd2.run [vecs l,vec c] Q X:=by
 refine⟨Da.vec c,λd g =>?_,⟨vec c,uq h,by rw[z3y];simp⟩,λi d a b e =>?_⟩
 .obtain⟨p,_,rfl⟩:=wf.mp g;exact Da.vec p
 .rw[wO] at a
  cases z:l[i]? with
  | none=>simp_all
  | some p=>
   rw[z] at a
   cases a
   rw[z3y] at b;have f:=uw b;subst f;have:i=idx l p:=by
    rcases uG i (idx l p) with w | w | w
    .have j  := Nat.lt_trans w (zaW h);have:=List.not_of_lt_findIdx (w)
     simp_all
    .exact w
    .have:=e (idx l p) (vec p) w (by rw[wO,z7W h];rfl);rw[z3y] at this;simp at this
   simp_all
noncomputable def shOf (l:List P)(W:Int)(x:P × Int):Sh:=(idx l x.1,x.2 / (Int.gcd x.2 W),W / (Int.gcd x.2 W))
def rwOf (l:List P)(W:Int)(x:P × Int):Int × D:=((idx l x.1),vec (x.2 / (Int.gcd x.2 W),W / (Int.gcd x.2 W)))
noncomputable def back:Int × D->Sh
 | (n,.tup [.int a,.int b])=>(n.toNat,a,b)
 | (n,_)=>(n.toNat,0,1)
def z8d (l:List P)(W:Int)(x:P × Int):back (rwOf l W x)=shOf l W x:=by
 rfl
def z8M {f:Sh->Int}{a b:List Sh}(h:a.Perm b):(a.map f).sum=(b.map f).sum:=by
 induction h with
 | nil=>rfl
 | cons x _ g=>simp[g]
 | swap x y l=>simp;lia
 | trans _ _ d e=>rw[d,e]
set_option tactic.hygienic true in
theorem zb2 {f:P × Int->Int}:∀{l:List (P × Int)},(∀x∈l,0<=x.2)->(∀x,x.2=0->f x=0)->((l.filter λx=>decide (0<x.2)).map f).sum=(l.map f).sum
 | [],_,_=>rfl
 | x::l,h,a=>by
  have d:=zb2 (l:=l) (λy b=>h y (by simp[b])) a;rw[List.filter_cons]
  split
  .simp_all
  .rename_i z
   have e:=h x (by simp);have:x.2=0:=by simp at z;lia
   rw[wE,wP,a x this,Int.zero_add,d]
def zly (q:Q (.lst ((l.zip m).map λp =>.tup [p.1,p.2]))):z7C.run [.tup l,.tup m] Q X:=q
def zjJ {x y t:Int}(f:Vb 600 a)(j:Vb 600 b)(pc:Pc x y t)
  (q:Q (.tup ([((b.1 - a.1)*(b.1 - a.1)+(b.2 - a.2)*(b.2 - a.2))*t - ((x - a.1*t)*(b.1 - a.1)+(y - a.2*t)*(b.2 - a.2)),(x - a.1*t)*(b.1 - a.1)+(y - a.2*t)*(b.2 - a.2)].map .int))):z2Y.run [vecs [a,b],pcD x y t] Q X:=by
 have e:=z6U f j;have g:=zgc f pc;have i:=pc.bt;walk_at "fn";ac_nf;refine z2j ?_;ac_nf;refine z3n ⟨e.1.le,e.2.le⟩ ⟨e.1.le,e.2.le⟩ ?_;have m:Bt 1203 _:=Bt.le (Bt.add (Bt.mul e.1 e.1) (Bt.mul e.2 e.2));ac_nf;refine zax f pc ?_;ac_nf;refine z3n ⟨g.1.le,g.2.le⟩ ⟨e.1.le,e.2.le⟩ ?_;ac_nf;exact q
abbrev swD (sh:List Sh):D :=.tup [.str (Str.ofString "sailed"),.tup (sh.map shD)]
abbrev brD (b:P):D :=.tup [.str (Str.ofString "barred"),vec b]
structure Prt (l:List P)(x y t:Int)(xs:List (P × Int)):Prop where
 mem:∀z∈xs,z.1∈l
 nd:(xs.map (·.1)).Nodup
 few:xs.length<=3
 nn:∀z∈xs,0<=z.2
 pos:0<(xs.map (·.2)).sum
 bt:Bt 1400 (xs.map (·.2)).sum
 ex:(xs.map λz=>z.1.1*z.2).sum*t=(xs.map (·.2)).sum*x
 ey:(xs.map λz=>z.1.2*z.2).sum*t=(xs.map (·.2)).sum*y
def zid {x y t:Int}(n:m∈l)(w:Wthn [m] x y t):Prt l x y t [(m,1)]:=by
 have f  := λb j=>w (b,m) (by
  exact wf.mpr ⟨b,j,rfl⟩)
 have a:=f (1,0) (by decide);have d:=f (0,1) (by decide);have e:=f (-1,0) (by decide);have g:=f (0,-1) (by decide);simp[dot,Int.neg_mul] at a d e g;have h:m.1*t=x:=by lia
 have i:m.2*t=y:=by omega
 exact⟨by simpa using n,by simp,by simp,by simp,by simp,by simpa using z04 (wK (by decide:(1:Int).natAbs<2 ^ 1) (jS (by decide) (by decide))),by simpa using h,by simpa using i⟩
def zic {x y t:Int}(pc:Pc x y t)(u:z03 S [a,b])(r:a∈l)(s:b∈l)(F:Vb 600 a)(vb:Vb 600 b)(w:Wthn [a,b] x y t):
  Prt l x y t [(a,((b.1 - a.1)*(b.1 - a.1)+(b.2 - a.2)*(b.2 - a.2))*t - ((x - a.1*t)*(b.1 - a.1)+(y - a.2*t)*(b.2 - a.2))),(b,(x - a.1*t)*(b.1 - a.1)+(y - a.2*t)*(b.2 - a.2))]:=by
 have i:=u.nodup;have ne:a≠b:=λe=>by rw[e] at i;simp at i
 have o:=z9C (h:=[a,b]) (by simp) w (k:=0) (by simp);have d:=z9C (h:=[a,b]) (by simp) w (k:=1) (by simp);have o:0<=Qb a b x y t:=o;have n:Geo.cy [a,b] 2=a:=by simp[Geo.cy]
 have d:0<=Qb b a x y t:=by rw[show (1+1)=2 from rfl,n] at d;exact d
 rw[zdP] at d;have q:Qb a b x y t=0:=by lia
 have A:=w (stp a b,b) (z1z (by simp) (j:=1) (by simp) (by unfold z0s;rw[if_pos (show [a,b].length=2 from rfl),show 1+[a,b].length - 1=2 from rfl,n];exact wq _ (wj.mpr rfl)));have C:=w (stp b a,a) (z1z (by simp) (j:=0) (by simp) (by unfold z0s;rw[if_pos (show [a,b].length=2 from rfl)];exact wq _ (wj.mpr rfl)));have g:=z6U F vb;have m:=pc.pos;have E:0<(b.1 - a.1)*(b.1 - a.1)+(b.2 - a.2)*(b.2 - a.2):=sqp λz=>ne (ua (by lia) (by lia));have f:((b.1 - a.1)*(b.1 - a.1)+(b.2 - a.2)*(b.2 - a.2))*t - ((x - a.1*t)*(b.1 - a.1)+(y - a.2*t)*(b.2 - a.2))+((x - a.1*t)*(b.1 - a.1)+(y - a.2*t)*(b.2 - a.2))=((b.1 - a.1)*(b.1 - a.1)+(b.2 - a.2)*(b.2 - a.2))*t:=by lia
 simp only[dot,stp] at A C;simp only[Qb] at q;refine⟨by simp[r,s],i,by simp,?_,?_,?_,?_,?_⟩
 .intro z p;simp only[wn,wA,vA] at p
  rcases p with rfl | rfl
  .show 0<=_ - _
   grind
  .show 0<=_+_
   grind
 .simp only[wE,u5,wP,jw,uy];rw[f];exact wS E m
 .simp only[wE,u5,wP,jw,uy];rw[f];exact Bt.le (Bt.mul (Bt.add (Bt.mul g.1 g.1) (Bt.mul g.2 g.2)) pc.bt)
 .simp only[wE,u5,wP,jw,uy];rw[f]
  grind
 .simp only[wE,u5,wP,jw,uy];rw[f]
  grind
def zcL {x y t:Int}{k:Nat}(pc:Pc x y t)(d:z03 S h)(C:∀p∈h,p∈l)(g:Wb 600 h)(F:Fan h x y t k):
  Prt l x y t [(Geo.cy h 0,Qb (Geo.cy h k) (Geo.cy h (k+1)) x y t),(Geo.cy h k,Qb (Geo.cy h (k+1)) (Geo.cy h 0) x y t),(Geo.cy h (k+1),Qb (Geo.cy h 0) (Geo.cy h k) x y t)]:=by
 obtain⟨E,G,u,w,A⟩:=F;have e:h≠[]:=List.ne_nil_of_length_pos (by lia);have N:=zfR d E G;have K:=z9k d.nodup (i:=0) (j:=k) (by lia) (by lia) (by lia);have L:=z9k d.nodup (i:=0) (j:=k+1) (by lia) (by lia) (by lia);have M:=z9k d.nodup (i:=k) (j:=k+1) (by lia) (by lia) (by lia);have m:∀j,Geo.cy h j∈l:=λj=>C _ (wz (z12 (w9.mpr e)));have H:=m 0;have I:=m k;have J:=m (k+1);have O:=cyw e g 0;have s:=cyw e g k;have Q:=cyw e g (k+1);generalize Geo.cy h 0=a at*;generalize Geo.cy h k=b at*;generalize Geo.cy h (k+1)=c at*;have n:=pc.pos;have f:Qb b c x y t+(Qb c a x y t+Qb a b x y t)=Qa b c a*t:=by simp only[Qb,Qa];grind
 refine⟨by simp[H,I,J],by simp[K,L,M],by simp,?_,?_,?_,?_,?_⟩
 .intro z r;simp only[wn,wA,vA] at r
  rcases r with rfl | rfl | rfl
  .exact u
  .exact w
  .exact A
 .simp only[wE,u5,wP,jw,uy];rw[f];exact wS N n
 .simp only[wE,u5,wP,jw,uy];rw[f];have o:=z6U s Q;have q:=z6U s O;exact Bt.le (Bt.mul (Bt.sub (Bt.mul o.1 q.2) (Bt.mul o.2 q.1)) pc.bt)
 .simp only[wE,u5,wP,jw,uy];rw[f];simp only[Qb,Qa]
  grind
 .simp only[wE,u5,wP,jw,uy];rw[f];simp only[Qb,Qa]
  grind
end Pu
namespace Rev
open PySem PyProof.Rows
section
variable {prog:Program}{w:World}{A:Around}{E:WvP}{R:Result->Shared->Prop}{r:Addr}{fp wr:List Addr}{G:Array GenState->Array GenState->Prop}{n:Nat}{P:Nat->Value->Prop}{St:Nat->Shared->Prop}{bt:Nat->Nat->Bool}{Ok:Shared->Prop}
def zjb (prog:Program)(w:World)(A:Around)(Ok:Shared->Prop)(P:Nat->Value->Prop)(bt:Nat->Nat->Bool):Prop:=∀i j x y s Q E,Ok s->P i x->P j y->Q (.bool (bt i j)) s->wpAny (model prog w) A (richCompare .Gt x y) Q E s
def zlU (W:WalksS prog w A.in1 r fp wr G n P St)(t:zjb prog w A.in1 Ok P bt)(S:Addr)(l:S ∉ fp)(stay:∀s s',Ok s->Moved (S::wr) G s s'->Ok s'):
  ∀left d s a c,n=d+1+left->St (d+1) s->Ok s->P (argBest bt d) a->s.heap.get? S=some { cls :=.type "list",dict:=none,data :=.seq #[a,a] c,slots := #[] }->
   (∀v s',P (argBest bt (n - 1)) v->Moved (S::wr) G s s'->R (.ok (.ret v)) s')->codeAny (model prog w) A (.builtin "max.loop" ⟨[.ref r,.none,.ref S],[]⟩) R s:=by
 have h:S ∉ wr:=λz=>l (W.sub S z);have more:∀b∈wr,b∈S::wr:=λb z=>wq S z;have f:∀{b:Addr},b ∉ S::wr->S≠b:=λz e=>z (by subst e;exact wF);have M:(toString "max"++toString ".loop")="max.loop":=by decide
 intro left
 induction left with
 | zero=>
  intro d s a c E J ok hb hS fin;refine uP F.entry_max_loop ?_;rw[ug jc _];refine wc (m:=seqItems? (.ref S)) (v9 hS rfl ?_);refine wc (m:=tryCatch (pyNext (.ref r)) _) (wpAny_tryCatch (W.done s _ _ (by rw[E];exact J) λs1 mv =>?_));have g:=mv.heap S _ h hS;refine wc (m:=updateSeq S λ_ => #[]) (jM g rfl (wc (jN (wp ?_))));refine fin a _ (by rw[E];exact hb) ((mv.mono more).then_heap (tk:=s1.toks) (ww _) λb o z e =>?_);rw[vC _ _ (f z)];exact e
 | succ left O=>
  intro d s a c E J ok hb hS fin;refine uP F.entry_max_loop ?_;rw[ug jc _];refine wc (m:=seqItems? (.ref S)) (v9 hS rfl ?_);refine wc (m:=tryCatch (pyNext (.ref r)) _) (wpAny_tryCatch (W.item (d+1) s _ _ (by lia) J λv s1 N p mv =>?_));have g:=mv.heap S _ h hS;have i:=mv.mono more;have I:Ok s1:=stay s s1 ok i;show wpAny _ A.in1 (tryCatch (holding [v,v] (richCompare .Gt v a >>= _)) _ >>= _) _ _ s1;refine wc (wpAny_tryCatch (uc (wc (t (d+1) (argBest bt d) v a s1 _ _ I N hb ?_))));refine wc (uc (wpAny_truthy_bool (wc (jN (wp ?_)))));have step:∀s2 u q,Moved (S::wr) G s s2->St (d+2) s2->P (argBest bt (d+1)) u->s2.heap.get? S=some { cls :=.type "list",dict:=none,data :=.seq #[u,u] q,slots := #[] }->codeAny (model prog w) A (.builtin "max.loop" ⟨[.ref r,.none,.ref S],[]⟩) R s2:=λs2 u q j K Q C=>
   O (d+1) s2 u q (by lia) K (stay s s2 ok j) Q C λx U T H=>fin x U T (Moved.trans W.gtrans j H)
  cases L:bt (d+1) (argBest bt d) with
  | true=>
   rw[if_pos rfl];refine wc (jM g rfl (wc (jN ?_)));rw[M];refine wp ⟨uZ jc _,step _ v _ (i.then_heap (ww _) λb o z e =>?_) (W.frame _ s1 _ s1.toks p (ww _) λb z o e =>?_) (by rw[argBest,L];exact N) (vJ _ g rfl)⟩
   .rw[vC _ _ (f z)];exact e
   .rw[vC _ _ λy:S=b=>l (by rw[y];exact z)];exact e
  | false=>
   rw[if_neg (by decide)];refine wc (jN ?_);rw[M];exact wp ⟨uZ jc _,step s1 a c i p (by rw[argBest,L];exact hb) g⟩
def zdk (W:WalksS prog w A.in1 r fp wr G n P St)(j:zjb prog w A.in1 Ok P bt)(S:Addr)(d:S ∉ fp)(stay:∀s s',Ok s->Moved (S::wr) G s s'->Ok s')(u:0<n){c:Nat}(st:St 0 s)(ok:Ok s)
  (t:s.heap.get? S=some { cls :=.type "list",dict:=none,data :=.seq #[] c,slots := #[] }) (fin:∀v s',P (argBest bt (n - 1)) v->Moved (S::wr) G s s'->R (.ok (.ret v)) s'):codeAny (model prog w) A (.builtin "max.loop" ⟨[.ref r,.none,.ref S],[]⟩) R s:=by
 have h:S ∉ wr:=λz=>d (W.sub S z);have a:∀{b:Addr},b ∉ S::wr->S≠b:=λz e=>z (by subst e;exact wF);have C:(toString "max"++toString ".loop")="max.loop":=by decide
 refine uP F.entry_max_loop ?_;rw[ug jc _];refine wc (m:=seqItems? (.ref S)) (v9 t rfl ?_);refine wc (m:=tryCatch (pyNext (.ref r)) _) (wpAny_tryCatch (W.item 0 s _ _ u st λv i E q mv =>?_));have f:=mv.heap S _ h t;have l:=mv.mono λb z=>wq S z;refine wc (m:=updateSeq S λ_ => #[v,v]) (jM f rfl ?_);rw[C];have g:Moved (S::wr) G s { i with heap:=i.heap.update S (Obj.mapSeq λ_ => #[v,v]) }:=l.then_heap (ww _) λb o z e=>by rw[vC _ _ (a z)];exact e
 refine wp ⟨uZ jc _,zlU W j S d stay (n - 1) 0 _ v _ (by lia) (W.frame _ i _ i.toks q (ww _) λb z o e =>?_) (stay _ _ ok g) E (vJ _ f rfl) λx I H p=>fin x I H (Moved.trans W.gtrans g p)⟩;rw[vC _ _ λy:S=b=>d (by rw[y];exact z)];exact e
def zfz
  (h:wpAny (model prog w) A.in1 (pyIter x) (λit d=>∃r fp wr G n P St bt Ok,it = .ref r/\WalksS prog w A.in1 r fp wr G n P St/\St 0 d/\Ok d/\(∀s s',Ok s->(∀b o,b ∉ wr->b<d.heap.objs.size->s.heap.get? b=some o->s'.heap.get? b=some o)->Ok s')/\(∀b∈fp,b<d.heap.objs.size)/\0<n/\zjb prog w A.in1 Ok P bt/\
   ∀v s',P (argBest bt (n - 1)) v->Moved wr G d s'->Q v s') E s):wpAny (model prog w) A (call (.builtin "max") [x]) Q E s:=by
 have l:(toString "max"++toString ".loop")="max.loop":=by decide
 refine call_function_tree F.kind_max F.plain_max F.entry_max (F.args_max1 _) ?_;refine wc (m:=Builtin.Builtins.bindParams "max" ["key","default"] 0 ⟨[],[]⟩) (wpAny_of_eq (a:=[none,none]) rfl (wc (wp ?_)));refine wc (vS h (λit d i =>?_) λ_ _ e=>e);obtain⟨r,fp,wr,G,n,P,St,bt,Ok,rfl,W,q,ok,stay,low,j,f,fin⟩:=i;have g:d.heap.objs.size ∉ fp:=λz=>vZ _ (low _ z);refine wc (uv ?_);rw[l];refine wp ⟨uZ jc _,zdk (Ok:=Ok) W f d.heap.objs.size g (λs s' o mv=>stay s s' o λb u t y e=>mv.heap b u (λz =>?_) e) j (W.frame 0 d _ d.toks q (ww _) λb _ o e=>wg _ e) (stay d _ ok λb o _ _ e=>wg _ e) (wv _ rfl) λv s' p mv=>fin v s' p (Moved.drop_new (tk:=d.toks) mv (ww _))⟩
 simp_all
end
end Rev
namespace Pu
open PySem PySem.Spec PyProof.Rows L2 Tab
def LxG (p q:Int × Int):Prop:=q.1<p.1\/p.1=q.1/\q.2<=p.2
def znX (d:D)(Q:DK):Prop:=∃ps,d = .lst (ps.map vec)/\ps≠[]/\ps.length<=1000/\∀m∈ps,(∀x∈ps,LxG m x)->Q (vec m)
def zl9:Fn:=fn1 znX λd Q i m ⟨ps,e,f,g,h⟩=>⟨ps,e,f,g,λk a b=>m _ (h k a b)⟩
def zaY (d:D)(Q:DK):Prop:=∃ps,d = .lst (ps.map vec)/\ps≠[]/\ps.length<=1000/\∀(i:Nat) m,ps[i]? = some m->(∀x∈ps,LxG m x)->Q (.int i)
def zaF:Fn:=fn1 zaY λd Q j m ⟨ps,e,f,g,h⟩=>⟨ps,e,f,g,λi k a b=>m _ (h i k a b)⟩
def zlX (a b:Int × Int)(h:HT.z0P [a.1,a.2] [b.1,b.2]=false):LxG a b:=by
 rw[HT.z0L] at h;unfold LxG
 by_cases e:a.1=b.1
 .rw[if_pos e,HT.z0L] at h
  grind
 grind
set_option tactic.hygienic true in
theorem ze9 (f:Nat->List Int):∀k j,j<=k->HT.z0P (f (argBest (λi j=>HT.z0P (f j) (f i)) k)) (f j)=false
 | 0,j,h=>by
  obtain rfl:j=0:=by lia
  exact Tim.z6h _
 | k+1,j,h=>by
  have a:=ze9 f k;rw[argBest]
  split
  .rename_i b
   rcases wW j (k+1) with z | z
   .cases q:HT.z0P _ _ with
    | false=>rfl
    | true=>have:=a j (by lia);rw[Tim.zaP b q] at this;cases this
   .obtain rfl:j=k+1:=by lia
    exact Tim.z6h _
  .rcases wW j (k+1) with z | z
   .exact a j (by lia)
   .obtain rfl:j=k+1:=by lia
    simp_all
section
variable {X:Cx}
def ze7 (hc:X.calm=true)(hu:X.A.units+64<cLine):z15 X (.builtin "max") (λvs H Q=>∃G a xs ks,vs=[.ref a]/\Same G H/\SqL X.K G a xs/\Tis X.K G xs ks/\ks≠[]/\∀(i:Nat) b k,xs[i]? = some (.ref b)->ks[i]? = some k->SqT X.K G b (k.map V.int)->(∀x∈ks,HT.z0P k x=false)->Q (.ref b) H):=by
 rintro a7 s σ H xs us Q I rv ⟨G,a,F,ks,e,g,hS,E,Y,q⟩;subst e;obtain⟨u,rfl,rx⟩:=z4p rv
 cases rx
 have hh:X.A.handled=none:=I.ok.hd hc;have Z:X.A.in1.units<cLine:=by
  have:X.A.in1.units<=X.A.units+1:=by simp
  lia
 have W:F.length=ks.length:=zc6 E;have a6:0<ks.length:=w9.mpr Y;obtain⟨l,t,pl,_⟩:=I.list (z1y g hS);obtain⟨o,ho,U,n,hd⟩:=pl.isList;have ha:a<s.heap.objs.size:=wC ho;have a8:l.length=ks.length:=by rw[<- t.length,W]
 have f:∀(i:Nat) b k,F[i]? = some (.ref b)->ks[i]? = some k->SqT X.K G b (k.map V.int):=λi b k m p=>by
  obtain⟨u,e3,ru⟩:=t.get m;obtain⟨b',k',e4,e5,e6,h⟩:=zau E t e3;rw[m] at e4;cases e4;rw[p] at e5;cases e5;exact h
 let Ok:Shared->Prop:=λs'=>∀(i:Nat) b k,F[i]? = some (.ref b)->ks[i]? = some k->Tim.TI s'.heap (.ref b) k
 have low:∀(i:Nat) b k,F[i]? = some (.ref b)->ks[i]? = some k->b<s.heap.objs.size:=λi b k m p=>by
  obtain⟨o,l,n,C,_⟩:=z9H I g (f i b k m p);exact wC C
 have d:∀w s2:Shared,Ok w->(∀b o,b≠s.heap.objs.size->b<s.heap.objs.size->w.heap.get? b=some o->s2.heap.get? b=some o)->Ok s2:=λw s2 h k i b key m p=>by
  obtain⟨b',o,l,n,e,C,M,O,S⟩:=h i b key m p
  cases e
  have r:=low i b key m p;exact⟨b,o,l,n,rfl,k b o (wJ r) r C,M,O,S⟩
 have a0:Ok s:=λi b k m p=>TK.ti (z9H I g (f i b k m p));refine Rev.zfz (wpAny_pyIter_list pl.isList ⟨_,_,_,_,_,_,_,λi j=>HT.z0P ((ks[j]?).getD []) ((ks[i]?).getD []),Ok,rfl,(Walks.list (show X.A.in1.handled=none from by simp[hh]) _ a (wJ ha) l.toArray).toS,⟨⟨_,wv _ rfl,rfl,rfl⟩,⟨o,wg _ ho,U,n,hd⟩⟩,d s _ a0 (λb o _ _ e=>wg _ e),λw s2 o k=>d w s2 o λb u r hl e=>k b u (by simpa using r) (by rw[vX];lia) e,λb r =>?_,by simp;lia,?_,λv s' pv mv =>?_⟩)
 .rw[vX];simp only[wn,wA,vA] at r
  rcases r with e | e
  .rw[e];exact uW _
  .rw[e];exact v7 ha
 .intro i j x y w Q1 E1 ok px py q1;obtain⟨b1,k1,J,z,rfl,a4⟩:=zau E t (by simpa using px);obtain⟨b2,k2,c1,c2,rfl,c4⟩:=zau E t (by simpa using py);obtain⟨_,o,a9,n,e,C,M,O,S⟩:=ok i b1 k1 J z
  cases e
  obtain⟨_,o',b0,n',e',L,N,R,T⟩:=ok j b2 k2 c1 c2
  cases e'
  dsimp only at q1;rw[z,c2] at q1;exact HT.z7a ⟨o,C,M,n,O⟩ ⟨o',L,N,n',R⟩ S T Z q1
 .obtain⟨b,k,J,z,rfl,a4⟩:=zau E t (by simpa using pv);obtain⟨h',g',d',a5,a3⟩:=s';have eg:g'=s.gens:=mv.gens;have ed:d'=s.drawn:=mv.drawn;have eo:a3=s.os:=mv.os;subst eg;subst ed;subst eo;refine⟨.ref b,H,I.kept (t':=a5) λb o e=>mv.heap b o ?_ (wg _ e),rfl,q _ b k J z a4 λx hx =>?_⟩
  .simp only[wj];exact wJ (wC e)
  .obtain⟨j,hj,rfl⟩:=vj.mp hx;have:=ze9 (λi=>(ks[i]?).getD []) (l.length - 1) j (by lia);rw[z,wm hj] at this;exact this
def zkP:∀ps:List (Int × Int),ps.map vec=(ps.map λp=>[p.1,p.2]).map tupD:=λps=>by rw[wN];rfl
def zj3 (n:X.calm=true)(t:X.A.units+64<cLine):z15 X (.builtin "max") (rN X.K X.mg zl9):=(ze7 n t).imp <| by
 rintro vs H Q ⟨G,E,y,C,g,rds,s,o⟩;obtain⟨d,rfl,h⟩:=z1F s;obtain⟨v,rfl,rd⟩:=rds1 rds;obtain⟨ps,rfl,f,I,q⟩:=h;obtain⟨a,w,rfl,l,j⟩:=z2r rd;rw[zkP] at j;refine⟨G,a,w,_,rfl,g,l,z7v j,by simpa using f,λi b k F e m r =>?_⟩;rw[wO] at e
 cases z:ps[i]? with
 | none=>simp_all
 | some p=>
  rw[z] at e
  cases e
  exact o.now g (q p (wz z) λx u=>zlX _ _ (r _ (wf.mpr ⟨x,u,rfl⟩))) (RD.ofT m (z5O [p.1,p.2]))
def zeN (X:Cx):V->List V->Hp->VK->Prop:=λx f H Q=>∃(G:Hp) (a:Addr) (b:List V) (l:List D) (d:D) (v:V),x = .ref a/\f=[v]/\Same G H/\SqL X.K G a b/\RDs X.K X.mg G l b/\RD X.K X.mg G d v/\Da 60 d/\(∀e∈l,Da 60 e)/\(∃e∈l,deq e d=true)/\l.length<=1000000/\
 ∀(i:Nat) e,l[i]? = some e->deq e d=true->Q (.int i) H
def z6N (hu:X.A.units+64<cLine):MtR X "list.index" (zeN X):=by
 rintro N s σ H x xs v us Q I rx rs ⟨G,a,ys,l,d,w,T,U,g,hT,J,hd,W,Y,Z,hz,q⟩;subst T;subst U
 cases rx
 obtain⟨u,rfl,ru⟩:=rs.one;obtain⟨b,O,pl,_⟩:=I.list (z1y g hT);obtain⟨e,q1,_,q2⟩:=z51 I g hu hd ru W Y J O;obtain⟨⟨R,S,t,sl⟩,K,C,n,f⟩:=id pl.isList;simp only at C f;subst C f;obtain⟨i,x,h,L,p⟩:=z6s (λe=>deq e d) l Z;have il:i<l.length:=by
  rcases wW i l.length with z | z
  .exact z
  .rw[uO z] at h;cases h
 have len:b.length=l.length:=by rw[<- O.length,J.len]
 have E:i<b.toArray.size:=by simpa[len] using il
 have val:∀(m:Nat) j y,l[m]? = some y->e b.toArray[m]=deq y d:=λm j y r=>q2 m _ y (by rw[wm (by simpa using j)];simp) r;refine call_meets PySem.F.slot_list_index ⟨_,K,rfl⟩ PySem.F.entry_list_index (PySem.F.args_list_index_2 _ _) (SeqAt.list_indexAt a b.toArray n S sl u e i E (by omega) ((val i E x h).trans L) λm j o =>?_) ⟨K,λy r=>q1 y (by simpa using r),?_⟩
 .have M:m<l.length:=by omega
  rw[val m j _ (wm M)];exact p m _ o (wm M)
 .exact⟨.int i,H,I.tok _,⟨_,rfl⟩,q i x h L⟩
end
section
variable {X:Cx}{E:XK}{o e:Expr}{apos cpos:Pos}{i:Nat}
def zbr (hu:X.A.units+64<cLine)(ho:QE X o (tVar i))(Z:QXA X E [e] [.op zl9 [.v i]])
  (h:autoParam (aB o "index" X) jA1)
  (r:autoParam (aG cpos [e] X) jA1)
  (l:autoParam (aL apos cpos) jA1) (hs:autoParam (sE e [] X) jA1) (b:autoParam (bT cpos [] X) jA1):
  QX X E (.Call (.Attribute o "index" apos) [e] [] cpos) (.op zaF [.v i]):=
 QE.imp (zi3 uY PySem.F.slot_list_index PySem.F.type_list_index (z6N hu) ho Z h r l hs b) <| by
  rintro σ H Q ⟨G,y,U,W,g,M,hr,hk,hx⟩;have f:onV (y.get i) (λd=>zaY d U):=hr
  cases u:y.get i with
  | none=>rw[u] at f;exact f.elim
  | some d=>
   rw[u] at f;obtain⟨ps,rfl,J,hz,q⟩:=f;obtain⟨v,s1,rd⟩:=M i _ u;obtain⟨a,xs,rfl,S,Y⟩:=z2r rd;have N:∀p:Int × Int,Da 60 (vec p):=λp=>Da.vec p;refine⟨.ref a,s1,⟨rfl,_,_,rfl,z1y g S⟩,G,y,λO=>Ee1 λm=>Aa3 (m∈ps) (∀x∈ps,LxG m x) (O=[vec m]),W,g,M,?_,?_,hx⟩
   .show onV (y.get i) _;rw[u];exact⟨ps,rfl,J,hz,λm I j=>⟨m,I,j,rfl⟩⟩
   .rintro O vs L T ⟨m,I,j,rfl⟩ C R g3 rds;obtain⟨w,rfl,K⟩:=rds1 rds;refine⟨L,a,xs,ps.map vec,vec m,w,rfl,rfl,R,z1y C.1 S,Y.same C.1,K,N m,λe t =>?_,⟨_,wf.mpr ⟨m,I,rfl⟩,?_⟩,by rw[we];omega,λn e s t =>?_⟩
    .obtain⟨p,_,rfl⟩:=wf.mp t;exact N p
    .rw[show deq (vec m) (vec m)=decide (m=m) from z3y m m];exact vf rfl
    .rw[wO] at s
     cases z:ps[n]? with
     | none=>rw[z] at s;cases s
     | some p=>
      rw[z] at s
      cases s
      rw[show deq (vec p) (vec m)=decide (p=m) from z3y p m] at t;rw[uw t] at z;exact hk _ _ L T (q n m z j) C R g3 RD.int'
end
end Pu
namespace L2
open PySem PySem.Spec PyProof.Rows
section
variable {κ:Type}[DecidableEq κ]
noncomputable def valV (kvs:List (κ × V))(k:κ):Option V:=(kvs.find? λa=>decide (a.1=k)).map (·.2)
noncomputable def putK (kvs:List (κ × V))(k:κ)(v:V):List (κ × V):=
 if (kvs.any λa=>decide (a.1=k))=true then kvs.map (λa=>if a.1=k then (a.1,v) else a) else kvs++[(k,v)]
def zar {k:κ}(e:p.1=k):valV (p::r) k=some p.2:=by simp[valV,Wd,e]
def zas {k:κ}(e:¬ p.1=k):valV (p::r) k=valV r k:=by simp[valV,Wd,e]
def za9 (kvs:List (κ × V))(k:κ)(v:V):(putK kvs k v).length<=kvs.length+1:=by
 unfold putK
 grind
theorem RelO.getD {o:Option V}{u:Option Value}{d:V}{d':Value}(r:RelO o u)(rd:RelV d d'):RelV (o.getD d) (u.getD d'):=by
 cases o with
 | none=>cases u with
  | none=>exact rd
  | some _=>exact(r).elim
 | some _=>cases u with
  | none=>exact(r).elim
  | some _=>exact r
def KV.val {vs:List (κ × Value)}(r:KV kvs vs)(k:κ):RelO (valV kvs k) (valueAt vs k):=by
 induction r with
 | nil=>exact True.intro
 | @cons p q ps d h t i=>
  obtain⟨f,g⟩:=h
  by_cases e:p.1=k
  .have a  := f.symm.trans e;have b:valueAt (q::d) k=some q.2:=by simp[valueAt,Wd,a]
   rw[zar e,b];exact g
  .have a:¬ q.1=k:=λz=>e (f.trans z);have b:valueAt (q::d) k=valueAt d k:=by simp[valueAt,Wd,a]
   rw[zas e,b];exact i
theorem KV.any {kvs:List (κ × V)}{vs:List (κ × Value)}(r:KV kvs vs)(k:κ):(kvs.any λa=>decide (a.1=k))=vs.any λa=>decide (a.1=k):=by
 induction r with
 | nil=>rfl
 | cons h t b=>simp_all
def KV.repl {vs:List (κ × Value)}(r:KV kvs vs)(k:κ)(f:RelV y u):
  KV (kvs.map λa=>if a.1=k then (a.1,y) else a) (vs.map λa=>if a.1=k then (a.1,u) else a):=by
 induction r with
 | nil=>exact .nil
 | @cons p q ps d h t b=>
  refine .cons ?_ b
  by_cases e:p.1=k
  .simp_all
  simp_all
def KV.put {vs:List (κ × Value)}(r:KV kvs vs)(k:κ)(a:RelV y u):KV (putK kvs k y) (stored vs k u):=by
 unfold putK stored;rw[r.any k]
 by_cases e:(vs.any λb=>decide (b.1=k))=true
 .rw[if_pos e,if_pos e];exact r.repl k a
 .rw[if_neg e,if_neg e];exact Paired.snoc r ⟨rfl,a⟩
theorem KV.length {kvs:List (κ × V)}{vs:List (κ × Value)}(r:KV kvs vs):kvs.length=vs.length:=Paired.length r
end
def zm4 {P:Program}{k:Key}(r:RelV (kV k) u):(z2o P w).is k u=true:=by
 cases k with
 | inl i=>obtain⟨t,e⟩:=(r);subst e;exact za5 P w i t
 | inr x=>obtain⟨t,e⟩:=(r);subst e;exact za4 P w x t
section
variable {P:Program}{w:World}{H:Hp}{h:Heap}{a:Addr}
def zmR (ok:HOk P w H h)(e:Rd H a u):z2m P w H h a u:=e.ok ok
def zdS {kvs:List (Key × V)}(ok:HOk P w H h)(e:Rd H a (.dK kvs)):kvs.length<=sizeLine/\(a == sysModules)=false/\∃vs,KV kvs vs/\h.DictOf (z2o P w) a vs:=
 zmR ok e
def zo5 (ok:HOk P w H h)(e:H a=some (.dK kvs)):kvs.length<=sizeLine/\(a == sysModules)=false/\∃vs,KV kvs vs/\h.DictOf (z2o P w) a vs:=zdS ok (.inl e)
end
def DGet (H:Hp)(a:Addr)(y:V)(r:Option V):Prop:=∃b k,Rd H a (.dK b)/\y=kV k/\r=valV b k
def DPut (H:Hp)(a:Addr)(y v:V)(d:Hp):Prop:=∃b k,H a=some (.dK b)/\y=kV k/\b.length<sizeLine/\d=upd H a (.dK (putK b k v))
theorem DPut.k {H:Hp}{a:Addr}{kvs:List (Key × V)}{k:Key}{v:V}(e:H a=some (.dK kvs))(b:kvs.length<sizeLine):DPut H a (kV k) v (upd H a (.dK (putK kvs k v))):=⟨kvs,k,e,rfl,b,rfl⟩
section
variable {X:Cx}{pins:List (Addr × Obj)}{σ:St}{H:Hp}{s:Shared}{a:Addr}{y v:V}{u r:Value}{o:Option V}{A:Around}{E:WvP}
def Inv.big (I:Inv X pins σ H s):sysModules<s.heap.objs.size:=by
 have h  := (I.mod.glob.keeps I.bk).lt;exact Nat.lt_trans (by decide) h
def ziX (I:Inv X pins σ H s)(g:Mut (H a))(f:Heap.SameBut a s.heap h')(e:∃q,h'.get? a=some q)(new:z2m X.prog X.w (upd H a ob) h' a ob):
  Inv X pins σ (upd H a ob) { s with heap:=h',toks:=t' }:=
 I.write g (λb q d z=>(f.2 b d).trans z) e new
def zme {P:Program}{vs:List (Key × Value)}(z:kvs.length<=sizeLine)(e:(a == sysModules)=false)(b:KV kvs vs)(d:h'.DictOf (z2o P w) a vs):
  z2m P w H' h' a (.dK kvs):=⟨z,e,vs,b,d⟩
def zdW (I:Inv X pins σ H s)(g:DPut H a y v H')(J:RelV y u)(G:RelV v r)(h:∀s',Inv X pins σ H' s'->Q () s'):
  wpAny (model X.prog X.w) A (setItem (.ref a) u r) Q E s:=by
 obtain⟨d,k,e,m,l,j⟩:=g;subst m j;obtain⟨z,o,vs,f,i⟩:=zo5 I.hok e;have F:vs.length<=sizeLine:=by rw[<- f.length];exact z
 have t:(putK d k v).length<=sizeLine:=by have:=za9 d k v;omega
 refine wpAny_setItem_pairs (hsz:=F) (zm4 J) i λn b C=>h _ ?_;have p:∃q,n.get? a=some q:=let ⟨q,_,_,x,_⟩:=b;⟨q,x⟩;exact ziX I (by rw[e];exact True.intro) C p (zme t o (f.put k G) b)
end
def zmQ (h j i:TE):TS:=λD b H=>i b H λv e=>h b e λx f=>j b f λy g=>∃a d,x = .ref a/\DPut g a y v d/\D.nx b d
section
variable {X:Cx}{o i e value:Expr}{pos pos' tpos:Pos}{td ty tv:TE}
def zib (t:PE X o td)(q:PE X i ty)(z:PE X value tv)(w:swapsWith value (some (.Subscript o i pos')) pos.line X.env=pure false):
  PS X (.Assign [.Subscript o i pos'] value pos) (zmQ td ty tv):=by
 intro d s b H D I h;refine wpAny_Assign_Subscript (thn (z _ s b H _ I h) λr K ⟨v,e,l,F,A⟩=>thn (t _ K b e _ l A) λu L ⟨x,f,m,G,C⟩=>thn (q _ L b f _ m C) λO Q M =>?_) w;obtain⟨y,N,n,J,a,j,ex,g,E⟩:=M;subst ex;obtain rfl:u=Value.ref a:=G;exact zdW n g J F λR p=>⟨b,j,p,E⟩
end
def zfV {P:Program}(h:Heap)(a:sysModules<h.objs.size):z2m P w H (h.push { cls :=.type "dict",data :=.dict #[] }) h.objs.size (.dK []):=
 ⟨vP _,beq_eq_false_iff_ne.mpr (vN (wJ a)),[],.nil,Heap.DictOf.new h⟩
def zjv:TE:=λ_ H Q=>∀p,H p=none->Q (.ref p) (upd H p (.dK []))
section
variable {X:Cx}{pos:Pos}
def zfe:PE X (.Dict [] [] pos) zjv:=λa s b H Q I h=>
 wpAny_Dict_empty ⟨.ref _,_,I.laid (λ_ _ q=>wg _ q) (ww _) (zfV _ I.big),rfl,h _ (I.hok.fresh (ww _))⟩
end
structure M2 (X:Cx)(o:Expr)(m:Str)(apos:Pos)(e f:Expr)(cpos:Pos):Prop where
 base:aB o m X
 few:aG cpos [e,f] X
 line:aL apos cpos
 trees:backTo cpos (starEach [e,f] X.env)=[(false,eval e X.env),(false,eval f X.env)]
def IsD (H:Hp)(a:Addr):Prop:=∃b,Rd H a (.dK b)
def zh3 (I:Inv X pins σ H s)(d:IsD H a):
  s.TypeIs (.ref a) "dict"/\(∀b,Value.ref a = .ref b->∃f,s.heap.get? b=some f/\f.dict=none)/\(a == sysModules)=false:=by
 obtain⟨l,e⟩:=d;obtain⟨_,j,vs,_,g⟩:=zdS I.hok e;refine⟨g.typeIs,λb q =>?_,j⟩
 cases q
 obtain⟨f,_,_,h,i,_⟩:=g;exact⟨f,h,i.2.1⟩
section
variable {X:Cx}{pins:List (Addr × Obj)}{σ:St}{H:Hp}{s:Shared}{a:Addr}{y d:V}{u r:Value}{o:Option V}{A:Around}{E:WvP}
def zmi (I:Inv X pins σ H s)(g:DGet H a y o)(p:RelV y u)(rd:RelV d r)(h:∀i s',Inv X pins σ H s'->RelV (o.getD d) i->Q i s'):
  wpAny (model X.prog X.w) A (call (.builtin "dict.get") [.ref a,u,r]) Q E s:=by
 obtain⟨n,k,e,j,l⟩:=g;subst j;obtain⟨z,m,vs,b,f⟩:=zdS I.hok e;refine call_meetsIn PySem.F.slot_dict_get f.typeIs PySem.F.entry_dict_get (PySem.F.args_dict_get_3 _ _ _) (meets_dict_get_default _ a (zm4 p) m r) ⟨_,f.mapOf,h _ _ (I.tok _) ?_⟩;rw[l];exact(b.val k).getD rd
end
def zjw (g h tx:TE):TE:=λb H Q=>g b H λx d=>∃a,x = .ref a/\IsD d a/\h b d λy f=>tx b f λz e=>∃o,DGet e a y o/\Q (o.getD z) e
section
variable {X:Cx}{o e f:Expr}{apos cpos:Pos}{td ty tx:TE}
def zff (E:PE X o td)(A:PE X e ty)(C:PE X f tx)(m:M2 X o "get" apos e f cpos):PE X (.Call (.Attribute o "get" apos) [e,f] [] cpos) (zjw td ty tx):=by
 intro l s i H Q I h;refine wpAny_Call_method m.base m.few m.line PySem.F.plainAttrs_dict PySem.F.slot_dict_get PySem.F.type_dict_get (thn (E _ s i H _ I h) λu O U =>?_);obtain⟨x,n,j,L,a,ex,d,G⟩:=U;subst ex;obtain rfl:u=Value.ref a:=L;obtain⟨S,T,_⟩:=zh3 j d;refine⟨S,T,?_⟩;rw[m.trees];refine u9 rfl (Calls.evalArgs_plain (Calls.spliced_cons (thn (A _ O i n _ j G) λY R ⟨y,p,r,M,J⟩=>
  Calls.spliced_cons (thn (C _ R i p _ r J) λW s3 ⟨z,q,t,N,Z,g,K⟩=>Calls.spliced_nil ?_))))
 exact zmi t g M N λw' s4 w b=>⟨_,q,w,b,K⟩
end
end L2
namespace Pu
open PySem PySem.Spec PyProof.Rows L2
def dk (kvs:List (Key × D)):D :=.dct (kvs.map λp=>kD p.1) (kvs.map (·.2))
noncomputable def valD (kvs:List (Key × D))(k:Key):Option D:=(kvs.find? λp=>decide (p.1=k)).map (·.2)
noncomputable def putD (kvs:List (Key × D))(k:Key)(d:D):List (Key × D):=if (kvs.any λp=>decide (p.1=k))=true then kvs.map (λp=>if p.1=k then (p.1,d) else p) else kvs++[(k,d)]
def PK (K:W.Frag)(mg:WmP)(G:Hp):List (Key × D)->List (Key × V)->Prop
 | [],[]=>True
 | (k,d)::r,(a,v)::b=>k=a/\RD K mg G d v/\PK K mg G r b
 | _,_=>False
def zm5:∀{k a:Key},kD k=kD a->k=a
 | .inl _,.inl _,h=>by injection h with h;rw[h]
 | .inr _,.inr _,h=>by injection h with h;rw[h]
 | .inl _,.inr _,h=>by cases h
 | .inr _,.inl _,h=>by cases h
section
variable {K:W.Frag}{mg:WmP}{G G' H:Hp}
theorem PK.of:∀{kvs:List (Key × D)}{a:List (Key × V)},kvs.map (λp=>kD p.1)=a.map (λp=>kD p.1)->RDs K mg G (kvs.map (·.2)) (a.map (·.2))->PK K mg G kvs a
 | [],[],_,_=>trivial
 | [],_::_,h,_=>by cases h
 | _::_,[],h,_=>by cases h
 | (k,d)::r,(g,v)::i,h,q=>by
  simp[wE,List.cons.injEq] at h q;obtain⟨x,y,e,b,f⟩:=q;simp[List.cons.injEq] at e;obtain⟨rfl,rfl⟩:=e;exact⟨zm5 h.1,b,PK.of h.2 f⟩
theorem PK.keys:∀{kvs:List (Key × D)}{a:List (Key × V)},PK K mg G kvs a->kvs.map (·.1)=a.map (·.1)
 | [],[],_=>rfl
 | [],_::_,h=>h.elim
 | _::_,[],h=>h.elim
 | (k,d)::r,(b,v)::e,h=>by
  obtain⟨rfl,_,h⟩:=h;simp[PK.keys h]
theorem PK.rds:∀{kvs:List (Key × D)}{a:List (Key × V)},PK K mg G kvs a->RDs K mg G (kvs.map (·.2)) (a.map (·.2))
 | [],[],_=>RDs.nil
 | [],_::_,h=>h.elim
 | _::_,[],h=>h.elim
 | (k,d)::r,(b,v)::e,h=>RDs.cons h.2.1 (PK.rds h.2.2)
theorem PK.same (g:Same G G'):∀{kvs:List (Key × D)}{a:List (Key × V)},PK K mg G kvs a->PK K mg G' kvs a
 | [],[],_=>trivial
 | [],_::_,h=>h.elim
 | _::_,[],h=>h.elim
 | (k,d)::r,(b,v)::e,h=>⟨h.1,h.2.1.same g,PK.same g h.2.2⟩
theorem PK.val:∀{kvs:List (Key × D)}{a:List (Key × V)},PK K mg G kvs a->(valD kvs j=none/\valV a j=none)\/∃d v,valD kvs j=some d/\valV a j=some v/\RD K mg G d v
 | [],[],_ =>.inl ⟨rfl,rfl⟩
 | [],_::_,h=>h.elim
 | _::_,[],h=>h.elim
 | (k,d)::r,(i,v)::l,h=>by
  obtain⟨rfl,f,g⟩:=h
  by_cases e:k=j
  .refine .inr ⟨d,v,?_,zar e,f⟩;unfold valD;rw[Wd,vf e]
   rfl
  .have b:valD ((k,d)::r) j=valD r j:=by
    unfold valD
    simp_all
   rw[b,zas e];exact PK.val g
theorem PK.any {j:Key}{kvs:List (Key × D)}{a:List (Key × V)}(h:PK K mg G kvs a):(kvs.any λp=>decide (p.1=j))=(a.any λp=>decide (p.1=j)):=by
 have b:(kvs.any λp=>decide (p.1=j))=((kvs.map (·.1)).any λk=>decide (k=j)):=by rw[List.any_map];rfl
 have d:(a.any λp=>decide (p.1=j))=((a.map (·.1)).any λk=>decide (k=j)):=by rw[List.any_map];rfl
 rw[b,d,h.keys]
theorem PK.repl (a:RD K mg G d0 v0):∀{kvs:List (Key × D)}{f:List (Key × V)},PK K mg G kvs f->PK K mg G (kvs.map λp=>if p.1=j then (p.1,d0) else p) (f.map λp=>if p.1=j then (p.1,v0) else p)
 | [],[],_=>trivial
 | [],_::_,h=>h.elim
 | _::_,[],h=>h.elim
 | (k,d)::r,(i,v)::l,h=>by
  obtain⟨rfl,g,b⟩:=h;simp[wE]
  by_cases e:k=j
  .rw[if_pos e,if_pos e];exact⟨rfl,a,PK.repl a b⟩
  .rw[if_neg e,if_neg e];exact⟨rfl,g,PK.repl a b⟩
theorem PK.snoc (b:RD K mg G d0 v0):∀{kvs:List (Key × D)}{a:List (Key × V)},PK K mg G kvs a->PK K mg G (kvs++[(j,d0)]) (a++[(j,v0)])
 | [],[],_=>⟨rfl,b,trivial⟩
 | [],_::_,h=>h.elim
 | _::_,[],h=>h.elim
 | (k,d)::r,(e,v)::f,h=>⟨h.1,h.2.1,PK.snoc b h.2.2⟩
def PK.put (a:RD K mg G d0 v0)(h:PK K mg G kvs kw):PK K mg G (putD kvs j d0) (putK kw j v0):=by
 unfold putD putK;rw[h.any]
 split
 .exact h.repl a
 .exact h.snoc a
def PK.len {kvs:List (Key × D)}{a:List (Key × V)}(h:PK K mg G kvs a):kvs.length=a.length:=by
 have:=congrArg List.length h.keys;simpa using this
def zlb (h:z5o K mg G H a (dk kvs)):∃kw,H a=some (.dK kw)/\PK K mg G kvs kw:=by
 obtain⟨e,d,kw,q,b,rfl⟩:=h;exact⟨kw,q,PK.of b d⟩
def zh6 (h:H a=some (.dK kw))(p:PK K mg G kvs kw):z5o K mg G H a (dk kvs):=by
 refine⟨_,p.rds,kw,h,?_,rfl⟩;have:kvs.map (λp=>kD p.1)=(kvs.map (·.1)).map kD:=by rw[wN];rfl
 rw[this,p.keys,wN]
 rfl
def zjY {v:V}(h:RD K mg G (dk kvs) v):∃a kw,v = .ref a/\Rd G a (.dK kw)/\PK K mg G kvs kw:=by
 unfold dk at h;obtain⟨a,e,rfl,d,kw,q,b,rfl⟩:=h;exact⟨a,kw,rfl,q,PK.of b d⟩
def zjW {k:Key}{v:V}(h:RD K mg G (kD k) v):v=kV k:=by
 cases k with
 | inl i=>exact(by exact h)
 | inr x=>exact(by exact h)
end
open Tab
def ownD (b:Env)(i:Nat)(P:List (Key × D)->Prop):Prop:=∃a,b[i]? = some (.o (dk a))/\P a
def Sm.dput (i:Nat)(k e:Ex):Sm:=⟨λf N _ X=>ownD f i λa=>e.run f (λd=>Safe d f/\k.run f (λb=>∃j,b=kD j/\a.length<sizeLine/\N (f.set i (.o (dk (putD a j d))))) X) X,λf N s Q t X g r m l ⟨a,h,q⟩=>⟨a,h,e.mono f _ _ X g (λd q=>⟨q.1,k.mono f _ _ X g (λb ⟨j,n,p,q⟩=>⟨j,n,p,r _ q⟩) l q.2⟩) l q⟩⟩
def zla:Fn:=⟨λ_ Q _=>Q (dk []),λ_ Q a X b m _ q=>m _ q⟩
def Ex.dget2 (x k e:Ex):Ex:=⟨λf Q X=>x.run f (λa=>∃d,a=dk d/\k.run f (λb=>∃j,b=kD j/\e.run f (λc=>Q ((valD d j).getD c)) X) X) X,λf Q l X g m i q=>x.mono f _ _ X g (λa ⟨d,h,q⟩=>⟨d,h,k.mono f _ _ X g (λb ⟨j,h,q⟩=>⟨j,h,e.mono f _ _ X g (λc q=>m _ q) i q⟩) i q⟩) i q⟩
abbrev dkI (rs:List (Int × D)):D:=dk (rs.map λr=>(Sum.inl r.1,r.2))
def zdJ (d:D)(Q:DK):Prop:=∃e,d=dkI e/\(e.map (·.1)).Nodup/\e.length<=63/\∀f:List (Int × D),f.Perm e->f.Pairwise (λa b=>a.1<b.1)->Q (.lst (f.map pdD))
def z74:Fn:=fn1 zdJ λd Q j m ⟨i,e,f,g,q⟩=>⟨i,e,f,g,λh a b=>m _ (q h a b)⟩
section
variable {X:Cx}{E:XK}{e f o y:Expr}{x z u:Ex}{pos spos apos cpos p1:Pos}{i:Nat}
def zhL (R:QE X o (tVar i))(W:QX X E y z)(O:QX X E e x)(T:autoParam (swapsWith e (some (.Subscript o y spos)) pos.line X.env=pure false) jA1):QZ X E (.Assign [.Subscript o y spos] e pos) (.dput i z x):=
 QS.imp ⟨zib R.p W.p O.p T⟩ <| by
  rintro De σ H ⟨H0,G0,G,ρ,N0,R0,X0,m,⟨a0,t,S⟩,Q,hR,A⟩;refine zek m S A λd w G1 H1 q M s g3 rd =>?_;obtain⟨h,n⟩:=m.back M s g3;have r:=z41 m s g3 q.1 rd;obtain⟨a,F,ga,h0,U⟩:=h.ow i _ t;refine⟨.ref a,F,?_⟩;refine zek h q.2 A λb u G2 H2 q2 k1 k2 C rb =>?_;obtain⟨f,l⟩:=h.back k1 k2 C;obtain⟨j,rfl,Y,N⟩:=q2;rw[zjW rb];obtain⟨kw,w1,I⟩:=zlb U;refine⟨a,_,rfl,DPut.k (C _ _ w1) (by rw[<- I.len];exact Y),?_⟩;refine Q _ σ _ _ N (f.wr f.nw Same.refl' f.g Same.refl' (λZ K J L s'=>f.free J ⟨Z,K,L,s'⟩) t F (zh6 z0c ((I.same l).put (r.same l)))) (z02 n l)
def zi1:QF X E (.Dict [] [] pos) (.op zla []):=QE.imp ⟨zfe⟩ λl H Q ⟨G,j,f,g,b,h,e,d,i⟩ p a=>
 d _ p G _ e Gr.refl (z02 b (z0n a _)) (z0n a _) a (z13 b a) (zh6 z0c trivial)
def z7w {G H:Hp}{a:Addr}{o:HO}(g:Same G H)(h:Rd G a o):Rd H a o:=h.imp (g _ _) λ⟨u,e⟩=>⟨u,g _ _ e⟩
def zeT (Y:QX X E o x)(S:QX X E e z)(T:QX X E f u)(m:autoParam (aB o "get" X) jA1)
  (hw:autoParam (aG cpos [e,f] X) jA1)
  (W:autoParam (aL apos cpos) jA1) (ht:autoParam (backTo cpos (starEach [e,f] X.env)=[(false,eval e X.env),(false,eval f X.env)]) jA1):QX X E (.Call (.Attribute o "get" apos) [e,f] [] cpos) (.dget2 x z u):=
 QE.imp ⟨zff Y.p S.p T.p ⟨m,hw,W,ht⟩⟩ <| by
 rintro σ H Q ⟨G,t,Q0,h,hs,i,Z,U,n⟩;refine⟨G,t,_,h,hs,i,Z,λd v K H1 ⟨a0,R,q⟩ l C g3 rd =>?_,n⟩;subst R;obtain⟨a,I,rfl,F,O⟩:=zjY rd;refine⟨a,rfl,⟨I,z7w C F⟩,?_⟩;refine⟨K,t,_,h,C,i.same l.1,q,λb w L H2 ⟨j,m,q2⟩ g k2 r rb =>?_,n.same g3⟩;subst m;rw[zjW rb];refine⟨L,t,_,h,k2,i.same (z02 l.1 g.1),q2,λc v M N q3 s J m3 rc =>?_,n.same (z02 g3 r)⟩;refine⟨_,⟨I,j,z7w (z02 g.1 (z02 s.1 J)) F,rfl,rfl⟩,?_⟩;refine U _ _ M N q3 (l.trans g3 (g.trans r s)) J (z02 g3 (z02 r m3)) ?_
 rcases O.val (j:=j) with ⟨y,A⟩ | ⟨d,v,y,A,rv⟩
 .simp_all
 .rw[y,A];exact rv.same (z02 g.1 s.1)
def znQ {H d:Hp}{a:List (Addr × Obj)}{h:L2.St}{s:Shared}{g:Heap}{t':Nat}(I:Inv X a h H s)(k:∀b u,s.heap.get? b=some u->g.get? b=some u)(f:Same H d)(j:∀b o,d b=some o->H b=some o\/(s.heap.get? b=none/\z2m X.prog X.w d g b o)):
  Inv X a h d { s with heap:=g,toks:=t' }:=
 have i  := λb o e q=>by
  cases z:d b with
  | none=>rfl
  | some v=>
   grind
 I.un ⟨λb o e q _ _=>k b o e,λb o e q _ _=>⟨o.slots,k b o e⟩,λb o e q _=>i b o e q,λb o e _=>⟨o,k b o e⟩,λb l e=>f _ _ e,λb o u e=>f _ _ e,λb ps e=>⟨#[],by exact f _ _ e⟩⟩ λb v e=>by
  rcases j b v e with w | w
  .exact(I.hok b v w).stay (k b) λc _ _ q=>f _ _ q
  .exact w.2
noncomputable def layP (H:Hp):List (Addr × Int × V)->Hp
 | []=>H
 | r::l=>upd (layP H l) r.1 (.tup [.int r.2.1,r.2.2])
theorem z3q {H:Hp}{b:Addr}:∀{l:List (Addr × Int × V)},(∀r∈l,r.1≠b)->layP H l b=H b
 | [],_=>rfl
 | r::l,h=>by rw[layP,z0d (vN (h r (by simp)))];exact z3q λx a=>h x (by simp[a])
theorem zaa {H:Hp}:∀{l:List (Addr × Int × V)},(l.map (·.1)).Nodup->∀r∈l,layP H l r.1=some (.tup [.int r.2.1,r.2.2])
 | r::l,b,x,a=>by
  rw[wE,vU] at b
  rcases wn.mp a with rfl | a
  .exact z0c
  .rw[layP,z0d (λz=>b.1 (wf.mpr ⟨x,a,z⟩))];exact zaa b.2 x a
def z96 (h:∀r∈l,H r.1=none):Same H (layP H l):=λb o e=>by
 rw[z3q λr a z=>by rw[<- z,h r a] at e;cases e];exact e
theorem z97 (g:Same G H):∀{l:List (Addr × Int × V)},Same (layP G l) (layP H l)
 | []=>g
 | r::l=>λb o e=>by
  rw[layP] at e ⊢
  by_cases a:b=r.1
  .subst a;rw[z0c] at e ⊢;exact e
  .rw[z0d a] at e ⊢;exact z97 g b o e
theorem zdu {K:W.Frag}{mg:WmP}{G:Hp}:∀{a:List (Addr × Int × V)}{m:List (Int × D)},Two (λr p=>r.2.1=p.1/\RD K mg G p.2 r.2.2) a m->(∀r∈a,G r.1=some (.tup [.int r.2.1,r.2.2]))->RDs K mg G (m.map pdD) (a.map λr =>.ref r.1)
 | _,_,.nil,_=>RDs.nil
 | r::_,p::_,.cons h t,k=>RDs.cons (RD.ofT (SqT.of (k r (by simp))) (RDs.cons (by rw[h.1];rfl) (RDs.cons h.2 RDs.nil))) (zdu t λx b=>k x (by simp[b]))
def znR {P:Program}{k:Int}{v:Value}(h:(z2o P w).is (.inl k) v=true):∃t,v = .int k t:=by
 rw[zbH] at h
 rcases z0S h with ⟨i,t,e,rfl⟩ | ⟨x,t,e,_⟩
 .grind
 .cases e
theorem zh2 {P:Program}{w:World}{h:Heap}:∀{f:List (Int × V)}{vs:List (Key × Value)}{a:List Addr},KV (f.map λp=>(Sum.inl p.1,p.2)) vs->a.length=vs.length->(∀(j:Nat) b,a[j]? = some b->∃key k x,vs[j]? = some (k,x)/\(z2o P w).is k key=true/\h.get? b=some { cls :=.type "tuple",data :=.seq #[key,x] })->
  Two (λv z=>v = .ref z.1/\∃t w,RelV z.2.2 w/\h.get? z.1=some { cls :=.type "tuple",data :=.seq #[.int z.2.1 t,w] }) (a.map Value.ref) (a.zip f)
 | [],_,a,r,d,_=>by
  cases r
  rw[uz.mp d];exact .nil
 | q::f,_,a,r,d,g=>by
  cases r with
  | cons r1 r2=>
   cases a with
   | nil=>simp at d
   | cons b a=>
    refine .cons ?_ (zh2 r2 (by simpa using d) λj b l=>g (j+1) b (by simpa using l));obtain⟨key,k,x,e,n,m⟩:=g 0 b rfl;simp at e;rw[e] at r1;have i  := r1.1;subst i;obtain⟨t,rfl⟩:=znR n;exact⟨rfl,t,x,r1.2,m⟩
theorem vals_refs:∀l:List (Addr × Int × V),Vals (l.map λr =>.ref r.1) (l.map λr =>.ref r.1)
 | [] =>.nil
 | _::l =>.cons rfl (vals_refs l)
def ItV (v a:Addr):HO :=.ext λh=>h.IsItemsView v a
def zal (hc:X.calm=true):z15 X (.builtin "sorted") (λvs H Q=>∃(v a:Addr) (kw:List (Int × V)),vs=[.ref v]/\H v=some (ItV v a)/\Rd H a (.dK (kw.map λp=>(Sum.inl p.1,p.2)))/\(kw.map (·.1)).Nodup/\kw.length<=63/\
  ∀D n,H D=none->(n.map (·.2)).Perm kw->n.Pairwise (λa b=>a.2.1<b.2.1)->(n.map (·.1)).Nodup->(∀r∈n,H r.1=none/\r.1≠D)->Q (.ref D) (upd (layP H n) D (.lst (n.map λr =>.ref r.1)))):=by
 rintro a1 s σ H xs us Q I rv ⟨v,a,kw,e,T,hd,nd,d,q⟩;subst e;obtain⟨u,rfl,rx⟩:=z4p rv
 cases rx
 obtain⟨U,_⟩:=I.hok v _ T;obtain⟨_,_,vs,r,od,es,ep,da⟩:=zdS I.hok hd;have a0:kw.length=vs.length:=by rw[<- KV.length r,we]
 refine Tim.z62 λE' =>?_;refine W.kdx_collect (knd:=z2o X.prog X.w) (kvs:=vs) (ep:=ep) (by simp[I.ok.hd hc]) U ⟨od,es,da⟩ (wV (show vs.length<=64 by omega) (by decide)) λi tk as keep hl K =>?_;have j:=zh2 r hl K.pairs;have tp:∀z∈as.zip kw,Tim.TP i (.ref z.1) z.2.1:=λz d=>by
  obtain⟨v,_,_,t,w,_,g⟩:=j.mem_right d;exact⟨_,_,_,_,t,w,rfl,g,rfl,rfl,rfl⟩
 have zl:(as.zip kw).map (·.1)=as:=List.map_fst_zip (by omega);have zr:(as.zip kw).map (·.2)=kw:=List.map_snd_zip (by omega);have Z:as.Nodup:=K.rise.imp λh=>wJ h;have C:∀v (z:Addr × Int × V),(v = .ref z.1/\∃t w,RelV z.2.2 w/\i.get? z.1=some { cls :=.type "tuple",data :=.seq #[.int z.2.1 t,w] })->Tim.keyP i v=z.2.1:=by
  rintro v z ⟨e,t,w,_,g⟩;rw[e];exact Tim.TP.key ⟨_,_,_,_,t,w,rfl,g,rfl,rfl,rfl⟩
 have x:(as.map Value.ref).map (Tim.keyP i)=kw.map (·.1):=by
  rw[z5W C j, <- zr,wN,zr]
  rfl
 have R:∀v∈as.map Value.ref,Tim.TP i v (Tim.keyP i v):=λv T=>by
  obtain⟨z,d,e,_⟩:=j.mem_left T;rw[e,(tp z d).key];exact tp z d
 have inj:∀u∈as.map Value.ref,∀v∈as.map Value.ref,Tim.keyP i u=Tim.keyP i v->u=v:=zdB (by rw[x];exact nd);refine⟨_,by rw[we];omega,Tim.z5F.prs R inj,λG p1 p2 h' Y z9 =>?_⟩;obtain⟨e,he⟩:=z9;dsimp only at Y he ⊢;obtain⟨m,l,tm⟩:=j.perm p1.symm;have E:G=m.map λz =>.ref z.1:=by
  have:=z5W (f:=λv=>v) (g:=λz:Addr × Int × V=>Value.ref z.1) (λ_ _ h=>h.1) tm;simpa using this
 have perm:(m.map (·.2)).Perm kw:=by rw[<- zr];exact(l.map (·.2)).symm
 have F:(m.map (·.1)).Nodup:=(l.map (·.1)).nodup_iff.mp (by rw[zl];exact Z);have new:∀z∈m,s.heap.get? z.1=none/\z.1≠i.objs.size:=λz d=>by
  have A:z.1∈as:=by rw[<- zl];exact wf.mpr ⟨z,l.mem_iff.mpr d,rfl⟩
  refine⟨?_,wJ (K.there A)⟩
  cases y:s.heap.get? z.1 with
  | none=>rfl
  | some o=>exact absurd (wC y) (Nat.not_lt.mpr (uL (K.above _ A)))
 have O:s.heap.get? i.objs.size=none:=by
  cases y:s.heap.get? i.objs.size with
  | none=>rfl
  | some o=>exact absurd (wC (keep _ _ y)) (vZ _)
 have mk:(as.zip kw).Perm m:=l;have hT:∀z∈m,Ee2 λt w=>RelV z.2.2 w/\h'.get? z.1=some { cls :=.type "tuple",data :=.seq #[.int z.2.1 t,w] }:=λz d=>by
  obtain⟨v,_,_,t,w,N,J⟩:=j.mem_right (l.mem_iff.mpr d);exact⟨t,w,N,Y _ _ J⟩
 have S:∀z∈m,z.1≠i.objs.size:=λz d=>(new z d).2;refine⟨.ref i.objs.size,upd (layP H m) i.objs.size (.lst (m.map λr =>.ref r.1)),znQ (t':=tk) I (λb o y=>Y b o (keep b o y)) (λb o y =>?_) (λb o y =>?_),rfl,q _ m (I.hok.none_of O) perm ?_ F λz d=>⟨I.hok.none_of (new z d).1,S z d⟩⟩
 .have L:∃u,s.heap.get? b=some u:=z2m.there (I.hok b o y);obtain⟨u,M⟩:=L;rw[z0d (λz=>by rw[z,O] at M;cases M),z3q λz d e=>by rw[<- e,(new z d).1] at M;cases M];exact y
 .by_cases L:b=i.objs.size
  .subst L;rw[z0c] at y
   cases y
   refine .inr ⟨O,by rw[we, <- l.length_eq,uk];exact wV (show _<=64 by omega) (by decide),G,e,?_,he⟩;rw[E];exact vals_refs m
  .rw[z0d L] at y
   by_cases hm:∃z∈m,z.1=b
   .obtain⟨z,d,rfl⟩:=hm;rw[zaa F z d] at y
    cases y
    obtain⟨t,w,N,J⟩:=hT z d;exact .inr ⟨(new z d).1,by show 2<=sizeLine;decide,[.int z.2.1 t,w],.cons ⟨t,rfl⟩ (.cons N .nil),⟨_,J,rfl,_,rfl⟩,⟨_,J,rfl⟩⟩
   .rw[z3q λz d e=>hm ⟨z,d,e⟩] at y;exact .inl y
 .refine zgh (h:=i) p1 p2 (g:=λz:Addr × Int × V=>z.2.1) (z5W C tm) ?_;have:=perm.map (·.1);rw[wN] at this;exact this.nodup_iff.mpr nd
theorem zcW {K:W.Frag}{mg:WmP}{G:Hp}:∀{b:List (Int × D)}{d:List (Key × V)},PK K mg G (b.map λr=>(Sum.inl r.1,r.2)) d->∃a:List (Int × V),d=a.map (λp=>(Sum.inl p.1,p.2))/\a.map (·.1)=b.map (·.1)/\Two (λp r=>p.1=r.1/\RD K mg G r.2 p.2) a b
 | [],[],_=>⟨[],rfl,rfl,.nil⟩
 | r::b,(k,v)::d,⟨f,g,h⟩=>by
  obtain⟨a,rfl,e,t⟩:=zcW h;subst f;exact⟨(r.1,v)::a,rfl,by simp[e],.cons ⟨rfl,g⟩ t⟩
def zfd (y:PE X o td)(q:aB o "items" X)(A:aG cpos [] X)(t:aL apos cpos)(z:backTo cpos (starEach [] X.env)=[]):
  PE X (.Call (.Attribute o "items" apos) [] [] cpos) (λm H Q=>td m H λx i=>∃a l,x = .ref a/\Rd i a (.dK l)/\∀v,i v=none->Q (.ref v) (upd i v (ItV v a))):=by
 intro f s m H Q I h;refine wpAny_Call_method q A t PySem.F.plainAttrs_dict PySem.F.slot_dict_items PySem.F.type_dict_items (thn (y f s m H _ I h) λu g M =>?_);obtain⟨x,i,j,E,a,l,ex,d,C⟩:=M;subst ex;obtain rfl:u=Value.ref a:=E;obtain⟨J,K,L⟩:=zh3 j ⟨l,d⟩;refine⟨J,K,?_⟩;rw[z];refine u9 rfl (PySem.evalArgs_none ?_);obtain⟨_,_,vs,_,n⟩:=zdS j.hok d;refine call_meetsIn PySem.F.slot_dict_items n.typeIs PySem.F.entry_dict_items (PySem.F.args_dict_items_1 _) (meets_dict_items (z2o X.prog X.w) a L) ⟨⟨vs,n⟩,?_⟩;have p:(g.heap.push { cls :=.type "dict_items",data :=.fields #[.ref a] }).get? g.heap.objs.size=some { cls :=.type "dict_items",data :=.fields #[.ref a] }:=wv _ rfl;exact⟨.ref g.heap.objs.size,_,j.laid (o:=ItV g.heap.objs.size a) (t':=g.toks) (λb o e=>wg _ e) (ww _) ⟨⟨_,p,rfl,rfl⟩,⟨_,p⟩,λN O ⟨o,e,r⟩ G=>⟨o,G _ e,r⟩⟩,rfl,C _ (j.hok.fresh (ww _))⟩
def z8E {p4:Pos}(hc:X.calm=true)(hg:Gl X "sorted")(hm:X.mg "sorted"=none)(ho:QX X E o x)(F:autoParam (aB o "items" X) jA1)
  (hw:autoParam (aG cpos [] X) jA1) (hl:autoParam (aL apos cpos) jA1) (ht:autoParam (backTo cpos (starEach [] X.env)=[]) jA1)
  (I:autoParam (starEach [.Call (.Attribute o "items" apos) [] [] cpos] X.env=(false,eval (.Call (.Attribute o "items" apos) [] [] cpos) X.env)::starEach [] X.env) jA1):QF X E (.Call (.Name "sorted" p1) [.Call (.Attribute o "items" apos) [] [] cpos] [] p4) (.op z74 [x]):=
 QE.imp (z5K (zal hc) hg hm (by rfl) (z67 ⟨zfd ho.p F hw hl ht⟩ z8F I) (by decide) (by decide) I (by rfl)) <| by
  rintro σ H Q ⟨G,W,Y,X0,I,Z,i,hk,hx⟩;have L:x.run W (λd=>zdJ d Y) X0:=i;refine⟨G,W,_,X0,I,Z,L,λd v A s q g1 t g3 rd =>?_,hx⟩;obtain⟨rs,rfl,nd,hz,q⟩:=q;obtain⟨a,kw,rfl,R,h2⟩:=zjY rd;obtain⟨kv,rfl,S,h4⟩:=zcW h2;refine⟨a,_,rfl,z7w t R,λv hv =>?_⟩;have O:Same s (upd s v (ItV v a)):=z0n hv _;refine⟨v,a,kv,rfl,z0c,z7w (z02 t O) R,by rw[S];exact nd,by rw[<- we (f:=(·.1)),S,we];exact hz,λw j C pm J M new =>?_⟩;have dn:w≠v:=λz=>by rw[z,z0c] at C;cases C
  have n:∀r∈j,s r.1=none:=λr i=>by
   have:=(new r i).1
   rwa [z0d (λz=>by rw[z,z0c] at this;cases this)] at this
  have u:s w=none:=by rwa [z0d dn] at C
  have nG:∀r∈j,A r.1=none:=λr i=>z13 t (n r i);obtain⟨m,N,K⟩:=Two.perm pm.symm h4;have K:=z9F K;have s2:=z97 (l:=j) (z02 t O);have T:Gr A s (layP A j):=⟨z96 nG,λb o y=>by
   by_cases F:∃r∈j,r.1=b
   .obtain⟨r,i,rfl⟩:=F;exact .inr (n r i)
   .rw[z3q λr i z=>F ⟨r,i,z⟩] at y;exact .inl ⟨o,y⟩⟩
  have lD:layP (upd s v (ItV v a)) j w=none:=by rw[z3q λr i=>(new r i).2];exact C
  have U:=z0n lD (.lst (j.map λr=>V.ref r.1));refine hk (.lst (m.map pdD)) w (layP A j) _ (q m N.symm ?_) (g1.trans g3 T) (z02 s2 U) (z02 g3 (z02 O (z02 (z96 λr i=>(new r i).1) U))) (z13 g3 u) (by rw[z3q λr i=>(new r i).2];exact z13 t u) ⟨_,z0c,zdu (K.imp λr p h=>⟨h.1,h.2.same T.1⟩) (zaa M)⟩;have e:=z5W (f:=λr:Addr × Int × V=>r.2.1) (g:=λp:Int × D=>p.1) (λr p h=>h.1) K;have J:(j.map λr=>r.2.1).Pairwise (· < ·):=w5.mpr J;rw[e] at J;exact w5.mp J
end
end Pu
namespace Pu
open PySem L2
def z2Z:Fn:=Fn.mkN 2 4 (.seq (.set 2 (.op z2C [.v 1]))
 (.seq (.set 3 (.comp 1 [2,1] (.nm 0) (.v 0) none (.op pTup [.op z0R [.v 0,.v 1],.op z0R [.v 0,.v 2]])))
 (.ret (.op zaF [.v 3]))))
def z1q:Fn:=Fn.mkN 3 7 (.seq (.own 3 (.op zla []))
 (.seq (.for_ [] (.tp [4,5]) (.v 2) (.seq (.set 6 (.op z2Z [.v 0,.op z0A [.op pIx [.v 1,.op pSub [.v 4,.c (.int 1)]],.op pIx [.v 1,.v 4]]]))
 (.dput 3 (.v 6) (.op z2p [.dget2 (.v 3) (.v 6) (.op pTup [.c (.int 0),.c (.int 1)]),.v 5]))))
 (.ret (.op z1u [.op z74 [.v 3]]))))
def z01:Fn:=Fn.mkN 1 5 (.seq (.set 1 (.c (.int 0)))
 (.seq (.for_ [] (.nm 2) (.v 0) (.seq (.set 3 (.op pAbs [.v 2]))
 (.wh (.op pGt [.v 3,.c (.int 0)]) (.seq (.set 4 (.op pMod [.v 1,.v 3]))
 (.seq (.set 1 (.v 3))
 (.set 3 (.v 4)))))))
 (.ret (.op z1u [.comp 1 [1] (.nm 0) (.v 0) none (.op z1w [.v 0,.v 1])]))))
def z0F:Fn:=Fn.mkN 3 6 (.seq (.set 3 (.op pIx [.v 2,.c (.int 0)]))
 (.seq (.set 4 (.op pAdd [.op z0b [.op pIx [.v 0,.c (.int 0)],.op pIx [.v 2,.c (.int 1)]],.op z0b [.op z0b [.op pIx [.v 1,.c (.int 0)],.v 3],.op pIx [.v 0,.c (.int 2)]]]))
 (.seq (.set 5 (.op pAdd [.op z0b [.op pIx [.v 0,.c (.int 1)],.op pIx [.v 2,.c (.int 1)]],.op z0b [.op z0b [.op pIx [.v 1,.c (.int 1)],.v 3],.op pIx [.v 0,.c (.int 2)]]]))
 (.ret (.op z01 [.op pLst [.v 4,.v 5,.op z0b [.op pIx [.v 0,.c (.int 2)],.op pIx [.v 2,.c (.int 1)]]]])))))
def z0Y:Fn:=Fn.mkN 2 2 (.ret (.op z01 [.op pLst [.op pAdd [.op z0b [.op pIx [.v 0,.c (.int 0)],.op pIx [.v 1,.c (.int 1)]],.op z0b [.op pIx [.v 1,.c (.int 0)],.op pIx [.v 0,.c (.int 1)]]],.op z0b [.op pIx [.v 0,.c (.int 1)],.op pIx [.v 1,.c (.int 1)]]]]))
def z10:Fn:=Fn.mkN 2 7 (.seq (.set 2 (.op pTup [.c (.int 0),.c (.int 0),.c (.int 1)]))
 (.seq (.forr [.op pLen [.v 1]] (.nm 3) (.seq (.set 4 (.op pTup [.c (.int 0),.c (.int 1)]))
 (.seq (.for_ [] (.tp [5,6]) (.op pIx [.v 1,.v 3]) (.seq (.set 2 (.op z0F [.v 2,.op pIx [.op pIx [.op pIx [.v 0,.v 3],.c (.int 0)],.v 5],.v 6]))
 (.set 4 (.op z0Y [.v 4,.v 6]))))
 (.set 2 (.op z0F [.v 2,.op pIx [.op pIx [.v 0,.v 3],.c (.int 1)],.v 4])))))
 (.ret (.v 2))))
def z0j:Fn:=Fn.mkN 2 5 (.seq (.set 2 (.op pAdd [.op z0b [.c (.int 80),.op pAdd [.v 1,.c (.int 1)]],.c (.int 1)]))
 (.seq (.set 3 (.op pSub [.op pMod [.v 0,.v 2],.op z1w [.v 2,.c (.int 2)]]))
 (.seq (.set 4 (.op pSub [.op pMod [.op z1w [.v 0,.v 2],.v 2],.op z1w [.v 2,.c (.int 2)]]))
 (.ret (.op z01 [.op pLst [.v 3,.v 4,.op pAdd [.c (.int 1),.op pMod [.op z1w [.op z1w [.v 0,.v 2],.v 2],.c (.int 60)]]]])))))
def z1r:Fn:=Fn.mkN 3 9 (.seq (.set 3 (.op z00 [.v 0,.c (.int 31),.op pAdd [.v 2,.c (.int 1)]]))
 (.seq (.set 4 (.op z00 [.v 0,.c (.int 32),.v 1]))
 (.seq (.set 5 (.op z00 [.v 0,.c (.int 33),.v 1]))
 (.seq (.set 6 (.op z00 [.v 0,.c (.int 34),.v 1]))
 (.seq (.set 7 (.op z00 [.v 0,.c (.int 35),.op pAdd [.op pSub [.v 2,.v 3],.c (.int 1)]]))
 (.seq (.own 8 (.comp 1 [] (.nm 0) (.op z5v [.v 1]) none (.c (.int 0))))
 (.seq (.put 8 (.v 4) (.op pAdd [.op pIx [.v 8,.v 4],.v 3]))
 (.seq (.put 8 (.v 5) (.op pAdd [.op pIx [.v 8,.v 5],.v 7]))
 (.seq (.put 8 (.v 6) (.op pSub [.op pSub [.op pAdd [.op pIx [.v 8,.v 6],.v 2],.v 3],.v 7]))
 (.ret (.v 8)))))))))))
def z0w:Fn:=Fn.mkN 2 6 (.seq (.own 2 (.op pLst []))
 (.seq (.forr [.op pLen [.v 0]] (.nm 3) (.seq (.set 4 (.op pAdd [.c (.int 1),.op z00 [.v 1,.op pAdd [.c (.int 40),.v 3],.op pIx [.op pLst [.c (.int 1),.c (.int 6),.c (.int 60)],.op z00 [.v 1,.c (.int 39),.c (.int 3)]]]]))
 (.seq (.setx [] 5 (.op z1r [.op pAdd [.v 1,.op z0b [.c (.int 7),.v 3]],.op pLen [.op pIx [.op pIx [.v 0,.v 3],.c (.int 0)]],.v 4]))
 (.seq (.ifs (.op pEq [.op z00 [.op pAdd [.v 1,.v 3],.c (.int 38),.c (.int 4)],.c (.int 0)]) (.seq (.setx [] 5 (.comp 1 [1,3] (.nm 0) (.op z5v [.op pLen [.op pIx [.op pIx [.v 0,.v 3],.c (.int 0)]]]) none (.op pAdd [.c (.int 1),.op z00 [.op pAdd [.v 1,.v 2],.op pAdd [.c (.int 120),.v 0],.c (.int 5)]])))
 (.set 4 (.op pSum [.v 5]))) .skip)
 (.app 2 (.op z1u [.comp 1 [4,5] (.nm 0) (.op z5v [.op pLen [.v 5]]) (some (.op pGt [.op pIx [.v 2,.v 0],.c (.int 0)])) (.op pTup [.v 0,.op z01 [.op pLst [.op pIx [.v 2,.v 0],.v 1]]])]))))))
 (.ret (.op z1u [.v 2]))))
def z1J:Fn:=Fn.mkN 3 7 (.seq (.ifs (.op pEq [.op pMod [.v 1,.c (.int 2)],.c (.int 1)]) (.ret (.op z0j [.op z1w [.v 1,.c (.int 2)],.v 2])) .skip)
 (.seq (.set 3 (.op z10 [.v 0,.op z0w [.v 0,.v 1]]))
 (.seq (.set 4 (.op z00 [.v 1,.c (.int 61),.c (.int 6)]))
 (.seq (.ifs (.op pLt [.v 4,.c (.int 3)]) (.ret (.v 3)) .skip)
 (.seq (.set 5 (.op pIx [.op pLst [.c (.int 1),.op pAdd [.c (.int 1),.v 2],.op z0b [.c (.int 40),.op pAdd [.c (.int 1),.v 2]]],.op pSub [.v 4,.c (.int 3)]]))
 (.seq (.set 6 (.op pTup [.op pSub [.op z00 [.v 1,.c (.int 62),.op pAdd [.op z0b [.c (.int 2),.v 5],.c (.int 1)]],.v 5],.op pSub [.op z00 [.v 1,.c (.int 63),.op pAdd [.op z0b [.c (.int 2),.v 5],.c (.int 1)]],.v 5]]))
 (.ret (.op z0F [.v 3,.v 6,.op z01 [.op pLst [.c (.int 1),.op pAdd [.c (.int 1),.op z00 [.v 1,.c (.int 64),.c (.int 3)]]]]]))))))))
open Mth
def gl:Nat->List Int->Nat
 | g,[]=>g
 | g,x::l=>gl (Nat.gcd g x.natAbs) l
def zgk (M:row.length<=1000)(J:gl 0 row≠0)(L:Bt 9000 (gl 0 row))(q:Q (.tup (row.map λx =>.int (x / (gl 0 row))))):z01.run [.lst (row.map .int)] Q X:=by
 walk_at "fn";ac_nf;refine z0i (f :=.int) (λu i=>Ee4 λg (m o p)=>(∀b,row=u++b->gl 0 row=gl g b)/\i=[.s (.lst (row.map .int)),.s (.int g),m,o,p]) ⟨0,_,_,_,λb e=>by rw[e];rfl,rfl⟩ ?_ ?_
 .rintro u x r i e ⟨g,m,o,p,hg,rfl⟩;show Sm.run _ _ _ _ _;ac_rfl;ac_nf;rw[zec];refine z5U (λi=>Ee3 λ(a s:Nat) y=>Aa2 (Nat.gcd a s=Nat.gcd g x.natAbs) (i=[.s (.lst (row.map .int)),.s (.int a),.s (.int x),.s (.int s),y])) (λi=>(nI i 3).toNat) ⟨g,x.natAbs,_,rfl,rfl⟩ ?_;rintro i ⟨a,s,y,j,rfl⟩;ac_nf;refine z0r (λz =>?_) (λz =>?_)
  .ac_nf;have C:a % s=((a % s:Nat):Int):=by simp
   refine⟨⟨s,a % s,_,by rw[<- j,j0 a s,Nat.gcd_rec s a,j0],by rw[C]⟩,?_⟩;show (a % (s:Int)).toNat<(s:Int).toNat
   rw[C];have:=jp a (show 0<s by lia);lia
  .have:s=0:=by lia
   subst this;rw[Nat.gcd_zero_right] at j;refine⟨a,_,_,_,λrest' w =>?_,rfl⟩;have:r=rest':=by
    rw[e,vH] at w;have:=List.append_cancel_left w;simpa using this
   rw[hg _ e, <- this,j]
   rfl
 rintro i ⟨g,m,o,p,hg,rfl⟩;have I:gl 0 row=g:=hg [] (by simp);rw[I] at J L q;ac_nf;refine⟨by rw[we];exact szl (by lia),?_⟩;refine z1e (g:=λx =>.int (x / g)) (λx _ K k =>?_) ?_
 .have:(0:Int)<g:=by lia
  ac_nf;exact k
 ac_nf;exact q
def gl2 (t b:Int):gl 0 [t,b]=Int.gcd t b:=by
 show Nat.gcd _ _=_;rw[Nat.gcd_zero_left]
 rfl
def zcw {t b:Int}(d:0<b)(a:Bt 8000 b)(q:Q (.tup [.int (t / (Int.gcd t b)),.int (b / (Int.gcd t b))])):z01.run [.lst [.int t,.int b]] Q X:=by
 obtain⟨e,_,_,_,_⟩:=z3x (t:=t) d;refine zgk (row:=[t,b]) (by show 2<=1000;decide) (by rw[gl2];lia) (by
  rw[gl2];exact Bt.le (a.of_abs (by
   have:=j7 (by lia) (Int.gcd_dvd_natAbs_right t b);lia))) ?_
 rw[gl2];exact q
def zcx {t b:Int}(a:0<b)(d:Bt 8000 b)(q:∀u w,Pl t 0 b u 0 w->Q (.tup [.int u,.int w])):z01.run [.lst [.int t,.int b]] Q X:=zcw a d (q _ _ (Pl.low a))
def zgl (a:0<b)(e:Bt 8000 b)(q:∀u v t,Pl x y b u v t->Q (.tup [.int u,.int v,.int t])):z01.run [.lst [.int x,.int y,.int b]] Q X:=by
 have d:((gl 0 [x,y,b]))=g3 x y b:=by
  show ((Nat.gcd _ _):Int)=_;unfold g3;rw[z3s,Nat.gcd_zero_left];rw[j0, <- Nat.gcd_assoc]
 have g:=zgD (x:=x) (y:=y) a;have h:=zaZ (x:=x) (y:=y) a;have f:Bt 9000 _:=Bt.le (e.of_abs (by
  have:=uN.mpr (z5P x y b);exact j7 (by lia) this))
 refine zgk (row:=[x,y,b]) (by show 3<=1000;decide) (by lia) (by rw[d];exact f) ?_;rw[d];exact q _ _ _ (Pl.of g)
def zcy {u v t a c:Int}{p:P}{Q:DK}{X:XP}(w:0<t)(r:0<c)(x:Bt 3000 u)(y:Bt 3000 v)(f:Bt 3000 t)(g:Bt 3000 a)(m:Bt 3000 c)(o:Vb 150 p)(q:∀i j t',Pl (u*c+p.1*a*t) (v*c+p.2*a*t) (t*c) i j t'->Q (.tup [.int i,.int j,.int t'])):z0F.run [.tup [.int u,.int v,.int t],vec p,.tup [.int a,.int c]] Q X:=by
 obtain⟨I,py⟩:=p;obtain⟨b,e⟩:=o;have z  := Bt.mul b g;have C  := Bt.mul e g;walk_at "fn";ac_nf;refine zgl (wS w r) (Bt.le (Bt.mul f m)) q
def zcu {a b c d:Int}{Q:DK}{X:XP}(g:0<b)(i:0<d)(j:Bt 3000 a)(e:Bt 3000 b)(m:Bt 3000 c)(f:Bt 3000 d)(q:∀u t,Pl (a*d+c*b) 0 (b*d) u 0 t->Q (.tup [.int u,.int t])):z0Y.run [.tup [.int a,.int b],.tup [.int c,.int d]] Q X:=by
 walk_at "fn";ac_nf;refine zcx (wS g i) (Bt.le (Bt.mul e f)) q
noncomputable def wsh (ws:List Int):List Sh:=((List.range ws.length).filter λk=>decide (0<ws.getD k 0)).map λk=>(k,ws.getD k 0 / (Int.gcd (ws.getD k 0) ws.sum),ws.sum / (Int.gcd (ws.getD k 0) ws.sum))
theorem z60:∀{l:List Int}{i:Nat}{d:Int},i<l.length->(l.set i (l.getD i 0+d)).sum=l.sum+d
 | [],i,d,h=>by simp at h
 | x::l,0,d,_=>by simp;lia
 | x::l,i+1,d,h=>by
  have:=z60 (d:=d) (by simpa using h);simp only[List.getD_cons_succ,List.set_cons_succ,wP];lia
def zfy {b:Type}{l:List b}{i:Nat}{a x:b}(h:x∈l.set i a):x∈l\/x=a:=by
 rcases List.mem_or_eq_of_mem_set h with z | z
 .exact .inl z
 .exact .inr z
def z7Y {l:List Int}{i:Nat}(h:i<l.length):l.getD i 0∈l:=by
 simp_all
def z6l {n:Nat}{k:Int}(a:0<=k)(b:k<n):ixN n k=some k.toNat:=by
 unfold ixN
 simp_all
def z9y {ws:List Int}{k:Int}(a:0<=k)(b:k<ws.length):atI (ws.map D.int) k=some (.int (ws.getD k.toNat 0)):=by
 unfold atI;rw[we,z6l a b]
 simp_all
def z7Q {k:Int}(h : -(2 ^ 62)<=k)(a:k<2 ^ 62)(q:Q (.lst ((List.range k.toNat).map λ(j:Nat)=>D.int j))):z5v.run [.int k] Q X:=⟨⟨h,a⟩,q⟩
def zhz {c:Int}{n:Nat}{m:Int}{Q:DK}{X:XP}(hn:0<n)(Y:n<=100)(hm:0<m)(W:m<=100)(q:∀ts:List Int,ts.length=n->(∀t∈ts,0<=t)->ts.sum=m->Q (.lst (ts.map .int))):z1r.run [.int c,.int n,.int m] Q X:=by
 walk_at "fn";ac_nf;refine z0H (by decide) (by decide) (by lia) λcut O c1 =>?_;ac_nf;refine z0H (by decide) (by decide) (by lia) λa J L =>?_;ac_nf;refine z0H (by decide) (by decide) (by lia) λb M N =>?_;ac_nf;refine z0H (by decide) (by decide) (by lia) λe R U =>?_;ac_nf;refine z0H (by decide) (by decide) (by lia) λr r0 r1 =>?_;ac_nf;refine z7Q (by lia) (by lia) ?_;ac_nf;rw[show (n:Int).toNat=n by simp];refine⟨by rw[we,ux];exact szl (by lia),?_⟩;refine z1e (g:=λ_ =>.int 0) (λx _ K k =>?_) ?_
 .ac_nf;exact k
 rw[show (List.range n).map (λ_=>D.int 0)=((List.range n).map λ_=>(0)).map .int by rw[wN];rfl];obtain⟨ts,f,p,j,h3⟩:Ee1 λts=>Aa4 (ts=(List.range n).map (λ_=>(0:Int))) (ts.length=n) (∀t∈ts,0<=t) (ts.sum=0):=⟨_,rfl,by simp,λt u=>by(obtain⟨_,_,rfl⟩:=wf.mp u;decide),by
  have:∀l:List Nat,(l.map λ_=>(0:Int)).sum=0:=λl=>by
   induction l with
   | nil=>rfl
   | cons a l ih=>simp[ih]
  exact this _⟩
 rw[<- f];clear f;refine z1v (λx Z =>?_) ?_
 .obtain⟨w,_,rfl⟩:=wf.mp Z;exact Safe.of_noL rfl rfl _
 ac_rfl;have one:∀{ts:List Int}{k:Int}{d:Int},ts.length=n->(∀t∈ts,0<=t)->0<=k->k<n->0<=d->Aa3 ((ts.set k.toNat (ts.getD k.toNat 0+d)).length=n) (∀t∈ts.set k.toNat (ts.getD k.toNat 0+d),0<=t) ((ts.set k.toNat (ts.getD k.toNat 0+d)).sum=ts.sum+d):=λ{ts k d} p j k0 k1 hd=>by
  refine⟨by rw[List.length_set];exact p,λt u =>?_,z60 (by lia)⟩
  rcases zfy u with z | z
  .exact j t z
  .have:=j _ (z7Y (l:=ts) (i:=k.toNat) (by lia));lia
 have s1:=one p j J L O;refine z4c (zhx (z0k rfl ?_));ac_nf;refine z0V (z9y (by lia) (by lia)) ?_;ac_nf;rw[we,z6l (by lia) (by lia)];show Sm.run _ _ _ _ _;ac_rfl;rw[<- List.map_set];generalize ts.set a.toNat (ts.getD a.toNat 0+cut)=I at*;obtain⟨p1,p2,p3⟩:=s1;have s2:=one p1 p2 M N r0;refine z4c (zhx (z0k rfl ?_));ac_nf;refine z0V (z9y (by lia) (by lia)) ?_;ac_nf;rw[we,z6l (by lia) (by lia)];show Sm.run _ _ _ _ _;ac_rfl;rw[<- List.map_set];generalize I.set b.toNat (I.getD b.toNat 0+r)=o at*;obtain⟨q1,q2,q3⟩:=s2;have s3:=one q1 q2 R U (show 0<=m - cut - r by lia);refine z4c (zhx (z0k rfl ?_));ac_nf;refine z0V (z9y (by lia) (by lia)) ?_;ac_nf;rw[we,z6l (by lia) (by lia)];show Sm.run _ _ _ _ _;ac_rfl;rw[<- List.map_set,show o.getD e.toNat 0+m - cut - r=o.getD e.toNat 0+(m - cut - r) by lia];generalize o.set e.toNat (o.getD e.toNat 0+(m - cut - r))=t3 at*;obtain⟨y,C,a2⟩:=s3;ac_nf;exact q t3 y C (by lia)
abbrev shsD (sh:List Sh):D :=.tup (sh.map shD)
theorem zh1:∀{ws:List Int},(∀w∈ws,0<=w)->∀w∈ws,w<=ws.sum
 | [],_,w,h=>by cases h
 | x::ws,h,w,g=>by
  have e:=zh1 (ws:=ws) λy b=>h y (by simp[b]);have d:=h x (by simp);have f  := by
   have:∀(l:List Int),(∀w∈l,0<=w)->0<=l.sum:=λl=>by
    induction l with
    | nil=>intro _;simp
    | cons a l e=>
     intro k;have:=e λx d=>k x (by simp[d]);have:=k a (by simp);rw[wP];lia
   exact this ws λy b=>h y (by simp[b])
  rw[wP]
  grind
def z76 (l:List Sh):noL (shsD l)=true:=z4Q λd a=>by(obtain⟨x,_,rfl⟩:=wf.mp a;rfl)
def z77 (l:List Sh):noD (shsD l)=true:=z4R λd a=>by(obtain⟨x,_,rfl⟩:=wf.mp a;rfl)
def zg0 {ts:List Int}{a:Pu.Env}{m:Int}(y:a.get 4=some (.int m))(o:a.get 5=some (.lst (ts.map .int)))(i:a[4]? = some (.s (.int m)))(l:a[5]? = some (.s (.lst (ts.map .int))))(z:ts.length<=100)(u:ts.sum=m)(r:0<m)(t:m<1000)(q:Q (shsD (wsh ts))):
  Ex.run (.op z1u [(.comp 1 [4,5] (.nm 0) (.op z5v [(.op pLen [(.v 5)])]) (some (.op pGt [(.op pIx [(.v 2),(.v 0)]),(.c (.int 0))])) (.op pTup [(.v 0),(.op z01 [(.op pLst [(.op pIx [(.v 2),(.v 0)]),(.v 1)])])]))]) a Q X:=by
 refine zfT (zh5 (zfT (zfT (e_v ?_))));rw[o];refine zaM ?_;ac_nf;rw[we];refine z7Q (by lia) (by lia) ?_;rw[show (ts.length:Int).toNat=ts.length by simp];ac_nf;refine⟨by rw[we,ux];exact szl (by lia),?_⟩;rw[show z1f 1 [4,5] a=[.n,.s (.int m),.s (.lst (ts.map .int))] by unfold z1f;simp[i,l]];refine z31 (f:=λ(j:Nat)=>D.int j) (p:=λk=>decide (0<ts.getD k 0)) (g:=λk=>shD (k,ts.getD k 0 / (Int.gcd (ts.getD k 0) ts.sum),ts.sum / (Int.gcd (ts.getD k 0) ts.sum))) (λk d K w x =>?_) ?_
 .have h:k<ts.length:=ub.mp d;ac_nf;refine z0V (z9y (by lia) (by lia)) ?_;rw[show (k:Int).toNat=k by simp];ac_nf;refine z0r (λb =>?_) (λb =>?_)
  .ac_nf;refine z0V (z9y (by lia) (by lia)) ?_;rw[show (k:Int).toNat=k by simp];ac_nf;refine zcw r (Bt.le (m:=10) (z04 (by lia))) ?_;ac_nf;rw[<- u];exact w (vf b)
  .exact x (vR b)
 ac_nf;rw[show ∀e:List Nat,e.map (λk=>shD (k,ts.getD k 0 / (Int.gcd (ts.getD k 0) ts.sum),ts.sum / (Int.gcd (ts.getD k 0) ts.sum)))=(e.map λk=>((k,ts.getD k 0 / (Int.gcd (ts.getD k 0) ts.sum),ts.sum / (Int.gcd (ts.getD k 0) ts.sum)):Sh)).map shD from λe=>by rw[wN];rfl];exact q
theorem z4m {d e:Type}{x:d}{y:e}:∀{m:List e}{l:List d},l[m.length]? = some x->l.zip (m++[y])=l.zip m++[(x,y)]
 | [],l,h=>by
  cases l with
  | nil=>simp at h
  | cons a l=>simp_all
 | b::m,l,h=>by
  cases l with
  | nil=>simp at h
  | cons a l=>
   have:=z4m (y:=y) (by simpa using h)
   simp_all
def Pl.more {x y W u v t a c p vx vy b f t':Int}(j:0<c)(h:Pl x y W u v t)(e:a*W=p*c)(s:Pl (u*c+vx*a*t) (v*c+vy*a*t) (t*c) b f t'):Pl (x+vx*p) (y+vy*p) W b f t':=by
 have l:t*c≠0:=by have:=wS h.pos j;lia
 have d:∀{b u x vx:Int},b*(t*c)=(u*c+vx*a*t)*t'->u*W=x*t->b*W=(x+vx*p)*t':=λ{b u x vx} g i=>by
  apply wU l
  calc b*W*(t*c)=(b*(t*c))*W:=by grind
   _=((u*W)*c+vx*(a*W)*t)*t':=by rw[g];grind
   _=(x+vx*p)*t'*(t*c):=by rw[i,e];grind
 exact⟨s.pos,s.cop,d s.cx h.cx,d s.cy h.cy⟩
structure Sw (W:Int)(n:Nat)(s:Sh):Prop where
 top:0<s.2.1
 bot:0<s.2.2
 le:s.2.1<=2*s.2.2
 dv:s.2.2 ∣ W
 ix:s.1<n
def pt (W:Int)(s:Sh):Int:=s.2.1*(W / s.2.2)
def z7x {W:Int}{s:Sh}(h:s.2.2 ∣ W):s.2.1*W=pt W s*s.2.2:=by unfold pt;rw[je,Int.ediv_mul_cancel h]
def Sw.pt_le (h:Sw W n s)(a:0<W):0<pt W s/\pt W s<=2*W:=by
 have e:=Int.ediv_mul_cancel h.dv;have b  := Int.ediv_pos_of_pos_of_dvd a (wt h.bot) h.dv;unfold pt;generalize W / s.2.2=k at*;refine⟨wS h.top b,?_⟩;rw[<- e,wT k, <- je];exact wo h.le (by lia)
def Sw.mul (h:Sw W n s):Sw (W*m) n s:=⟨h.top,h.bot,h.le,j6 h.dv (Int.dvd_mul_right _ _),h.ix⟩
def bt2 {k:Nat}(b:Bt k W):Bt (k+1) (W+W):=Bt.le (Bt.add b b) (by lia)
def Sw.bits {W:Int}{n k:Nat}{s:Sh}(h:Sw W n s)(a:0<W)(b:Bt k W):Bt (k+1) s.2.1/\Bt k s.2.2:=by
 have:=h.top;have:=h.bot;have:=h.le;have:=Int.le_of_dvd a h.dv;exact⟨(bt2 b).of_abs (by lia),b.of_abs (by lia)⟩
noncomputable def sw (w:Nat->Int)(W:Int)(l:List Sh):Int:=(l.map λs=>w s.1*pt W s).sum
def z4g {w:Nat->Int}{W:Int}(l:List Sh)(s:Sh):sw w W (l++[s])=sw w W l+w s.1*pt W s:=by simp[sw]
theorem z6g:∀{l:List Int},(∀x∈l,Bt m x)->Bt (m+l.length) l.sum
 | [],_=>Bt.le (m:=0) (z04 (by decide)) (by lia)
 | x::l,h=>by
  exact Bt.le (Bt.add (h x (by simp)) (z6g λy a=>h y (by simp[a]))) (by simp;lia)
def z4w {w:Nat->Int}{W:Int}{n k m:Nat}{l:List Sh}(g:l.length<=14)(a:0<W)(b:Bt k W)(h:∀s∈l,Sw W n s)(e:∀i,Bt m (w i)):Bt (m+k+15) (sw w W l):=by
 refine Bt.le (z6g (m:=m+k+1) λx f =>?_) (by rw[we];lia);obtain⟨s,d,rfl⟩:=wf.mp f;have:=(h s d).pt_le a;exact Bt.le (Bt.mul (e _) ((bt2 b).of_abs (by lia))) (by lia)
def cX (W:Int)(p:(List P × P) × List Sh):Int:=sw (wx p.1.1) W p.2+p.1.2.1*sw (λ_=>1) W p.2
def cY (W:Int)(p:(List P × P) × List Sh):Int:=sw (wy p.1.1) W p.2+p.1.2.2*sw (λ_=>1) W p.2
def z7f {n:Nat}:Bt (n+1) 1:=Bt.le (m:=1) (z04 (by decide)) (by lia)
def cyb {n:Nat}{l:List P}(h:l≠[])(a:Wb n l)(k:Nat):Vb n (Geo.cy l k):=a _ (wz (z12 (w9.mpr h)))
def zo6 {k:Nat}(d:0<W)(b:Bt k W)(a:Wt4 p.1)(e:p.2.length<=14)(h:∀s∈p.2,Sw W p.1.1.length s):Bt (k+160) (cX W p)/\Bt (k+160) (cY W p):=by
 have f:=z4w (m:=1) e d b h λ_=>z7f;exact⟨Bt.le (Bt.add (z4w e d b h λi=>(cyb a.ne a.wb i).1) (Bt.mul a.vb.1 f)) (by lia),Bt.le (Bt.add (z4w e d b h λi=>(cyb a.ne a.wb i).2) (Bt.mul a.vb.2 f)) (by lia)⟩
def zjd {ts:List Int}(n:∀t∈ts,0<=t)(u:0<ts.sum):(wsh ts≠[]/\(wsh ts).length<=ts.length)/\∀s∈wsh ts,Sw ts.sum ts.length s/\s.2.1<=s.2.2:=by
 refine⟨⟨λz =>?_,by unfold wsh;rw[we];exact wV (List.length_filter_le _ _) (by simp)⟩,λs j =>?_⟩
 .have no:=List.map_eq_nil_iff.mp z;rw[List.filter_eq_nil_iff] at no;have:ts.sum=0:=by
   have e:∀l:List Int,(∀t∈l,0<=t)->(∀t∈l,¬ 0<t)->l.sum=0:=λl=>by
    induction l with
    | nil=>intros;rfl
    | cons a l w=>
     intro p q;have:=p a (by simp);have:=q a (by simp);rw[wP,w (λt h=>p t (by simp[h])) (λt h=>q t (by simp[h]))];lia
   refine e ts n λt h =>?_;obtain⟨k,i,rfl⟩:=vz h;have:=no k (ub.mpr i);rw[ue,wm i] at this;simpa using this
  lia
 obtain⟨k,i,rfl⟩:=wf.mp j;obtain⟨b,f⟩:=List.mem_filter.mp i;have b:=ub.mp b;have f:=uw f;have d:=zh1 n _ (z7Y b);obtain⟨m,x,r,y,A⟩:=z3x (t:=ts.getD k 0) u;generalize (Int.gcd (ts.getD k 0) ts.sum:Int)=g at*;have d:=Int.ediv_le_ediv m d;have o:0<ts.sum / g:=by lia
 refine⟨⟨?_,o,by show ts.getD k 0 / g<=2*(ts.sum / g);lia,⟨g,?_⟩,b⟩,d⟩
 .show 0<ts.getD k 0 / g
  rcases ui 0 (ts.getD k 0 / g) with z | z
  .exact z
  .have:=vp (wt m) z;lia
 .show ts.sum=ts.sum / g*g;rw[wT];exact r
def Pl.eq0 {x p W u t:Int}(h:Pl (x+1*p) (0+0*p) W u 0 t):Pl (x+1*p) 0 W u 0 t:=by simpa using h
structure Gd (W:Int)(n:Nat)(sh:List Sh):Prop where
 each:∀s∈sh,Sw W n s/\Int.gcd s.2.1 s.2.2=1
 up:sh.Pairwise (λa b=>a.1<b.1)
 few:sh.length<=3
def z9M {l:List P}{xs:List (P × Int)}(u:∀x∈xs,x.1∈l)(hz:l.length<=62)(nd:(xs.map (·.1)).Nodup)(h3:xs.length<=3)(h0:∀x∈xs,0<=x.2)(O:0<(xs.map (·.2)).sum)(bW:Bt 1400 (xs.map (·.2)).sum)
  (q:∀sh,Gd (xs.map (·.2)).sum l.length sh->(∀w (f:P->Int),(∀k,w k=f (Geo.cy l k))->sw w (xs.map (·.2)).sum sh=(xs.map λx=>f x.1*x.2).sum)->Q (.tup (sh.map shD))):z0X.run [vecs l,vecs (xs.map (·.1)),.tup ((xs.map (·.2)).map .int)] Q X:=by
 walk_at "fe";ac_nf;refine⟨_,rfl,?_⟩;generalize eW:(xs.map (·.2)).sum=W at*;ac_nf;refine zly ?_;rw[wN,wN,List.zip_map',wN];ac_nf;refine⟨by rw[we];exact szl' (by lia),?_⟩;refine z31 (f:=λx:P × Int=>D.tup [vec x.1,.int x.2]) (p:=λx=>decide (0<x.2)) (g:=λx=>pdD (rwOf l W x)) (λx i K k1 k2 =>?_) ?_
 .refine⟨rfl,?_⟩;show Ex.run _ _ _ _;unfold z09 z09 z09;ac_rfl;ac_nf;refine z0r (λz =>?_) (λz =>?_)
  .ac_nf;refine ziy (u x i) ?_;ac_nf;refine z5J O bW ?_;ac_nf;exact k1 (vf z)
  .exact k2 (vR z)
 generalize I:(xs.filter λx=>decide (0<x.2))=F;have J:∀x∈F,x∈xs/\0<x.2:=λx i=>by
  rw[<- I] at i;obtain⟨h1,h2⟩:=List.mem_filter.mp i;exact⟨h1,uw h2⟩
 have lF:F.length<=3:=by
  rw[<- I];exact wV (List.length_filter_le _ _) h3
 rw[show (F.map λx=>pdD (rwOf l W x))=(F.map (rwOf l W)).map pdD by rw[wN];rfl];refine⟨⟨trivial,trivial,trivial,trivial,trivial,trivial⟩,?_⟩;ac_rfl;ac_nf;refine⟨F.map (rwOf l W),rfl,?_,by rw[we];lia,λr pm pw =>?_⟩
 .rw[wN];have n1:(F.map (·.1)).Nodup:=by
   rw[<- I];exact(List.filter_sublist.map _).nodup nd
  unfold List.Nodup at n1 ⊢;rw[w5] at n1 ⊢;refine n1.imp_of_mem λ{a b} R U j e =>?_;have e:((idx l a.1):Int)=(idx l b.1):=e;exact j (ziO (u a (J a R).1) (u b (J b U).1) (by lia))
 ac_nf;have m:∀y∈r,∃x∈F,y=rwOf l W x:=λy C=>by
  obtain⟨x,i,e⟩:=wf.mp (pm.mem_iff.mp C);exact⟨x,i,e.symm⟩
 have e1:r.map pdD=(r.map back).map shD:=by
  rw[wN];apply ur;intro y C;obtain⟨x,i,rfl⟩:=m y C;show pdD (rwOf l W x)=shD (back (rwOf l W x));rw[z8d]
  rfl
 have o:(r.map back).Perm (F.map (shOf l W)):=by
  have:=pm.map back
  rwa [wN,show back ∘ rwOf l W=shOf l W from funext λx=>z8d l W x] at this
 rw[e1];have Y:∀s∈r.map back,∃x∈F,s=shOf l W x:=λs Y=>by
  obtain⟨x,i,e⟩:=wf.mp (o.mem_iff.mp Y);exact⟨x,i,e.symm⟩
 have sg:∀s∈r.map back,Sw W l.length s/\Int.gcd s.2.1 s.2.2=1:=λs Z=>by
  obtain⟨x,i,rfl⟩:=Y s Z;obtain⟨L,x2⟩:=J x i;obtain⟨N,f1,M,f3,f4⟩:=z3x (t:=x.2) O;have xW:x.2<=W:=by
   rw[<- eW];exact(z5j λy C=>by obtain⟨z,hz,rfl⟩:=wf.mp C;exact h0 z hz).2 _ (uq L)
  have le:=Int.ediv_le_ediv N xW;refine⟨⟨?_,by show 0<W / (Int.gcd x.2 W);lia,by show x.2 / (Int.gcd x.2 W)<=2*(W / (Int.gcd x.2 W));lia,⟨_,M.trans (wT _ _)⟩,zaW (u x L)⟩,f4⟩;show 0<x.2 / (Int.gcd x.2 W)
  rcases ui 0 (x.2 / (Int.gcd x.2 W)) with z | z
  .exact z
  .have:=vp (wt N) z;lia
 refine q _ ⟨sg,?_,by rw[o.length_eq,we];exact lF⟩ λw f hw =>?_
 .rw[w5];refine pw.imp_of_mem λ{a b} R U j =>?_;obtain⟨x,_,rfl⟩:=m a R;obtain⟨y,_,rfl⟩:=m b U;rw[z8d,z8d];have j:((idx l x.1):Int)<(idx l y.1):=j;show idx l x.1<idx l y.1;lia
 .unfold sw;rw[z8M o,wN, <- zb2 (l:=xs) h0 (λx i=>by rw[i,jv]),I]
  congr 1
  apply ur;intro x i;obtain⟨L,x2⟩:=J x i;obtain⟨N,f1,M,f3,f4⟩:=z3x (t:=x.2) O;show w (idx l x.1)*(x.2 / (Int.gcd x.2 W)*(W / (W / (Int.gcd x.2 W))))=f x.1*x.2;rw[hw,zm8 (u x L)];have e2:W / (W / (Int.gcd x.2 W))=(Int.gcd x.2 W):=Int.ediv_eq_of_eq_mul_left (by lia) M;rw[e2,wT (x.2 / _), <- f1]
structure LedW (l:List P)(x y t W:Int)(sh:List Sh):Prop where
 pos:0<W
 bt:Bt 1400 W
 gd:Gd W l.length sh
 one:sw (λ_=>1) W sh=W
 ex:sw (wx l) W sh*t=W*x
 ey:sw (wy l) W sh*t=W*y
def zcA {l:List P}{x y t:Int}{xs:List (P × Int)}(a:l.length<=62)(g:Prt l x y t xs)(b:∀sh W,LedW l x y t W sh->Q (.tup (sh.map shD))):
  z0X.run [vecs l,vecs (xs.map (·.1)),.tup ((xs.map (·.2)).map .int)] Q X:=by
 refine z9M g.mem a g.nd g.few g.nn g.pos g.bt λsh G k=>b sh _ ⟨g.pos,g.bt,G,?_,?_,?_⟩
 .rw[k _ (λ_=>1) λ_=>rfl]
  simp_all
 .rw[k (wx l) _ λ_=>rfl];exact g.ex
 .rw[k (wy l) _ λ_=>rfl];exact g.ey
def z8r {x y t:Int}(N:l≠[])(q:l.length<=62)(C:Wb 600 l)(pc:Pc x y t)
  (U:∀b,b≠(0,0)->Vb 700 b->(∀p∈l,dot p b*t<dot (x,y) b)->Q (brD b)) (u:∀sh W,LedW l x y t W sh->Q (swD sh)):z3u.run [vecs l,pcD x y t] Q X:=by
 walk_at "fn";ac_nf;refine z0K (.inl rfl) C.le (by lia) λh o =>?_;have f:=o.is N;have Y:=z2k f.nodup f.sub;have e:Wb 600 h:=λp O=>C p (f.sub p O);have g:h≠[]:=by obtain⟨m,tl,M,_⟩:=f.ex;rw[M];simp
 have R:=pc.pos;refine z0h (Safe.of_noL (z19 _) (z1a _) _) ?_;ac_rfl;ac_nf;refine zcD f e (by lia) pc (λb J K i =>?_) λw =>?_
 .ac_nf;refine z8k rfl ?_;ac_nf;exact U b J K i
 ac_nf;refine z9I rfl ?_;ac_nf;rw[we];refine z0r (λz =>?_) (λz =>?_)
 .obtain⟨a,b,rfl⟩:Ee2 λa b=>h=[a,b]:=by
   match h,z with
   | [a,b],_=>exact⟨a,b,rfl⟩
  have I:=e a (by simp);have vb:=e b (by simp);ac_nf;refine zjJ I vb pc ?_;ac_nf;refine t_no (by simp) ?_;ac_nf;refine zcA q (zic pc f (f.sub a (by simp)) (f.sub b (by simp)) I vb w) λsh W L =>?_;ac_nf;exact u sh W L
 ac_nf;rw[we];refine z0r (λj =>?_) (λj =>?_)
 .ac_nf;refine zeD e (by lia) (by lia) pc w λk F =>?_;refine z0h (Safe.of_noL (z19 _) (z1a _) _) ?_;ac_rfl;ac_nf;refine zjG (cyw g e _) (cyw g e _) (cyw g e _) pc ?_;ac_nf;refine zcA q (zcL pc f f.sub e F) λsh W L =>?_;ac_nf;exact u sh W L
 .obtain⟨m,rfl⟩:∃m,h=[m]:=by
   match h,g,z,j with
   | [m],_,_,_=>exact⟨m,rfl⟩
   | _::_::r,_,z,j=>simp at z j;lia
  ac_nf;refine zcA q (zid (f.sub m (by simp)) w) λsh W L =>?_;ac_nf;exact u sh W L
def ky (st v:P):P:=(dot v (rt st),dot v st)
def za7 {a b c d:P}(h:LxG a b)(k:LxG c d):LxG (Geo.pl a c) (Geo.pl b d):=by
 simp[LxG,Geo.pl] at*;lia
def zbL (st u v:P):ky st (Geo.pl u v)=Geo.pl (ky st u) (ky st v):=by
 simp[ky,Geo.pl,dot,rt,Prod.mk.injEq]
 grind
def Top (S:P->Prop)(st q:P):Prop:=S q/\∀r,S r->LxG (ky st q) (ky st r)
def zge {l:List P}{st v s:P}(h:Top (· ∈ l) st v):Top (· ∈ l.map (mv s)) st (mv s v):=by
 refine⟨uq h.1,λr a =>?_⟩;obtain⟨u,b,rfl⟩:=wf.mp a;have e:∀v,mv s v=Geo.pl v s:=λv=>rfl;rw[e,e,zbL,zbL];exact za7 (h.2 u b) (.inr ⟨rfl,vO _⟩)
def zel {st p q:P}(h:Top (· ∈ d) st p)(k:Top (Ms ds) st q):Top (Ms (d::ds)) st (Geo.pl p q):=by
 refine⟨⟨p,h.1,q,k.1,rfl⟩,λr a =>?_⟩;obtain⟨u,b,v,e,rfl⟩:=a;rw[zbL,zbL];exact za7 (h.2 u b) (k.2 v e)
def zjm {k:Nat}(x:z03 S h)(n:k<h.length)(t:Top S (stp (Geo.cy h (k+h.length - 1)) (Geo.cy h k)) q):q=Geo.cy h k:=by
 rcases wW 1 h.length with z | z
 .have e:=z35 x (by lia) (k+h.length - 1);rw[show k+h.length - 1+1=k+h.length by lia,show Geo.cy h (k+h.length)=Geo.cy h k by unfold Geo.cy;rw[ud]] at e;generalize Geo.cy h (k+h.length - 1)=a at*;generalize Geo.cy h k=b at*;have f:=t.2 b e.sb;have l:=e.left q t.1;have g:=e.btw q t.1;have E:0<(b.1 - a.1)*(b.1 - a.1)+(b.2 - a.2)*(b.2 - a.2):=sqp λw=>e.ne (ua (by lia) (by lia));simp only[LxG,ky,stp,rt,dot,Qa,Geo.dot] at f l g;have o:(b.1 - a.1)*(q.2 - a.2) - (b.2 - a.2)*(q.1 - a.1)=0:=by
   rcases f with w | w
   .grind
   .grind
  obtain⟨u,y⟩:=g o;have i:(b.1 - a.1)*(q.1 - b.1)+(b.2 - a.2)*(q.2 - b.2)=0:=by
   rcases f with w | w
   .grind
   .grind
  have j:(b.1 - a.1)*(q.2 - b.2) - (b.2 - a.2)*(q.1 - b.1)=0:=by grind
  generalize b.1 - a.1=c at*;generalize b.2 - a.2=d at*;have p:(c*c+d*d)*(q.1 - b.1)=0:=by
   have:(c*c+d*d)*(q.1 - b.1)=c*(c*(q.1 - b.1)+d*(q.2 - b.2)) - d*(c*(q.2 - b.2) - d*(q.1 - b.1)):=by grind
   rw[this,i,j];simp
  have s:(c*c+d*d)*(q.2 - b.2)=0:=by
   have:(c*c+d*d)*(q.2 - b.2)=d*(c*(q.1 - b.1)+d*(q.2 - b.2))+c*(c*(q.2 - b.2) - d*(q.1 - b.1)):=by grind
   rw[this,i,j];simp
  have A:=(wI.mp p).resolve_left (by lia);have C:=(wI.mp s).resolve_left (by lia);exact ua (by lia) (by lia)
 .obtain⟨m,r,rfl,_,_,_,⟨rfl,c⟩ | ⟨c,_⟩⟩:=x.ex
  .have:k=0:=by simpa using n
   subst this;exact c q t.1
  .cases r with
   | nil=>exact absurd rfl c
   | cons=>simp at z
def z8v {st:P}(y:l≠[])(C:l.length<=12)(f:Wb 140 l)(b:Vb 700 st)(q:∀i,i<l.length->Top (· ∈ l) st (Geo.cy l i)->Q (.int i)):z2Z.run [vecs l,vec st] Q X:=by
 have hr:Vb 700 (rt st):=⟨b.2,b.1.neg⟩
 walk_at "fn";ac_nf;refine z6Y ?_;refine z0h (Safe.of_noL rfl rfl _) ?_;ac_rfl;ac_nf;refine⟨by rw[we];exact szl' (by lia),?_⟩;refine z1e (g:=λp=>vec (ky st p)) (λp o K w =>?_) ?_
 .ac_nf;refine z3n (f p o).le hr.le ?_;ac_nf;refine z3n (f p o).le b.le ?_;ac_nf;exact w
 ac_rfl;ac_nf;refine⟨l.map (ky st),by rw[wN];rfl,by simpa using y,by rw[we];lia,λi m e x =>?_⟩;rw[wO] at e
 cases z:l[i]? with
 | none=>rw[z] at e;cases e
 | some v=>
  rw[z] at e
  cases e
  have j:i<l.length:=(wu.mp z).1;have r:Geo.cy l i=v:=by
   have:=z12 (h:=l) (i:=i) (by lia);rw[wY j,z] at this;exact(w6 this).symm
  refine q i j ?_;rw[r];exact⟨wz z,λu hu=>x _ (uq hu)⟩
def stq (h:List P)(s:Sh):P:=stp (Geo.cy h (s.1+h.length - 1)) (Geo.cy h s.1)
abbrev enD (s:Sh):Int × D:=((s.1),vec s.2)
abbrev foD (fs:List Sh):D:=dkI (fs.map enD)
def zi6 {fs:List Sh}{s:Sh}(h:∀x∈fs,x.1≠s.1):putD ((fs.map enD).map λr=>(Sum.inl r.1,r.2)) (.inl (s.1)) (vec s.2)=((fs++[s]).map enD).map λr=>(Sum.inl r.1,r.2):=by
 unfold putD;rw[if_neg]
 .simp
 .simp only[List.any_eq_true,not_exists,not_and];intro p a;obtain⟨r,b,rfl⟩:=wf.mp a;obtain⟨x,d,rfl⟩:=wf.mp b;have:=h x d;simp;lia
def zeh {fs:List Sh}(h:∀x∈fs,x.1≠i):valD ((fs.map enD).map λr=>(Sum.inl r.1,r.2)) (.inl i)=none:=by
 unfold valD;rw[List.find?_eq_none.mpr]
 .rfl
 .intro p a;obtain⟨r,b,rfl⟩:=wf.mp a;obtain⟨x,d,rfl⟩:=wf.mp b;have:=h x d;simp;lia
def zeg (h:∀x∈A,x.1≠s.1):valD (((A++s::C).map enD).map λr=>(Sum.inl r.1,r.2)) (.inl (s.1))=some (vec s.2):=by
 unfold valD;rw[wD,wD,List.find?_append,List.find?_eq_none.mpr]
 .simp
 .intro p a;obtain⟨r,b,rfl⟩:=wf.mp a;obtain⟨x,d,rfl⟩:=wf.mp b;have:=h x d;simp;lia
def zi5 (e:s'.1=s.1)(h:∀x∈A++C,x.1≠s.1):putD (((A++s::C).map enD).map λr=>(Sum.inl r.1,r.2)) (.inl (s.1)) (vec s'.2)=((A++s'::C).map enD).map λr=>(Sum.inl r.1,r.2):=by
 unfold putD;have b:∀l:List Sh,(∀x∈l,x.1≠s.1)->(((l.map enD).map λr=>((Sum.inl r.1,r.2):Key × D)).map λp=>if p.1=(.inl (s.1)) then (p.1,vec s'.2) else p)=(l.map enD).map λr=>(Sum.inl r.1,r.2):=λl d=>by
  rw[wN,wN,wN];apply ur;intro x a;have:=d x a;show (if (Sum.inl (x.1):Key)=Sum.inl _ then _ else _)=_;rw[if_neg (by grind)]
  rfl
 simp only[wD,wE];rw[b A λx a=>h x (by simp[a]),b C λx a=>h x (by simp[a])];simp[e]
def Sw.pl {W:Int}{n:Nat}{s:Sh}(h:Sw W n s)(g:Int.gcd s.2.1 s.2.2=1):Pl (pt W s) 0 W s.2.1 0 s.2.2:=⟨h.bot,by rw[gcd0];exact g,z7x h.dv,by simp⟩
def zdp {W p u t:Int}(d:0<W)(h:Pl p 0 W u 0 t)(g:0<p)(j:p<=W)(f:i<n):(Sw W n (i,u,t)/\Int.gcd u t=1)/\pt W (i,u,t)=p:=by
 have a:=h.pos;have e:=h.cx;have b:=h.cop;rw[gcd0] at b;have l:0<u:=by
  rcases ui 0 u with z | z
  .exact z
  .have:=vG z (wt d);have:=wS g a;lia
 have q:u<=t:=by
  rcases ui t u with z | z
  .have m:=uB z d;have o:=wo j (wt a);lia
  .exact z
 refine⟨⟨⟨l,a,by lia,h.dvd,f⟩,b⟩,?_⟩;show u*(W / t)=p;apply wU (show t≠0 by lia);rw[je,Int.ediv_mul_cancel h.dvd,e]
def ziV {x k e:Ex}(q:x.run ρ (λa=>∃kvs,a=dk kvs/\k.run ρ (λb=>∃j,b=kD j/\e.run ρ (λc=>Q ((valD kvs j).getD c)) X) X) X):(Ex.dget2 x k e).run ρ Q X:=q
def zlR {A C:List Sh}{y:Sh}(h:((A++y::C).map (·.1)).Nodup):∀z∈A++C,z.1≠y.1:=λz a e=>by
 rw[wD] at h;have:=(jW.nodup_iff.mp h)
 rw[vU, <- wD] at this;exact this.1 (wf.mpr ⟨z,a,e⟩)
def z8l (A C:List Sh)(y:Sh):sw w W (A++y::C)=sw w W A+w y.1*pt W y+sw w W C:=by
 simp[sw];lia
def zbh (a:0<W)(h:∀s∈l,Sw W n s):0<=sw (λ_=>1) W l:=by
 refine(z5j λy d =>?_).1;obtain⟨s,b,rfl⟩:=wf.mp d;have:=(h s b).pt_le a;lia
def zam (s:Sh):back (enD s)=s:=by
 rfl
def zbp {x:List P × P}{h:List P}{sh:List Sh}{W:Int}{Q:DK}{X:XP}(hx:Wt4 x)(Y:Wb 600 h)(hn:h≠[])(p:0<W)(bW:Bt 1400 W)(G:Gd W h.length sh)(one:sw (λ_=>1) W sh=W)
  (q:∀Z (φ:Sh->P),(∀s∈sh,Top (· ∈ x.1) (stq h s) (φ s))->Gd W x.1.length Z->sw (wx x.1) W Z=(sh.map λs=>(φ s).1*pt W s).sum->sw (wy x.1) W Z=(sh.map λs=>(φ s).2*pt W s).sum->sw (λ_=>1) W Z=W->Q (shsD Z)):z1q.run [vecs x.1,vecs h,shsD sh] Q X:=by
 have zero:Pl 0 0 W 0 0 1:=⟨by decide,by decide,by simp,by simp⟩
 walk_at "fn";refine z4c (zeA ?_);refine⟨λ_ h=>by(cases h),?_⟩;ac_rfl;ac_nf;refine z0i (f:=shD) (λdn ρ=>∃(fs:List Sh) (I:Sh->Nat) (x4 x5 x6:B),(∀s∈dn,Top (· ∈ x.1) (stq h s) (Geo.cy x.1 (I s)))/\(∀w:Nat->Int,sw w W fs=(dn.map λs=>w (I s)*pt W s).sum)/\(∀s∈fs,Sw W x.1.length s/\Int.gcd s.2.1 s.2.2=1)/\(fs.map (·.1)).Nodup/\fs.length<=dn.length/\ρ=[.s (vecs x.1),.s (vecs h),.s (shsD sh),.o (foD fs),x4,x5,x6]) ⟨[],λ_=>0,_,_,_,λ_ h=>by(cases h),λ_=>rfl,λ_ h=>by(cases h),.nil,ww _,rfl⟩ ?_ ?_
 .rintro dn s r ρ e ⟨fs,I,x4,x5,x6,h1,h2,J,U,h5,rfl⟩;obtain⟨R,sg⟩:=G.each s (by rw[e];simp);have sc:=R.bot;obtain⟨b1,b2⟩:=R.bits p bW;have a4:=G.few;have le:=congrArg List.length e;rw[wG,vg] at le;have a0:∀s'∈dn,s'≠s:=λs' g z=>by
   have up:=G.up;rw[e,uf] at up;have:=up.2.2 s' g s (by simp);rw[z] at this;lia
  have v1:=cyb hn Y (s.1+h.length - 1);have v2:=cyb hn Y s.1;refine⟨rfl,?_⟩;show Sm.run _ _ _ _ _;unfold z09 z09 z09;ac_rfl;ac_nf;refine z0V (z0x (zmj R.ix)) ?_;ac_nf;refine z0V (z0x (z9l R.ix)) ?_;ac_nf;refine z2j ?_;ac_nf;refine z8v (st:=stq h s) hx.ne hx.len hx.wb ⟨Bt.le (Bt.sub v2.1 v1.1),Bt.le (Bt.sub v2.2 v1.2)⟩ λi hi top =>?_;ac_nf;refine⟨_,rfl,zmd (ziV ?_)⟩;ac_nf;refine⟨_,rfl,?_⟩;ac_nf;refine⟨.inl i,rfl,?_⟩;ac_nf;have p0:=(R.pt_le p).1;have a5:sw (λ_=>1) W fs+pt W s<=W:=by
   have e1:=h2 λ_=>1;have e2:=z8l (w:=λ_=>1) (W:=W) dn r s;rw[<- e,one] at e2;have e3:(dn.map λs=>(1)*pt W s).sum=sw (λ_=>1) W dn:=rfl;have e4:=zbh (l:=r) p λs' g=>(G.each s' (by rw[e];simp[g])).1;lia
  have fin:∀j:List Sh,(∀w:Nat->Int,sw w W j=sw w W fs+w i*pt W s)->(∀s∈j,Sw W x.1.length s/\Int.gcd s.2.1 s.2.2=1)->(j.map (·.1)).Nodup->j.length<=fs.length+1->
    ∃(fs:List Sh) (I:Sh->Nat) (x4 x5 x6:B),(∀a3∈dn++[s],Top (· ∈ x.1) (stq h a3) (Geo.cy x.1 (I a3)))/\(∀w:Nat->Int,sw w W fs=((dn++[s]).map λs=>w (I s)*pt W s).sum)/\(∀s∈fs,Sw W x.1.length s/\Int.gcd s.2.1 s.2.2=1)/\(fs.map (·.1)).Nodup/\fs.length<=(dn++[s]).length/\[.s (vecs x.1),.s (vecs h),.s (shsD sh),.o (foD j),.s (.int (s.1)),.s (.tup [.int s.2.1,.int s.2.2]),.s (.int i)]=[.s (vecs x.1),.s (vecs h),.s (shsD sh),.o (foD fs),x4,x5,x6]:=λj k1 k2 k3 k4=>by
   refine⟨j,λs'=>if s'=s then i else I s',_,_,_,λs' g =>?_,λw =>?_,k2,k3,by simp;lia,rfl⟩
   .rcases wB.mp g with z | z
    .dsimp only;rw[if_neg (a0 s' z)];exact h1 s' z
    .rw[wj.mp z];dsimp only;rw[if_pos rfl];exact top
   .rw[k1,h2,wD,ul]
    congr 1
    .congr 1
     refine ur λs' g =>?_;dsimp only;rw[if_neg (a0 s' g)]
    .simp
  by_cases K:∃y∈fs,y.1=i
  .obtain⟨y,K,rfl⟩:=K;obtain⟨A,C,eA⟩:=List.append_of_mem K;subst eA;obtain⟨ys,yg⟩:=J y (by simp);have yc:=ys.bot;obtain⟨c1,c2⟩:=ys.bits p bW;have nd:=zlR U;rw[zeg λz hz=>nd z (by simp[hz])];refine z57 yc sc yg sg c1.le c2.le b1.le b2.le λu t M =>?_;have M:=((ys.pl yg).more (vx:=1) (vy:=0) sc (z7x R.dv) (by simpa using M)).eq0;have a1:=zbh (l:=A) p λs' g=>(J s' (by simp[g])).1;have a2:=zbh (l:=C) p λs' g=>(J s' (by simp[g])).1;rw[z8l] at a5;have y0:=(ys.pt_le p).1;obtain⟨n1,n2⟩:=zdp (i:=y.1) p M (by lia) (by lia) ys.ix;refine⟨Safe.of_noL rfl rfl _,?_⟩;ac_nf;refine⟨.inl (y.1),rfl,?_,?_⟩
   .rw[we,we];exact szl' (by lia)
   have pe:putD (((A++y::C).map enD).map λr=>(Sum.inl r.1,r.2)) (.inl (y.1)) (.tup [.int u,.int t])=_:=zi5 (s':=(y.1,u,t)) rfl nd;rw[pe];refine fin (A++(y.1,u,t)::C) (λw =>?_) (λs' g =>?_) ?_ (by simp)
   .rw[z8l,z8l,n2];show _+w y.1*(_+1*_)+_=_
    grind
   .rcases wB.mp g with z | z
    .exact J s' (by simp[z])
    .rcases wn.mp z with z | z
     .rw[z];exact n1
     .exact J s' (by simp[z])
   .simpa using U
  .have nd:∀z∈fs,z.1≠i:=λz hz e=>K ⟨z,hz,e⟩;rw[zeh nd];refine z57 (by decide) sc (by decide) sg (Bt.le (m:=1) (z04 (by decide))) (Bt.le (m:=1) (z04 (by decide))) b1.le b2.le λu t M =>?_;have M:=(zero.more (vx:=1) (vy:=0) sc (z7x R.dv) (by simpa using M)).eq0;have a1:=zbh (l:=fs) p λs' g=>(J s' g).1;obtain⟨n1,n2⟩:=zdp (i:=i) p M (by lia) (by lia) hi;refine⟨Safe.of_noL rfl rfl _,?_⟩;ac_nf;refine⟨.inl i,rfl,?_,?_⟩
   .rw[we,we];exact szl' (by lia)
   have pe:putD ((fs.map enD).map λr=>(Sum.inl r.1,r.2)) (.inl i) (.tup [.int u,.int t])=_:=zi6 (s:=(i,u,t)) nd;rw[pe];refine fin (fs++[(i,u,t)]) (λw =>?_) (λs' g =>?_) ?_ (by simp)
   .rw[z4g,n2];show _+w i*(0+1*_)=_
    grind
   .rcases wB.mp g with z | z
    .exact J s' z
    .rw[wj.mp z];exact n1
   .rw[wD];refine List.nodup_append.mpr ⟨U,by simp,λa ha b Y =>?_⟩;obtain⟨z,hz,rfl⟩:=wf.mp ha;rw[wj.mp Y];exact nd z hz
 rintro ρ ⟨fs,I,x4,x5,x6,h1,h2,J,U,h5,rfl⟩;have a4:=G.few;ac_nf;have nd:((fs.map enD).map (·.1)).Nodup:=by
  rw[show (fs.map enD).map (·.1)=(fs.map (·.1)).map λk:Nat=>(k:Int) by rw[wN,wN];rfl];unfold List.Nodup at U ⊢;rw[w5];exact U.imp λ{a b} h=>by lia
 refine⟨fs.map enD,rfl,nd,by rw[we];lia,λrl pm pw =>?_⟩;ac_nf;have O:(rl.map back).Perm fs:=by
  have:=pm.map back
  rwa [wN,show (back ∘ enD)=id from funext λs=>zam s,List.map_id] at this
 have N:∀y∈rl,y=enD (back y):=λy K=>by
  obtain⟨s,_,rfl⟩:=wf.mp (pm.mem_iff.mp K);rw[zam]
 rw[show rl.map pdD=(rl.map back).map shD by
  rw[wN];refine ur λy K =>?_;rw[N y K];show _=shD (back (enD (back y)));rw[zam]]
 have sp:∀w:Nat->Int,sw w W (rl.map back)=(sh.map λs=>w (I s)*pt W s).sum:=λw=>by rw[<- h2];exact z8M O
 refine q _ (λs=>Geo.cy x.1 (I s)) h1 ⟨λs hs=>J s (O.mem_iff.mp hs),?_,by rw[O.length_eq];lia⟩ (sp _) (sp _) ?_
 .rw[w5];refine pw.imp_of_mem λ{a b} ha Y L =>?_;rw[N a ha,N b Y] at L;have L:((back a).1:Int)<(back b).1:=L;lia
 .rw[sp];exact one
def Al (s b:P):Prop:=∃i j,0<i/\0<j/\i*s.1=j*b.1/\i*s.2=j*b.2
def Al.refl (b:P):Al b b:=⟨1,1,by decide,by decide,rfl,rfl⟩
def ziY (d:a∈h):∃j,j<h.length/\Geo.cy h (j+h.length - 1)=a:=by
 obtain⟨i,f,e⟩:=vz d;have b:∀k,k % h.length=i->Geo.cy h k=a:=λk g=>by
  unfold Geo.cy
  simp_all
 by_cases c:i+1<h.length
 .exact⟨i+1,c,b _ (by rw[show i+1+h.length - 1=i+h.length by lia,ud,wY f])⟩
 .exact⟨0,by lia,b _ (by rw[wY (by lia)];lia)⟩
def z4F (x:z03 S h)(b:2<=h.length)(a:j<h.length):Edge S (Geo.cy h (j+h.length - 1)) (Geo.cy h j):=
 x.cyc b a (z12 (by lia)) (by rw[<- z12 (by lia),wY a])
def z6f {a b d:Int}(n:(b,d)≠((0),(0)))(f:a*b=0)(g:a*d=0):a=0:=by
 rcases wI.mp f with z | z
 .exact z
 rcases wI.mp g with e | e
 .exact e
 simp_all
def z5r {b:P}(h:b≠(0,0)):0<b.1*b.1+b.2*b.2:=by
 have e:0<=b.1*b.1:=by rcases Int.le_total 0 b.1 with z | z;exact wR z z;exact v5 z z
 have f:0<=b.2*b.2:=by rcases Int.le_total 0 b.2 with z | z;exact wR z z;exact v5 z z
 rcases uV (Int.add_nonneg e f) with z | z
 .exact z
 .have a:b.1*b.1=0:=by omega
  have d:b.2*b.2=0:=by omega
  exact absurd (ua ((wI.mp a).elim id id) ((wI.mp d).elim id id)) h
def zcO {a b:Int}(h:0<a*b)(d:0<a):0<b:=by
 by_cases z:0<b
 .exact z
 .have:=wL (jR.mp z) (wt d);rw[jv] at this;exact absurd (uC h this) (Int.lt_irrefl _)
def z9j (x:z03 S h){a c b:P}(f:a∈h)(g:c∈h)(ne:a≠c)(A:b≠(0,0))(m:∀p∈h,dot p b<=dot a b)(e:dot c b=dot a b):∃s∈z07 h,Al s.1 b:=by
 have M:2<=h.length:=by
  rcases h with _ | ⟨u,_ | ⟨v,r⟩⟩
  .simp at f
  .rw[wj] at f g;exact absurd (f.trans g.symm) ne
  .simp
 have d:∀{a c:P},a∈h->c∈h->a≠c->(∀p∈h,dot p b<=dot a b)->dot c b=dot a b->0<b.1*(c.2 - a.2) - b.2*(c.1 - a.1)->∃s∈z07 h,Al s.1 b:=λ{a c} f g ne m e k=>by
  obtain⟨j,F,C⟩:=ziY f;have E:=z4F x M F;generalize G:Geo.cy h j=v at E;rw[C] at E;have O:v∈h:=G ▸ z2s (by lia);have U:=E.left c (x.sub c g);have W:=m v O;have l:(c.1 - a.1,c.2 - a.2)≠((0),(0)):=λz=>ne (by
   have q:=congrArg Prod.fst z;have t:=congrArg Prod.snd z;dsimp only at q t;exact ua (by lia) (by lia))
  have K:b.1*(c.1 - a.1)+b.2*(c.2 - a.2)=0:=by simp only[dot] at e;grind
  have X:0<=Qa a c v:=by
   have i:=z5r (b:=(c.1 - a.1,c.2 - a.2)) l;have key:(b.1*(c.2 - a.2) - b.2*(c.1 - a.1))*Qa a c v=((c.1 - a.1)*(c.1 - a.1)+(c.2 - a.2)*(c.2 - a.2))*(dot a b - dot v b):=by
    simp only[dot,Qa];grind
   have H:0<=((c.1 - a.1)*(c.1 - a.1)+(c.2 - a.2)*(c.2 - a.2))*(dot a b - dot v b):=wR (wt i) (by lia);rw[<- key] at H;exact uK (by simpa using H) k
  have z:Qa a v c=0:=by
   have:Qa a v c = - Qa a c v:=by simp only[Qa];grind
   lia
  obtain⟨J,Z⟩:=E.btw c (x.sub c g) z;have T:(v.1 - a.1)*(c.2 - a.2)=(v.2 - a.2)*(c.1 - a.1):=by simp only[Qa] at z;lia
  have R:b.1*(v.1 - a.1)+b.2*(v.2 - a.2)=0:=z6f l (by grind) (by grind);have L:0<(c.1 - a.1)*(v.1 - a.1)+(c.2 - a.2)*(v.2 - a.2):=by
   simp only[Geo.dot] at J
   rcases uV J with y | y
   .exact y
   .exfalso
    have Q:(v.1 - a.1,v.2 - a.2)≠((0),(0)):=λw=>E.ne (by
     have q:=congrArg Prod.fst w;have t:=congrArg Prod.snd w;dsimp only at q t;exact ua (by lia) (by lia))
    have i:=z5r (b:=(v.1 - a.1,v.2 - a.2)) Q;dsimp only at i;have n:((v.1 - a.1)*(v.1 - a.1)+(v.2 - a.2)*(v.2 - a.2))*(c.1 - a.1)=0:=by grind
    have o:((v.1 - a.1)*(v.1 - a.1)+(v.2 - a.2)*(v.2 - a.2))*(c.2 - a.2)=0:=by grind
    have:=z6f l n o;lia
  have kf:0<b.1*(v.2 - a.2) - b.2*(v.1 - a.1):=by
   have i:=z5r (b:=(c.1 - a.1,c.2 - a.2)) l;dsimp only at i;have key:((c.1 - a.1)*(c.1 - a.1)+(c.2 - a.2)*(c.2 - a.2))*(b.1*(v.2 - a.2) - b.2*(v.1 - a.1))=(b.1*(c.2 - a.2) - b.2*(c.1 - a.1))*((c.1 - a.1)*(v.1 - a.1)+(c.2 - a.2)*(v.2 - a.2)):=by grind
   have I:=wS k L;rw[<- key] at I;exact zcO I i
  refine⟨(rt (stp a v),v),z1z (by lia) F (by rw[<- C, <- G];exact wF ..),b.1*b.1+b.2*b.2,b.1*(v.2 - a.2) - b.2*(v.1 - a.1),z5r A,kf,?_,?_⟩
  .simp only[rt,stp];grind
  .simp only[rt,stp];grind
 rcases Int.lt_trichotomy 0 (b.1*(c.2 - a.2) - b.2*(c.1 - a.1)) with k | k | k
 .exact d f g ne m e k
 .exfalso
  have K:b.1*(c.1 - a.1)+b.2*(c.2 - a.2)=0:=by simp only[dot] at e;grind
  have Y:=z5r A;have n:(c.1 - a.1)*(b.1*b.1+b.2*b.2)=0:=by grind
  have o:(c.2 - a.2)*(b.1*b.1+b.2*b.2)=0:=by grind
  refine ne (ua ?_ ?_)
  .rcases wI.mp n with z | z <;> omega
  .rcases wI.mp o with z | z <;> omega
 .exact d g f (vN ne) (λp N=>by rw[e];exact m p N) e.symm (by grind)
def zdR (a c b:P):dot (Geo.pl a c) b=dot a b+dot c b:=by simp[dot,Geo.pl];grind
def zgH {f d:P}(a:d≠(0,0))(h:f.1*d.2=f.2*d.1)(k:0<f.1*d.1+f.2*d.2):Al f d:=⟨d.1*d.1+d.2*d.2,f.1*d.1+f.2*d.2,z5r a,k,by grind,by grind⟩
def z93 (x:z03 (· ∈ l) l){a c d:P}(i:a∈l)(q:c∈l)(ne:a≠c)(h:d≠(0,0))(e:∀p∈l,d.1*(p.2 - a.2)=d.2*(p.1 - a.1)):∃s∈z07 l,Al s.1 d:=by
 have m:2<=l.length:=by
  rcases l with _ | ⟨u,_ | ⟨v,r⟩⟩
  .simp at i
  .rw[wj] at i q;exact absurd (i.trans q.symm) ne
  .simp
 have b:∀k,Geo.cy l k∈l:=λk=>z2s (by lia);have K:=z5r h
 by_cases F:3<=l.length
 .exfalso
  have t:=z4X (z35 x m 0) (z35 x m 1) (zdX x F 0);have H:=e _ (b 0);have I:=e _ (b 1);have J:=e _ (b 2);have:Qa (Geo.cy l 0) (Geo.cy l (0+1)) (Geo.cy l (1+1))*(d.1*d.1+d.2*d.2)=0:=by
   simp only[Qa];generalize Geo.cy l 0=u at*;rw[show (0+1)=1 from rfl,show (1+1)=2 from rfl];generalize Geo.cy l 1=v at*;generalize Geo.cy l 2=w at*
   grind
  rcases wI.mp this with z | z <;> omega
 have g:l.length=2:=by lia
 have E:=z4F x m (j:=0) (by lia);have f:∀j,j<2->(stp (Geo.cy l (j+l.length - 1)) (Geo.cy l j),Geo.cy l j)∈z07 l:=λj G=>z1z (by rw[g];decide) (by rw[g];exact G) (by unfold z0s;rw[if_pos g];exact wq _ (wj.mpr rfl));have n:=f 0 (by decide);have o:=f 1 (by decide);rw[g] at n o E;have A:Geo.cy l (1+2 - 1)=Geo.cy l 0:=by unfold Geo.cy;rw[g]
 rw[A] at o;rw[show 0+2 - 1=1 from rfl] at n E;have H:=e _ (b 0);have I:=e _ (b 1);generalize Geo.cy l 0=u at*;generalize Geo.cy l 1=v at*;have y:(u.1 - v.1)*d.2=(u.2 - v.2)*d.1:=by grind
 rcases Int.lt_trichotomy 0 ((u.1 - v.1)*d.1+(u.2 - v.2)*d.2) with k | k | k
 .exact⟨_,n,zgH h (by simp only[stp];exact y) (by simp only[stp];exact k)⟩
 .exfalso
  have C:(u.1 - v.1)*(d.1*d.1+d.2*d.2)=0:=by grind
  have g:(u.2 - v.2)*(d.1*d.1+d.2*d.2)=0:=by grind
  refine E.ne (ua ?_ ?_)
  .rcases wI.mp C with z | z <;> omega
  .rcases wI.mp g with z | z <;> omega
 .exact⟨_,o,zgH h (by simp only[stp];grind) (by simp only[stp];grind)⟩
section
variable {l1 l2 R:List P}(x1:z03 (· ∈ l1) l1)(x2:z03 (· ∈ l2) l2)(x:z03 (Sm2 l1 l2) R)
include x1 x2 x
theorem zhg {u v b:P}(r:u∈R)(t:v∈R)(ne:u≠v)(j:b≠(0,0))(m:∀p,Sm2 l1 l2 p->dot p b<=dot u b)(e:dot v b=dot u b):∃s∈z07 l1++z07 l2,Al s.1 b:=by
 obtain⟨a,l,c,n,rfl⟩:=x.sub u r;obtain⟨i,d,c',f,rfl⟩:=x.sub v t;simp only[zdR] at m e;have o:∀p∈l1,dot p b<=dot a b:=λp g=>by
  have:=m _ ⟨p,g,c,n,rfl⟩;rw[zdR] at this;lia
 have q:∀p∈l2,dot p b<=dot c b:=λp g=>by
  have:=m _ ⟨a,l,p,g,rfl⟩;rw[zdR] at this;lia
 have A:=o i d;have C:=q c' f
 by_cases z:a=i
 .have y:c≠c':=λw=>ne (by rw[z,w]);obtain⟨s,h,k⟩:=z9j x2 n f y j q (by lia);exact⟨s,vh _ h,k⟩
 .obtain⟨s,h,k⟩:=z9j x1 l d z j o (by lia);exact⟨s,vF _ h,k⟩
set_option tactic.hygienic true in
theorem zcg (f:s∈z07 R):∃s'∈z07 l1++z07 l2,Al s'.1 s.1:=by
 have q:=zcl x f;obtain⟨Y,M⟩:=z4z x f
 by_cases l:R.length=1
 .have one:l1.length=1:=by
   obtain⟨m,t,e,_,_,_,k⟩:=x.ex;have N:t=[]:=by rw[e] at l;simpa using l
   rcases k with ⟨_,k⟩ | ⟨k,_⟩
   .obtain⟨c,i⟩:=List.exists_mem_of_ne_nil _ (z0W x2);have all:∀a∈l1,∀a'∈l1,a=a':=λa o a' g=>by
     have F:=(k _ ⟨a,o,c,i,rfl⟩).trans (k _ ⟨a',g,c,i,rfl⟩).symm;have T:=congrArg Prod.fst F;have U:=congrArg Prod.snd F;simp only[Geo.pl] at T U;exact ua (by lia) (by lia)
    have I:=x1.nodup
    rcases l1 with _ | ⟨u,_ | ⟨v,r⟩⟩
    .exact absurd rfl (z0W x1)
    .rfl
    .have:=all u (by simp) v (by simp);rw[this] at I;simp at I
   .exact absurd N k
  unfold z07 at f;rw[if_pos l] at f;obtain⟨b,L,rfl⟩:=wf.mp f;refine⟨(b,Geo.cy l1 0),vF _ ?_,Al.refl _⟩;unfold z07;rw[if_pos one];exact wf.mpr ⟨b,L,rfl⟩
 .obtain⟨j,G,d⟩:=z3b l f;have H:2<=R.length:=by
   have:=w9.mpr (z0W x);lia
  have E:=z4F x H G;have O:Geo.cy R (j+R.length - 1)∈R:=z2s (by lia);have Q:Geo.cy R j∈R:=z2s (by lia)
  rcases wn.mp d with rfl | d
  .refine zhg x1 x2 x Q O (vN E.ne) q M ?_;simp only[dot,rt,stp]
   grind
  .split at d
   .rename_i n
    rw[wj] at d;subst d;have K:Edge (Sm2 l1 l2) (Geo.cy R j) (Geo.cy R (j+R.length - 1)):=by
     have k:=z4F x H (j:=(j+1) % 2) (by rw[n];exact jp _ (by decide));rw[n] at G k ⊢;have C:j=0\/j=1:=by lia
     rcases C with rfl | rfl
     .have y:Geo.cy R ((0+1) % 2+2 - 1)=Geo.cy R 0:=by unfold Geo.cy;rw[n]
      rw[y] at k;exact k
     .have y:Geo.cy R (1+2 - 1)=Geo.cy R 0:=by unfold Geo.cy;rw[n]
      rw[y];exact k
    generalize Geo.cy R (j+R.length - 1)=u at*;generalize Geo.cy R j=v at*;have J:∀p,Sm2 l1 l2 p->Qa u v p=0:=λp h=>by
     have W:=E.left p h;have X:=K.left p h;have:Qa v u p = - Qa u v p:=by simp only[Qa];grind
     lia
    obtain⟨a,o,c,i,rfl⟩:=E.sa;obtain⟨a',g,c',A,rfl⟩:=E.sb
    by_cases z:a=a'
    .have S:c≠c':=λw=>E.ne (by rw[z,w]);obtain⟨s,f,k⟩:=z93 x2 i A S q λp h=>by
      have:=J _ ⟨a,o,p,h,rfl⟩;simp only[Qa,Geo.pl,stp] at this ⊢
      grind
     exact⟨s,vh _ f,k⟩
    .obtain⟨s,f,k⟩:=z93 x1 o g z q λp h=>by
      have:=J _ ⟨p,h,c,i,rfl⟩;simp only[Qa,Geo.pl,stp] at this ⊢
      grind
     exact⟨s,vF _ f,k⟩
   .simp at d
end
def Al.trans {a b c:P}(h:Al a b)(k:Al b c):Al a c:=by
 obtain⟨i,j,f,g,n,o⟩:=h;obtain⟨l,m,d,e,p,q⟩:=k;exact⟨i*l,j*m,wS f d,wS g e,by grind,by grind⟩
def Al.le {s b u v:P}(h:Al s b)(k:dot u s<=dot v s):dot u b<=dot v b:=by
 obtain⟨i,j,a,g,d,f⟩:=h;have l:=wL k (wt a);have e:∀w,i*dot w s=j*dot w b:=λw=>by simp[dot];grind
 simp_all
def zdY (b:h≠[])(f:P->P)(k:Nat):Geo.cy (h.map f) k=f (Geo.cy h k):=by
 have a:=w9.mpr b;have:=z12 (h:=h.map f) (i:=k) (by simp_all);rw[we,wO,z12 a] at this
 simp_all
set_option tactic.hygienic true in
def z5I (i:0<m)(g:h≠[])(e:s∈z07 (h.map (Geo.sca m))):∃s'∈z07 h,Al s'.1 s.1/\s.2=Geo.sca m s'.2:=by
 by_cases d:h.length=1
 .unfold z07 at e;rw[if_pos (by rw[we];exact d)] at e;obtain⟨b,n,rfl⟩:=wf.mp e;refine⟨(b,Geo.cy h 0),?_,Al.refl _,zdY g _ _⟩;unfold z07;rw[if_pos d];exact wf.mpr ⟨b,n,rfl⟩
 .obtain⟨j,f,a⟩:=z3b (by rw[we];exact d) e;rw[we] at f;unfold z0s at a;rw[we,zdY g,zdY g] at a
  rcases wn.mp a with rfl | a
  .exact⟨_,z1z d f (wF ..),⟨m,1,i,by decide,by simp only[rt,stp,Geo.sca];grind,by simp only[rt,stp,Geo.sca];grind⟩,rfl⟩
  .split at a
   .rename_i l
    rw[wj] at a;subst a;exact⟨_,z1z d f (by unfold z0s;rw[if_pos l];exact wq _ (wj.mpr rfl)),⟨m,1,i,by decide,by simp only[stp,Geo.sca];grind,by simp only[stp,Geo.sca];grind⟩,rfl⟩
   .simp at a
def zdC (x:z03 S h):z03 (· ∈ h) h:=x.of x.sub λ_ a=>a
def zeH (t:z03 (· ∈ h) h)(r:z03 (· ∈ d) d)(o:0<p1)(n:0<p0)(i:0<T)(x:z03 (Sm2 (h.map (Geo.sca p1)) (d.map (Geo.sca p0))) R)
  (C:∀s∈z07 h++z07 d,∃a∈h,∃c∈d,dot (X,Y) s.1<=dot (Geo.sca T (Geo.pl (Geo.sca p1 a) (Geo.sca p0 c))) s.1) (b:P):∃c∈R,dot (X,Y) b<=dot c b*T:=by
 have K:=z03.sca i (zdC x);have Rn:=z0W x;have y:∀s∈z07 (R.map (Geo.sca T)),dot (X,Y) s.1<=dot s.2 s.1:=λs m=>by
  obtain⟨L,q,p,w⟩:=z5I i Rn m;obtain⟨J,I,E⟩:=zcg (z03.sca o t) (z03.sca n r) x q;have:∃e∈z07 h++z07 d,Al e.1 J.1:=by
   rcases wB.mp I with z | z
   .obtain⟨e,g,f,_⟩:=z5I o (z0W t) z;exact⟨e,vF _ g,f⟩
   .obtain⟨e,g,f,_⟩:=z5I n (z0W r) z;exact⟨e,vh _ g,f⟩
  obtain⟨e,g,f⟩:=this;obtain⟨a,A,c,j,le⟩:=C e g;have F:=((f.trans E).trans p).le le;have G:=p.le ((z4z x q).2 _ ⟨_,wf.mpr ⟨a,A,rfl⟩,_,wf.mpr ⟨c,j,rfl⟩,rfl⟩);have H:=wo G (wt i);rw[w];refine ju F ?_;simp only[dot,Geo.sca,Geo.pl] at H ⊢
  grind
 obtain⟨c,j,le⟩:=K.far (z7r (by simpa using Rn) y) b;obtain⟨u,l,rfl⟩:=wf.mp j;refine⟨u,l,?_⟩;simp only[Geo.sc,Geo.sca,dot] at le ⊢
 grind
def z3v:Fn:=Fn.mkN 3 7 (.seq (.own 3 (.op pLst []))
 (.seq (.for_ [] (.tp [4,5]) (.op pAdd [.op z26 [.v 0],.op z26 [.v 1]]) (.seq (.set 6 (.op pSub [.op z0R [.v 4,.v 2],.op z0b [.op pIx [.v 2,.c (.int 2)],.op z1Q [.v 0,.v 4]]]))
 (.app 3 (.op pTup [.v 4,.v 6,.op z0b [.op pIx [.v 2,.c (.int 2)],.op z1Q [.v 1,.v 4]]]))))
 (.ret (.v 3))))
def z0o:Fn:=Fn.mkN 1 3 (.seq (.set 1 (.c .non))
 (.seq (.for_ [] (.nm 2) (.v 0) (.ifs (.and (.op pGt [.op pIx [.v 2,.c (.int 1)],.c (.int 0)]) (.or (.op pIs [.v 1,.c .non]) (.op pGt [.op z0b [.op pIx [.v 2,.c (.int 1)],.op pIx [.v 1,.c (.int 2)]],.op z0b [.op pIx [.v 1,.c (.int 1)],.op pIx [.v 2,.c (.int 2)]]]))) (.set 1 (.v 2)) .skip))
 (.ret (.v 1))))
def z1G:Fn:=Fn.mkN 1 3 (.seq (.set 1 (.c .non))
 (.seq (.for_ [] (.nm 2) (.v 0) (.ifs (.and (.op pGt [.op pIx [.v 2,.c (.int 1)],.op pIx [.v 2,.c (.int 2)]]) (.or (.op pIs [.v 1,.c .non]) (.op pLt [.op z0b [.op pIx [.v 2,.c (.int 1)],.op pIx [.v 1,.c (.int 2)]],.op z0b [.op pIx [.v 1,.c (.int 1)],.op pIx [.v 2,.c (.int 2)]]]))) (.set 1 (.v 2)) .skip))
 (.ret (.v 1))))
def z2d:Fn:=Fn.mkN 1 6 (.seq (.for_ [] (.tp [1,2,3]) (.v 0) (.ifs (.and (.op pGt [.v 2,.c (.int 0)]) (.op pGt [.v 2,.v 3])) (.ret (.op pTup [.v 1])) .skip))
 (.seq (.set 4 (.op z0o [.v 0]))
 (.seq (.set 5 (.op z1G [.v 0]))
 (.seq (.ifs (.and (.op z75 [.v 5,.c .non]) (.op pLt [.op z0b [.op pIx [.v 4,.c (.int 1)],.op pIx [.v 5,.c (.int 2)]],.op z0b [.op pIx [.v 5,.c (.int 1)],.op pIx [.v 4,.c (.int 2)]]])) (.ret (.op pTup [.op pIx [.v 4,.c (.int 0)],.op pIx [.v 5,.c (.int 0)]])) .skip)
 (.ret (.c .non))))))
def z2l:Fn:=Fn.mkN 2 2 (.ret (.op z1u [.comp 1 [1] (.nm 0) (.v 0) none (.op pTup [.op z0b [.op pIx [.v 0,.c (.int 0)],.v 1],.op z0b [.op pIx [.v 0,.c (.int 1)],.v 1]])]))
def z2X:Fn:=Fn.mkN 2 2 (.ret (.op z1b [.op z0b [.op pIx [.v 0,.c (.int 0)],.op pIx [.v 1,.c (.int 0)]],.op z0b [.op pIx [.v 0,.c (.int 1)],.op pIx [.v 1,.c (.int 1)]]]))
def z1p:Fn:=Fn.mkN 4 9 (.seq (.set 4 (.op z2D [.op pIx [.v 0,.op pNeg [.c (.int 1)]]]))
 (.seq (.set 5 (.op z48 [.op z2l [.v 1,.op pIx [.v 2,.c (.int 1)]],.op z2l [.v 4,.op pIx [.v 2,.c (.int 0)]]]))
 (.seq (.set 6 (.op pIx [.op z3u [.v 5,.op z0B [.v 3,.op pTup [.op pIx [.v 2,.c (.int 1)],.c (.int 1)]]],.c (.int 1)]))
 (.seq (.own 7 (.comp 1 [5,6] (.nm 0) (.v 0) none (.op z1q [.op pIx [.v 0,.c (.int 0)],.v 1,.v 2])))
 (.seq (.popTo 8 7)
 (.seq (.app 7 (.op z1u [.comp 2 [2] (.tp [0,1]) (.v 8) none (.op pTup [.v 0,.op z2X [.v 1,.v 2]])]))
 (.ret (.op z1u [.v 7]))))))))
def z4U:Fn:=Fn.mkN 2 11 (.seq (.ifs (.op pEq [.v 1,.op pTup [.c (.int 0),.c (.int 0),.c (.int 1)]]) (.ret (.op pTup [.c (.str "at"),.op pTup [.c (.int 0),.c (.int 1)],.op pTup [],.op pTup []])) .skip)
 (.seq (.own 2 (.op pLst []))
 (.seq (.set 3 (.op pTup [.op pTup [.c (.int 0),.c (.int 0)]]))
 (.seq (.forr [.op pLen [.v 0]] (.nm 4) (.seq (.set 5 (.op z2D [.op pIx [.v 0,.v 4]]))
 (.seq (.setx [] 6 (.op z3v [.v 3,.v 5,.v 1]))
 (.seq (.set 7 (.op z2d [.v 6]))
 (.seq (.ifs (.op pIs [.v 7,.c .non]) (.seq (.set 8 (.op z0o [.v 6]))
 (.seq (.set 9 (.op z1b [.op pIx [.v 8,.c (.int 1)],.op pIx [.v 8,.c (.int 2)]]))
 (.seq (.set 10 (.op z1p [.sl (.v 0) none (some (.op pAdd [.v 4,.c (.int 1)])),.v 3,.v 9,.v 1]))
 (.ret (.op pTup [.c (.str "at"),.op z2p [.op pTup [.v 4,.c (.int 1)],.v 9],.v 10,.op pAdd [.op z1u [.v 2],.op pTup [.op pTup [.op pIx [.v 8,.c (.int 0)]]]]]))))) .skip)
 (.seq (.app 2 (.v 7))
 (.set 3 (.op z48 [.v 3,.v 5]))))))))
 (.ret (.op pTup [.c (.str "never"),.op z1u [.v 2]]))))))
def z0Z:Fn:=Fn.mkN 2 6 (.seq (.set 2 (.sl (.v 0) none (some (.op z00 [.v 1,.c (.int 81),.op pAdd [.op pLen [.v 0],.c (.int 1)]]))))
 (.seq (.ifs (.op pEq [.v 2,.op pTup []]) (.ret (.v 2)) .skip)
 (.seq (.set 3 (.op pAdd [.c (.int 1),.op z00 [.v 1,.c (.int 82),.c (.int 7)]]))
 (.seq (.set 4 (.op pTup [.op pAdd [.c (.int 1),.op z00 [.v 1,.c (.int 83),.v 3]],.v 3]))
 (.seq (.set 5 (.op z1u [.comp 2 [4] (.tp [0,1]) (.op pIx [.v 2,.op pNeg [.c (.int 1)]]) none (.op pTup [.v 0,.op z01 [.op pLst [.op z0b [.op pIx [.v 1,.c (.int 0)],.op pIx [.v 2,.c (.int 0)]],.op z0b [.op pIx [.v 1,.c (.int 1)],.op pIx [.v 2,.c (.int 1)]]]]])]))
 (.ret (.op pAdd [.sl (.v 2) none (some (.op pNeg [.c (.int 1)])),.op pTup [.v 5]])))))))
open Mth
def sup:List P->P->Int
 | [],_=>0
 | [p],b=>dot p b
 | p::q::r,b=>max (dot p b) (sup (q::r) b)
theorem z2z:∀{l:List P},l≠[]->most l b (sup l b)
 | [],h=>absurd rfl h
 | [p],_=>⟨by simp[sup],λq f=>by rw[wj.mp f];exact vO _⟩
 | p::q::r,_=>by
  obtain⟨d,e⟩:=z2z (l:=q::r) (by simp);show most _ _ (max _ _);refine⟨?_,λu a =>?_⟩
  .rcases Int.le_total _ _ with z | z
   .rw[Int.max_eq_right z];exact wq _ d
   .rw[Int.max_eq_left z];exact wF ..
  .rcases wn.mp a with rfl | a
   .exact Int.le_max_left _ _
   .exact ju (e u a) (Int.le_max_right _ _)
def zjL (f:Vb 30000000 b)(g:Wb 30000000 l)(a:l≠[])(h:l.length<=62)(q:Q (.int (sup l b))):z1Q.run [vecs l,vec b] Q X:=
 z70 f g a (szl' (by lia)) λm d e=>by rw[ziF ⟨d,e⟩ (z2z a)];exact q
abbrev Lm:=P × Int × Int
abbrev lmD (m:Lm):D :=.tup [vec m.1,.int m.2.1,.int m.2.2]
def lim (h d:List P)(x y t:Int)(s:P × P):Lm:=(s.1,dot (x,y) s.1 - t*sup h s.1,t*sup d s.1)
def lims (h d:List P)(x y t:Int):List Lm:=(z07 h++z07 d).map (lim h d x y t)
def zav (g:l≠[])(d:Wb n l)(a:Vb m b):Bt (n+m+1) (sup l b):=by
 obtain⟨p,f,e⟩:=wf.mp (z2z g).1;rw[<- e];exact Bt.le (Bt.add (Bt.mul (d p f).1 a.1) (Bt.mul (d p f).2 a.2)) (by lia)
def zck (o:h≠[])(d:Wb (n+1) h)(g:s∈z07 h):Vb (n+2) s.1:=by
 have one:∀b∈ways,Vb (n+2) b:=λb d=>by
  simp only[ways,wn,wA,vA] at d
  rcases d with rfl | rfl | rfl | rfl <;> exact⟨Bt.le (m:=1) (z04 (by decide)) (by lia),Bt.le (m:=1) (z04 (by decide)) (by lia)⟩
 by_cases l:h.length=1
 .unfold z07 at g;rw[if_pos l] at g;obtain⟨b,i,rfl⟩:=wf.mp g;exact one b i
 .obtain⟨j,p,a⟩:=z3b l g;have e:=cyb o d (j+h.length - 1);have f:=cyb o d j;unfold z0s at a
  rcases wn.mp a with rfl | a
  .exact⟨Bt.le (Bt.sub f.2 e.2) (by lia),Bt.le (Bt.sub f.1 e.1).neg (by lia)⟩
  .split at a
   .rw[wj] at a;subst a;exact⟨Bt.le (Bt.sub f.1 e.1) (by lia),Bt.le (Bt.sub f.2 e.2) (by lia)⟩
   .simp at a
def zjO {x y t:Int}(e:Vb n b)(f:n<=3000)(pc:Pc x y t)(q:Q (.int (dot (x,y) b))):z0R.run [vec b,pcD x y t] Q X:=by
 have g  := Bt.le e.1 f;have i  := Bt.le e.2 f;have j:=pc.bx;have m:=pc.bY;walk_at "fn";ac_nf;rw[show b.1*x+b.2*y=dot (x,y) b by simp[dot];grind];exact q
structure Twh (h d:List P):Prop where
 xh:z03 (· ∈ h) h
 xd:z03 (· ∈ d) d
 bh:Wb 165 h
 bd:Wb 165 d
 zh:h.length<=62
 zd:d.length<=62
def Twh.vb (T:Twh h d)(a:s∈z07 h++z07 d):Vb 166 s.1:=by
 rcases wB.mp a with z | z
 .exact zck (z0W T.xh) T.bh z
 .exact zck (z0W T.xd) T.bd z
def z9O {x y t:Int}(T:Twh h d)(pc:Pc x y t)(q:Q (.lst ((lims h d x y t).map lmD))):z3v.run [vecs h,vecs d,pcD x y t] Q X:=by
 have n1:=z0W T.xh;have g:=z0W T.xd;have z:Wb 10000000 h:=T.bh.le;have C:Wb 10000000 d:=T.bd.le;have K:=T.zh;have L:=T.zd;have R:=z64 h;have U:=z64 d;have M:=pc.bt;walk_at "fn";ac_nf;refine z1v (λx J=>by cases J) ?_;ac_rfl;ac_nf;refine z56 (.inl rfl) z n1 (by lia) λb i =>?_;obtain rfl:b=h:=(i.is n1).unique T.xh;ac_nf;refine z56 (.inl rfl) C g (by lia) λd' i =>?_;obtain rfl:d'=d:=(i.is g).unique T.xd;refine z3A (by rw[we,we];exact uL (szl' (by lia))) ?_;rw[<- wD];ac_nf;refine z0i (f:=zer) (λw u=>Ee3 λ(j m p)=>u=[.s (vecs b),.s (vecs d'),.s (pcD x y t),.o (.lst ((w.map (lim b d' x y t)).map lmD)),j,m,p]) ⟨_,_,_,rfl⟩ ?_ ?_
 .rintro w s r u e ⟨j,m,p,rfl⟩;have I:s∈z07 b++z07 d':=by rw[e];simp
  have vb:=T.vb I;have N:Bt 400 (sup b s.1):=Bt.le (zav n1 T.bh vb);have O:Bt 400 (sup d' s.1):=Bt.le (zav g T.bd vb);have le:=congrArg List.length e;rw[wG,wG,vg] at le;refine⟨rfl,?_⟩;show Sm.run _ _ _ _ _;unfold z09 z09 z09;ac_rfl;ac_nf;refine zjO vb (by decide) pc ?_;ac_nf;refine zjL vb.le T.bh.le n1 K ?_;ac_nf;refine z3C (l:=[]) (z0k rfl ?_);ac_nf;refine zjL vb.le T.bd.le g L ?_;ac_nf;refine⟨by rw[we,we];exact szl' (by lia),Safe.of_noL rfl rfl _,?_⟩;ac_rfl;exact⟨_,_,_,by rw[wD,wD];rfl⟩
 rintro u ⟨j,m,p,rfl⟩;ac_nf;exact q
abbrev Rr (a f:Lm):Prop:=a.2.1*f.2.2<=f.2.1*a.2.2
def Rr.tr {a b c:Lm}(h:Rr a b)(k:Rr b c)(s:(0<a.2.2/\0<b.2.2/\0<c.2.2)\/(a.2.2<0/\b.2.2<0/\c.2.2<0)):Rr a c:=by
 rcases s with ⟨d,f,e⟩ | ⟨d,f,e⟩
 .have g:=wo h (wt e);have i:=wo k (wt d);exact uK (by grind) f
 .have g:=vE h (wt e);have i:=vE k (wt d);exact uK (a := - b.2.2) (by grind) (by lia)
def zjK {ls:List Lm}(bt:∀m∈ls,Bt 1400 m.2.1/\Bt 1400 m.2.2)(o:∀m∈ls,0<m.2.1->0<m.2.2)(R:(∀m∈ls,m.2.1<=0)->Q .non)
  (U:∀f∈ls,0<f.2.1->(∀m∈ls,0<m.2.1->Rr m f)->Q (lmD f)):z0o.run [.lst (ls.map lmD)] Q X:=by
 walk_at "fn";ac_nf;refine z0i (f:=lmD) (λq K=>Ee2 λ(w J)=>((w = .s .non/\∀m∈q,m.2.1<=0)\/∃f∈q,w = .s (lmD f)/\0<f.2.1/\∀m∈q,0<m.2.1->Rr m f)/\K=[.s (.lst (ls.map lmD)),w,J]) ⟨_,_,.inl ⟨rfl,λm x=>by cases x⟩,rfl⟩ ?_ ?_
 .rintro q m r K e ⟨w,J,I,rfl⟩;have x:m∈ls:=by rw[e];simp
  have sub:∀{k},k∈q->k∈ls:=λg=>by rw[e];simp[g]
  obtain⟨N,O⟩:=bt m x;show Sm.run _ _ _ _ _
  rcases I with ⟨rfl,y⟩ | ⟨f,p,rfl,u,b⟩
  .ac_rfl;ac_nf;refine z0r (λj =>?_) (λj =>?_)
   .ac_nf;refine z8k rfl ?_;ac_nf;refine⟨_,_,.inr ⟨m,by simp,rfl,j,λk g i =>?_⟩,rfl⟩
    rcases wB.mp g with z | z
    .have:=y k z;lia
    .rw[wj.mp z];exact vO _
   .ac_nf;refine⟨_,_,.inl ⟨rfl,λk g =>?_⟩,rfl⟩
    rcases wB.mp g with z | z
    .exact y k z
    .rw[wj.mp z];lia
  .obtain⟨L,M⟩:=bt f (sub p);ac_rfl;ac_nf;refine z0r (λj =>?_) (λj =>?_)
   .ac_nf;refine z9I rfl ?_;ac_nf;refine z0r (λC =>?_) (λC =>?_)
    .ac_nf;refine⟨_,_,.inr ⟨m,by simp,rfl,j,λk g i =>?_⟩,rfl⟩
     rcases wB.mp g with z | z
     .exact(b k z i).tr (wt C) (.inl ⟨o k (sub z) i,o f (sub p) u,o m x j⟩)
     .rw[wj.mp z];exact vO _
    .ac_nf;refine⟨_,_,.inr ⟨f,by simp[p],rfl,u,λk g i =>?_⟩,rfl⟩
     rcases wB.mp g with z | z
     .exact b k z i
     .rw[wj.mp z];exact jR.mp C
   .ac_nf;refine⟨_,_,.inr ⟨f,by simp[p],rfl,u,λk g i =>?_⟩,rfl⟩
    rcases wB.mp g with z | z
    .exact b k z i
    .rw[wj.mp z] at i;exact absurd i j
 rintro K ⟨w,J,I,rfl⟩
 rcases I with ⟨rfl,y⟩ | ⟨f,p,rfl,u,b⟩
 .ac_nf;exact R y
 .ac_nf;exact U f p u b
def zmM {ls:List Lm}(bt:∀m∈ls,Bt 1400 m.2.1/\Bt 1400 m.2.2)(o:∀m∈ls,m.2.2<m.2.1->m.2.2<0)(R:(∀m∈ls,m.2.1<=m.2.2)->Q .non)
  (U:∀f∈ls,f.2.2<f.2.1->(∀m∈ls,m.2.2<m.2.1->Rr f m)->Q (lmD f)):z1G.run [.lst (ls.map lmD)] Q X:=by
 walk_at "fn";ac_nf;refine z0i (f:=lmD) (λq K=>Ee2 λ(w J)=>((w = .s .non/\∀m∈q,m.2.1<=m.2.2)\/∃f∈q,w = .s (lmD f)/\f.2.2<f.2.1/\∀m∈q,m.2.2<m.2.1->Rr f m)/\K=[.s (.lst (ls.map lmD)),w,J]) ⟨_,_,.inl ⟨rfl,λm x=>by cases x⟩,rfl⟩ ?_ ?_
 .rintro q m r K e ⟨w,J,I,rfl⟩;have x:m∈ls:=by rw[e];simp
  have sub:∀{k},k∈q->k∈ls:=λg=>by rw[e];simp[g]
  obtain⟨N,O⟩:=bt m x;show Sm.run _ _ _ _ _
  rcases I with ⟨rfl,y⟩ | ⟨f,p,rfl,u,b⟩
  .ac_rfl;ac_nf;refine z0r (λj =>?_) (λj =>?_)
   .ac_nf;refine z8k rfl ?_;ac_nf;refine⟨_,_,.inr ⟨m,by simp,rfl,j,λk g i =>?_⟩,rfl⟩
    rcases wB.mp g with z | z
    .have:=y k z;lia
    .rw[wj.mp z];exact vO _
   .ac_nf;refine⟨_,_,.inl ⟨rfl,λk g =>?_⟩,rfl⟩
    rcases wB.mp g with z | z
    .exact y k z
    .rw[wj.mp z];lia
  .obtain⟨L,M⟩:=bt f (sub p);ac_rfl;ac_nf;refine z0r (λj =>?_) (λj =>?_)
   .ac_nf;refine z9I rfl ?_;ac_nf;refine z0r (λC =>?_) (λC =>?_)
    .ac_nf;refine⟨_,_,.inr ⟨m,by simp,rfl,j,λk g i =>?_⟩,rfl⟩
     rcases wB.mp g with z | z
     .exact Rr.tr (wt C) (b k z i) (.inr ⟨o m x j,o f (sub p) u,o k (sub z) i⟩)
     .rw[wj.mp z];exact vO _
    .ac_nf;refine⟨_,_,.inr ⟨f,by simp[p],rfl,u,λk g i =>?_⟩,rfl⟩
     rcases wB.mp g with z | z
     .exact b k z i
     .rw[wj.mp z];exact jR.mp C
   .ac_nf;refine⟨_,_,.inr ⟨f,by simp[p],rfl,u,λk g i =>?_⟩,rfl⟩
    rcases wB.mp g with z | z
    .exact b k z i
    .rw[wj.mp z] at i;exact absurd i j
 rintro K ⟨w,J,I,rfl⟩
 rcases I with ⟨rfl,y⟩ | ⟨f,p,rfl,u,b⟩
 .ac_nf;exact R y
 .ac_nf;exact U f p u b
def Fits (p q:Int)(ls:List Lm):Prop:=∀m∈ls,m.2.1*q<=p*m.2.2
def z9f {f l:Lm}(n:∀m∈ls,0<m.2.1->m.2.1<=m.2.2)(i:0<f.2.1)(j:f.2.1<=f.2.2)(a:∀m∈ls,0<m.2.1->Rr m f)(last:∀m∈ls,m.2.2<m.2.1->m.2.2<0/\Rr m f):Fits f.2.1 f.2.2 ls:=λm e=>by
 by_cases c:0<m.2.1
 .exact a m e c
 by_cases g:m.2.2<m.2.1
 .exact(last m e g).2
 by_cases h:0<=m.2.2
 .have b:=wR (wt i) h;have d:=wo (jR.mp c) (show 0<=f.2.2 by lia);rw[jf] at d;exact ju d b
 .have b:=wo (show m.2.1<=m.2.2 by lia) (show 0<=f.2.2 by lia);have d:=vE j (show m.2.2<=0 by lia);rw[wT m.2.2] at b;exact ju b d
def ziC (f:m∈ls)(b:0<m.2.1)(d:m.2.2<m.2.1)(p q:Int)(i:0<=p)(j:p<=q)(a:0<q):¬ Fits p q ls:=λh=>by
 have k:=h m f;have e:=wS b a
 by_cases c:0<=m.2.2
 .have g:=wo j c;have l:=jb d a
  grind
 .have g:=wL (show m.2.2<=0 by lia) i
  grind
def ziB (b:f∈ls)(d:l∈ls)(a:0<f.2.2)(e:l.2.2<0)(h:f.2.1*l.2.2<l.2.1*f.2.2)(p q:Int)(g:0<q):¬ Fits p q ls:=λk=>by
 have i:=vE (k f b) (wt e);have j:=wo (k l d) (wt a);have m:=jb h g
 grind
def z5u (b:Wb 165 l)(o:l.length<=62)(f:Bt 1000 m)(q:Q (vecs (l.map (Geo.sca m)))):z2l.run [vecs l,.int m] Q X:=by
 walk_at "fn";refine⟨by rw[we];exact szl' (by lia),?_⟩;refine z1e (g:=λp=>vec (Geo.sca m p)) (λp e K k =>?_) ?_
 .obtain⟨i,j⟩:=b p e;ac_nf;exact k
 rw[show l.map _=(l.map _).map vec by rw[wN];rfl];exact q
theorem zmf:∀l:List P,l.length<=(df l).length+1
 | []=>by simp
 | [_]=>by simp
 | a::b::r=>by
  have:=zmf (b::r);simp[df,vg] at*;lia
def zgw (h:List P)(m:Int):(Geo.rd (h.map (Geo.sca m))).length<=(Geo.rd h).length:=by
 by_cases c:h.length=1
 .exact zeI λz=>absurd (by simp_all) z
 .refine zeI λ_ =>?_;rw[we];unfold Geo.rd;rw[if_neg c];have:=zmf (h++h.take 1)
  grind
structure Pd (x y t:Int)(n:Nat:=300):Prop where
 pc:Pc x y t
 bx:Bt n x
 bY:Bt n y
 bt:Bt 100 t
def Pd.up {x y t:Int}(h:Pd x y t 290):Pd x y t:=⟨h.pc,h.bx.le,h.bY.le,h.bt⟩
def zfP {x y t p r:Int}(m:h≠[])(l:d≠[])(f:Fits p r (lims h d x y t)):∀s∈z07 h++z07 d,∃a∈h,∃c∈d,dot (x*r,y*r) s.1<=dot (Geo.sca t (Geo.pl (Geo.sca r a) (Geo.sca p c))) s.1:=λs j=>by
 obtain⟨a,g,b⟩:=wf.mp (z2z m).1;obtain⟨c,i,e⟩:=wf.mp (z2z l).1;refine⟨a,g,c,i,?_⟩;have k:=f _ (wf.mpr ⟨s,j,rfl⟩);simp[lim] at k;rw[<- b, <- e] at k;simp only[dot,Geo.sca,Geo.pl] at k ⊢
 grind
def z54 (x:z03 S h)(b:P):Geo.Far S b (sup h b):=by
 obtain⟨a,d⟩:=z2z (z0W x);obtain⟨c,f,e⟩:=wf.mp a;refine⟨λp g =>?_,c,x.sub c f,e⟩;obtain⟨u,i,le⟩:=x.far (x.in g) b;exact ju le (d u i)
def z7d (h:Geo.Far S b F)(k:Geo.Far S b G):F=G:=by
 obtain⟨g,u,e,a⟩:=h;obtain⟨i,v,f,d⟩:=k;exact Int.le_antisymm (by rw[<- a];exact i u e) (by rw[<- d];exact g v f)
def Rw (a d:P->Prop)(x y t p r:Int):Prop:=∀b F G,Geo.Far a b F->Geo.Far d b G->r*dot (x,y) b<=t*(r*F+p*G)
def zfk {x y t:Int}(m:z03 (· ∈ h) h)(f:0<t)(E:t*sup h b<dot (x,y) b):∃s∈z07 h,t*sup h s.1<dot (x,y) s.1:=by
 by_cases c:∃s∈z07 h,t*sup h s.1<dot (x,y) s.1
 .exact c
 exfalso
 have d:=z0W m;have far:∀s∈z07 h,dot (x,y) s.1<=dot (Geo.sca t s.2) s.1:=λs a=>by
  have p:¬ t*sup h s.1<dot (x,y) s.1:=λz=>c ⟨s,a,z⟩;obtain⟨F,r⟩:=z4z m a;obtain⟨u,j,e⟩:=wf.mp (z2z (b:=s.1) d).1;have n:=wL (r u j) (wt f);rw[e] at n;have C:dot (Geo.sca t s.2) s.1=t*dot s.2 s.1:=by simp only[dot,Geo.sca];grind
  omega
 have w:=z03.sca f m;have l:In (h.map (Geo.sca t)) (x,y):=z7r (by simpa using d) λs a=>by
  obtain⟨q,i,o,e⟩:=z5I f d a;rw[e];exact o.le (far q i)
 obtain⟨A,g,le⟩:=w.far l b;obtain⟨u,j,rfl⟩:=wf.mp g;have p:=wL ((z2z (b:=b) d).2 u j) (wt f);have n:dot (Geo.sca t u) b=t*dot u b:=by simp only[dot,Geo.sca];grind
 have le:dot (x,y) b<=dot (Geo.sca t u) b:=le;omega
def zfQ {ws:List (List P × P)}{k:Nat}{b:P}{F G:Int}(l:ws[k]? = some w)(g:Geo.Far (MS (ws.take k)) b F)(h:Geo.Far (· ∈ tr w) b G):Geo.Far (MS (ws.take (k+1))) b (F+G):=by
 rw[jU,l];show Geo.Far (Ms ((ws.take k++[w]).map tr)) b (F+G);rw[wD];have e:∀u v:P,Geo.sc (Geo.pl u v) b=Geo.sc u b+Geo.sc v b:=λu v=>by simp only[Geo.sc,Geo.pl];grind
 obtain⟨q,a,i,d⟩:=g;obtain⟨r,c,j,f⟩:=h;refine⟨λp m =>?_,Geo.pl a c,z7R.mpr ⟨a,i,c,j,rfl⟩,by rw[e,d,f]⟩;obtain⟨u,n,v,o,rfl⟩:=z7R.mp m;have:=q u n;have:=r v o;rw[e];lia
def zjI (m:0<g)(o:g<=n)(b:Bt 432 n)(q:∀p r,0<p->p<=r->Int.gcd p r=1->(∃c,0<c/\g=p*c/\n=r*c)->Bt 434 p->Bt 434 r->Q (.tup [.int p,.int r])):z1b.run [.int g,.int n] Q X:=by
 have l:0<n:=by lia
 refine z5J l b.le ?_;obtain⟨d,i,j,_,e⟩:=z3x (t:=g) l;have f:g / ((Int.gcd g n:Nat))*((Int.gcd g n:Nat))=g:=by rw[wT];exact i.symm
 have h:n / ((Int.gcd g n:Nat))*((Int.gcd g n:Nat))=n:=by rw[wT];exact j.symm
 clear i j;generalize g / ((Int.gcd g n:Nat))=p at*;generalize n / ((Int.gcd g n:Nat))=r at*;generalize ((Int.gcd g n):Int)=c at*;have s:0<p:=zcO (a:=c) (by rw[wT,f];exact m) d;have u:p<=r:=wZ (by rw[f,h];exact o) d;have w:r<=n:=by
  have:=wL (show 1<=c by omega) (show 0<=r by omega);omega
 exact q p r s u e ⟨c,d,f.symm,h.symm⟩ (Bt.le (b.of_abs (by omega))) (Bt.le (b.of_abs (by omega)))
def Fits.low (h:Fits g n ls)(c:∃c,0<c/\g=p*c/\n=r*c):Fits p r ls:=λm e=>by
 obtain⟨c,a,b,d⟩:=c;have:=h m e;rw[b,d] at this;exact wZ (by grind) a
abbrev atD (u v:Int)(ds es:List D):D :=.tup [.str (Str.ofString "at"),.tup [.int u,.int v],.tup ds,.tup es]
abbrev nvD (es:List D):D :=.tup [.str (Str.ofString "never"),.tup es]
structure CrsS (W:Int)(ws:List (List P × P))(co:List (List Sh)):Prop where
 len:co.length<=ws.length
 ok:∀p∈ws.zip co,p.2.length<=14/\∀s∈p.2,Sw W p.1.1.length s
def z5H {k n:Nat}(h:∀x∈ws,Wt4 x)(j:ws.length<=12)(g:0<W)(b:Bt k W)(f:CrsS W ws co):Bt (k+180) (((ws.zip co).take n).map (cX W)).sum/\Bt (k+180) (((ws.zip co).take n).map (cY W)).sum:=by
 have i:((ws.zip co).take n).length<=12:=by grind
 have e:∀p∈(ws.zip co).take n,Bt (k+160) (cX W p)/\Bt (k+160) (cY W p):=λp a=>by
  have a:=vB a;exact zo6 g b (h _ (u7 a).1) (f.ok p a).1 (f.ok p a).2
 constructor
 .refine Bt.le (z6g (m:=k+160) λx d =>?_) (by rw[we];lia);obtain⟨p,a,rfl⟩:=wf.mp d;exact(e p a).1
 .refine Bt.le (z6g (m:=k+160) λx d =>?_) (by rw[we];lia);obtain⟨p,a,rfl⟩:=wf.mp d;exact(e p a).2
def zkJ (h:s.2.2 ∣ W):pt (W*m) s=pt W s*m:=by
 unfold pt;rw[wT W m,Int.mul_ediv_assoc _ h]
 grind
theorem z5q:∀{l:List Sh},(∀s∈l,s.2.2 ∣ W)->sw w (W*m) l=sw w W l*m
 | [],_=>by simp[sw]
 | s::l,h=>by
  have b:=z5q (w:=w) (m:=m) (l:=l) λs a=>h s (by simp[a]);unfold sw at*;rw[wE,wP,wE,wP,b,zkJ (h s (by simp))]
  grind
theorem z7c {f:Nat->Int}{g:Nat->Bool}:∀{l:List Nat},(∀k∈l,g k=false->f k=0)->((l.filter g).map f).sum=(l.map f).sum
 | [],_=>rfl
 | a::l,h=>by
  have d:=z7c (l:=l) λk b=>h k (by simp[b])
  cases c:g a with
  | true=>simp_all
  | false=>simp_all
def zjA {ts:List Int}(d:∀t∈ts,0<=t)(j:0<ts.sum):sw (λ_=>1) ts.sum (wsh ts)=ts.sum:=by
 unfold sw wsh;rw[wN];have e:∀l:List Nat,l.map ((λs:Sh=>1*pt ts.sum s) ∘ λk=>(k,ts.getD k 0 / (Int.gcd (ts.getD k 0) ts.sum),ts.sum / (Int.gcd (ts.getD k 0) ts.sum)))=l.map λk=>ts.getD k 0:=λl=>ur λk _=>by
  obtain⟨n,a,b,m,_⟩:=z3x (t:=ts.getD k 0) j;simp only[Function.comp,pt,Int.one_mul];generalize (Int.gcd (ts.getD k 0) ts.sum)=g at*;have:ts.sum / (ts.sum / g)=g:=by
   generalize ts.sum / g=q at*;rw[b];exact Int.mul_ediv_cancel _ (by omega)
  rw[this,wT];exact a.symm
 rw[e,z7c λk h z =>?_]
 .congr 1
  refine List.ext_getElem (by simp) λi o f =>?_;simp[ue,f]
 .have:=d _ (z7Y (ub.mp h));have z:=of_decide_eq_false z;omega
def z8x {c:Int}(hw:∀x∈ws,Wt4 x)(hz:ws.length<=12)(q:∀co W,0<W->Bt 85 W->CrsS W ws co->co.length=ws.length->(∀p∈ws.zip co,(p.2.length<=12/\∀s∈p.2,s.2.1<=s.2.2)/\sw (λ_=>1) W p.2=W)->Q (.tup (co.map shsD))):z0w.run [.tup (ws.map wtD),.int c] Q X:=by
 walk_at "fn";ac_nf;refine z1v (λx hx=>by cases hx) ?_;ac_rfl;ac_nf;rw[we];refine zaD (by lia) (by lia) ?_;rw[show (ws.length:Int).toNat=ws.length by simp];refine z0i (f:=λ(j:Nat)=>D.int j) (λJ ρ=>Ee4 λco (x3 x4 x5:B)=>co.length=J.length/\(∃W,0<W/\Bt (1+7*J.length) W/\∀p∈ws.zip co,(sw (λ_=>1) W p.2=W/\p.2.length<=12)/\∀s∈p.2,Sw W p.1.1.length s/\s.2.1<=s.2.2)/\ρ=[.s (.tup (ws.map wtD)),.s (.int c),.o (.lst (co.map shsD)),x3,x4,x5]) ⟨[],_,_,_,rfl,⟨1,by decide,z04 (by decide),λp C=>by(simp at C)⟩,rfl⟩ ?_ ?_
 .rintro J k r ρ e ⟨co,x3,x4,x5,M,⟨W,W0,U,u⟩,rfl⟩;have hk:k=J.length/\k<ws.length:=by
   have h4:=congrArg List.length e;have h5:(List.range ws.length)[J.length]? = some k:=by rw[e];simp
   rw[List.getElem?_range (by simp at h4;lia)] at h5;simp at h4 h5;lia
  obtain⟨x,hx,ex⟩:=z5y (xs:=ws) (i:=k) (by lia) (by lia);obtain⟨wb,ne,len,vb⟩:=hw x hx;have C:=w9.mpr ne;show Sm.run _ _ _ _ _;ac_rfl;ac_nf;refine z0H (by decide) (by decide) (by decide) λr0 a3 a4 =>?_;ac_nf;refine menu (ns:=[1,6,60]) a3 (by show r0<3;exact a4) λm hm =>?_;have a1:0<m/\m<=60:=by
   simp only[wn,wA,vA] at hm;lia
  clear hm;refine z0H (by lia) (by lia) a1.1 λb b0 b1 =>?_;ac_nf;ac_rfl;ac_nf;refine z0V (z0x ex) ?_;ac_nf;rw[we];refine zhz C (by lia) (by lia) (by lia) λts h1 Y L =>?_;ac_rfl;refine zjP (λa5=>Ee2 λ(ts:List Int) m=>Aa6 (ts.length=x.1.length) (∀t∈ts,0<=t) (ts.sum=m) (0<m) (m<=60) (a5=[.s (.tup (ws.map wtD)),.s (.int c),.o (.lst (co.map shsD)),.s (.int k),.s (.int m),.s (.lst (ts.map .int))])) ?_ ?_
  .ac_nf;refine z0H (by decide) (by decide) (by decide) λr1 a6 a7 =>?_;ac_nf;refine z0r (λ_ =>?_) (λ_ =>?_)
   .ac_nf;ac_rfl;ac_nf;refine z0V (z0x ex) ?_;ac_nf;rw[we];refine z7Q (by lia) (by lia) ?_;rw[show ((x.1.length:Nat):Int).toNat=x.1.length by simp];ac_nf;refine⟨by rw[we,ux];exact szl (by lia),?_⟩;refine z4Y (f:=λ(j:Nat)=>D.int (j:Int)) (g:=D.int) (P:=λ_ y=>1<=y/\y<=5) (λj hj K hK =>?_) λZ I O =>?_
    .have:=ub.mp hj;ac_nf;refine z0H (by lia) (by lia) (by decide) λv v0 v1 =>?_;ac_nf;exact hK _ ⟨by lia,by lia⟩
    ac_rfl;ac_nf;refine zlB ?_;have R:∀y∈Z,1<=y/\y<=5:=λy a2=>(O y a2).choose_spec.2;have I:Z.length=x.1.length:=by rw[I,ux]
    have bd:∀l:List Int,(∀y∈l,1<=y/\y<=5)->(l.length:Int)<=l.sum/\l.sum<=5*(l.length:Int):=λl=>by
     induction l with
     | nil=>intro _;simp
     | cons a l ih=>
      intro h;have:=ih λy O=>h y (by simp[O]);have:=h a (by simp);rw[wP,vg];lia
    have:=bd Z R;ac_nf;exact⟨Z,_,I,λy O=>by have:=R y O;lia,rfl,by lia,by lia,rfl⟩
   .ac_nf;exact⟨ts,_,h1,Y,L,by lia,by lia,rfl⟩
  rintro ρ ⟨ts,m,h1,Y,L,m0,m1,rfl⟩;refine z3C (l:=[]) (z0k rfl ?_);refine zg0 rfl rfl rfl rfl (by lia) L m0 (by lia) ?_;refine⟨by rw[we];exact szl' (by lia),Safe.of_noL (z76 _) (z77 _) _,?_⟩;ac_rfl;refine⟨co++[wsh ts],_,_,_,by simp[M],⟨W*m,wS W0 m0,Bt.le (Bt.mul U (z04 (n:=6) (by lia))) (by simp;lia),λp N =>?_⟩,by rw[wD];rfl⟩;have ok:=zjd Y (by lia);rw[h1,L] at ok;have a0:ws[co.length]? = some x:=by
   unfold atI at ex;rw[z6l (by lia) (by lia)] at ex;have ex:ws[((k:Nat):Int).toNat]? = some x:=ex;rw[show (k:Int).toNat=co.length by lia] at ex;exact ex
  rw[z4m a0] at N
  rcases wB.mp N with z | z
  .exact⟨⟨by rw[z5q λs w=>((u p z).2 s w).1.dv,(u p z).1.1],(u p z).1.2⟩,λs w=>⟨((u p z).2 s w).1.mul,((u p z).2 s w).2⟩⟩
  .rw[wj.mp z];refine⟨⟨by show sw (λ_=>1) (W*m) (wsh ts)=W*m;rw[wT W m,z5q λs w=>(ok.2 s w).1.dv, <- L,zjA Y (by lia)],by have:=ok.1.2;show (wsh ts).length<=12;lia⟩,λs w=>⟨?_,(ok.2 s w).2⟩⟩;rw[wT];exact(ok.2 s w).1.mul
 rintro ρ ⟨co,x3,x4,x5,M,⟨W,W0,U,u⟩,rfl⟩;ac_nf;rw[ux] at M U;exact q co W W0 (U.le (by lia)) ⟨Nat.le_of_eq M,λp C=>⟨by have:=(u p C).1.2;lia,λs w=>((u p C).2 s w).1⟩⟩ M λp C=>⟨⟨(u p C).1.2,λs w=>((u p C).2 s w).2⟩,(u p C).1.1⟩
def zhe {f g:Type}{l:List f}{m:List g}(h:m.length<=l.length){a:List Nat}{k:Nat}{r:List Nat}(e:List.range m.length=a++k::r):∃x y,k=a.length/\atI l k=some x/\atI m k=some y/\(l.zip m)[k]? = some (x,y):=by
 have b:=congrArg List.length e;have d:(List.range m.length)[a.length]? = some k:=by rw[e];simp
 rw[List.getElem?_range (by simp at b;lia)] at d;simp at b d;have i:k<m.length:=by lia
 refine⟨l[k],m[k],by lia,?_,?_,?_⟩
 .unfold atI;rw[z6l (by lia) (by lia)]
  simp_all
 .unfold atI;rw[z6l (by lia) (by lia)]
  simp_all
 .rw[wm (by grind),uX]
def zgm {W:Int}(hw:∀x∈ws,Wt4 x)(hz:ws.length<=12)(U:0<W)(L:Bt 1900 W)(hc:CrsS W ws co)(q:∀u v t,Pl ((ws.zip co).map (cX W)).sum ((ws.zip co).map (cY W)).sum W u v t->Q (.tup [.int u,.int v,.int t])):z10.run [.tup (ws.map wtD),.tup (co.map shsD)] Q X:=by
 have hl:=hc.len;have a3:(ws.zip co).length=co.length:=by rw[uk];lia
 have zero:Pl 0 0 W 0 0 1:=⟨by decide,by decide,by simp,by simp⟩
 walk_at "fn";ac_nf;rw[we];refine zaD (by lia) (by lia) ?_;rw[show (co.length:Int).toNat=co.length by simp];refine z0i (f:=λ(j:Nat)=>D.int j) (λI ρ=>Ee7 λ(u v t) (x3 x4 Z x6)=>Aa2 (Pl (((ws.zip co).take I.length).map (cX W)).sum (((ws.zip co).take I.length).map (cY W)).sum W u v t) (ρ=[.s (.tup (ws.map wtD)),.s (.tup (co.map shsD)),.s (.tup [.int u,.int v,.int t]),x3,x4,Z,x6])) ⟨0,0,1,_,_,_,_,zero,rfl⟩ ?_ ?_
 .rintro I k r ρ e ⟨u,v,t,x3,x4,Z,x6,g,rfl⟩;obtain⟨x,sh,ek,e1,e2,e3⟩:=zhe hl e;have hm:=wz e3;have y:Wt4 x:=hw x (u7 hm).1;obtain⟨J,hs⟩:=hc.ok _ hm;dsimp only at J hs;obtain⟨bA,bB⟩:=z5H (n:=I.length) hw hz U L hc;have nx:(ws.zip co).take (I++[k]).length=(ws.zip co).take I.length++[(x,sh)]:=by rw[wG,vK,jU, <- ek,e3];rfl
  rw[nx,wD,ul,wD,ul];generalize (((ws.zip co).take I.length).map (cX W)).sum=A at g bA ⊢;generalize (((ws.zip co).take I.length).map (cY W)).sum=C at g bB ⊢;have bits:∀l:List Sh,(∀s∈l,s∈sh)->l.length<=14->∀{u v t a b:Int},Pl (A+sw (wx x.1) W l) (C+sw (wy x.1) W l) W u v t->Pl (sw (λ_=>1) W l) 0 W a 0 b->Aa5 (Bt 1900 t) (Bt 2100 u) (Bt 2100 v) (Bt 1900 b) (Bt 1920 a):=λl hl R {u v t a b} h1 h2=>by
   have Y:∀s∈l,Sw W x.1.length s:=λs h=>hs s (hl s h);obtain⟨c1,c2,c3⟩:=h1.bt (n:=1900) (m:=2100) U L (Bt.le (Bt.add bA (z4w R U L Y λi=>(cyb y.ne y.wb i).1))) (Bt.le (Bt.add bB (z4w R U L Y λi=>(cyb y.ne y.wb i).2)));obtain⟨c4,c5,_⟩:=h2.bt (n:=1900) (m:=1920) U L (Bt.le (z4w (w:=λ_=>1) (m:=1) R U L Y λ_=>z7f)) (Bt.le (m:=0) (z04 (by decide)));exact⟨c1,c2,c3,c4,c5⟩
  show Sm.run _ _ _ _ _;ac_rfl;ac_nf;refine z0V (z0x e2) ?_;ac_nf;refine z0i (f:=shD) (λo ρ=>Ee7 λ(u v t a b) (Z x6)=>Aa3 (Pl (A+sw (wx x.1) W o) (C+sw (wy x.1) W o) W u v t) (Pl (sw (λ_=>1) W o) 0 W a 0 b) (ρ=[.s (.tup (ws.map wtD)),.s (.tup (co.map shsD)),.s (.tup [.int u,.int v,.int t]),.s (.int k),.s (.tup [.int a,.int b]),Z,x6])) ⟨u,v,t,0,1,_,_,by simpa[sw] using g,zero,rfl⟩ ?_ ?_
  .rintro o s r' ρ e' ⟨u,v,t,a,b,Z,x6,g,K,rfl⟩;have p:=hs s (by rw[e'];simp);have z:=p.bot;obtain⟨a0,a1⟩:=p.bits U L;have a2:o.length<=14:=by have:=congrArg List.length e';simp at this;lia
   obtain⟨O,bu,bv,N,M⟩:=bits o (λs h=>by rw[e'];simp[h]) a2 g K;refine⟨rfl,?_⟩;show Sm.run _ _ _ _ _;unfold z09 z09 z09;ac_rfl;ac_nf;refine z0V (z0x e1) ?_;ac_nf;refine z0V (z0x (z9l p.ix)) ?_;ac_nf;refine zcy g.pos z bu.le bv.le O.le a0.le a1.le ⟨(cyb y.ne y.wb s.1).1.le,(cyb y.ne y.wb s.1).2.le⟩ λu' v' t' h' =>?_;refine z0h (Safe.of_noL rfl rfl _) ?_;ac_rfl;ac_nf;refine zcu K.pos z M.le N.le a0.le a1.le λa' b' h2 =>?_;refine z0h (Safe.of_noL rfl rfl _) ?_;ac_rfl;refine⟨u',v',t',a',b',_,_,?_,?_,rfl⟩
   .rw[z4g,z4g, <- Int.add_assoc, <- Int.add_assoc];exact g.more z (z7x p.dv) h'
   .rw[z4g];exact(K.more (vx:=1) (vy:=0) z (z7x p.dv) (by simpa using h2)).eq0
  rintro ρ ⟨u,v,t,a,b,Z,x6,g,K,rfl⟩;obtain⟨O,bu,bv,N,M⟩:=bits sh (λs h=>h) J g K;ac_nf;refine z0V (z0x e1) ?_;ac_nf;refine zcy g.pos K.pos bu.le bv.le O.le M.le N.le ⟨y.vb.1.le,y.vb.2.le⟩ λu' v' t' h' =>?_;refine z0h (Safe.of_noL rfl rfl _) ?_;ac_rfl;refine⟨u',v',t',_,_,_,_,?_,rfl⟩;have:=g.more K.pos K.cx h';simpa[cX,cY,Int.add_assoc] using this
 rintro ρ ⟨u,v,t,x3,x4,Z,x6,g,rfl⟩;rw[ux,uD (by lia)] at g;ac_nf;exact q u v t g
def z1H:Fn:=Fn.mkN 1 1 (.seq (.ifs (.op pEq [.op pMod [.op z0m [.v 0,.c (.int 0)],.c (.int 2)],.c (.int 1)]) (.ret (.op pIx [.op pLst [.c (.int 3),.c (.int 12),.op pPow [.c (.int 10),.c (.int 9)]],.op pMod [.op z1w [.op pIx [.v 0,.c (.int 0)],.c (.int 2)],.c (.int 3)]])) .skip)
 (.ret (.op pIx [.op pLst [.c (.int 3),.c (.int 3),.c (.int 12),.op pPow [.c (.int 10),.c (.int 9)]],.op z00 [.op z0m [.v 0,.c (.int 0)],.c (.int 1),.c (.int 4)]])))
def z3w:Fn:=Fn.mkN 2 4 (.seq (.ifs (.op pNe [.op pLen [.v 1],.op pLen [.v 0]]) (.ret (.c (.bl false))) .skip)
 (.seq (.for_ [] (.tp [2,3]) (.op z7C [.v 0,.v 1]) (.ifs (.or (.not (.op z0C [.op pIx [.v 2,.c (.int 0)],.v 3])) (.op pNe [.op z0q [.v 3],.op pTup [.c (.int 1),.c (.int 1)]])) (.ret (.c (.bl false))) .skip))
 (.ret (.c (.bl true)))))
open Mth
def zbm {ns:List Int}{Q:DK}{X:XP}(hz:ns.length<=63)(q:∀ws:List (List P × P),(∀x∈ws,Wt4 x 136)->ws.length<=12->tl ws<=60->Q (.tup (ws.map wtD))):z0E.run [.lst (ns.map .int)] Q X:=by
 walk_at "fn";ac_nf;refine zcC (λb hb =>?_);ac_nf;refine z0r (λh =>?_) (λ_ =>?_)
 .ac_nf;exact zhC (hb h) hz q
 clear hb;ac_nf;refine z0H (by decide) (by decide) (by decide) λr r0 r1 =>?_;ac_nf;refine menu (ns:=[3,3,12,10 ^ 9]) r0 r1 λm hm =>?_;have f:0<=m/\m<=10000000000000000000000000000000000000000:=by
  simp only[wn,wA,vA] at hm;lia
 clear hm;ac_nf;refine z0H (by decide) (by decide) (by decide) λr2 a8 a9 =>?_;ac_nf;refine zjr (λe=>∃d,Ln d/\e=[.s (.lst (ns.map .int)),.s (.int b),.s (.int m),.s d,.n,.n,.n,.n,.n,.n]) ?_ ?_
 .refine z0r (λ_ =>?_) (λ_ =>?_)
  .ac_nf;refine z0H (by decide) (by decide) (by decide) λu u0 u1 =>?_;ac_nf;refine z0H (by decide) (by decide) (by decide) λv v0 v1 =>?_;ac_nf;exact⟨_,.inr ⟨(u - 3,v - 3),rfl,⟨by show -3<=u - 3;lia,by show u - 3<=3;lia⟩,by show -3<=v - 3;lia,by show v - 3<=3;lia⟩,rfl⟩
  .ac_nf;exact⟨_,.inl rfl,rfl⟩
 rintro e ⟨d,hd,rfl⟩;ac_nf;refine z0H (by decide) (by decide) (by decide) λr3 a2 a3 =>?_;ac_nf;refine menu (ns:=[3,3,5,12]) a2 a3 λY O =>?_;have R:0<Y/\Y<=12:=by
  simp only[wn,wA,vA] at O;lia
 clear O;ac_nf;refine z1v (λx j=>by cases j) ?_;ac_rfl;ac_nf;refine z5U (λZ=>Ee5 λws a (x7 x8 x9:B)=>(∀x∈ws,Wt4 x 136)/\ws.length<=12/\1<=a/\a<=100/\tl ws<a/\tl ws<=60/\Z=[.s (.lst (ns.map .int)),.s (.int b),.s (.int m),.s d,.s (.int Y),.o (.lst (ws.map wtD)),.s (.int a),x7,x8,x9]) (λZ=>(100 - nI Z 6).toNat) ⟨[],1,_,_,_,λ_ z=>by(cases z),by simp,by simp,by simp,by simp[tl],by simp[tl],rfl⟩ ?_;rintro Z ⟨ws,a,x7,x8,x9,M,C,a6,ha,a7,W,rfl⟩;ac_nf;rw[we,min2];refine z0r (λh =>?_) (λh =>?_)
 .ac_nf;rw[we];refine z0r (λa0 =>?_) (λa0 =>?_)
  .obtain⟨c,_,J⟩:=z5y (xs:=ns) (i:=a) (by lia) (by lia);ac_nf;refine z0V (z0x J) ?_;ac_nf;refine z0H (by decide) (by decide) R.1 λsz b2 b3 =>?_;ac_nf;obtain⟨k2,N,a4⟩:∃k2:Int,k2=(if 61<a+(1+sz) then 61 else a+(1+sz))/\(a:Int)<k2:=⟨_,rfl,kxB (by lia) b2⟩
   rw[<- N,z2q];have e1:HT.sIx ns.length 0 (some (a:Int))=a:=by
    show (if (a:Int)<0 then (a+(ns.length:Int)).toNat else min (a:Int).toNat ns.length)=_;rw[if_neg (by lia)];lia
   have e2:HT.sIx ns.length ns.length (some k2)=min k2.toNat ns.length:=by
    show (if k2<0 then (k2+(ns.length:Int)).toNat else min k2.toNat ns.length)=_;rw[if_neg (by lia)]
   rw[e1,e2];have key:=kxA N b2 (by lia)
   have U:(ns.drop a).take (min k2.toNat ns.length - a)≠[]/\(((ns.drop a).take (min k2.toNat ns.length - a)).length<=12/\((ns.drop a).take (min k2.toNat ns.length - a)).length<=1+sz.toNat/\((ns.drop a).take (min k2.toNat ns.length - a)).length<=61 - a):=by
    refine⟨λw =>?_,key _ (by rw[vi,jD];exact wV (Nat.min_le_left ..) (Nat.sub_le_sub_right (Nat.min_le_left ..) _))⟩;have:=congrArg List.length w;rw[vi,jD,jn] at this;exact kxC this (by lia) (by lia)
   clear key;generalize (ns.drop a).take (min k2.toNat ns.length - a)=a5 at*;refine⟨by rw[we];exact szl' (by lia),?_⟩;refine z4Y (g:=vec) (P:=λ_ p=>Far 10000000000000000000000000000000000000000 p) (λc _ K hK =>?_) λI a1 hy =>?_
   .ac_nf;exact zgi f.1 f.2 hd hK
   refine z1v (λx j =>?_) ?_
   .obtain⟨y,_,rfl⟩:=wf.mp j;exact Safe.of_noL rfl rfl _
   ac_rfl;ac_nf;refine z0V (z0x J) ?_;ac_nf;refine z0H (by decide) (by decide) (by decide) λr4 b0 b1 =>?_;ac_nf;refine zjr (λe=>∃s,Far 10000000000000000000000000000000000000000 s/\e=[.s (.lst (ns.map .int)),.s (.int b),.s (.int m),.s d,.s (.int Y),.o (.lst (ws.map wtD)),.s (.int (a:Int)),.s (.int (1+sz)),.o (.lst (I.map vec)),.s (vec s)]) ?_ ?_
   .refine z0r (λ_ =>?_) (λ_ =>?_)
    .ac_nf;refine z0V (z0x J) ?_;ac_nf;refine zgi f.1 f.2 hd λs hs =>?_;refine z0h (Safe.of_noL rfl rfl _) ?_;exact⟨s,hs,rfl⟩
    .ac_nf;exact⟨(0,0),by unfold Far;decide,rfl⟩
   rintro e ⟨s,hs,rfl⟩;refine z4c (z3C (l:=[]) (z0k rfl ?_));ac_nf;refine⟨by rw[we];exact szl' (by lia),Safe.of_noL (zgM (I,s)) (zgO (I,s)) _,?_⟩;ac_rfl;ac_nf;refine⟨⟨ws++[(I,s)],a+(1+sz.toNat),.s (.int (1+sz)),.o (.lst (I.map vec)),.s (vec s),λx j =>?_,by simp;lia,by lia,by lia,by rw[z5X];show _+I.length<_;lia,by rw[z5X];show _+I.length<=_;lia,?_⟩,?_⟩
   .rcases wB.mp j with j | j
    .exact M x j
    .rw[wj.mp j];refine⟨λp hp =>?_,λz=>U.1 (uz.mp (by rw[<- a1];exact congrArg List.length z)),by show I.length<=12;lia,(hs.vb (n:=134) (by decide)).le⟩;obtain⟨_,_,hf⟩:=hy p hp;exact(hf.vb (n:=134) (by decide)).le
   .rw[wD,show ((a+(1+sz.toNat):Nat):Int)=(a:Int)+(1+sz) by lia]
    rfl
   .show (100 - ((a:Int)+(1+sz))).toNat<(100 - (a:Int)).toNat
    lia
  .ac_nf;exact q ws M C W
 .ac_nf;exact q ws M C W
def zbn {ns:List Int}(b:ns.length<=63)(q:∀ws:List (List P × P),(∀x∈ws,Wt4 x)->ws.length<=12->tl ws<=60->Q (.tup (ws.map wtD))):z0E.run [.lst (ns.map .int)] Q X:=zbm b λws h=>q ws λx a=>(h x a).up
def Pl.plus {x y d g W u v t a c w b f t':Int}(h:Pl x y W u v t)(k:Pl d g W a c w)(s:Pl (u*w+a*t) (v*w+c*t) (t*w) b f t'):Pl (x+d) (y+g) W b f t':=by
 have m:t*w≠0:=by have:=wS h.pos k.pos;lia
 have e:∀{b u a x d:Int},b*(t*w)=(u*w+a*t)*t'->u*W=x*t->a*W=d*w->b*W=(x+d)*t':=λ{b u a x d} i j l=>by
  apply wU m
  calc b*W*(t*w)=(b*(t*w))*W:=by grind
   _=((u*W)*w+(a*W)*t)*t':=by rw[i];grind
   _=(x+d)*t'*(t*w):=by rw[j,l];grind
 exact⟨s.pos,s.cop,e s.cx h.cx k.cx,e s.cy h.cy k.cy⟩
def Pl.over {vx vy p q a c w W P:Int}(f:0<q)(h:Pl (vx*p) (vy*p) q a c w)(e:p*W=P*q):Pl (vx*P) (vy*P) W a c w:=by
 have b:∀{a vx:Int},a*q=vx*p*w->a*W=vx*P*w:=λ{a vx} d=>by
  apply wU (show q≠0 by lia)
  calc a*W*q=(a*q)*W:=by grind
   _=vx*(p*W)*w:=by rw[d];grind
   _=vx*P*w*q:=by rw[e];grind
 exact⟨h.pos,h.cop,b h.cx,b h.cy⟩
def zit {S W u t:Int}(a:0<W)(h:Pl S 0 W u 0 t):((u,t)=((1),(1)))↔S=W:=by
 constructor
 .intro e
  cases e
  have:=h.cx;lia
 .rintro rfl;obtain⟨rfl,_,rfl⟩:=h.eq a (⟨by decide,by decide,by rw[wT],by simp⟩:Pl S 0 S 1 0 1)
  rfl
theorem zip_map {d e:Type}{f:d->D}{g:e->D}:∀{l:List d}{m:List e},((l.map f).zip (m.map g)).map (λp=>D.tup [p.1,p.2])=(l.zip m).map λp=>D.tup [f p.1,g p.2]
 | [],_=>by simp
 | _::_,[]=>by simp
 | a::l,b::m=>by
  have:=zip_map (f:=f) (g:=g) (l:=l) (m:=m)
  simp_all
def zlz {a b:Type}{f:a->D}{g:b->D}{l:List a}{m:List b}(q:Q (.lst ((l.zip m).map λp =>.tup [f p.1,g p.2]))):z7C.run [.tup (l.map f),.tup (m.map g)] Q X:=by
 rw[<- zip_map] at q;exact q
abbrev one:Nat->Int:=λ_=>1
def z7l (s:Sh)(l:List Sh):sw w W (s::l)=w s.1*pt W s+sw w W l:=by simp[sw]
theorem zaj (d:0<W)(f:Geo.Far (· ∈ tr w) b G):∀{sh:List Sh},(∀s∈sh,Sw W w.1.length s)->dot (cX W (w,sh),cY W (w,sh)) b<=sw one W sh*G
 | [],_=>by simp[cX,cY,sw,dot]
 | s::sh,h=>by
  have j:=zaj d f (sh:=sh) λs e=>h s (by simp[e]);have a:=h s (by simp);have i:=(a.pt_le d).1;have g  := Nat.lt_of_le_of_lt (vP _) a.ix;have m:=f.1 (mv w.2 (Geo.cy w.1 s.1)) (wf.mpr ⟨_,z2s g,rfl⟩);have l:=wL m (wt i);simp[cX,cY,z7l,one,dot,Geo.sc,mv,wx,wy] at*
  grind
def zat (h:w.1≠[])(b:P):∃G,Geo.Far (· ∈ tr w) b G:=by
 obtain⟨a,d⟩:=z2z (l:=tr w) λz=>h (List.map_eq_nil_iff.mp z);obtain⟨c,f,e⟩:=wf.mp a;exact⟨_,d,c,f,e⟩
theorem ze0 (e:0<W):∀{ws:List (List P × P)}{co:List (List Sh)},co.length=ws.length->(∀x∈ws,x.1≠[])->(∀p∈ws.zip co,(∀s∈p.2,Sw W p.1.1.length s)/\sw one W p.2=W)->∃F,Geo.Far (MS ws) b F/\dot (((ws.zip co).map (cX W)).sum,((ws.zip co).map (cY W)).sum) b<=W*F
 | [],[],_,_,_=>⟨0,⟨λp a=>by rw[a];simp[Geo.sc],(0,0),rfl,by simp[Geo.sc]⟩,by simp[dot]⟩
 | w::ws,g::co,j,f,h=>by
  obtain⟨F,i,q⟩:=ze0 e (by simpa using j) (λx l=>f x (by simp[l])) λp a=>h p (by simp[a]);obtain⟨G,d⟩:=zat (f w (by simp)) b;obtain⟨m,n⟩:=h (w,g) (by simp);have o:=zaj e d m;refine⟨G+F,z5Q i d,?_⟩;rw[jd,wE,wP,wE,wP];rw[n] at o;simp[dot] at*
  grind
def zmk {W u v t:Int}(a:0<W)(m:0<t)(j:co.length=ws.length)(l:∀x∈ws,x.1≠[])(h:∀p∈ws.zip co,(∀s∈p.2,Sw W p.1.1.length s)/\sw one W p.2=W)(i:∀s∈g,Sw W w.1.length s)
  (pl:Pl (((ws.zip co).map (cX W)).sum+cX W (w,g)) (((ws.zip co).map (cY W)).sum+cY W (w,g)) W u v t):Rw (MS ws) (· ∈ tr w) u v t (sw one W g) W:=λb F G e f=>by
 obtain⟨n,d,r⟩:=ze0 a j l h;obtain rfl:=z7d e d;have y:=zaj a f i;have o:=pl.cx;have q:=pl.cy;have k:W*dot (u,v) b=t*(dot (((ws.zip co).map (cX W)).sum,((ws.zip co).map (cY W)).sum) b+dot (cX W (w,g),cY W (w,g)) b):=by
  simp[dot]
  grind
 rw[k];exact wL (by lia) (wt m)
def zgN (co:List (List Sh)):noL (.tup (co.map shsD))=true:=z4Q λd a=>by(obtain⟨g,_,rfl⟩:=wf.mp a;exact z76 g)
def zgP (co:List (List Sh)):noD (.tup (co.map shsD))=true:=z4R λd a=>by(obtain⟨g,_,rfl⟩:=wf.mp a;exact z77 g)
def zmh (co:List (List Sh)):Da (n+4) (.tup (co.map shsD)):=Da.tup.mpr λd a=>by
 obtain⟨g,_,rfl⟩:=wf.mp a;refine Da.tup.mpr λd a =>?_;obtain⟨s,_,rfl⟩:=wf.mp a;refine Da.tup.mpr λd a =>?_;simp[wn,wA,vA] at a
 rcases a with rfl | rfl
 .exact Da.int
 .exact Da.vec s.2
def z9n {a:Type}{f:a->D}{l:List a}{x:a}:cutD ((l++[x]).map f) none (some (-1))=l.map f:=by
 rw[z2q,z87];simp
def Tms (a b:Int)(s y:Sh):Prop:=y.1=s.1/\Pl (s.2.1*a) 0 (s.2.2*b) y.2.1 0 y.2.2
def zcb (d:0<W)(g:0<a)(i:a<=b)(h:Sw W n s)(le:s.2.1<=s.2.2)(k:Tms a b s y):Sw (W*b) n y/\pt (W*b) y=a*pt W s:=by
 obtain⟨e,pl⟩:=k;obtain⟨j,u,t⟩:=y;dsimp only at e pl;subst e;have l:0<b:=by lia
 have m:=z7x h.dv;obtain⟨p,_⟩:=h.pt_le d;have w:=h.bot;have q:pt W s<=W:=by
  have f:=wo le (wt d);rw[m,wT _] at f
  simp_all
 have c:Pl (a*pt W s) 0 (W*b) u 0 t:=by
  refine⟨pl.pos,pl.cop,?_,by simp⟩;have r:=pl.cx;apply wU (show s.2.2≠0 by omega)
  grind
 obtain⟨⟨f,_⟩,o⟩:=zdp (wS d l) c (wS g p) (by
  have:=wL q (wt g);have:=wo i (wt d)
  grind) h.ix
 exact⟨f,o⟩
theorem z9G (m:0<W)(g:0<a)(j:a<=b):∀{l ys:List Sh},ys.length=l.length->(∀(i:Nat) h,∃y,ys[i]? = some y/\Tms a b l[i] y)->(∀s∈l,Sw W n s/\s.2.1<=s.2.2)->(∀s∈ys,Sw (W*b) n s)/\∀w,sw w (W*b) ys=a*sw w W l
 | [],[],_,_,_=>⟨(λs d=>by cases d),λw=>by simp[sw]⟩
 | s::l,y::ys,p,h,d=>by
  obtain⟨y',e,k⟩:=h 0 (by simp);obtain rfl:y=y':=by simpa using e
  have k:Tms a b s y:=k;obtain⟨A,q⟩:=z9G m g j (n:=n) (l:=l) (ys:=ys) (by simpa using p) (λi u=>by
   obtain⟨y',e,k⟩:=h (i+1) (by simp;lia);exact⟨y',by simpa using e,by simpa using k⟩) λr f=>d r (by simp[f])
  obtain⟨t,o⟩:=zcb m g j (d s (by simp)).1 (d s (by simp)).2 k;refine⟨λz x =>?_,λw =>?_⟩
  .grind
  .rw[z7l,z7l,q,o,k.1]
   grind
def zeB {co:List (List Sh)}{W c:Int}{Q:DK}{X:XP}(hz:co.length<=12)(q:0<W)(z:Bt 90 W)(R:∀g∈co,g.length<=12/\∃n,∀s∈g,Sw W n s/\s.2.1<=s.2.2)(q0:Q (.tup (([]).map shsD)))
  (q1:∀m g a b g',co[m]? = some g->0<a->a<=b->b<=7->g'.length=g.length->(∀n,(∀s∈g,Sw W n s/\s.2.1<=s.2.2)->(∀s∈g',Sw (W*b) n s)/\∀w,sw w (W*b) g'=a*sw w W g)->Q (.tup ((co.take m++[g']).map shsD))):z0Z.run [.tup (co.map shsD),.int c] Q X:=by
 walk_at "fn";ac_nf;rw[we];refine z0H (by decide) (by decide) (by lia) λr r0 r1 =>?_;ac_nf;rw[z9m r0];refine zfu (l:=(co.take r.toNat).map shsD) (r:=[]) (zmh _) (zmh []) ?_
 rcases uR (co.take r.toNat) with e | ⟨co0,g,e⟩
 .rw[e];refine z8k rfl ?_;ac_nf;exact q0
 rw[jh] at e;obtain⟨m,p⟩:∃m,r.toNat=m+1:=by
  cases h:r.toNat with
  | zero=>rw[h] at e;simp at e
  | succ m=>exact⟨m,rfl⟩
 have j:co[m]? = some g/\co.take m=co0:=by
  have U:=congrArg List.length e;rw[vi,wG,vK,p] at U;have x:m<co.length:=by lia
  rw[p,jU,wm x] at e;obtain⟨M,N⟩:=List.append_inj' e rfl;exact⟨by rw[wm x];exact congrArg some (by simpa using N),M⟩
 rw[e];have hg:=wz j.1;obtain⟨gl,n,L⟩:=R g hg;rw[show deq (.tup ((co0++[g]).map shsD)) (.tup [])=false by cases co0 <;> rfl];refine z3H ?_;ac_nf;refine z0H (by decide) (by decide) (by decide) λb b0 b1 =>?_;ac_nf;refine z0H (by decide) (by decide) (by lia) λa a0 a1 =>?_;ac_nf;have J:atI ((co0++[g]).map shsD) (-1)=some (shsD g):=by
  have e:=zj8 (l:=(co0++[g]).map shsD) (k:=0) (by simp);rw[show (((0:Nat):Int) - 1) = -1 by decide] at e;rw[e,wY (by simp)];simp
 refine z0V J ?_;ac_nf;refine⟨by rw[we];exact szl' (by lia),?_⟩;refine z3T (f:=shD) (g:=shD) (P:=Tms (1+a) (1+b)) (λs Z K O =>?_) λo i hy =>?_
 .obtain⟨y,_⟩:=L s Z;have s0:=y.bot;obtain⟨c1,C⟩:=y.bits q z;have c3:Bt 64 (1+a):=z04 (by omega);have I:Bt 64 (1+b):=z04 (by omega);refine⟨rfl,?_⟩;unfold z09 z09 z09;ac_rfl;ac_nf;refine zcx (wS s0 (by lia)) (Bt.le (Bt.mul C I)) λu w pl =>?_;ac_nf;exact O (s.1,u,w) ⟨rfl,pl⟩
 ac_nf;rw[z9n];refine z3A (by rw[we];have:=congrArg List.length j.2;rw[vi] at this;exact uL (szl' (by simp;lia))) ?_;rw[show co0.map shsD++[.tup (o.map shD)]=(co.take m++[o]).map shsD by rw[j.2];simp];exact q1 m g (1+a) (1+b) o j.1 (by lia) (by lia) (by lia) i λn Y=>z9G q (by lia) (by lia) i hy Y
open PySem.Spec PyProof.Rows
def zbP (a b:D)(Q:DK):Prop:=match a,b with
 | .bl x,.bl y=>Q (.bl (!decide (x=y)))
 | _,_=>False
def zbO (a b:D)(Q Q':DK)(m:∀d,Q d->Q' d)(h:zbP a b Q):zbP a b Q':=by
 unfold zbP at h ⊢
 split at h
 .exact m _ h
 .exact h.elim
def z59:Fn:=fn2 zbP zbO
section
variable {X:Cx}
set_option tactic.hygienic true in
def zda:OpR X (compareOp .IsNot) (r2 X.K X.mg z59):=by
 rintro d s n H x y v u Q I j l ⟨G,e,f,Q0,m,g,r1,r2,i,h⟩;have a:zbP e f Q0:=i;unfold zbP at a
 split at a
 .rename_i b c
  cases z8C r1
  cases z8C r2
  cases j
  cases l
  refine wpAny_isNot_plain rfl ⟨.bl _,H,I,rfl,h.now g a ?_⟩;rw[show (Value.bool b == Value.bool c)=decide (b=c) by cases b <;> cases c <;> rfl];exact RD.bl'
 .exact a.elim
end
def zdd (q:Q (.bl (!decide (x=y)))):z59.run [.bl x,.bl y] Q X:=q
def z1c:Fn:=Fn.mkN 3 5 (.seq (.ifs (.op pEq [.op pMod [.v 1,.c (.int 2)],.c (.int 1)]) (.ret (.op z0j [.op z1w [.v 1,.c (.int 2)],.v 2])) .skip)
 (.seq (.set 3 (.op z0Z [.op z0w [.v 0,.v 1],.v 1]))
 (.seq (.set 4 (.op z10 [.v 0,.v 3]))
 (.seq (.ifs (.op pEq [.op z00 [.v 1,.c (.int 65),.c (.int 3)],.c (.int 0)]) (.set 4 (.op z1J [.sl (.v 0) none (some (.op pLen [.v 3])),.op pAdd [.v 1,.c (.int 5)],.v 2])) .skip)
 (.ret (.v 4))))))
open Mth
def Pl.pd {x y b u v t:Int}(h:Pl x y b u v t)(f:0<b)(d:Bt 100 b)(e:Bt 290 x)(a:Bt 290 y):Pd u v t 290:=by
 obtain⟨g,i,j⟩:=h.bt f d e a;exact⟨h.pc f d.le e.le a.le,i,j,g⟩
def z4D {c m:Int}(C:0<m)(I:m<=10000000000000000000000000000000000000000)(q:∀u v t,Pd u v t 290->Q (.tup [.int u,.int v,.int t])):z0j.run [.int c,.int m] Q X:=by
 have p:Bt 135 (m+1):=z04 (by lia);walk_at "fn";ac_nf;obtain⟨w,b,e,J⟩:∃w,Aa3 (w=80*(m+1)+1) (0<w) (w<100000000000000000000000000000000000000000000):=⟨_,rfl,by lia,by lia⟩
 rw[<- b];clear b;have r:Bt 9000 w:=Bt.le (m:=150) (z04 (by lia));ac_nf;have f:=Wa c (show w≠0 by lia);have g:=jH c e;have i:=Wa (c / w) (show w≠0 by lia);have j:=jH (c / w) e;have o:0<=c / w / w % 60/\c / w / w % 60<60:=by lia
 generalize c % w=x at*;generalize c / w % w=y at*;generalize c / w / w % 60=z at*;refine zgl (by lia) (Bt.le (m:=10) (z04 (by lia))) λu v t h =>?_;exact q u v t (h.pd (by lia) (Bt.le (m:=10) (z04 (by lia))) (Bt.le (m:=150) (z04 (by lia))) (Bt.le (m:=150) (z04 (by lia))))
def zhB {ws:List (List P × P)}{c m:Int}{Q:DK}{X:XP}(I:∀x∈ws,Wt4 x)(J:ws.length<=12)(Y:0<m)(Z:m<=10000000000000000000000000000000000000000)(q:∀u v t,Pd u v t 290->Q (.tup [.int u,.int v,.int t])):z1J.run [.tup (ws.map wtD),.int c,.int m] Q X:=by
 have bm:Bt 135 (1+m):=z04 (by lia);walk_at "fn";ac_nf;refine z0r (λ_ =>?_) (λ_ =>?_)
 .ac_nf;exact z4D Y Z q
 ac_nf;refine z8x I J λco W g j N _ _ =>?_;obtain⟨w,C⟩:=z5H (n:=100) I J g j N;rw[uD (by rw[uk];lia)] at w C;refine zgm I J g j.le N λu v t O =>?_;refine z0h (Safe.of_noL rfl rfl _) ?_;ac_rfl;have K:Pd u v t 290:=O.pd g j.le w.le C.le;obtain⟨e,L,M⟩:=O.bt g j w C;ac_nf;refine z0H (by decide) (by decide) (by decide) λr r0 r1 =>?_;ac_nf;refine z0r (λ_ =>?_) (λhr =>?_)
 .ac_nf;exact q u v t K
 ac_nf;refine menu (ns:=[1,1+m,40*(1+m)]) (by lia) (by show r - 3<3;lia) λs R =>?_;have a0:0<s/\s<=10000000000000000000000000000000000000000000:=by
  simp only[wn,wA,vA] at R;lia
 clear R;have bs:Bt 145 s:=z04 (by lia);ac_nf;refine z0H (by decide) (by decide) (by lia) λx x0 x1 =>?_;ac_nf;refine z0H (by decide) (by decide) (by lia) λy y0 y1 =>?_;ac_nf;refine z0H (by decide) (by decide) (by decide) λz z0 z1 =>?_;ac_nf;refine zcx (by lia) (Bt.le (m:=10) (z04 (by lia))) λa b f =>?_;obtain⟨i,o,_⟩:=f.bt (n:=10) (m:=10) (by lia) (z04 (by lia)) (z04 (by decide)) (z04 (by decide));have vs:Vb 149 (x - s,y - s):=⟨z04 (by show (x - s).natAbs<2 ^ 149;lia),z04 (by show (y - s).natAbs<2 ^ 149;lia)⟩
 refine zcy (p:=(x - s,y - s)) K.pc.pos f.pos L.le M.le e.le o.le i.le ⟨vs.1.le,vs.2.le⟩ λu' v' t' U =>?_;refine q u' v' t' (U.pd (wS K.pc.pos f.pos) (Bt.le (Bt.mul e i)) (Bt.le (Bt.add (Bt.mul L i) (Bt.mul (Bt.mul vs.1 o) e))) (Bt.le (Bt.add (Bt.mul M i) (Bt.mul (Bt.mul vs.2 o) e))))
def Whl (W:Int)(co:List (List Sh)):Prop:=co=[]\/∃a g,co=a++[g]/\(∀b∈a,sw one W b=W)/\sw one W g<=W
def zex {W c:Int}(hz:ws.length<=12)(E:0<W)(G:Bt 85 W)(r:CrsS W ws co)(hl:co.length=ws.length)(u:∀p∈ws.zip co,(p.2.length<=12/\∀s∈p.2,s.2.1<=s.2.2)/\sw one W p.2=W)
  (q:∀f A,0<A->Bt 95 A->CrsS A ws f->Whl A f->Q (.tup (f.map shsD))):z0Z.run [.tup (co.map shsD),.int c] Q X:=by
 have j:∀g∈co,∃w,(w,g)∈ws.zip co:=λg t=>by
  obtain⟨i,M,e⟩:=vz t;exact⟨ws[i],wz (i:=i) (by rw[wm (by rw[uk];lia),uX,e])⟩
 have all:∀g∈co,sw one W g=W:=λg t=>by
  obtain⟨w,d⟩:=j g t;exact(u _ d).2
 refine zeB (by lia) E G.le (λg t =>?_) ?_ λm g a b C J a0 N b7 gl Y =>?_
 .obtain⟨w,d⟩:=j g t;exact⟨(u _ d).1.1,_,λs h=>⟨(r.ok _ d).2 s h,(u _ d).1.2 s h⟩⟩
 .exact q [] W E G.le ⟨by simp,by simp⟩ (.inl rfl)
 .have O:0<b:=by lia
  obtain⟨hm,T⟩:=wu.mp J;obtain⟨w,H⟩:∃w,ws[m]? = some w:=⟨_,wm (by lia)⟩
  have F:(co.take m).length=m:=by rw[vi];lia
  have U:=z4m (y:=C) (l:=ws) (m:=co.take m) (x:=w) (by rw[F];exact H);have sub:∀p∈ws.zip (co.take m),p∈ws.zip co:=λp d=>by
   have k:=z4m (y:=g) (l:=ws) (m:=co.take m) (x:=w) (by rw[F];exact H);obtain⟨i,M,e⟩:=vz d;rw[uk,F] at M;refine wz (i:=i) ?_;rw[wm (by rw[uk];lia), <- e,uX,uX,List.getElem_take]
  have o:(w,g)∈ws.zip co:=by
   refine wz (i:=m) ?_;have Z:=(wu.mp H).2;rw[wm (by rw[uk];lia),uX,Z,T]
  obtain⟨R,S⟩:=Y w.1.length λs h=>⟨(r.ok _ o).2 s h,(u _ o).1.2 s h⟩
  refine q (co.take m++[C]) (W*b) (wS E O) (Bt.le (Bt.mul G (z04 (n:=3) (by omega)))) ⟨by rw[wG,F,vK];lia,λp d =>?_⟩ (.inr ⟨co.take m,C,rfl,λK I =>?_,?_⟩)
  .rw[U] at d
   rcases wB.mp d with z | z
   .exact⟨(r.ok p (sub p z)).1,λs h=>((r.ok p (sub p z)).2 s h).mul⟩
   .rw[wj.mp z];have:=(u _ o).1.1;exact⟨by show C.length<=14;lia,R⟩
  .have L:=vB I;obtain⟨w2,d⟩:=j K L;rw[z5q λs h=>((r.ok _ d).2 s h).dv,all K L]
  .rw[S,all g (wz J),wT];exact wL N (wt E)
def zjR {ws:List (List P × P)}{c m:Int}{Q:DK}{X:XP}(b:∀x∈ws,Wt4 x)(e:ws.length<=12)(I:0<m)(J:m<=10000000000000000000000000000000000000000)(q:∀u v t,Pd u v t 290->Q (pcD u v t)):z1c.run [.tup (ws.map wtD),.int c,.int m] Q X:=by
 walk_at "fn";ac_nf;refine z0r (λ_ =>?_) (λ_ =>?_)
 .ac_nf;exact z4D I J q
 ac_nf;refine z8x b e λL N o g p w y =>?_;ac_nf;refine zex e o g p w y λi W j f K _ =>?_;refine z0h (Safe.of_noL (zgN _) (zgP _) _) ?_;ac_rfl;ac_nf;refine zgm b e j f.le K λu v t pl =>?_;obtain⟨z,C⟩:=z5H (n:=(ws.zip i).length) b e j f K;rw[List.take_length] at z C;have pd:Pd u v t 290:=pl.pd j f.le z.le C.le;ac_nf;refine z0H (by decide) (by decide) (by decide) λr _ _ =>?_;ac_nf;refine z0r (λ_ =>?_) (λ_ =>?_)
 .ac_nf;rw[we,z9m (by omega),show (i.length:Int).toNat=i.length by simp];refine zhB (λx M=>b x (vB M)) (by rw[vi];lia) I J λu v t pd =>?_;refine z0h (Safe.of_noL rfl rfl _) ?_;ac_rfl;ac_nf;exact q u v t pd
 .ac_nf;exact q u v t pd
def zmP {ws:List (List P × P)}{c m:Int}{Q:DK}{X:XP}(d:∀x∈ws,Wt4 x)(e:ws.length<=12)(a:0<m)(b:m<=10000000000000000000000000000000000000000)(q:∀u v t,Pd u v t->Q (pcD u v t)):z1c.run [.tup (ws.map wtD),.int c,.int m] Q X:=zjR d e a b λu v t p=>q u v t p.up
theorem z5Z {W c:Int}{a b:Sh->Int}:∀l:List Sh,(l.map λs=>(a s+c+b s)*pt W s).sum=(l.map λs=>a s*pt W s).sum+c*sw (λ_=>1) W l+(l.map λs=>b s*pt W s).sum
 | []=>by simp[sw]
 | s::l=>by
  have d:=z5Z (W:=W) (c:=c) (a:=a) (b:=b) l;have e:sw (λ_=>1) W (s::l)=pt W s+sw (λ_=>1) W l:=by simp[sw]
  rw[wE,wP,d,e,wE,wP,wE,wP]
  grind
def Flw (W:Int)(h:List P)(sh:List Sh)(x:List P × P)(a:List Sh):Prop:=∃b:Sh->P,(∀s∈sh,Top (· ∈ x.1) (stq h s) (b s))/\sw (wx x.1) W a=(sh.map λs=>(b s).1*pt W s).sum/\sw (wy x.1) W a=(sh.map λs=>(b s).2*pt W s).sum/\sw (λ_=>1) W a=W
theorem zdO {sh:List Sh}(one:sw (λ_=>1) W sh=W):∀{ws:List (List P × P)}{co:List (List Sh)},co.length=ws.length->(∀p∈ws.zip co,Flw W h sh p.1 p.2)->
  ∃ b:Sh->P,(∀s∈sh,Top (MS ws) (stq h s) (b s))/\((ws.zip co).map (cX W)).sum=(sh.map λs=>(b s).1*pt W s).sum/\((ws.zip co).map (cY W)).sum=(sh.map λs=>(b s).2*pt W s).sum
 | [],[],_,_=>by
  have z:∀l:List Sh,(l.map λs=>(0)*pt W s).sum=0:=λl=>by
   induction l with
   | nil=>rfl
   | cons a l A=>simp_all
  refine⟨λ_=>(0,0),λs _=>⟨rfl,λr t =>?_⟩,(z sh).symm,(z sh).symm⟩;rw[t];exact .inr ⟨rfl,vO _⟩
 | x::ws,g::co,o,e=>by
  obtain⟨i,j,m,n,d⟩:=e (x,g) (by simp);obtain⟨b,u,w,y⟩:=zdO one (by simpa using o) λp q=>e p (by simp[q]);refine⟨λs=>Geo.pl _ (b s),λs f=>zel (zge (j s f)) (u s f),?_,?_⟩
  .rw[jd,wE,wP,w];show sw (wx x.1) W g+x.2.1*sw _ W g+_=(sh.map λs=>((i s).1+x.2.1+(b s).1)*pt W s).sum;rw[m,d,z5Z,one]
  .rw[jd,wE,wP,y];show sw (wy x.1) W g+x.2.2*sw _ W g+_=(sh.map λs=>((i s).2+x.2.2+(b s).2)*pt W s).sum;rw[n,d,z5Z,one]
def zcE {ls:List Lm}{Q:DK}{X:XP}(bt:∀m∈ls,Bt 1400 m.2.1/\Bt 1400 m.2.2)(ex:∃m∈ls,0<m.2.1)(U:∀bs:List Lm,bs≠[]->bs.length<=2->(∀m∈bs,m∈ls/\(0<m.2.1\/m.2.2<m.2.1))->(∀p q,0<=p->p<=q->0<q->¬ Fits p q bs)->Q (vecs (bs.map (·.1))))
  (W:(∀m∈ls,0<m.2.1->m.2.1<=m.2.2)->(∀f∈ls,0<f.2.1->(∀m∈ls,0<m.2.1->Rr m f)->Fits f.2.1 f.2.2 ls)->Q .non):z2d.run [.lst (ls.map lmD)] Q X:=by
 walk_at "fn";ac_nf;refine z0i (f:=lmD) (λJ R=>Ee3 λ(M N O)=>(∀m∈J,0<m.2.1->m.2.1<=m.2.2)/\R=[.s (.lst (ls.map lmD)),M,N,O,.n,.n]) ⟨_,_,_,(λm b=>by cases b),rfl⟩ ?_ ?_
 .rintro J m r R e ⟨M,N,O,hd,rfl⟩;have b:m∈ls:=by rw[e];simp
  refine⟨rfl,?_⟩;show Sm.run _ _ _ _ _;unfold z09 z09 z09 z09;ac_rfl;ac_nf;have snoc:(0<m.2.1->m.2.1<=m.2.2)->∀k∈J++[m],0<k.2.1->k.2.1<=k.2.2:=λz k u=>by
   rcases wB.mp u with w | w
   .exact hd k w
   .rw[wj.mp w];exact z
  refine z0r (λi =>?_) (λi =>?_)
  .ac_nf;refine z0r (λy =>?_) (λy =>?_)
   .ac_nf;exact U [m] (by simp) (by simp) (λk u=>by rw[wj.mp u];exact⟨b,.inl i⟩) (ziC (ls:=[m]) (by simp) i y)
   .ac_nf;exact⟨_,_,_,snoc λ_=>jR.mp y,rfl⟩
  .ac_nf;exact⟨_,_,_,snoc λz=>absurd z i,rfl⟩
 rintro R ⟨M,N,O,nb,rfl⟩;have neg:∀m∈ls,m.2.2<m.2.1->m.2.2<0:=λm b h=>by
  by_cases c:0<m.2.1
  .have:=nb m b c;lia
  .lia
 ac_nf;refine zjK bt (λm b h=>by have:=nb m b h;lia) (λz =>?_) λf C K x =>?_
 .obtain⟨m,b,h⟩:=ex;have:=z m b;lia
 have f1:=nb f C K;ac_nf;obtain⟨Z,a0⟩:=bt f C;have same:∀g∈ls,0<g.2.1->(∀m∈ls,0<m.2.1->Rr m g)->Rr f g/\Rr g f:=λg hg i o=>⟨o f C K,x g hg i⟩
 refine zmM bt neg (λz =>?_) λl I L last =>?_
 .ac_nf;refine z9I rfl ?_;ac_nf;refine W nb λg hg i o=>z9f (l:=g) nb i (nb g hg i) o λm b h =>?_;have:=z m b;lia
 .obtain⟨a4,a5⟩:=bt l I;ac_nf;refine z8k rfl ?_;ac_nf;refine z0r (λi =>?_) (λi =>?_)
  .ac_nf;exact U [f,l] (by simp) (by simp) (λk u=>by
    simp only[wn,wA,vA] at u
    rcases u with rfl | rfl
    .exact⟨C,.inl K⟩
    .exact⟨I,.inr L⟩) λp q _ _ q0=>ziB (ls:=[f,l]) (f:=f) (l:=l) (by simp) (by simp) (by lia) (neg l I L) i p q q0
  .ac_nf;refine W nb λg hg j o=>z9f (l:=g) nb j (nb g hg j) o λm b h=>⟨neg m b h,?_⟩
   have y:=nb g hg j;have gm:=neg m b h;have gl:=neg l I L;have r1:Rr l m:=last m b h;have r2:l.2.1*f.2.2<=f.2.1*l.2.2:=jR.mp i;have r3:=(same g hg j o).2;have a1:=wo r2 (show 0<=g.2.2 by lia);have a2:=vE r3 (wt gl);have Y:l.2.1*g.2.2<=g.2.1*l.2.2:=uK (a:=f.2.2) (by grind) (by lia);have b1:=wo r1 (show 0<=g.2.2 by lia);have b2:=vE Y (wt gm);exact uK (a := - l.2.2) (by grind) (by lia)
def zhA {a b p r:Int}{Q:DK}{X:XP}(j:0<b)(hr:0<r)(m:Bt 3000 a)(g:Bt 3000 b)(x:Bt 3000 p)(i:Bt 3000 r)(q:∀u w,Pl (a*p) 0 (b*r) u 0 w->Q (.tup [.int u,.int w])):z2X.run [.tup [.int a,.int b],.tup [.int p,.int r]] Q X:=by
 have e:=wS j hr;have f:Bt 6000 (b*r):=Bt.le (Bt.mul g i);have z:(Int.gcd (b*r) (a*p))<=b*r:=Int.le_of_dvd e (jE ..);have y  := by
  have:=Int.gcd_pos_of_ne_zero_left (a*p) (show b*r≠0 by omega);omega
 have o:Bt 9000 (Int.gcd (b*r) (a*p)):=Bt.le (f.of_abs (by lia));walk_at "fn";ac_nf;walk_at "fn";ac_nf;refine t_no (by lia) ?_;ac_nf;refine z1X ?_;ac_nf;refine t_no (by lia) ?_;ac_nf;exact q _ _ (by rw[Int.gcd_comm];exact Pl.low e)
theorem Gd.mul {W m:Int}{n:Nat}{sh:List Sh}(h:Gd W n sh):Gd (W*m) n sh:=⟨λs a=>⟨(h.each s a).1.mul,(h.each s a).2⟩,h.up,h.few⟩
def Gd.le1 {W:Int}{n:Nat}{sh:List Sh}(h:Gd W n sh)(b:0<W)(o:sw (λ_=>1) W sh<=W):∀s∈sh,s.2.1<=s.2.2:=λs i=>by
 obtain⟨A,C,rfl⟩:=List.append_of_mem i;rw[z8l] at o;have j:=zbh (l:=A) b λd a=>(h.each d (by simp[a])).1;have m:=zbh (l:=C) b λd a=>(h.each d (by simp[a])).1;have g:=(h.each s (by simp)).1;have e:=z7x g.dv;have k:pt W s<=W:=by lia
 have f:=wo k (wt g.bot);rw[<- e,wT W] at f;exact wZ f b
def zjn {W a b:Int}(o:0<W)(f:0<a)(g:a<=b){n:Nat}{l ys:List Sh}(w:ys.length=l.length)(h:∀(i:Nat) h,∃y,ys[i]? = some y/\Tms a b l[i] y)(G:Gd W n l)(le:∀s∈l,s.2.1<=s.2.2):Gd (W*b) n ys:=by
 have d:∀i (e:i<l.length),Tms a b l[i] (ys[i]'(by lia)):=λi e=>by
  simp_all
 refine⟨λy p =>?_,?_,by have:=G.few;lia⟩
 .obtain⟨i,e,rfl⟩:=vz p;have t:=d i (by lia);have m:=jF (show i<l.length by lia);refine⟨(zcb o f g (G.each _ m).1 (le _ m) t).1,?_⟩;have c:=t.2.cop;rw[gcd0] at c;exact c
 .rw[vk];intro i j e r q;have u:=vk.mp G.up i j (by lia) (by lia) q;rw[(d i (by lia)).1,(d j (by lia)).1];exact u
theorem z7n {W r p:Int}{a b:Sh->Int}:∀l:List Sh,(l.map λs=>(r*a s+p*b s)*pt W s).sum=r*(l.map λs=>a s*pt W s).sum+p*(l.map λs=>b s*pt W s).sum
 | []=>by simp
 | s::l=>by
  have d:=z7n (W:=W) (r:=r) (p:=p) (a:=a) (b:=b) l;rw[wE,wP,d,wE,wP,wE,wP]
  grind
theorem z7o {W c:Int}{a:Sh->Int}:∀l:List Sh,(l.map λs=>(a s+c)*pt W s).sum=(l.map λs=>a s*pt W s).sum+c*sw (λ_=>1) W l
 | []=>by simp[sw]
 | s::l=>by
  have b:=z7o (W:=W) (c:=c) (a:=a) l;rw[wE,wP,b,wE,wP,z7l]
  grind
def ziU {W:Int}{h:List P}{sh g:List Sh}{x:List P × P}(one:sw (λ_=>1) W sh=W)(f:Flw W h sh x g):∃a:Sh->P,(∀s∈sh,Top (· ∈ tr x) (stq h s) (a s))/\cX W (x,g)=(sh.map λs=>(a s).1*pt W s).sum/\cY W (x,g)=(sh.map λs=>(a s).2*pt W s).sum:=by
 obtain⟨a,d,e,i,b⟩:=f;refine⟨λs=>mv x.2 _,λs j=>zge (d s j),?_,?_⟩
 .show sw _ W g+x.2.1*sw _ W g=(sh.map λs=>((a s).1+x.2.1)*pt W s).sum;rw[e,b,z7o,one]
 .show sw _ W g+x.2.2*sw _ W g=(sh.map λs=>((a s).2+x.2.2)*pt W s).sum;rw[i,b,z7o,one]
def Two (b d:P->Prop)(r p:Int)(q:P):Prop:=∃a,b a/\∃c,d c/\q=Geo.pl (Geo.sca r a) (Geo.sca p c)
def zaQ (st v:P)(r:Int):ky st (Geo.sca r v)=Geo.sca r (ky st v):=by
 simp[ky,Geo.sca,dot,rt,Prod.mk.injEq]
 grind
def zdm {a b:P}{r:Int}(d:0<r)(h:LxG a b):LxG (Geo.sca r a) (Geo.sca r b):=by
 rcases h with h | ⟨h,k⟩
 .exact .inl (uB h d)
 .exact .inr ⟨by show a.1*r=b.1*r;rw[h],wo k (wt d)⟩
def zhl {b d:P->Prop}{st a c:P}{r p:Int}(j:0<r)(i:0<p)(h:Top b st a)(k:Top d st c):Top (Two b d r p) st (Geo.pl (Geo.sca r a) (Geo.sca p c)):=by
 refine⟨⟨a,h.1,c,k.1,rfl⟩,λq e =>?_⟩;obtain⟨u,f,v,g,rfl⟩:=e;rw[zbL,zbL,zaQ,zaQ,zaQ,zaQ];exact za7 (zdm j (h.2 u f)) (zdm i (k.2 v g))
def zfH {o s:P->Prop}{h d R:List P}{r p:Int}(y:0<r)(w:0<p)(l:z03 o h)(j:z03 s d)(x:z03 (λq=>∃a∈h.map (Geo.sca r),∃c∈d.map (Geo.sca p),q=Geo.pl a c) R):z03 (Two o s r p) R:=by
 refine zdD x (λq m =>?_) λq m b =>?_
 .obtain⟨t,e,u,f,rfl⟩:=x.sub q m;obtain⟨a,g,rfl⟩:=wf.mp e;obtain⟨c,i,rfl⟩:=wf.mp f;exact⟨a,l.sub a g,c,j.sub c i,rfl⟩
 .obtain⟨a,g,c,i,rfl⟩:=m;obtain⟨t,e,le1⟩:=l.far (l.in g) b;obtain⟨u,f,n⟩:=j.far (j.in i) b;refine⟨Geo.pl _ _,⟨_,uq e,_,uq f,rfl⟩,?_⟩;have z:=wL le1 (wt y);have A:=wL n (wt w);simp only[dot,Geo.sc,Geo.pl,Geo.sca] at*
  grind
theorem zb7 {W r:Int}:∀{l:List ((List P × P) × List Sh)},(∀p∈l,Gd W p.1.1.length p.2)->(l.map (cX (W*r))).sum=r*(l.map (cX W)).sum/\(l.map (cY (W*r))).sum=r*(l.map (cY W)).sum
 | [],_=>by simp
 | p::l,h=>by
  obtain⟨e,f⟩:=zb7 (l:=l) λq b=>h q (by simp[b]);have a  := λs d=>((h p (by simp)).each s d).1.dv;rw[wE,wP,e,wE,wP,wE,wP,f,wE,wP];simp[cX,cY];rw[z5q a,z5q a,z5q a]
  grind
def zcn {ws0:List (List P × P)}{w:List P × P}{R h d:List P}{sh:List Sh}{g:List (List Sh)}{last i:List Sh}{W p r x y t u v t':Int}(L:LedW R u v t' W sh)(X:0<t')(pl:Pl (x*r) (y*r) t u v t')(pc:Pc x y t)(z:0<p)(A:0<r)
  (J:z03 (MS ws0) h) (I:z03 (· ∈ tr w) d) (Y:z03 (λq=>∃a∈h.map (Geo.sca r),∃c∈d.map (Geo.sca p),q=Geo.pl a c) R)
  (m:g.length=ws0.length) (o:∀q∈ws0.zip g,Flw W R sh q.1 q.2/\Gd W q.1.1.length q.2) (b:Flw W R sh w last) (j:∀f,sw f (W*r) i=p*sw f W last):
  Pl (((ws0.zip g).map (cX (W*r))).sum+cX (W*r) (w,i)) (((ws0.zip g).map (cY (W*r))).sum+cY (W*r) (w,i)) (W*r) x y t:=by
 obtain⟨Φ,K,M,N⟩:=zdO L.one m λq l=>(o q l).1;obtain⟨φ,F,G,H⟩:=ziU L.one b;have n:=zfH A z J I Y;have eq:∀s∈sh,Geo.pl (Geo.sca r (Φ s)) (Geo.sca p (φ s))=Geo.cy R s.1:=λs e=>zjm n (L.gd.each s e).1.ix (zhl A z (K s e) (F s e));obtain⟨O,Q⟩:=zb7 (r:=r) λq l=>(o q l).2;have Z:cX (W*r) (w,i)=p*cX W (w,last):=by
  simp only[cX];rw[j,j]
  grind
 have z2:cY (W*r) (w,i)=p*cY W (w,last):=by
  simp only[cY];rw[j,j]
  grind
 have T:r*((ws0.zip g).map (cX W)).sum+p*cX W (w,last)=sw (wx R) W sh:=by
  rw[M,G, <- z7n];exact congrArg List.sum (ur λs e=>by rw[show wx R s.1=(Geo.cy R s.1).1 from rfl, <- eq s e];simp only[Geo.pl,Geo.sca];rw[wT r,wT p])
 have U:r*((ws0.zip g).map (cY W)).sum+p*cY W (w,last)=sw (wy R) W sh:=by
  rw[N,H, <- z7n];exact congrArg List.sum (ur λs e=>by rw[show wy R s.1=(Geo.cy R s.1).2 from rfl, <- eq s e];simp only[Geo.pl,Geo.sca];rw[wT r,wT p])
 have fin:∀{S x u:Int},S*t'=W*u->u*t=x*r*t'->x*(W*r)=S*t:=λ{S x u} C E=>by
  apply wU (show t'≠0 by omega)
  calc x*(W*r)*t'=W*(x*r*t'):=by grind
   _=W*u*t:=by rw[<- E];grind
   _=S*t*t':=by rw[<- C];grind
 refine⟨pc.pos,pc.cop,?_,?_⟩
 .rw[O,Z,T];exact fin L.ex pl.cx
 .rw[Q,z2,U];exact fin L.ey pl.cy
def zey {ws ws0:List (List P × P)}{w:List P × P}{h d:List P}{x y t p r:Int}{Q:DK}{X:XP}(hw:∀x∈ws,Wt4 x)(hz:ws.length<=12)(J:ws=ws0++[w])(hh:z03 (MS ws0) h)(hd:z03 (· ∈ tr w) d)(T:Twh h d)(zl:(Geo.rd h).length+(Geo.rd d).length<=61)
  (pd:Pd x y t) (p0:0<p) (pr:p<=r) (a5:Int.gcd p r=1) (U:Bt 434 p) (C:Bt 434 r) (f:Fits p r (lims h d x y t)) (q:∀co g W,0<W->Bt 1840 W->co.length=ws0.length->(∀p∈ws.zip (co++[g]),Gd W p.1.1.length p.2)->(∀g'∈co,sw one W g'=W)->Pl (sw one W g) 0 W p 0 r->Pl ((ws.zip (co++[g])).map (cX W)).sum ((ws.zip (co++[g])).map (cY W)).sum W x y t->Q (.tup ((co++[g]).map shsD))):z1p.run [.tup (ws.map wtD),vecs h,.tup [.int p,.int r],pcD x y t] Q X:=by
 have Z:0<r:=by lia
 have nh:=z0W T.xh;have nd:=z0W T.xd;have pc:=pd.pc;have b1:=pd.bx;have b2:=pd.bY;have b3:=pc.bt;have t0:=pc.pos;have I:Wt4 w:=hw w (by rw[J];simp);have ew:atI (ws.map wtD) (-1)=some (wtD w):=by
  have e:=zj8 (l:=ws.map wtD) (k:=0) (by rw[J];simp);rw[show (((0:Nat):Int) - 1) = -1 by decide] at e;rw[e,wY (by rw[J];simp),J];simp
 walk_at "fn";ac_nf;refine z0V ew ?_;ac_nf;refine z71 I.wb.le I.vb.le (by have:=I.len;lia) λd' x' =>?_;obtain rfl:d'=d:=(x'.is (by simpa using I.ne)).unique hd;refine z0h (Safe.of_noL (z19 _) (z1a _) _) ?_;ac_rfl;ac_nf;refine z5u T.bh T.zh C.le ?_;ac_nf;refine z5u T.bd T.zd U.le ?_;ac_nf;have w1:Wb 600 (h.map (Geo.sca r)):=λv hv=>by
  obtain⟨u,hu,rfl⟩:=wf.mp hv;exact⟨Bt.le (Bt.mul (T.bh u hu).1 C),Bt.le (Bt.mul (T.bh u hu).2 C)⟩
 have w2:Wb 600 (d'.map (Geo.sca p)):=λv hv=>by
  obtain⟨u,hu,rfl⟩:=wf.mp hv;exact⟨Bt.le (Bt.mul (T.bd u hu).1 U),Bt.le (Bt.mul (T.bd u hu).2 U)⟩
 have y1:=zgw h r;have y2:=zgw d' p;refine z8u w1 w2 (z03.sca Z T.xh) (z03.sca p0 T.xd) (by rw[we];exact T.zh) (by rw[we];exact T.zd) (by lia) λR xR zR =>?_;have nR:=z0W xR;have lR:=zjX R;have bR:Wb 600 R:=λv hv=>by
  obtain⟨a,ha,c,hc,rfl⟩:=xR.sub v hv;obtain⟨u,hu,rfl⟩:=wf.mp ha;obtain⟨u',a1,rfl⟩:=wf.mp hc;exact⟨Bt.le (Bt.add (Bt.mul (T.bh u hu).1 C) (Bt.mul (T.bd u' a1).1 U)),Bt.le (Bt.add (Bt.mul (T.bh u hu).2 C) (Bt.mul (T.bd u' a1).2 U))⟩
 have a7:=zeH T.xh T.xd Z p0 t0 xR (zfP nh nd f);refine z0h (Safe.of_noL (z19 _) (z1a _) _) ?_;ac_rfl;ac_nf;have a8:∀{Q:DK}{X:XP},(∀u v t',Pl (x*r) (y*r) t u v t'->Q (pcD u v t'))->z0B.run [pcD x y t,.tup [.int r,.int 1]] Q X:=λ{Q X} k=>by
  walk_at "fn";ac_nf;rw[Int.mul_one];exact z4e t0 b3.le k
 refine a8 λu v t' pl =>?_;have O:Pc u v t':=pl.pc t0 b3 (Bt.le (Bt.mul b1 C)) (Bt.le (Bt.mul b2 C));ac_nf;refine z8r nR (by lia) bR O (λb _ _ a0 =>?_) λsh W L =>?_
 .exfalso
  obtain⟨c,hc,le⟩:=a7 b;have k:=a0 c hc;have e:dot (u,v) b*t=dot (x*r,y*r) b*t':=by
   have e1:=pl.cx;have e2:=pl.cy;simp only[dot]
   grind
  have k1:=uB k t0;have k2:=wo le (wt O.pos);rw[e] at k1
  grind
 ac_nf;refine⟨by rw[we];exact szl' (by lia),?_⟩;refine z3T (f:=wtD) (g:=shsD) (P:=λx gs=>Flw W R sh x gs/\Gd W x.1.length gs) (λx hx K hK =>?_) λys m hy =>?_
 .ac_nf;refine zbp (hw x hx) bR nR L.pos L.bt L.gd L.one λgs φ k1 k2 k3 k4 k5 =>?_;exact hK gs ⟨⟨φ,k1,k3,k4,k5⟩,k2⟩
 have a2:ys≠[]:=λz=>by rw[z,J] at m;simp at m
 obtain⟨yl,last,rfl⟩:Ee2 λyl last=>ys=yl++[last]:=⟨ys.dropLast,ys.getLast a2,(List.dropLast_concat_getLast a2).symm⟩
 have N:yl.length=ws0.length:=by rw[J] at m;simpa using m
 have o:∀p∈ws.zip (yl++[last]),Flw W R sh p.1 p.2/\Gd W p.1.1.length p.2:=λp hp=>by
  obtain⟨i,hi,e⟩:=vz hp;rw[uk] at hi;obtain⟨y,ey,k⟩:=hy i (by lia);rw[uX] at e;rw[wm (by lia)] at ey;rw[<- e,w6 ey];exact k
 have ez:∀g,ws.zip (yl++[g])=ws0.zip yl++[(w,g)]:=λg=>by rw[J,List.zip_append N.symm];rfl
 rw[ez] at o;obtain⟨hF,hG⟩:=o (w,last) (by simp);have j:sw (λ_=>1) W last=W:=by obtain⟨_,_,_,_,k⟩:=hF;exact k
 have M:∀s∈last,Aa3 (0<s.2.2) (Bt 3000 s.2.1) (Bt 3000 s.2.2):=λs Y=>by
  obtain⟨ss,_⟩:=hG.each s Y;obtain⟨c1,c2⟩:=ss.bits L.pos L.bt;exact⟨ss.bot,c1.le,c2.le⟩
 have a9:last.length<=3:=hG.few;ac_nf;refine z1v (λz hz=>by obtain⟨g,_,rfl⟩:=wf.mp hz;exact Safe.of_noL (z76 g) (z77 g) _) ?_;ac_rfl;ac_nf;refine zhy (z0k rfl ?_);unfold popL;rw[wD,wG,we];simp only[wE,u5,vg,jn,Wj,Nat.add_sub_cancel];rw[wX (by simp),we,Nat.sub_self];simp only[u3,List.dropLast_concat];ac_rfl;ac_nf;refine z3C (l:=[]) (z0k rfl ?_);ac_nf;refine⟨by rw[we];exact szl' (by lia),?_⟩;refine z3T (f:=shD) (g:=shD) (P:=Tms p r) (λs Y K hK =>?_) λzs a3 a4 =>?_
 .obtain⟨c0,c1,c2⟩:=M s Y;refine⟨rfl,?_⟩;unfold z09 z09 z09;ac_rfl;ac_nf;refine zhA c0 Z c1 c2 U.le C.le λu w pl =>?_;ac_nf;exact hK (s.1,u,w) ⟨rfl,pl⟩
 ac_nf;have yz:yl.length<=12:=by simp at m;lia
 refine⟨by rw[we];exact szl' (by lia),Safe.of_noL (z76 zs) (z77 zs) _,?_⟩;ac_rfl;ac_nf;rw[show yl.map shsD++[.tup (zs.map shD)]=(yl++[zs]).map shsD by simp];have le1:=hG.le1 L.pos (Wk j);have gz:=zjn L.pos p0 pr a3 a4 hG le1;have zk:=(z9G L.pos p0 pr a3 a4 λs Y=>⟨(hG.each s Y).1,le1 s Y⟩).2;refine q yl zs (W*r) (wS L.pos Z) (Bt.le (Bt.mul L.bt C)) N (λp hp =>?_) (λg' a6 =>?_) ⟨Z,by rw[gcd0];exact a5,by rw[zk,j];grind,by simp⟩ ?_
 .rw[ez] at hp
  rcases wB.mp hp with z | z
  .exact(o p (by simp[z])).2.mul
  .rw[wj.mp z];exact gz
 .obtain⟨i,hi,e⟩:=vz a6;have hm:(ws0[i]'(by lia),g')∈ws0.zip yl:=wz (i:=i) (by rw[wm (by rw[uk];lia),uX,e]);obtain⟨⟨_,_,_,_,k⟩,G⟩:=o _ (vF _ hm);rw[z5q λs h=>((G.each s h).1).dv];exact congrArg (· * r) k
 .rw[ez,wD,ul,wD,ul];simp only[wE,u5,wP,jw,uy];exact zcn L O.pos pl pc p0 Z hh hd xR N (λq hq=>o q (vF _ hq)) hF zk
def Fb (ws:List (List P × P))(w:List P × P)(x y t:Int)(j:Nat)(p r:Int)(b:P):Prop:=∀F G,Geo.Far (MS (ws.take j)) b F->Geo.Far (· ∈ tr w) b G->(dot (x,y) b - t*F)*r<=p*(t*G)
structure Brd (ws:List (List P × P))(x y t:Int)(j:Nat)(bs:List P):Prop where
 ne:bs≠[]
 few:bs.length<=2
 nz:(0,0) ∉ bs
 vb:Wb 166 bs
 no:∀w,ws[j]? = some w->∀p r,0<=p->p<=r->0<r->¬ ∀b∈bs,Fb ws w x y t j p r b
def zgY {h d:List P}{x y t:Int}{s:P × P}(b:z03 (· ∈ h) h)(a:z03 (· ∈ d) d)(k:0<(lim h d x y t s).2.1\/(lim h d x y t s).2.2<(lim h d x y t s).2.1):s.1≠(0,0):=λz=>by
 have e:∀{l:List P},z03 (· ∈ l) l->sup l _=0:=λ{l} f=>by
  obtain⟨_,p,_,e⟩:=z54 f (0,0);rw[<- e];simp[Geo.sc]
 simp only[lim,z,e b,e a,dot] at k;simp at k
def zmr {ws:List (List P × P)}{w:List P × P}{h d:List P}{x y t:Int}{k:Nat}{f:List Lm}(j:ws[k]? = some w)(A:z03 (MS (ws.take k)) h)(u:z03 (· ∈ tr w) d)(T:Twh h d)(ne:f≠[])(n:f.length<=2)(sub:∀m∈f,m∈lims h d x y t/\(0<m.2.1\/m.2.2<m.2.1))(F:∀p q,0<=p->p<=q->0<q->¬ Fits p q f):Brd ws x y t k (f.map (·.1)):=by
 refine⟨by simpa using ne,by simp_all,λz =>?_,λb o =>?_,λw' g p r G H I l=>F p r G H I λm a =>?_⟩
 .obtain⟨m,a,e⟩:=wf.mp z;obtain⟨C,E⟩:=sub m a;obtain⟨s,i,rfl⟩:=wf.mp C;exact zgY T.xh T.xd E e
 .obtain⟨m,a,rfl⟩:=wf.mp o;obtain⟨s,i,rfl⟩:=wf.mp (sub m a).1;exact T.vb (s:=s) i
 .obtain rfl:w=w':=w6 (j.symm.trans g);have e:=l m.1 (wf.mpr ⟨m,a,rfl⟩);obtain⟨s,i,rfl⟩:=wf.mp (sub m a).1;exact e _ _ (z54 A s.1) (z54 u s.1)
structure AtR (ws:List (List P × P))(x y t:Int)(k:Nat)(p r W:Int)(co:List (List Sh))(g:List Sh)(bars:List (List P))(b:P):Prop where
 p0:0<p
 pr:p<=r
 cop:Int.gcd p r=1
 bp:Bt 434 p
 br:Bt 434 r
 W0:0<W
 bW:Bt 1840 W
 hk:k<ws.length
 lc:co.length=k
 gd:∀q∈ws.zip (co++[g]),Gd W q.1.1.length q.2
 all:∀g'∈co,sw one W g'=W
 lst:Pl (sw one W g) 0 W p 0 r
 pl:Pl ((ws.zip (co++[g])).map (cX W)).sum ((ws.zip (co++[g])).map (cY W)).sum W x y t
 lb:bars.length=k
 brd:∀j bs,bars[j]? = some bs->Brd ws x y t j bs
 nz:b≠(0,0)
 vb:Vb 166 b
 at':∀w,ws[k]? = some w->∀F G,Geo.Far (MS (ws.take k)) b F->Geo.Far (· ∈ tr w) b G->0<t*G/\(dot (x,y) b - t*F)*r=p*(t*G)
theorem z5G {d e:Type}:∀{l:List d}{m:List e}{n:Nat},m.length<=n->(l.take n).zip m=l.zip m
 | [],_,_,_=>by simp
 | _::_,[],_,_=>by simp
 | a::l,b::m,n+1,h=>by
  rw[List.take_succ_cons,jd,jd,z5G (by simpa using h)]
def zbo {ws:List (List P × P)}{x y t:Int}{Q:DK}{X:XP}(hw:∀x∈ws,Wt4 x)(hz:ws.length<=12)(ht:tl ws<=60)(pd:Pd x y t)(q0:x=0->y=0->t=1->Q (atD 0 1 [] []))
  (q1:∀k p r W co g bars b u v,AtR ws x y t k p r W co g bars b->Pl (k*r+p*1) 0 (1*r) u 0 v->Q (atD u v ((co++[g]).map shsD) ((bars++[[b]]).map vecs)))
  (q2:(x,y)≠((0:Int),(0:Int))->∀bars:List (List P),bars.length=ws.length->(∀j bs,bars[j]? = some bs->Brd ws x y t j bs)->Q (nvD (bars.map vecs))):z4U.run [.tup (ws.map wtD),pcD x y t] Q X:=by
 have pc:=pd.pc;have t0:=pc.pos;walk_at "fn";ac_nf;refine zfu (l:=[.int x,.int y,.int t]) (r:=[.int 0,.int 0,.int 1]) (Da3 x y t) (Da3 0 0 1) ?_;rw[show deq (.tup [.int x,.int y,.int t]) (.tup [.int 0,.int 0,.int 1])=decide (x=0/\y=0/\t=1) from deq3 x y t 0 0 1];refine z0r (λz =>?_) (λz =>?_)
 .ac_nf;exact q0 z.1 z.2.1 z.2.2
 have ne:(x,y)≠((0:Int),(0:Int)):=λe=>by
  have Z:=congrArg Prod.fst e;have e2:=congrArg Prod.snd e;dsimp only at Z e2;have c:=pc.cop;rw[Z,e2] at c;simp at c;exact z ⟨Z,e2,by omega⟩
 ac_nf;refine z1v (λx hx=>by cases hx) ?_;ac_rfl;ac_nf;rw[we];refine zaD (by lia) (by lia) ?_;rw[show (ws.length:Int).toNat=ws.length by simp];refine z0i (f:=λ(j:Nat)=>D.int j) (λI ρ=>Ee9 λh bars (x4 x5 x6 x7 x8 x9 R:B)=>Aa6 (z03 (MS (ws.take I.length)) h) ((Geo.rd h).length<=tl (ws.take I.length)) (bars.length=I.length) (∃b,t*sup h b<dot (x,y) b) (∀j bs,bars[j]? = some bs->Brd ws x y t j bs) (ρ=[.s (.tup (ws.map wtD)),.s (pcD x y t),.o (.lst (bars.map vecs)),.s (vecs h),x4,x5,x6,x7,x8,x9,R])) ⟨[(0,0)],[],_,_,_,_,_,_,_,zlS,by simp[Geo.rd],rfl,⟨(x,y),?_⟩,λj bs N=>by simp at N,rfl⟩ ?_ ?_
 .have:=z5r ne;simp only[sup,dot];dsimp only at this;omega
 .rintro I k0 rr ρ e ⟨h,bars,x4,x5,x6,x7,x8,x9,R,M,a2,K,⟨b,hb⟩,i,rfl⟩;have le:=congrArg List.length e;rw[ux,wG,vg] at le;have hi:I.length<ws.length:=by lia
  obtain rfl:k0=I.length:=by
   have:=congrArg (λl=>l[I.length]?) e;simp only[List.getElem?_range hi] at this;simpa using this.symm
  generalize hk:I.length=k at*;obtain⟨w,q⟩:∃w,ws[k]? = some w:=⟨_,wm hi⟩
  have wx:Wt4 w:=hw w (wz q);have tn:tr w≠[]:=λz=>wx.ne (List.map_eq_nil_iff.mp z);have b1:(tr w).length=w.1.length:=by unfold tr;rw[we]
  have t1:tl (ws.take (k+1))=tl (ws.take k)+w.1.length:=by
   rw[jU,q];exact z5X _ _
  have t2:=zcc ws (k+1);have wl:=wx.len;have h1:=zjX h;have a0:Wb 165 h:=λp hp=>by
   obtain⟨c1,c2⟩:=ziE (λd hd=>by obtain⟨x,hx,rfl⟩:=wf.mp hd;exact zca (hw x (vB hx))) (M.sub p hp);rw[we,vi] at c1 c2;exact⟨Bt.le c1 (by lia),Bt.le c2 (by lia)⟩
  show Sm.run _ _ _ _ _;ac_rfl;ac_nf;refine z0V (z0x ((z50 hi).trans q)) ?_;ac_nf;refine z71 wx.wb.le ⟨wx.vb.1.le,wx.vb.2.le⟩ (by lia) λd hd =>?_;have C:z03 (· ∈ tr w) d:=hd.is tn;have yl:=z2k C.nodup C.sub;have h2:(Geo.rd d).length<=w.1.length:=zeI λ_=>by lia
  have T:Twh h d:=⟨z8q M,z8q C,a0,λp hp=>⟨(zca wx p (C.sub p hp)).1.le,(zca wx p (C.sub p hp)).2.le⟩,by lia,by lia⟩
  refine z0h (Safe.of_noL (z19 _) (z1a _) _) ?_;ac_rfl;ac_nf;refine z9O T pc ?_;ac_rfl;ac_nf;have nh:=z0W T.xh;have nd:=z0W T.xd;have bm:∀m∈lims h d x y t,Bt 1400 m.2.1/\Bt 432 m.2.2:=λm J=>by
   obtain⟨s,O,rfl⟩:=wf.mp J;have vb:=T.vb O;exact⟨Bt.le (Bt.sub (Bt.add (Bt.mul pd.bx vb.1) (Bt.mul pd.bY vb.2)) (Bt.mul pd.bt (zav nh T.bh vb))),Bt.le (Bt.mul pd.bt (zav nd T.bd vb))⟩
  have bt:∀m∈lims h d x y t,Bt 1400 m.2.1/\Bt 1400 m.2.2:=λm J=>⟨(bm m J).1,(bm m J).2.le⟩
  have ex:∃m∈lims h d x y t,0<m.2.1:=by
   obtain⟨s,O,k⟩:=zfk T.xh t0 hb;exact⟨_,wf.mpr ⟨s,vF _ O,rfl⟩,by simp only[lim];omega⟩
  refine zcE bt ex (λbs ne a5 sub nf =>?_) λnb Y =>?_
  .have bk:=zmr q M C T ne a5 sub nf;have no:=bk.no w q 1 1 (by decide) (by decide) (by decide);generalize bs.map (·.1)=bs at bk no ⊢;refine z0h (Safe.of_noL (z19 _) (z1a _) _) ?_;ac_rfl;ac_nf;refine z9I rfl ?_;ac_nf;refine z3C (l:=[]) (z0k rfl ?_);ac_nf;refine⟨by rw[we];exact szl' (by lia),Safe.of_noL (z19 _) (z1a _) _,?_⟩;ac_rfl;ac_nf;refine z8u a0.le T.bd.le T.xh T.xd T.zh T.zd (by lia) λh' a7 b0 =>?_;refine z0h (Safe.of_noL (z19 _) (z1a _) _) ?_;ac_rfl;have a1:z03 (MS (ws.take (k+1))) h':=by
    rw[jU,q];show z03 (Ms ((ws.take k++[w]).map tr)) h';rw[wD];exact zfx M C a7
   have a8:∃b,t*sup h' b<dot (x,y) b:=by
    by_cases c:∃b,t*sup h' b<dot (x,y) b
    .exact c
    .refine absurd (λb _ F G f1 f2 =>?_) no;have h3:¬ t*sup h' b<dot (x,y) b:=λz=>c ⟨b,z⟩;obtain⟨m1,u,hu,eu⟩:=zfQ q f1 f2;obtain⟨m2,v,hv,ev⟩:=z54 a1 b;have e:sup h' b=F+G:=Int.le_antisymm (by rw[<- ev];exact m1 v hv) (by rw[<- eu];exact m2 u hu);rw[e,Int.mul_add] at h3;omega
   rw[wG,vK,hk];refine⟨h',bars++[bs],_,_,_,_,_,_,_,a1,by lia,by simp[K],a8,λj a3 N =>?_,by rw[wD];rfl⟩
   rcases wW j k with z | z
   .rw[wM (by lia)] at N;exact i j a3 N
   .obtain⟨z',_⟩:=wu.mp N;rw[wG,vK,K] at z';obtain rfl:j=k:=by lia
    rw[<- K,List.getElem?_concat_length] at N;rw[<- w6 N];exact bk
  .ac_nf;refine z8k rfl ?_;ac_nf;refine zjK bt (λm J z=>by have:=nb m J z;lia) (λz =>?_) λf U f0 bf =>?_
   .exfalso
    obtain⟨m,J,z'⟩:=ex;have:=z m J;lia
   ac_nf;have f1:=nb f U f0;refine zjI f0 f1 (bm f U).2 λp r p0 pr L c bp br =>?_;ac_nf;have a6:=(Y f U f0 bf).low c;rw[z9m (by lia),show ((k:Int)+1).toNat=k+1 by lia];refine zey (ws0:=ws.take k) (λx hx=>hw x (vB hx)) (by rw[vi];lia) (by rw[jU,q];rfl) M C T (by lia) pd p0 pr L bp br a6 λco g W W0 bW lc gd all lst pl =>?_;rw[vi,Nat.min_eq_left (by lia)] at lc;rw[z5G (l:=ws) (m:=co++[g]) (n:=k+1) (by rw[wG,vK];lia)] at gd pl;refine z0h (Safe.of_noL (zgN _) (zgP _) _) ?_;ac_rfl;ac_nf;refine z57 (by decide) (by lia) (by simp) L (Bt.le (m:=64) (z04 (by omega))) (Bt.le (m:=1) (z04 (by decide))) bp.le br.le λu v a9 =>?_;ac_nf;refine z3A (by simp[K];exact uL (szl' (by lia))) ?_;ac_nf;rw[show bars.map vecs++[.tup [vec f.1]]=(bars++[[f.1]]).map vecs by simp];refine q1 k p r W co g bars f.1 u v ⟨p0,pr,L,bp,br,W0,bW,hi,lc,gd,all,lst,pl,K,i,?_,?_,λw' a4 F G Z e2 =>?_⟩ a9
   .obtain⟨s,O,rfl⟩:=wf.mp U;exact zgY T.xh T.xd (.inl f0)
   .obtain⟨s,O,rfl⟩:=wf.mp U;exact T.vb (s:=s) O
   .obtain rfl:w=w':=w6 (q.symm.trans a4);obtain⟨c,c0,k1,k2⟩:=c;obtain⟨s,O,rfl⟩:=wf.mp U;rw[z7d Z (z54 M s.1),z7d e2 (z54 C s.1)];simp only[lim] at k1 k2 f0 f1;refine⟨by lia,?_⟩;show (dot (x,y) s.1 - t*sup h s.1)*r=p*(t*sup d s.1);rw[k1,k2]
    grind
 rintro ρ ⟨h,bars,x4,x5,x6,x7,x8,x9,R,M,a2,K,hb,i,rfl⟩;ac_nf;exact q2 ne bars (by simpa using K) i
def z86 {a:Type}(f:a->D){l:List a}{n:Nat}{w:a}(h:l[n]? = some w):cutD (l.map f) none (some n)=(l.take n).map f/\cutD (l.map f) (some n) (some (n+1))=[w].map f:=by
 obtain⟨b,e⟩:=wu.mp h;have d:HT.sIx l.length 0 none=0:=rfl;rw[z2q,z2q,z8y (by omega),z8y (by omega),z8y (by omega)];refine⟨by simp_all,?_⟩;rw[show (n:Int).toNat=n by simp,show ((n:Int)+1).toNat=n+1 by omega,Nat.min_eq_left (by omega),Nat.min_eq_left (by omega),show n+1 - n=1 by omega,uI b,e]
 rfl
def zdx {g h a b f d:Int}(i:0<b)(e:0<d)(j:0<=g)(k:h*b<=a*g)(l:a*d<=f*b):h*d<=f*g:=by
 have m:=wo k (wt e);have n:=wo l j;exact wZ (by grind) i
def zac {g h e f d a:Int}(i:0<f)(b:0<a)(j:g<=0)(k:h*f<=e*g)(l:d*f<=e*a):h*a<=d*g:=by
 have m:=wo k (wt b);have n:=vE l j;exact wZ (by grind) i
def Lft (ws:List (List P × P))(w:List P × P)(x y t:Int)(k:Nat)(a b e f:Int)(c:P):Prop:=∀F G,Geo.Far (MS (ws.take k)) c F->Geo.Far (· ∈ tr w) c G->(0<G->(dot (x,y) c - t*F)*b<=a*(t*G))/\(G=0->dot (x,y) c - t*F<=0)/\(G<0->(dot (x,y) c - t*F)*f<=e*(t*G))
def zlI {l:List P}{p:P}{Q:DK}{X:XP}(q:Q (.bl (decide (p∈l)))):pIn.run [vec p,vecs l] Q X:=by
 refine⟨Da.vec p,λd a =>?_,?_⟩
 .obtain⟨y,_,rfl⟩:=wf.mp a;exact Da.vec y
 .have e:((l.map vec).any λd=>deq d (vec p))=decide (p∈l):=by
   rw[j2,List.any_eq_true,Wc]
   constructor
   .rintro⟨d,a,z⟩;obtain⟨y,b,rfl⟩:=wf.mp a;rw[z3y,Wc] at z
    simp_all
   .intro z;exact⟨vec p,uq z,by rw[z3y];simp⟩
  rw[e];exact q
def znF {a b c d:Int}{Q:DK}{X:XP}(q:Q (.bl (!decide ((a,b)=(c,d))))):pNe.run [.tup [.int a,.int b],.tup [.int c,.int d]] Q X:=by
 refine ziw (Da.vec (a,b)) (Da.vec (c,d)) ?_;rw[z3y (a,b) (c,d)];exact q
def znH {a b c:Int}{x y z:Int}{Q:DK}{X:XP}(q:Q (.bl (!decide (a=x/\b=y/\c=z)))):pNe.run [.tup [.int a,.int b,.int c],.tup [.int x,.int y,.int z]] Q X:=by
 refine ziw (Da3 a b c) (Da3 x y z) ?_;rw[deq3 a b c x y z];exact q
theorem zgS {b:P}:∀{ws:List (List P × P)},(∀x∈ws,x.1≠[])->∃F,Geo.Far (MS ws) b F
 | [],_=>⟨0,zaf⟩
 | w::ws,h=>by
  obtain⟨F,f⟩:=zgS (ws:=ws) λx a=>h x (by simp[a]);obtain⟨G,g⟩:=zat (h w (by simp)) b;exact⟨G+F,z5Q f g⟩
def zew {ns:List Int}{Q:DK}{X:XP}(q:∀m,0<m->m<=10000000000000000000000000000000000000000->Q (.int m)):z1H.run [.lst (ns.map .int)] Q X:=by
 walk_at "fn";ac_nf;refine zcC λc f =>?_;ac_nf;refine z0r (λh =>?_) (λh =>?_)
 .have j:=w9.mpr (f h);obtain⟨v,_,e⟩:=z5y (xs:=ns) (i:=0) (by decide) (by lia);ac_nf;refine z0V (z0x e) ?_;ac_nf;refine menu (ns:=[3,12,10 ^ 9]) (by lia) (by show v / 2 % 3<3;lia) λm b =>?_;simp only[wn,wA,vA] at b;exact q m (by lia) (by lia)
 .ac_nf;refine zcC λc f =>?_;ac_nf;refine z0H (by decide) (by decide) (by decide) λr g r1 =>?_;ac_nf;refine menu (ns:=[3,3,12,10 ^ 9]) g (by show r<4;exact r1) λm b =>?_;simp only[wn,wA,vA] at b;exact q m (by lia) (by lia)
def zcB (u:∀x∈ws,Wt4 x)(J:ws.length<=1000)(j:Vb 800 b)(q:∀t,Sums ws b t->Q (.int t)):z20.run [.tup (ws.map wtD),vec b] Q X:=by
 walk_at "fn";ac_nf;refine⟨by rw[we];exact szl' (by lia),?_⟩;refine z3T (f:=wtD) (g:=D.int) (P:=λx y=>∃m,most x.1 b m/\y=m+dot x.2 b) (λx w K p =>?_) λz r o =>?_
 .obtain⟨C,ne,len,vb⟩:=u x w;refine⟨rfl,?_⟩;show Ex.run _ _ _ _;unfold z09 z09 z09;ac_rfl;ac_nf;refine z70 j.le C.le ne (szl' (by lia)) λm o e =>?_;ac_nf;refine z3n vb.le j.le ?_;ac_nf;exact p _ ⟨m,⟨o,e⟩,rfl⟩
 refine zlB ?_;refine q _ ⟨z,r,λi I =>?_,rfl⟩
 simp_all
end Pu
namespace Zp
open PySem PySem.Spec PyProof.Rows L2
section
variable {prog:Program}{w:World}{A:Around}{E:WvP}{s:Shared}{e j t:Addr}{n:Nat}{xs:Array Value}{x old:Value}
def zmc (y:IsEnum s.heap e j n old)(it:s.heap.IsTupleIter j t n)(U:s.heap.IsTuple t xs)(ex:xs[n]? = some x)(ne:e≠j)
  (q:∀d,IsEnumOut d e j (n+1) x s.heap.objs.size->d.IsTupleIter j t (n+1)->IsPair d s.heap.objs.size (.int n s.toks) x->(∀c o,c≠e->c≠j->s.heap.get? c=some o->d.get? c=some o)->Q (some (.ref s.heap.objs.size)) { s with heap:=d,toks:=s.toks+1 }):
  wpAny (model prog w) A (pyNext (.ref e)) Q E s:=by
 have J:s.TypeIs (.ref e) "enumerate":=⟨_,y,rfl⟩
 delta pyNext
 refine wc (j9 (vL (name:=Str.ofString "__next__") J jO (v4 jO J F.entry_enumerate_next ?_ (F.args_enumerate_next_1 _))));show wpAny _ _ (PySem.field (.ref e) 2 >>= λ_=>_) _ _ _;refine wc (vV y rfl (x :=.ref j) rfl (wc (nx it U ex λu K z =>?_)));have i:IsEnum u e j n old:=z.extBut _ _ ne y;show wpAny _ _ (PySem.field (.ref e) 3 >>= λ_=>_) _ _ _;refine wc (vV i rfl (x:=rawInt n) rfl (show wpAny _ _ (PySem.field (.ref e) 4 >>= λ_=>_) _ _ _ from wc (vV i rfl (x :=.none) rfl (show wpAny _ _ (mkInt n >>= λ_=>_) _ _ _ from wc (wpAny_mkInt ?_)))));show wpAny _ _ (setField (.ref e) 3 (rawInt (n+1)) >>= λ_=>_) _ _ _;refine wc (vY (s:=⟨u,s.gens,s.drawn,s.toks+1,s.os⟩) i (by simp) λM l C =>?_)
 replace l:IsEnum M e j (n+1) old:=l
 show wpAny _ _ (setField (.ref e) 4 .none >>= λ_=>_) _ _ _;refine wc (vY l (by simp) λg3 f G =>?_)
 replace f:IsEnum g3 e j (n+1) old:=f
 show wpAny _ _ (newTuple [.int n s.toks,x] >>= λ_=>_) _ _ _;refine wc (wpAny_newTuple ?_);have sz:g3.objs.size=s.heap.objs.size:=by
  rw[G.1];exact C.1.trans z.1
 have m:IsEnum (g3.push { cls :=.type "tuple",data :=.seq #[.int n s.toks,x] }) e j (n+1) old:=wg _ f;have lt:e<g3.objs.size:=wC f;show wpAny _ _ (Builtin.SmallTypes.ownedTupleIsFree (.ref e) >>= λ_=>_) _ _ _;refine wc ?_
 delta Builtin.SmallTypes.ownedTupleIsFree
 refine wc (vV m rfl (x:=Value.none) rfl (wp ?_));simp only[jI];refine wc (wpAny_rule (wc (vV m rfl (x:=old) rfl (wc (vY m (by simp) λN p R =>?_)))))
 replace p:IsEnum N e j (n+1) x:=p
 show wpAny _ _ (Builtin.SmallTypes.ownedTupleHandOut (.ref e) (.ref g3.objs.size) >>= λ_=>_) _ _ _;refine wc ?_
 delta Builtin.SmallTypes.ownedTupleHandOut
 refine wc (vY p (by simp) λO r S =>?_)
 replace r:IsEnumOut O e j (n+1) x g3.objs.size:=r
 refine vY r (by simp) λb g T =>?_
 replace g:IsEnumOut b e j (n+1) x g3.objs.size:=g
 have up:∀c o,c≠e->(g3.push { cls :=.type "tuple",data :=.seq #[.int n s.toks,x] }).get? c=some o->b.get? c=some o:=λc o a h=>T.extBut _ _ a (S.extBut _ _ a (R.extBut _ _ a h));have I:IsPair b g3.objs.size (.int n s.toks) x:=up _ _ (jr lt) (wv _ rfl);rw[sz] at g I;refine wc (jN (wp ⟨_,rfl,wp ?_⟩));show Q (some (.ref g3.objs.size)) _;rw[sz];have H:∀c o,c≠e->u.get? c=some o->b.get? c=some o:=λc o a h=>up c o a (wg _ (G.extBut _ _ a (C.extBut _ _ a h)));exact q b g (K.at λo h=>H _ o ne.symm h) I λc o a L h=>H c o a (z.extBut _ _ L h)
def znZ (l:A.handled=none)(b:IsEnum s.heap e j n old)(it:s.heap.IsTupleIter j t n)(p:s.heap.IsTuple t xs)(ex:xs[n]? = none)
  (q:∀a,(∀c o,c≠e->c≠j->s.heap.get? c=some o->a.get? c=some o)->Q none { s with heap:=a }):wpAny (model prog w) A (pyNext (.ref e)) Q E s:=by
 have d:s.TypeIs (.ref e) _:=⟨_,b,rfl⟩
 refine wc (j9 (vL d jO (v4 jO d F.entry_enumerate_next ?_ (F.args_enumerate_next_1 _))));show wpAny _ _ (PySem.field _ 2 >>= λ_=>_) _ _ _;refine wc (vV b rfl rfl (wc (nxE l it p ex λg v k r =>?_)));obtain⟨o,m,i⟩:=r;exact wc (jY ⟨o,m,i⟩ isSubtype_stop (wp (q _ λc o _ f h=>k _ _ f h)))
set_option tactic.hygienic true in
def newE (t:Addr)(xs:Array Value):Meets (Builtin.«enumerate.__new__» ⟨[.type "enumerate",.ref t],[]⟩) (λ_ R s=>s.heap.IsTuple t xs/\R (.ok (.ret (.ref (mk1 s.heap t).objs.size))) { s with heap:=(mk1 s.heap t).push { cls :=.type "enumerate",data :=.fields #[.none,.bool false,.ref s.heap.objs.size,rawInt 0,.none,.none] } }):=
 .of_wp λe w A R s h=>by
  obtain⟨i,g,d,l,j⟩:=s;obtain⟨b,h⟩:=h;have sub:=sub_enumerate;have a:Heap.IsTuple (Shared.heap ⟨i,g,d,l,j⟩) t xs:=b;obtain⟨o,f,m,n,p⟩:=id b
  wp_walk using AutoSeq1.wpAny_loadPart' f,uh a
  refine wpAny_stack_any λq=>wp ?_
  split
  .rename_i c _ _ _ _ _
   cases (c == Value.type "enumerate") <;> (wp_walk using uh a;exact⟨_,rfl,h⟩)
  .wp_walk using uh a
   exact⟨_,rfl,h⟩
def zo9 (e:s.heap.IsTuple t xs)
  (q:∀a,IsEnum a (s.heap.objs.size+1) s.heap.objs.size 0 .none->a.IsTupleIter s.heap.objs.size t 0->(∀c o,s.heap.get? c=some o->a.get? c=some o)->Q (.ref (s.heap.objs.size+1)) { s with heap:=a }):
  wpAny (model prog w) A (call (.type "enumerate") [.ref t]) Q E s:=by
 refine callType_new F.called_enumerate (by decide) (F.typeCall_enumerate_1 _) (F.newCall_enumerate_1 _) (λd=>F.args_object_init_2 d _) F.entry_enumerate_new (newE t xs) ⟨e,?_⟩;have f:(mk1 _ t).objs.size=s.heap.objs.size+1:=vX ..;have b:((mk1 s.heap t).push { cls :=.type "enumerate",data :=.fields #[.none,.bool false,.ref s.heap.objs.size,rawInt 0,.none,.none] }).get? _=some _:=wv _ rfl;rw[f] at b ⊢;exact⟨⟨_,b,rfl⟩,q _ b ⟨_,wg _ (wv _ rfl),rfl,rfl⟩ λc o h=>wg _ (wg _ h)⟩
end
def Ite (K:W.Frag)(t:Addr):It:=
 ⟨λi H=>∃a x,SqT K H t a/\a[i]? = some x,
  λi H v b=>∃p x,v = .ref p/\H p=none/\b=upd H p (.tup [.int i,x])/\∀a,SqT K H t a->a[i]? = some x,
  λi H=>∃a,SqT K H t a/\a.length<=i⟩
def zc8 {P:Program}{w:World}{K:W.Frag}{es:List Expr}{kk:Nat}{J:Pos}{e j t:Addr}(M:e≠j)(et:t≠e)(jt:t≠j):Turn P w K (.Tuple es kk J) (Ite K t) [e,j] e (λi h=>(∃d,IsEnum h e j i d)/\h.IsTupleIter j t i) where
 mem:=by simp
 obj:=by
  rintro i h ⟨⟨d,z⟩,o,Z,r,U⟩ b a;simp only[wn,wA,vA] at a
  rcases a with rfl | rfl
  .exact⟨_,z,λv q=>by cases (show Data.fields _=Data.cell v from q)⟩
  .exact⟨_,Z,λv q=>by rw[U] at q;cases q⟩
 keep:=λi h N ⟨⟨d,z⟩,it⟩ k=>⟨⟨d,k e (by simp) _ z⟩,it.at λo h=>k j (by simp) o h⟩
 item:=by
  rintro X p A n r i l s σ H E I y ⟨⟨d,g⟩,f⟩ ⟨xs,x,m,ex⟩;subst p A n;obtain⟨L,r1,G,_⟩:=I.tuple m;obtain⟨u,hu,ru⟩:=r1.get ex;refine zmc g f (show s.heap.IsTuple t L.toArray from G) (x:=u) (by simpa using hu) M λN S Q tp F=>⟨_,rfl,?_⟩
  refine wpAny_letOwnedTupleGo_enum S λh2 R C =>?_;have lt:∀{b o},s.heap.get? b=some o->b≠s.heap.objs.size:=λe=>wJ (wC e);obtain⟨oj,Y,_⟩:=id f;have ob:∀b∈[e,j],b≠s.heap.objs.size:=λb a=>by
   simp only[wn,wA,vA] at a
   rcases a with rfl | rfl
   .exact lt g
   .exact lt Y
  obtain⟨O,nn⟩:=I.pair (t':=s.toks+1) (x :=.int i) y ob ⟨_,rfl⟩ ru (C.extBut _ _ (lt g).symm tp) λb o a h=>by
   simp only[wn,wA,vA,not_or] at a;exact C.extBut _ _ a.1 (F b o a.1 a.2 h)
  refine⟨.ref s.heap.objs.size,_,O,rfl,⟨_,x,rfl,I.fresh,rfl,λas T=>by rw[I.tuple_inj T m];exact ex⟩,⟨⟨_,R⟩,Q.extBut C.extBut M.symm⟩,nn⟩
 done:=by
  rintro X p A n r i l s σ H E I y ⟨⟨d,g⟩,f⟩ ⟨xs,m,hl⟩;subst p A n;obtain⟨L,r1,G,_⟩:=I.tuple m;have l1:=r1.length;refine znZ (I.ok.hd r) g f (show s.heap.IsTuple t L.toArray from G) (by simp;lia) λN F=>⟨rfl,I.turnedL (t':=s.toks) (λb o a h =>?_) y⟩
  simp only[wn,wA,vA,not_or] at a;exact F b o a.1 a.2 h
 self:=λ_ _ _ _ _ ⟨⟨_,g⟩,_⟩ h=>wpAny_pyIter_enum g h
def znU (K:W.Frag)(d:TA):TI:=λf H R=>d f H λvs b=>∃a,vs=[.ref a]/\(∃e,SqT K b a e)/\R (Ite K a) b
def zig {X:Cx}{es:List Expr}{M:Nat}{U:Pos}{a:Expr}{x:TA}{p i:Pos}(F:Gl X "enumerate")(G:X.mg "enumerate"=none)(E:PA X [a] x)(J:autoParam (starEach [a] X.env=[(false,eval a X.env)]) jA1):PI X (.Tuple es M U) (.Call (.Name "enumerate" p) [a] [] i) (znU X.K x):=by
 intro d s z H R I h;refine Call_ (z95 I F G (show bootBuiltins "enumerate"=some (.type "enumerate") from rfl) (u6 (thn (E i d s z H _ I h) λy f W =>?_) J rfl));obtain⟨vs,l,j,r1,O⟩:=W;obtain⟨t,e,⟨Y,Q⟩,q⟩:=O;subst e
 cases r1 with
 | cons r S=>
  cases S
  cases (show _=Value.ref t from r)
  obtain⟨y,T,w,_⟩:=j.tuple Q;have u:t<f.heap.objs.size:=by obtain⟨o,e,_⟩:=w;exact wC e
  refine zo9 (show f.heap.IsTuple t y.toArray from w) λC n L N =>?_;refine wpAny_pyIter_enum n ?_;have A:Inv X d z l { f with heap:=C,toks:=f.toks }:=j.kept (t':=f.toks) N;refine⟨_,_,_,_,l,rfl,A,zc8 (Nat.succ_ne_self _) (wJ (v7 u)) (wJ u),⟨⟨_,n⟩,L⟩,λb m =>?_,q⟩;have g:f.heap.objs.size<=b:=by
   simp only[wn,wA,vA] at m
   rcases m with rfl | rfl
   .exact Nat.le_succ _
   .exact ww _
  exact j.fpOk g (j.hok.fresh g)
end Zp
namespace Pu
open PySem PySem.Spec PyProof.Rows L2 Zp
def zdL (a:D)(Q:DK):Prop:=match a with
 | .tup l=>Q (.lst (l.zipIdx.map λp =>.tup [.int (p.2),p.1]))
 | _=>False
def zbR (a:D)(Q Q':DK)(m:∀d,Q d->Q' d)(h:zdL a Q):zdL a Q':=by
 unfold zdL at h ⊢
 split at h
 .exact m _ h
 omega
def zfi:Fn:=fn1 zdL zbR
def zc3 {K:W.Frag}{mg:WmP}{G:Hp}{a:Addr}{xs:List V}{l:List D}(t:SqT K G a xs)(r1:RDs K mg G l xs):Walk K mg G (l.zipIdx.map λp =>.tup [.int (p.2),p.1]) (Ite K a):=λi r H m b=>by
 have g:=z0G (z02 m b) t;refine⟨λd e =>?_,λn=>⟨xs,g,?_⟩⟩
 .rw[wO,List.getElem?_zipIdx,Option.map_map,vD] at e;obtain⟨c,s,rfl⟩:=e;obtain⟨w,j,h⟩:=r1.get s;refine⟨⟨xs,w,g,j⟩,λv A y =>?_⟩;obtain⟨p,x,rfl,f,rfl,q⟩:=y;have o:=q xs g;rw[j] at o
  cases o
  rw[Wj];refine⟨z0n f _,upd r p _,Gr.new b f,?_,RD.newT (RDs.cons (by rw[RD]) (RDs.cons (h.same m) RDs.nil)) b f⟩;intro c u e
  by_cases z:c=p
  .subst z;rw[z0c] at e ⊢;exact e
  .rw[z0d z] at e ⊢;exact b c u e
 .rw[we,List.length_zipIdx] at n;rw[r1.len];exact n
def z6A {F p g:Pos}(w:Gl X "enumerate")(z:X.mg "enumerate"=none)(u:QXA X E [a] [x])(f:autoParam (starEach [a] X.env=[(false,eval a X.env)]) jA1):
  QXI X E (.Tuple es kk F) (.Call (.Name "enumerate" p) [a] [] g) (.op zfi [x]):=QI.imp (⟨zig w z u.p f⟩) <| by
 rintro L H R ⟨G,l,o,e,f,s,A,K,y,C⟩;refine⟨G,l,_,e,f,s,(show runs [x] l (λh=>zfi.run h o e) e from A),λh vs m n q t i g3 rds =>?_,C⟩;obtain⟨d,rfl,b⟩:=z1F q;obtain⟨v,rfl,r1⟩:=rds1 rds;unfold zdL at b
 split at b
 .obtain⟨r,J,rfl,j,I⟩:=z1O r1;exact⟨r,rfl,⟨J,z0G i j⟩,y _ m n b t i g3 _ _ rfl (zc3 j I)⟩
 .exact b.elim
end Pu
namespace Pu
open PySem L2
def z80:Fn:=Fn.mkN 2 2 (.ret (.op z2p [.v 0,.op pTup [.op pNeg [.op pIx [.v 1,.c (.int 0)]],.op pIx [.v 1,.c (.int 1)]]]))
def z08:Fn:=Fn.mkN 1 5 (.seq (.ifs (.op pEq [.op pIx [.v 0,.c (.int 0)],.c (.str "never")]) (.seq (.set 1 (.op pIx [.v 0,.c (.int 1)]))
 (.seq (.own 2 (.op pLst [.op pTup [.c (.str "at"),.op pTup [.c (.int 0),.c (.int 1)],.op pTup [],.op pTup []],.op pTup [.c (.str "at"),.op pTup [.c (.int 0),.c (.int 1)],.op pTup [],.v 1]]))
 (.seq (.ifs (.op pNe [.v 1,.op pTup []]) (.ext 2 (.op pLst [.op pTup [.c (.str "never"),.sl (.v 1) none (some (.op pNeg [.c (.int 1)]))],.op pTup [.c (.str "never"),.op pAdd [.sl (.v 1) none (some (.op pNeg [.c (.int 1)])),.op pTup [.op pTup []]]],.op pTup [.c (.str "never"),.op pAdd [.op pTup [.op pTup [.op pTup [.c (.int 0),.c (.int 0)]]],.sl (.v 1) (some (.c (.int 1))) none]]])) .skip)
 (.ret (.v 2))))) .skip)
 (.seq (.set 3 (.op pIx [.v 0,.c (.int 1)]))
 (.seq (.set 1 (.op pIx [.v 0,.c (.int 3)]))
 (.seq (.own 2 (.op pLst [.op pTup [.c (.str "never"),.v 1]]))
 (.seq (.for_ [] (.nm 4) (.op pLst [.op pTup [.c (.int 1),.c (.int 7)],.op pTup [.op pNeg [.c (.int 1)],.c (.int 7)]]) (.app 2 (.op pTup [.c (.str "at"),.op z0Y [.v 3,.v 4],.op pIx [.v 0,.c (.int 2)],.v 1])))
 (.seq (.ifs (.op pNe [.v 1,.op pTup []]) (.seq (.app 2 (.op pTup [.c (.str "at"),.v 3,.op pIx [.v 0,.c (.int 2)],.sl (.v 1) none (some (.op pNeg [.c (.int 1)]))]))
 (.seq (.app 2 (.op pTup [.c (.str "at"),.v 3,.op pIx [.v 0,.c (.int 2)],.op pAdd [.sl (.v 1) none (some (.op pNeg [.c (.int 1)])),.op pTup [.op pTup []]]]))
 (.seq (.app 2 (.op pTup [.c (.str "at"),.v 3,.op pIx [.v 0,.c (.int 2)],.op pAdd [.op pTup [.op pTup [.op pTup [.c (.int 0),.c (.int 0)]]],.sl (.v 1) (some (.c (.int 1))) none]]))
 (.app 2 (.op pTup [.c (.str "at"),.v 3,.sl (.op pIx [.v 0,.c (.int 2)]) none (some (.op pNeg [.c (.int 1)])),.v 1]))))) .skip)
 (.ret (.v 2))))))))
def z1I:Fn:=Fn.mkN 2 3 (.seq (.set 2 (.op pTup [.op pAdd [.c (.int 1),.op z00 [.v 1,.c (.int 76),.c (.int 5)]],.op pSub [.op z00 [.v 1,.c (.int 77),.c (.int 9)],.c (.int 4)]]))
 (.ret (.op z1u [.comp 1 [2] (.nm 0) (.v 0) none (.op pAdd [.v 0,.op pTup [.v 1]])])))
def z1d:Fn:=Fn.mkN 2 2 (.ret (.op pLt [.op z0b [.op pIx [.v 0,.c (.int 0)],.op pIx [.v 1,.c (.int 1)]],.op z0b [.op pIx [.v 1,.c (.int 0)],.op pIx [.v 0,.c (.int 1)]]]))
def z81:Fn:=Fn.mkN 2 2 (.ret (.op z1b [.op pAdd [.op z0b [.op pIx [.v 0,.c (.int 0)],.op pIx [.v 1,.c (.int 0)]],.op z0b [.op pIx [.v 0,.c (.int 1)],.op pIx [.v 1,.c (.int 1)]]],.op pIx [.v 1,.c (.int 2)]]))
def z4V:Fn:=Fn.mkN 2 2 (.ret (.op z1b [.op z0b [.op pIx [.v 0,.c (.int 0)],.op pIx [.v 1,.c (.int 1)]],.op z0b [.op pIx [.v 0,.c (.int 1)],.op pIx [.v 1,.c (.int 0)]]]))
def z1t:Fn:=Fn.mkN 4 10 (.seq (.set 4 (.op pTup [.c (.int 0),.c (.int 1)]))
 (.seq (.set 5 (.op pTup [.c (.int 1),.c (.int 1)]))
 (.seq (.for_ [] (.nm 6) (.v 3) (.seq (.set 7 (.op z80 [.op z81 [.v 6,.v 2],.op pTup [.op z20 [.sl (.v 0) none (some (.v 1)),.v 6],.c (.int 1)]]))
 (.seq (.set 8 (.op z20 [.sl (.v 0) (some (.v 1)) (some (.op pAdd [.v 1,.c (.int 1)])),.v 6]))
 (.ifs (.op pEq [.v 8,.c (.int 0)]) (.ifs (.op pGt [.op pIx [.v 7,.c (.int 0)],.c (.int 0)]) (.ret (.c .non)) .skip) (.seq (.set 9 (.op z4V [.v 7,.op pTup [.v 8,.c (.int 1)]]))
 (.seq (.ifs (.and (.op pGt [.v 8,.c (.int 0)]) (.op z1d [.v 4,.v 9])) (.set 4 (.v 9)) .skip)
 (.ifs (.and (.op pLt [.v 8,.c (.int 0)]) (.op z1d [.v 9,.v 5])) (.set 5 (.v 9)) .skip)))))))
 (.seq (.ifs (.op z1d [.v 5,.v 4]) (.ret (.c .non)) .skip)
 (.ret (.op pTup [.v 4,.v 5]))))))
def z1R:Fn:=Fn.mkN 3 5 (.seq (.for_ [] (.tp [3,4]) (.op zfi [.v 2]) (.ifs (.or (.op pIn [.op pTup [.c (.int 0),.c (.int 0)],.v 4]) (.op z75 [.op z1t [.v 0,.v 3,.v 1,.v 4],.c .non])) (.ret (.c (.bl false))) .skip))
 (.ret (.c (.bl true))))
def z1L:Fn:=Fn.mkN 4 6 (.seq (.ifs (.op pNe [.op pLen [.v 3],.op pLen [.v 2]]) (.ret (.c (.bl false))) .skip)
 (.seq (.ifs (.op pEq [.op pLen [.v 3],.c (.int 0)]) (.ret (.c (.bl true))) .skip)
 (.seq (.set 4 (.op pSub [.op pLen [.v 3],.c (.int 1)]))
 (.seq (.ifs (.or (.op pIn [.op pTup [.c (.int 0),.c (.int 0)],.op pIx [.v 3,.v 4]]) (.not (.op z1R [.v 0,.v 1,.sl (.v 3) none (some (.v 4))]))) (.ret (.c (.bl false))) .skip)
 (.seq (.set 5 (.op z1t [.v 0,.v 4,.v 1,.op pIx [.v 3,.v 4]]))
 (.ret (.op pEq [.op pIx [.v 5,.c (.int 0)],.op z0q [.op pIx [.v 2,.v 4]]])))))))
def z1B:Fn:=Fn.mkN 3 3 (.ret (.and (.op pNe [.v 1,.op pTup [.c (.int 0),.c (.int 0),.c (.int 1)]]) (.and (.op pEq [.op pLen [.v 2],.op pLen [.v 0]]) (.op z1R [.v 0,.v 1,.v 2]))))
def z0t:Fn:=Fn.mkN 2 4 (.seq (.ifs (.op pEq [.op pLen [.v 1],.c (.int 0)]) (.ret (.c (.bl true))) .skip)
 (.seq (.ifs (.op pGt [.op pLen [.v 1],.op pLen [.v 0]]) (.ret (.c (.bl false))) .skip)
 (.seq (.set 2 (.op pSub [.op pLen [.v 1],.c (.int 1)]))
 (.seq (.set 3 (.op pIx [.v 1,.v 2]))
 (.seq (.ifs (.or (.op pEq [.op pLen [.v 3],.c (.int 0)]) (.or (.not (.op z0C [.op pIx [.op pIx [.v 0,.v 2],.c (.int 0)],.v 3])) (.op z1d [.op pTup [.c (.int 1),.c (.int 1)],.op z0q [.v 3]]))) (.ret (.c (.bl false))) .skip)
 (.ret (.op z3w [.sl (.v 0) none (some (.v 2)),.sl (.v 1) none (some (.v 2))])))))))
def z2f:Fn:=Fn.mkN 1 3 (.seq (.set 1 (.op pTup [.c (.int 0),.c (.int 1)]))
 (.seq (.for_ [] (.nm 2) (.v 0) (.set 1 (.op z2p [.v 1,.op z0q [.v 2]])))
 (.ret (.v 1))))
def z2J:Fn:=Fn.mkN 2 7 (.seq (.ifs (.not (.op z0t [.v 0,.v 1])) .never .skip)
 (.seq (.set 2 (.op pTup [.c (.int 0),.c (.int 0),.c (.int 1)]))
 (.seq (.for_ [] (.tp [3,4]) (.op z7C [.v 0,.v 1]) (.seq (.set 5 (.op pIx [.v 3,.c (.int 1)]))
 (.seq (.set 6 (.op z0B [.op pTup [.op pIx [.v 5,.c (.int 0)],.op pIx [.v 5,.c (.int 1)],.c (.int 1)],.op z0q [.v 4]]))
 (.set 2 (.op z14 [.v 2,.op z14 [.op z2W [.op pIx [.v 3,.c (.int 0)],.v 4],.v 6]])))))
 (.ret (.v 2)))))
def z0D:Fn:=Fn.mkN 4 4 (.ret (.and (.op z0t [.v 0,.v 3]) (.and (.op pEq [.op z2f [.v 3],.v 2]) (.op pEq [.op z2J [.v 0,.v 3],.v 1]))))
def z0l:Fn:=Fn.mkN 3 3 (.seq (.ifs (.and (.op pEq [.op pIx [.v 2,.c (.int 0)],.c (.str "at")]) (.op pEq [.op pLen [.v 2],.c (.int 4)])) (.seq (.ifs (.not (.op z0D [.v 0,.v 1,.op pIx [.v 2,.c (.int 1)],.op pIx [.v 2,.c (.int 2)]])) (.ret (.c (.bl false))) .skip)
 (.ret (.op z1L [.v 0,.v 1,.op pIx [.v 2,.c (.int 2)],.op pIx [.v 2,.c (.int 3)]]))) .skip)
 (.seq (.ifs (.and (.op pEq [.op pIx [.v 2,.c (.int 0)],.c (.str "never")]) (.op pEq [.op pLen [.v 2],.c (.int 2)])) (.ret (.op z1B [.v 0,.v 1,.op pIx [.v 2,.c (.int 1)]])) .skip)
 (.ret (.c (.bl false)))))
def z6t:Fn:=Fn.mkN 1 7 (.seq (.set 1 (.sl (.op z0E [.v 0]) none (some (.c (.int 5)))))
 (.seq (.for_ [] (.nm 2) (.sl (.op pAdd [.op pLst [.c (.int 0)],.v 0]) (some (.op pNeg [.c (.int 3)])) none) (.seq (.set 3 (.op z1c [.v 1,.v 2,.op z1H [.v 0]]))
 (.seq (.set 4 (.op z4U [.v 1,.v 3]))
 (.seq (.set 5 (.op pAdd [.sl (.v 4) none (some (.op pNeg [.c (.int 1)])),.op pTup [.op z1I [.op pIx [.v 4,.op pNeg [.c (.int 1)]],.v 2]]]))
 (.seq (.for_ [] (.nm 6) (.op pLst [.v 4,.v 5]) (.ifs (.op z59 [.op z0l [.v 1,.v 3,.v 6],.c (.bl true)]) (.ret (.c (.bl false))) .skip))
 (.for_ [] (.nm 6) (.op z08 [.v 4]) (.ifs (.op z59 [.op z0l [.v 1,.v 3,.v 6],.c (.bl false)]) (.ret (.c (.bl false))) .skip)))))))
 (.ret (.c (.bl true)))))
open Mth
def z7t {a b c d:Int}(e:Bt 2000 a)(f:Bt 2000 b)(g:Bt 2000 c)(i:Bt 2000 d)(q:Q (.bl (decide (a*d<c*b)))):z1d.run [.tup [.int a,.int b],.tup [.int c,.int d]] Q X:=by
 walk_at "fn";ac_nf;exact q
def zcv (x:W<0)(j:Bt 1400 W)(q:∀u v,Pl (-p) 0 (-W) u 0 v->Q (.tup [.int u,.int v])):z1b.run [.int p,.int W] Q X:=by
 have b:0 < -W:=by omega
 obtain⟨w,m,o,_,_⟩:=z3x (t := -p) b;have pl:=Pl.low (t := -p) b;have r:Int.gcd (-p) (-W)=Int.gcd W p:=by rw[Int.neg_gcd,Int.gcd_neg,Int.gcd_comm]
 have f:Bt 9000 (Int.gcd W p:Int):=Bt.le (j.of_abs (by
  have:=j7 (by omega) (Int.gcd_dvd_natAbs_left W p);omega))
 rw[r] at m o w pl;walk_at "fn";ac_nf;refine t_no (by omega) ?_;ac_nf;refine z1X ?_;generalize (Int.gcd W p:Int)=g at*;have i:∀{a:Int},-a = -a / g*g->Int.fdiv a (-g) = -a / g:=λ{a} e=>by
  have h:=Int.mul_fdiv_cancel_left (a := -g) (-a / g) (by omega);rw[show (-g)*(-a / g)=a by rw[Int.neg_mul,wT, <- e,Int.neg_neg]] at h;exact h
 ac_nf;refine z2M x ?_;ac_nf;refine zlM (by omega) (Bt.neg f) ?_;rw[i (by rw[wT];omega)];ac_nf;refine zlM (by omega) (Bt.neg f) ?_;rw[i (by rw[wT];omega)];ac_nf;exact q _ _ pl
def cxl {a b c:Int}(h:a*c=b*c)(d:c≠0):a=b:=wU d h
def zgn {f gw g t G:Int}(K:0<t)(hg:Pl g 0 t f 0 gw)(w:Bt 500 g)(x:Bt 100 t)(y:Bt 370 G)(J:G≠0)(q:∀u v,0<v->Int.gcd u v=1->u*(t*G)=g*v->Bt 600 u->Bt 600 v->Q (.tup [.int u,.int v])):z4V.run [.tup [.int f,.int gw],.tup [.int G,.int 1]] Q X:=by
 obtain⟨C,p,_⟩:=hg.bt K x w (Bt.le (m:=0) (z04 (by decide)));have r:=hg.pos;have I:=hg.cx;have i:Bt 480 (gw*G):=Bt.le (Bt.mul C y);walk_at "fn";ac_nf;rw[Int.mul_one];have fin:∀{u v:Int},u*(gw*G)=f*v->u*(t*G)=g*v:=λ{u v} e=>cxl (c:=gw) (by
  calc u*(t*G)*gw=u*(gw*G)*t:=by grind
   _=(f*t)*v:=by rw[e];grind
   _=g*v*gw:=by rw[I];grind) (by omega)
 rcases Int.lt_or_lt_of_ne J with z | z
 .have k:=Int.mul_neg_of_pos_of_neg r z;refine zcv k i.le λu v pl =>?_;obtain⟨j,o,_⟩:=pl.bt (n:=600) (m:=600) (by omega) (Bt.le (Bt.neg i)) (Bt.le (Bt.neg p)) (Bt.le (m:=0) (z04 (by decide)));have b:=pl.cop;rw[gcd0] at b;have e:=pl.cx;exact q u v pl.pos b (fin (by rw[Int.mul_neg,Int.neg_mul] at e;omega)) o j
 .have k:=wS r z;have pl:=Pl.low (t:=f) k;refine z5J k i.le ?_;obtain⟨j,o,_⟩:=pl.bt (n:=600) (m:=600) k i.le p.le (Bt.le (m:=0) (z04 (by decide)));have b:=pl.cop;rw[gcd0] at b;exact q _ _ pl.pos b (fin pl.cx) o j
def zeE {x y t:Int}(pd:Pd x y t)(vb:Vb 166 b)(q:∀a c,Pl (dot (x,y) b) 0 t a 0 c->Bt 480 a->Bt 100 c->Q (.tup [.int a,.int c])):z81.run [vec b,pcD x y t] Q X:=by
 have e:=pd.pc.pos;have f:Bt 480 (dot (x,y) b):=Bt.le (Bt.add (Bt.mul pd.bx vb.1) (Bt.mul pd.bY vb.2));have o:=pd.bx;have j:=pd.bY;obtain⟨p,r⟩:=id vb;walk_at "fn";ac_nf;refine z5J e pd.bt.le ?_;rw[show b.1*x+b.2*y=dot (x,y) b by simp only[dot];grind];have pl:=Pl.low (t:=dot (x,y) b) e;obtain⟨g,i,_⟩:=pl.bt e pd.bt f (Bt.le (m:=0) (z04 (by decide)));exact q _ _ pl i g
def zev {d t F a c:Int}(pl:Pl d 0 t a 0 c)(j:Bt 480 a)(o:Bt 100 c)(i:Bt 370 F)(q:∀u w,Pl (d - t*F) 0 t u 0 w->Q (.tup [.int u,.int w])):z80.run [.tup [.int a,.int c],.tup [.int F,.int 1]] Q X:=by
 have g:=pl.cop;rw[gcd0] at g;have cx:=pl.cx;have p:=pl.pos;walk_at "fn";ac_nf;refine z57 p (by decide) g (by rw[Int.neg_gcd];exact Int.gcd_one) j.le o.le (Bt.le (Bt.neg i)) (Bt.le (m:=1) (z04 (by decide))) λf t' b=>q f t' ?_;have e:=b.cx;refine⟨b.pos,b.cop,cxl (c:=c) ?_ (by omega),by have:=b.cy;simpa using this⟩
 calc f*t*c=f*(c*1)*t:=by grind
  _=(a*t - t*F*c)*t':=by rw[e];grind
  _=(d - t*F)*t'*c:=by rw[cx];grind
def ls1 {u v g s p r:Int}(e:u*s=g*v)(h:g*r<=p*s)(b:0<v)(f:s<0):p*v<=u*r:=by
 have k:=wo h (wt b);have d:u*r*s<=p*v*s:=by
  rw[show u*r*s=g*r*v by rw[We,e];grind,show p*v*s=p*s*v by grind];exact k
 exact wZ (a := -s) (by rw[Int.mul_neg,Int.mul_neg];omega) (by omega)
def ls2 {u v g s p r:Int}(e:u*s=g*v)(h:g*r<=p*s)(d:0<v)(b:0<s):u*r<=p*v:=by
 have k:=wo h (wt d);refine wZ (a:=s) ?_ b;rw[show u*r*s=g*r*v by rw[We,e];grind,show p*v*s=p*s*v by grind];exact k
def zgo {k:Nat}{x y t:Int}{bs:List P}(hw:∀x∈ws,Wt4 x)(hz:ws.length<=12)(ek:ws[k]? = some w)(pd:Pd x y t)(vb:Wb 166 bs)
  (q0:(∀p r,0<=p->p<=r->0<r->¬ ∀c∈bs,Fb ws w x y t k p r c)->Q .non)
  (q1:∀a b e f,0<b->0<=a->a<=b->Int.gcd a b=1->(∀c∈bs,Fb ws w x y t k a b c)->(∀p r,0<=p->p<=r->0<r->(∀c∈bs,Fb ws w x y t k p r c)->a*r<=p*b)->Q (.tup [.tup [.int a,.int b],.tup [.int e,.int f]])):z1t.run [.tup (ws.map wtD),.int (k:Int),pcD x y t,vecs bs] Q X:=by
 have pc:=pd.pc;have t0:=pc.pos;have a1:=pd.bt;obtain⟨hk,_⟩:=wu.mp ek;have Z:Wt4 w:=hw w (wz ek);obtain⟨c1,c2⟩:=z86 wtD ek;walk_at "fn";ac_nf;refine z0i (f:=vec) (λU ρ=>∃(a b e f:Int) (x6 x7 x8 x9:B),(0<b/\0<=a/\0<f/\e<=f/\Int.gcd a b=1)/\(Bt 600 a/\Bt 600 b/\Bt 600 e/\Bt 600 f)/\(∀c∈U,Lft ws w x y t k a b e f c)/\(∀p r,0<=p->p<=r->0<r->(∀c∈U,Fb ws w x y t k p r c)->a*r<=p*b/\p*f<=e*r)/\ρ=[.s (.tup (ws.map wtD)),.s (.int (k:Int)),.s (pcD x y t),.s (vecs bs),.s (.tup [.int a,.int b]),.s (.tup [.int e,.int f]),x6,x7,x8,x9]) ⟨0,1,1,1,_,_,_,_,⟨by decide,by decide,by decide,by decide,by decide⟩,⟨Bt.le (m:=1) (z04 (by decide)),Bt.le (m:=1) (z04 (by decide)),Bt.le (m:=1) (z04 (by decide)),Bt.le (m:=1) (z04 (by decide))⟩,(λc hc=>by cases hc),(λp r I J j _=>⟨by omega,by omega⟩),rfl⟩ ?_ ?_
 .rintro U c rr ρ e0 ⟨a,b,e,f,x6,x7,x8,x9,⟨i,a0,q,ef,cp⟩,⟨ba,bb,be,bf⟩,hd,Y,rfl⟩;have hc:c∈bs:=by rw[e0];simp
  have R:=vb c hc;show Sm.run _ _ _ _ _;ac_rfl;ac_nf;refine zeE pd R λga gc gp a2 a3 =>?_;ac_nf;rw[c1];refine zcB (λx Z=>hw x (vB Z)) (by rw[vi];omega) R.le λF hF =>?_;have fF:=z7m hF;have bF:Bt 370 F:=by
   obtain⟨_,p,hp,e⟩:=fF;have v:=zoj (λx Z=>hw x (vB Z)) (by rw[vi];omega) hp;rw[<- e];exact Bt.le (Bt.add (Bt.mul v.1 R.1) (Bt.mul v.2 R.2))
  have bd:Bt 480 (dot (x,y) c):=Bt.le (Bt.add (Bt.mul pd.bx R.1) (Bt.mul pd.bY R.2));have bg:Bt 500 (dot (x,y) c - t*F):=Bt.le (Bt.sub bd (Bt.mul a1 bF));ac_nf;refine zev gp a2 a3 bF λgu gw hg =>?_;clear gp a2 a3;generalize a5:dot (x,y) c - t*F=g at*;refine z0h (Safe.of_noL rfl rfl _) ?_;ac_rfl;ac_nf;rw[c2];refine zcB (ws:=[w]) (λx Z=>by rw[wj.mp Z];exact hw w (wz ek)) (by simp) R.le λG hG =>?_;have fG:Geo.Far (· ∈ tr w) c G:=by
   obtain⟨G',g⟩:=zat Z.ne c;have L:=z5Q (ds:=[]) zaf g;rw[uy] at L;rw[z7d (z7m hG) L];exact g
  have bG:Bt 370 G:=by
   obtain⟨_,p,hp,e⟩:=fG;obtain⟨u,hu,rfl⟩:=wf.mp hp;have v1:=zca Z _ hp;rw[<- e];exact Bt.le (Bt.add (Bt.mul v1.1 R.1) (Bt.mul v1.2 R.2))
  have W:∀{p r:Int},(∀c'∈U++[c],Fb ws w x y t k p r c')->g*r<=p*(t*G)/\∀c'∈U,Fb ws w x y t k p r c':=λh=>⟨by have:=h c (by simp) F G fF fG;rwa [a5] at this,λc' C=>h c' (by simp[C])⟩
  have tG:∀{G:Int},0<G->0<t*G:=λh=>wS t0 h;have tN:∀{G:Int},G<0->t*G<0:=λh=>by
   have:=jb h t0
   rwa [jv] at this
  have N:∀{a' b' e' f':Int},0<b'->0<f'->a*b'<=a'*b->e'*f<=e*f'->∀c'∈U,Lft ws w x y t k a' b' e' f' c':=λb1 f1 h1 h2 c' C F' G' L M=>by
   obtain⟨l1,l2,l3⟩:=hd c' C F' G' L M;exact⟨λz=>zdx i b1 (wt (tG z)) (l1 z) h1,l2,λz=>zac q f1 (wt (tN z)) (l3 z) h2⟩
  have all:∀{a' b' e' f':Int},(∀c'∈U,Lft ws w x y t k a' b' e' f' c')->(0<G->g*b'<=a'*(t*G))->(G=0->g<=0)->(G<0->g*f'<=e'*(t*G))->∀c'∈U++[c],Lft ws w x y t k a' b' e' f' c':=λh1 h2 h3 h4 c' C=>by
   rcases wB.mp C with z | z
   .exact h1 c' z
   .rw[wj.mp z];intro F' G' L M;rw[z7d L fF,z7d M fG,a5];exact⟨h2,h3,h4⟩
  ac_nf
  rcases Int.lt_trichotomy G 0 with z | z | z
  .refine t_no (by omega) ?_;ac_nf;refine zgn t0 hg bg a1 bG (by omega) λu v O a4 o bu bv =>?_;refine z0h (Safe.of_noL rfl rfl _) ?_;ac_rfl;ac_nf;refine t_no (by omega) ?_;ac_nf;refine z2M z ?_;ac_nf;refine z7t bu.le bv.le be.le bf.le ?_;refine z0r (λK =>?_) (λK =>?_)
   .ac_nf;have g2:=wt K;refine⟨a,b,u,v,_,_,_,_,⟨i,a0,O,?_,cp⟩,⟨ba,bb,bu,bv⟩,all (N i O (vO _) g2) (λh=>by omega) (λh=>by omega) λ_=>Wk o.symm,λp r I J j h=>⟨(Y p r I J j (W h).2).1,ls1 o (W h).1 O (tN z)⟩,rfl⟩;refine wZ (a:=f) (ju g2 ?_) q;rw[wT v];exact wo ef (wt O)
   .ac_nf;refine⟨a,b,e,f,_,_,_,_,⟨i,a0,q,ef,cp⟩,⟨ba,bb,be,bf⟩,all (N i q (vO _) (vO _)) (λh=>by omega) (λh=>by omega) λ_=>zac O q (wt (tN z)) (Wk o.symm) (jR.mp K),λp r I J j h=>Y p r I J j (W h).2,rfl⟩
  .refine z2M z ?_;ac_nf;have ge:=hg.cx;have w0:=hg.pos;refine z0r (λK =>?_) (λK =>?_)
   .ac_nf;refine q0 λp r I J j h =>?_;have L:=(W (p:=p) (r:=r) λc' C=>h c' (by rw[e0];rcases wB.mp C with y | y <;> simp_all)).1;rw[z,jv,jv] at L;have M:=wS K t0;rw[ge] at M;have k3:=wS (Int.pos_of_mul_pos_left M w0) j;omega
   ac_nf;have g0:g<=0:=jR.mp λk=>K (by
    have M:=wS k w0;rw[<- ge] at M;exact Int.pos_of_mul_pos_left M t0)
   exact⟨a,b,e,f,_,_,_,_,⟨i,a0,q,ef,cp⟩,⟨ba,bb,be,bf⟩,all (N i q (vO _) (vO _)) (λh=>by omega) (λ_=>g0) (λh=>by omega),λp r I J j h=>Y p r I J j (W h).2,rfl⟩
  .refine t_no (by omega) ?_;ac_nf;refine zgn t0 hg bg a1 bG (by omega) λu v O a4 o bu bv =>?_;refine z0h (Safe.of_noL rfl rfl _) ?_;ac_rfl;ac_nf;refine z2M z ?_;ac_nf;refine z7t ba.le bb.le bu.le bv.le ?_;refine z0r (λK =>?_) (λK =>?_)
   .ac_nf;refine t_no (by omega) ?_;ac_nf;have g2:=wt K;have u0:0<=u:=by
     have L:=wR a0 (wt O);exact wt (zcO (a:=b) (by rw[wT];omega) i)
    exact⟨u,v,e,f,_,_,_,_,⟨O,u0,q,ef,a4⟩,⟨bu,bv,be,bf⟩,all (N O q g2 (vO _)) (λ_=>Wk o.symm) (λh=>by omega) (λh=>by omega),λp r I J j h=>⟨ls2 o (W h).1 O (tG z),(Y p r I J j (W h).2).2⟩,rfl⟩
   .ac_nf;refine t_no (by omega) ?_;ac_nf;exact⟨a,b,e,f,_,_,_,_,⟨i,a0,q,ef,cp⟩,⟨ba,bb,be,bf⟩,all (N i q (vO _) (vO _)) (λ_=>zdx O i (wt (tG z)) (Wk o.symm) (jR.mp K)) (λh=>by omega) (λh=>by omega),λp r I J j h=>Y p r I J j (W h).2,rfl⟩
 rintro ρ ⟨a,b,e,f,x6,x7,x8,x9,⟨i,a0,q,ef,cp⟩,⟨ba,bb,be,bf⟩,hd,Y,rfl⟩;ac_nf;refine z7t be.le bf.le ba.le bb.le ?_;refine z0r (λK =>?_) (λK =>?_)
 .ac_nf;refine q0 λp r I J j h =>?_;obtain⟨L,M⟩:=Y p r I J j h;have k3:=wo L (wt q);have k4:=wo M (wt i);have k5:a*f*r<=e*b*r:=by
   rw[show a*f*r=a*r*f by grind,show e*b*r=e*r*b by grind];exact ju k3 (by rw[show p*b*f=p*f*b by grind];exact k4)
  have:=wZ k5 j;omega
 ac_nf;have g2:=jR.mp K;refine q1 a b e f i a0 ?_ cp (λc hc F G L M =>?_) λp r I J j h=>(Y p r I J j h).1
 .refine wZ (a:=f) (ju g2 ?_) q;rw[wT b];exact wo ef (wt i)
 .obtain⟨l1,l2,l3⟩:=hd c hc F G L M
  rcases Int.lt_trichotomy G 0 with z | z | z
  .exact zac q i (wt (by have:=jb z t0;rwa [jv] at this)) (l3 z) g2
  .have:=wo (l2 z) (wt i);rw[z,jv,jv]
   rwa [jf] at this
  .exact l1 z
theorem zma:∀{sh:List Sh}{a:Int},(∀s∈sh,Sw W n s/\Int.gcd s.2.1 s.2.2=1)->sh.Pairwise (λa b=>a.1<b.1)->(∀s∈sh,a<(s.1))->z9c n a (sh.map toR)=true
 | [],_,_,_,_=>rfl
 | s::l,a,h,up,f=>by
  obtain⟨d,j⟩:=h s (by simp);have m:=d.ix;have o:=d.top;have p:=d.bot;have q:=f s (by simp);rw[vd] at up;have r:=zma (a:=(s.1)) (λs g=>h s (by simp[g])) up.2 λi e=>by have:=up.1 i e;lia
  simp[wE,z9c,vQ,decide_eq_true_eq,toR]
  grind
def zcF {sh:List Sh}(G:Gd W l.length sh)(q:Q (.bl true)):z0C.run [vecs l,shsD sh] Q X:=by
 show z0C.run [vecs l,.tup _] Q X;rw[zhm];refine zcs ?_;rw[zma G.each G.up λs _=>by lia];exact q
def z66 {sh:List Sh}(p:0<W)(j:Bt 1900 W)(G:Gd W n sh)(q:∀u t,Pl (sw one W sh) 0 W u 0 t->Q (.tup [.int u,.int t])):z0q.run [shsD sh] Q X:=by
 have N:=G.few;walk_at "fn";ac_nf;refine z0i (f:=shD) (λo C=>Ee4 λ(a b) (y z)=>Pl (sw one W o) 0 W a 0 b/\C=[.s (shsD sh),.s (.tup [.int a,.int b]),y,z]) ⟨0,1,_,_,⟨by decide,by decide,by simp[sw],by simp⟩,rfl⟩ ?_ ?_
 .rintro o s r C e ⟨a,b,y,z,g,rfl⟩;obtain⟨i,U⟩:=G.each s (by rw[e];simp);obtain⟨J,K⟩:=i.bits p j;have le:=congrArg List.length e;rw[wG] at le;obtain⟨M,L,_⟩:=g.bt (n:=1900) (m:=1920) p j (Bt.le (z4w (w:=one) (m:=1) (l:=o) (by lia) p j (λR x=>(G.each R (by rw[e];simp[x])).1) λ_=>z7f)) (Bt.le (m:=0) (z04 (by decide)));have I:=g.cop;rw[gcd0] at I;refine⟨rfl,?_⟩;show Sm.run _ _ _ _ _;unfold z09 z09 z09;ac_rfl;ac_nf;refine z57 g.pos i.bot I U L.le M.le J.le K.le λu t O =>?_;refine z0h (Safe.of_noL rfl rfl _) ?_;ac_rfl;refine⟨u,t,_,_,?_,rfl⟩;rw[z4g];exact(g.more (vx:=1) (vy:=0) i.bot (z7x i.dv) (by simpa using O)).eq0
 rintro C ⟨a,b,y,z,g,rfl⟩;ac_nf;exact q a b g
def z8t {co:List (List Sh)}{W:Int}(hz:co.length<=12)(p:0<W)(j:Bt 1900 W)(L:∀g∈co,∃n,Gd W n g)(q:∀u t,Pl (co.map (sw one W)).sum 0 W u 0 t->Q (.tup [.int u,.int t])):z2f.run [.tup (co.map shsD)] Q X:=by
 have bs:∀g∈co,Bt 1920 (sw one W g):=λg hg=>by
  obtain⟨n,G⟩:=L g hg;have:=G.few;exact Bt.le (z4w (w:=one) (m:=1) (by lia) p j (λs Z=>(G.each s Z).1) λ_=>z7f)
 walk_at "fn";ac_nf;refine z0i (f:=shsD) (λy I=>Ee3 λ(a b) C=>Pl (y.map (sw one W)).sum 0 W a 0 b/\I=[.s (.tup (co.map shsD)),.s (.tup [.int a,.int b]),C]) ⟨0,1,_,⟨by decide,by decide,by simp,by simp⟩,rfl⟩ ?_ ?_
 .rintro y g r I e ⟨a,b,C,i,rfl⟩;have hg:g∈co:=by rw[e];simp
  obtain⟨n,G⟩:=L g hg;have le:=congrArg List.length e;rw[wG] at le;obtain⟨N,M,_⟩:=i.bt (n:=1900) (m:=1940) p j (Bt.le (m:=1920+(y.map (sw one W)).length) (z6g λx hx=>by
   obtain⟨U,z,rfl⟩:=wf.mp hx;exact bs U (by rw[e];simp[z])) (by rw[we];lia)) (Bt.le (m:=0) (z04 (by decide)))
  have J:=i.cop;rw[gcd0] at J;show Sm.run _ _ _ _ _;ac_rfl;ac_nf;refine z66 p j G λu t o =>?_;obtain⟨R,O,_⟩:=o.bt (n:=1900) (m:=1940) p j (bs g hg).le (Bt.le (m:=0) (z04 (by decide)));have K:=o.cop;rw[gcd0] at K;ac_nf;refine z57 i.pos o.pos J K M.le N.le O.le R.le λu' t' Y =>?_;refine z0h (Safe.of_noL rfl rfl _) ?_;ac_rfl;refine⟨u',t',_,?_,rfl⟩;rw[wD,ul];simpa using i.plus o (by simpa using Y)
 rintro I ⟨a,b,C,i,rfl⟩;ac_nf;exact q a b i
def z8s (f:0<q)(e:Bt 2000 q)(g:Bt 600 a)(i:Bt 600 b)(j:Bt 2000 p)(h:∀u v t,Pl (a*p) (b*p) q u v t->Q (.tup [.int u,.int v,.int t])):z0B.run [.tup [.int a,.int b,.int 1],.tup [.int p,.int q]] Q X:=by
 walk_at "fn";ac_nf;rw[Int.one_mul];exact z4e f e.le h
def zhw {sh:List Sh}(g:Wt4 x)(C:0<W)(p:Bt 1900 W)(G:Gd W x.1.length sh)(q:∀u v t,Pl (sw (wx x.1) W sh) (sw (wy x.1) W sh) W u v t->Q (.tup [.int u,.int v,.int t])):z2W.run [vecs x.1,shsD sh] Q X:=by
 have a0:=G.few;walk_at "fn";ac_nf;refine zcF G ?_;ac_nf;refine z24 (z4d ?_);ac_nf;refine z0i (f:=shD) (λz R=>Ee6 λ(u v t) (M N O)=>Pl (sw (wx x.1) W z) (sw (wy x.1) W z) W u v t/\R=[.s (vecs x.1),.s (shsD sh),.s (.tup [.int u,.int v,.int t]),M,N,O]) ⟨0,0,1,_,_,_,⟨by decide,by decide,by simp[sw],by simp[sw]⟩,rfl⟩ ?_ ?_
 .rintro z s r R e ⟨u,v,t,M,N,O,b,rfl⟩;obtain⟨j,_⟩:=G.each s (by rw[e];simp);obtain⟨J,U⟩:=j.bits C p;have y:=cyb g.ne g.wb s.1;have le:=congrArg List.length e;rw[wG] at le;have o:∀s∈z,Sw W x.1.length s:=λs hs=>(G.each s (by rw[e];simp[hs])).1;obtain⟨K,bu,bv⟩:=b.bt (n:=1900) (m:=2100) C p (Bt.le (z4w (by lia) C p o λi=>(cyb g.ne g.wb i).1)) (Bt.le (z4w (by lia) C p o λi=>(cyb g.ne g.wb i).2));refine⟨rfl,?_⟩;show Sm.run _ _ _ _ _;unfold z09 z09 z09;ac_rfl;ac_nf;refine z0V (z0x (z9l j.ix)) ?_;refine z0h (Safe.of_noL rfl rfl _) ?_;ac_rfl;ac_nf;refine z8s j.bot U.le y.1.le y.2.le J.le λa c w I =>?_;obtain⟨bw,Y,Z⟩:=I.bt j.bot U (Bt.mul y.1 J) (Bt.mul y.2 J);refine z3m b.pos I.pos b.cop I.cop bu.le bv.le K.le Y.le Z.le bw.le λu' v' t' L =>?_;refine z0h (Safe.of_noL rfl rfl _) ?_;ac_rfl;refine⟨u',v',t',_,_,_,?_,rfl⟩;rw[z4g,z4g];exact b.plus (I.over j.bot (z7x j.dv)) L
 rintro R ⟨u,v,t,M,N,O,b,rfl⟩;ac_nf;exact q u v t b
def z9P {ws:List (List P × P)}{co:List (List Sh)}{W:Int}(j:0<W)(m:Bt 1900 W)(x:co.length=ws.length)(hg:∀p∈ws.zip co,Gd W p.1.1.length p.2/\sw one W p.2=W)(q:Q (.bl true)):z3w.run [.tup (ws.map wtD),.tup (co.map shsD)] Q X:=by
 walk_at "fn";ac_nf;rw[we,we,x];refine z24 (z2M rfl ?_);ac_nf;refine zlz ?_;ac_nf;refine z0i (f:=λp:(List P × P) × List Sh=>D.tup [wtD p.1,shsD p.2]) (λw i=>Ee2 λ(b g)=>i=[.s (.tup (ws.map wtD)),.s (.tup (co.map shsD)),b,g]) ⟨_,_,rfl⟩ ?_ ?_
 .rintro w p r i e ⟨b,g,rfl⟩;obtain⟨G,o⟩:=hg p (by rw[e];simp);refine⟨rfl,?_⟩;show Sm.run _ _ _ _ _;unfold z09 z09 z09;ac_rfl;ac_nf;refine zcF G ?_;ac_nf;refine z24 (z4d ?_);ac_nf;refine z66 j m G λu t y =>?_;have e:=(zit j y).mpr o;ac_nf;refine znF ?_;refine z24 (z2M e ?_);ac_nf;exact⟨_,_,rfl⟩
 rintro i ⟨b,g,rfl⟩;ac_nf;exact q
structure Sc2 (W:Int)(ws:List (List P × P))(co:List (List Sh))(g:List Sh):Prop where
 W0:0<W
 bW:Bt 1900 W
 hk:co.length<ws.length
 hz:ws.length<=12
 gd:∀q∈ws.zip (co++[g]),Gd W q.1.1.length q.2
 all:∀g'∈co,sw one W g'=W
 p0:0<sw one W g
 pW:sw one W g<=W
def Sc2.last (S:Sc2 W ws co g):∃w,ws[co.length]? = some w/\Gd W w.1.length g/\ws.zip (co++[g])=(ws.take co.length).zip co++[(w,g)]:=by
 have b:=S.hk;have a  := wm b;have e:ws.zip (co++[g])=(ws.take co.length).zip co++[(ws[co.length],g)]:=by
  rw[z4m a,z5G (ww _)]
 exact⟨_,a,S.gd (_,g) (by rw[e];simp),e⟩
def z6Z {ws:List (List P × P)}{W:Int}(S:Sc2 W ws co g)(q:Q (.bl true)):z0t.run [.tup (ws.map wtD),.tup ((co++[g]).map shsD)] Q X:=by
 obtain⟨w,i,G,r⟩:=S.last;have y:=S.hk;have I:=S.hz;have f:(co++[g])[co.length]? = some g:=by simp
 have x:g≠[]:=λz=>by have:=S.p0;rw[z] at this;simp[sw] at this
 have gl:=w9.mpr x;walk_at "fn";ac_nf;have b:(co++[g]).length=co.length+1:=by simp
 rw[we,b];refine t_no (by lia) ?_;ac_nf;rw[we,we,b];refine t_no (by lia) ?_;ac_nf;rw[we,b,show (((co.length+1:Nat):Int) - 1)=co.length by lia];ac_nf;refine z0V (z0x ((z50 (by simp)).trans f)) ?_;refine z0h (Safe.of_noL (z76 g) (z77 g) _) ?_;ac_rfl;ac_nf;rw[we];refine t_no (by lia) ?_;ac_nf;refine z0V (z0x ((z50 y).trans i)) ?_;ac_nf;refine zcF G ?_;ac_nf;refine z24 (z4d ?_);ac_nf;refine z66 S.W0 S.bW G λu t e =>?_;obtain⟨o,j,_⟩:=e.bt (n:=1900) (m:=1920) S.W0 S.bW (Bt.le (z4w (w:=one) (m:=1) (by have:=G.few;lia) S.W0 S.bW (λs C=>(G.each s C).1) λ_=>z7f)) (Bt.le (m:=0) (z04 (by decide)));ac_nf;refine z7t (Bt.le (m:=1) (z04 (by decide))) (Bt.le (m:=1) (z04 (by decide))) j.le o.le ?_;have le:¬ 1*t<u*1:=λz=>by
  have k:=uB (show t<u by omega) S.W0;rw[e.cx] at k;have J:=wo S.pW (wt e.pos);rw[wT t] at k;omega
 refine t_no le ?_;ac_nf;rw[(z86 wtD i).1,(z86 shsD f).1,List.take_left];refine z9P S.W0 S.bW (by rw[vi];lia) (λp e=>⟨S.gd p (by rw[r];simp[e]),S.all p.2 (u7 e).2⟩) q
def z9L (hw:∀x∈ws,Wt4 x)(S:Sc2 W ws co g)(q:∀u v t,Pl ((ws.zip (co++[g])).map (cX W)).sum ((ws.zip (co++[g])).map (cY W)).sum W u v t->Q (.tup [.int u,.int v,.int t])):z2J.run [.tup (ws.map wtD),.tup ((co++[g]).map shsD)] Q X:=by
 have o:=S.W0;have j:=S.bW;have hc:CrsS W ws (co++[g]):=⟨by rw[wG,vK];exact S.hk,λp y=>⟨by have:=(S.gd p y).few;lia,λs b=>((S.gd p y).each s b).1⟩⟩
 walk_at "fn";ac_nf;refine z6Z S ?_;ac_nf;refine z24 (z4d ?_);ac_nf;refine zlz ?_;ac_nf;refine z0i (f:=λp:(List P × P) × List Sh=>D.tup [wtD p.1,shsD p.2]) (λI ρ=>Ee7 λ(u v t) (Y Z x5 x6)=>Pl (I.map (cX W)).sum (I.map (cY W)).sum W u v t/\ρ=[.s (.tup (ws.map wtD)),.s (.tup ((co++[g]).map shsD)),.s (.tup [.int u,.int v,.int t]),Y,Z,x5,x6]) ⟨0,0,1,_,_,_,_,⟨by decide,by decide,by simp,by simp⟩,rfl⟩ ?_ ?_
 .rintro I p r ρ e ⟨u,v,t,Y,Z,x5,x6,y,rfl⟩;have hm:p∈ws.zip (co++[g]):=by rw[e];simp
  have z:=hw p.1 (u7 hm).1;have G:=S.gd p hm;have et:I=(ws.zip (co++[g])).take I.length:=by rw[e,List.take_left]
  obtain⟨bA,bB⟩:=z5H (n:=I.length) hw S.hz o j hc;rw[<- et] at bA bB;obtain⟨R,bu,bv⟩:=y.bt o j bA bB;obtain⟨⟨wd,st⟩,sh⟩:=p;obtain⟨sx,sy⟩:=st;dsimp only at z G ⊢;have J:=z.vb;have C:sh.length<=14:=by have:=G.few;lia
  have K:=z4w (w:=one) (m:=1) C o j (λs b=>(G.each s b).1) λ_=>z7f;refine⟨rfl,?_⟩;show Sm.run _ _ _ _ _;unfold z09 z09 z09;ac_rfl;ac_nf;refine z66 o j G λa c L =>?_;obtain⟨b2,b1,_⟩:=L.bt (n:=1900) (m:=1920) o j K.le (Bt.le (m:=0) (z04 (by decide)));ac_nf;refine z8s L.pos b2.le J.1.le J.2.le b1.le λe1 f1 h1 hk =>?_;have e0:=L.cx;have pk:=hk.over L.pos (W:=W) (P:=sw one W sh) (by rw[e0]);obtain⟨bw,ba,bc⟩:=pk.bt (n:=1900) (m:=2100) o j (Bt.le (Bt.mul J.1 K)) (Bt.le (Bt.mul J.2 K));refine z0h (Safe.of_noL rfl rfl _) ?_;ac_rfl;ac_nf;refine zhw (x:=(wd,sx,sy)) z o j G λa' c' w' b =>?_;have z1:=z4w C o j (λs b=>(G.each s b).1) λi=>(cyb z.ne z.wb i).1;have z2:=z4w C o j (λs b=>(G.each s b).1) λi=>(cyb z.ne z.wb i).2;obtain⟨U,N,O⟩:=b.bt (n:=1900) (m:=2100) o j z1.le z2.le;ac_nf;refine z3m b.pos pk.pos b.cop pk.cop N.le O.le U.le ba.le bc.le bw.le λa2 c2 w2 h2 =>?_;have M:=b.plus pk h2;obtain⟨b3,b4,b5⟩:=M.bt (n:=1900) (m:=2200) o j (Bt.le (Bt.add z1 (Bt.mul J.1 K))) (Bt.le (Bt.add z2 (Bt.mul J.2 K)));ac_nf;refine z3m y.pos M.pos y.cop M.cop bu.le bv.le R.le b4.le b5.le b3.le λu' v' t' h' =>?_;refine z0h (Safe.of_noL rfl rfl _) ?_;ac_rfl;refine⟨u',v',t',_,_,_,_,?_,rfl⟩;have:=y.plus M h';rw[wD,ul,wD,ul];simpa[cX,cY] using this
 rintro ρ ⟨u,v,t,Y,Z,x5,x6,y,rfl⟩;ac_nf;exact q u v t y
def zlL {a:Type}{f:a->D}{l:List a}(q:Q (.lst (l.zipIdx.map λp=>D.tup [.int (p.2),f p.1]))):zfi.run [.tup (l.map f)] Q X:=by
 show Q _;rw[List.zipIdx_map,wN];exact q
def Opn (ws:List (List P × P))(w:List P × P)(x y t:Int)(j:Nat)(bs:List P):Prop:=∃p r,0<=p/\p<=r/\0<r/\∀c∈bs,Fb ws w x y t j p r c
def zgq {ws:List (List P × P)}{x y t:Int}{bars:List (List P)}(Y:∀x∈ws,Wt4 x)(Z:ws.length<=12)(pd:Pd x y t)(hl:bars.length<=ws.length)(vb:∀bs∈bars,Wb 166 bs)
  (qT:(∀j bs w,bars[j]? = some bs->ws[j]? = some w->(0,0) ∉ bs/\¬ Opn ws w x y t j bs)->Q (.bl true))
  (M:∀j bs w,bars[j]? = some bs->ws[j]? = some w->((0,0)∈bs\/Opn ws w x y t j bs)->Q (.bl false)):z1R.run [.tup (ws.map wtD),pcD x y t,.tup (bars.map vecs)] Q X:=by
 walk_at "fn";ac_nf;refine zlL ?_;ac_nf;refine z0i (f:=λp:List P × Nat=>D.tup [.int (p.2),vecs p.1]) (λg K=>Ee2 λ(I J)=>(∀j bs w,j<g.length->bars[j]? = some bs->ws[j]? = some w->(0,0) ∉ bs/\¬ Opn ws w x y t j bs)/\K=[.s (.tup (ws.map wtD)),.s (pcD x y t),.s (.tup (bars.map vecs)),I,J]) ⟨_,_,λ_ _ _ h=>absurd h (by simp),rfl⟩ ?_ ?_
 .rintro g ⟨bs,k⟩ r K e ⟨I,J,C,rfl⟩;have L:=congrArg (λl=>l[g.length]?) e;simp only[List.getElem?_zipIdx,wX (ww _),Nat.sub_self,u3,vD,Wj,Prod.mk.injEq] at L;obtain⟨_,o,rfl,rfl⟩:=L;have hk:g.length<bars.length:=(wu.mp o).1;have q:ws[g.length]? = some ws[g.length]:=wm (by omega);generalize ws[g.length]=w at q;refine⟨rfl,?_⟩;show Sm.run _ _ _ _ _;unfold z09 z09 z09;ac_rfl;ac_nf;refine zlI (p:=(0,0)) ?_;refine z0r (λh =>?_) (λh =>?_)
  .ac_nf;exact M _ _ _ o q (.inl h)
  ac_nf;refine zgo Y Z q pd (vb _ (wz o)) (λno =>?_) λa b e f R N O _ U _ =>?_
  .ac_nf;refine z9I rfl ?_;ac_nf;refine⟨_,_,λj u w' W i m =>?_,rfl⟩;rw[wG,vK] at W
   by_cases z:j<g.length
   .exact C j u w' z i m
   .obtain rfl:j=g.length:=by omega
    rw[o] at i;rw[q] at m
    cases i
    cases m
    exact⟨h,λ⟨p,r,p0,pr,r0,k⟩=>no p r p0 pr r0 k⟩
  .ac_nf;refine z8k rfl ?_;ac_nf;exact M _ _ _ o q (.inr ⟨a,b,N,O,R,U⟩)
 rintro K ⟨I,J,C,rfl⟩;ac_nf;exact qT λj bs w i m=>C j bs w (by rw[List.length_zipIdx];exact(wu.mp i).1) i m
def ziz {a b c d:Int}(q:Q (.bl (decide ((a,b)=(c,d))))):pEq.run [.tup [.int a,.int b],.tup [.int c,.int d]] Q X:=by
 refine zfu (Da.vec (a,b)) (Da.vec (c,d)) ?_;rw[z3y (a,b) (c,d)];exact q
def zlK {a b c:Int}(q:Q (.bl (decide (a=x/\b=y/\c=z)))):pEq.run [.tup [.int a,.int b,.int c],.tup [.int x,.int y,.int z]] Q X:=by
 refine zfu (Da3 a b c) (Da3 x y z) ?_;rw[deq3 a b c x y z];exact q
def zaA {ws:List (List P × P)}{x y t W p r:Int}{co:List (List Sh)}{bars:List (List P)}{bs:List P}(M:∀x∈ws,Wt4 x)(pd:Pd x y t)(S:Sc2 W ws co g)(K:ws[co.length]? = some w)(lst:Pl (sw one W g) 0 W p 0 r)(q:bars.length=co.length)(vb:∀b∈bars,Wb 166 b)(J:Wb 166 bs)
  (fa:Opn ws w x y t co.length bs) (O:((0,0)∈bs\/∃j i w',bars[j]? = some i/\ws[j]? = some w'/\((0,0)∈i\/Opn ws w' x y t j i))->Q (.bl false))
  (qE:(0,0) ∉ bs->(∀j i w',bars[j]? = some i->ws[j]? = some w'->(0,0) ∉ i/\¬ Opn ws w' x y t j i)->∀a b,0<b->0<=a->Int.gcd a b=1->(∀c∈bs,Fb ws w x y t co.length a b c)->(∀p r,0<=p->p<=r->0<r->(∀c∈bs,Fb ws w x y t co.length p r c)->a*r<=p*b)->Q (.bl (decide ((a,b)=(p,r))))):
  z1L.run [.tup (ws.map wtD),pcD x y t,.tup ((co++[g]).map shsD),.tup ((bars++[bs]).map vecs)] Q X:=by
 obtain⟨w',C,G,ez⟩:=S.last;obtain rfl:w=w':=w6 (K.symm.trans C);have hk:=S.hk;have N:=S.hz;have L:(co++[g]).length=co.length+1:=by simp
 have m:(bars++[bs]).length=co.length+1:=by rw[wG,vK,q]
 have eg:(co++[g])[co.length]? = some g:=by simp
 have z:(bars++[bs])[co.length]? = some bs:=by rw[<- q];simp
 walk_at "fn";ac_nf;rw[we,we,L,m];refine z24 (z2M rfl ?_);ac_nf;rw[we,m];refine t_no (by lia) ?_;ac_nf;rw[we,m,show (((co.length+1:Nat):Int) - 1)=co.length by lia];ac_nf;refine z0V (z0x ((z50 (by rw[m];lia)).trans z)) ?_;ac_nf;refine zlI (p:=(0,0)) ?_;refine z0r (λh =>?_) (λh =>?_)
 .ac_nf;exact O (.inl h)
 ac_nf;rw[(z86 vecs z).1, <- q,List.take_left];refine zgq M N pd (by lia) vb (λY =>?_) λj i w' e1 e2 o =>?_
 .ac_nf;refine z24 (z4d ?_);ac_nf;rw[q];refine z0V (z0x ((z50 (by rw[m];lia)).trans z)) ?_;ac_nf;refine zgo M N K pd J (λno =>?_) λa b e f U R ab Z fb I =>?_
  .obtain⟨p',r',z1,z2,z3,z4⟩:=fa;exact absurd z4 (no p' r' z1 z2 z3)
  .refine z0h (Safe.of_noL rfl rfl _) ?_;ac_rfl;ac_nf;refine z0V (z0x ((z50 (by rw[L];lia)).trans eg)) ?_;ac_nf;refine z66 S.W0 S.bW G λu v hp =>?_;obtain⟨rfl,_,rfl⟩:=hp.eq S.W0 lst;refine ziz ?_;exact qE h Y a b U R Z fb I
 .ac_nf;refine z24 (z3H ?_);ac_nf;exact O (.inr ⟨j,i,w',e1,e2,o⟩)
def z3c {ws:List (List P × P)}{x y t:Int}{bars:List (List P)}(m:∀x∈ws,Wt4 x)(p:ws.length<=12)(pd:Pd x y t)(vb:∀bs∈bars,Wb 166 bs)
  (q:¬ (x=0/\y=0/\t=1)->bars.length=ws.length->(∀j bs w,bars[j]? = some bs->ws[j]? = some w->(0,0) ∉ bs/\¬ Opn ws w x y t j bs)->Q (.bl true))
  (b:((x=0/\y=0/\t=1)\/bars.length≠ws.length\/∃j bs w,bars[j]? = some bs/\ws[j]? = some w/\((0,0)∈bs\/Opn ws w x y t j bs))->Q (.bl false)):z1B.run [.tup (ws.map wtD),pcD x y t,.tup (bars.map vecs)] Q X:=by
 walk_at "fn";ac_nf;refine znH ?_;refine z24 (z0r (λh =>?_) (λh =>?_))
 .ac_nf;exact b (.inl h)
 ac_nf;rw[we,we];refine z0r (λe =>?_) (λe =>?_)
 .ac_nf;exact zgq m p pd (by lia) vb (λf=>q h (by lia) f) λj bs w g i o=>b (.inr (.inr ⟨j,bs,w,g,i,o⟩))
 .ac_nf;exact b (.inr (.inl (by lia)))
def ft1 {p t G W S r:Int}(e:p*W=S*r):p*(t*G)*W=t*G*(S*r):=by
 rw[<- e]
 grind
def ft2 {W d r t F S G:Int}(h:W*d*r<=t*(W*F+S*G)*r):(d - t*F)*r*W<=t*G*(S*r):=by
 grind
section
variable {ws:List (List P × P)}{x y t p r W:Int}{k:Nat}{co:List (List Sh)}{g:List Sh}{bars:List (List P)}{b:P}
def AtR.sc (A:AtR ws x y t k p r W co g bars b)(d:ws.length<=12):Sc2 W ws co g:=by
 have a:=uC A.p0 A.pr;have e:=A.lst.cx;have f  := by
  have:=wS A.p0 A.W0;rw[e] at this;exact Int.pos_of_mul_pos_left this a
 refine⟨A.W0,A.bW.le,by rw[A.lc];exact A.hk,d,A.gd,A.all,f,wZ ?_ a⟩;rw[<- e,wT W];exact wo A.pr (wt A.W0)
def AtR.fits (A:AtR ws x y t k p r W co g bars b)(m:∀x∈ws,Wt4 x)(o:ws.length<=12)(I:0<t)(h:ws[k]? = some w)(c:P):Fb ws w x y t k p r c:=λF G i j=>by
 have S:=A.sc o;obtain⟨w',a,H,f⟩:=S.last;have C:=A.lc;have J:=A.hk;rw[C] at a f;obtain rfl:w=w':=w6 (h.symm.trans a);have pl:=A.pl;rw[f,wD] at pl;have u:=zmk (co:=co) A.W0 I (by grind) (λx n=>(m x (vB n)).ne) (λq l=>by
  have:=A.gd q (by simp_all);exact⟨λs d=>(this.each s d).1,A.all q.2 (u7 l).2⟩) (λs d=>(H.each s d).1) (by simpa using pl) c F G i j
 have e:=A.lst.cx;have E:=uC A.p0 A.pr;have z:=wo u (wt E);refine wZ ?_ A.W0;rw[ft1 e];exact ft2 z
def AtR.open (A:AtR ws x y t k p r W co g bars b)(d:∀x∈ws,Wt4 x)(e:ws.length<=12)(f:0<t)(a:ws[k]? = some w)(bs:List P):Opn ws w x y t k bs:=⟨p,r,wt A.p0,A.pr,uC A.p0 A.pr,λc _=>A.fits d e f a c⟩
end
def Brd.shut {x y t:Int}{bs:List P}(B:Brd ws x y t j bs)(a:ws[j]? = some w)(ex:List P):¬ Opn ws w x y t j (bs++ex):=λ⟨p,r,d,e,f,k⟩=>B.no w a p r d e f λc b=>k c (by simp[b])
def z4C {ws:List (List P × P)}{x y t u v:Int}(m:Bool)(b:∀{Q:DK}{X:XP},Q (.bl m)->z0D.run [.tup (ws.map wtD),pcD x y t,.tup [.int u,.int v],.tup C] Q X)(f:m=true->z1L.run [.tup (ws.map wtD),pcD x y t,.tup C,.tup Bs] Q X)(e:m=false->Q (.bl false)):z0l.run [.tup (ws.map wtD),pcD x y t,atD u v C Bs] Q X:=by
 walk_at "fn";ac_nf;refine zbG ?_;refine z2M rfl ?_;ac_nf;refine z2M rfl ?_;ac_nf;refine b ?_
 cases m with
 | true=>
  refine z24 (z4d ?_);exact f rfl
 | false=>
  refine z24 (z3H ?_);exact e rfl
def z6X {ws:List (List P × P)}{x y t:Int}(q:z1B.run [.tup (ws.map wtD),pcD x y t,.tup Bs] Q X):z0l.run [.tup (ws.map wtD),pcD x y t,nvD Bs] Q X:=by
 walk_at "fn";ac_nf;refine zbG ?_;refine t_no (by decide) ?_;ac_nf;refine zbG ?_;refine z2M rfl ?_;ac_nf;refine z2M rfl ?_;exact q
def zay (q:Q (.bl true)):z0t.run [.tup ws,.tup []] Q X:=by
 walk_at "fn";ac_nf;refine z2M rfl ?_;exact q
def zjN {ws:List (List P × P)}(q:Q (pcD 0 0 1)):z2J.run [.tup (ws.map wtD),.tup []] Q X:=by
 walk_at "fn";ac_nf;refine zay ?_;refine z24 (z4d ?_);ac_nf;refine z0i (λm b=>Ee4 λ(f g i j)=>b=[.s _,.s _,.s _,f,g,i,j]) ⟨_,_,_,_,rfl⟩ ?_ ?_
 .rintro m d r b e
  simp_all
 rintro b ⟨f,g,i,j,rfl⟩;exact q
def zaz {ws:List (List P × P)}{x y t u v:Int}(q:Q (.bl (decide ((0,1)=(u,v)) && decide (0=x/\0=y/\1=t)))):z0D.run [.tup (ws.map wtD),pcD x y t,.tup [.int u,.int v],.tup []] Q X:=by
 walk_at "fn";ac_nf;refine zay ?_;ac_nf;refine z8t (co:=[]) (W:=1) (by decide) (by decide) (Bt.le (m:=1) (z04 (by decide))) (λ_ h=>absurd h (by simp)) λa c h =>?_;obtain⟨rfl,_,rfl⟩:=h.eq (by decide) (⟨by decide,by decide,by simp,by simp⟩:Pl _ 0 1 0 0 1);ac_nf;refine ziz ?_;refine z0r (λz =>?_) (λz =>?_)
 .rw[vf z] at q;ac_nf;refine zjN ?_;ac_nf;exact zlK q
 simp_all
def zct {x y t u v W:Int}(w:∀x∈ws,Wt4 x)(S:Sc2 W ws co g)
  (C:¬ Pl (((co++[g]).map (sw one W)).sum) 0 W u 0 v->Q (.bl false))
  (I:Pl (((co++[g]).map (sw one W)).sum) 0 W u 0 v->∀a c d,Pl ((ws.zip (co++[g])).map (cX W)).sum ((ws.zip (co++[g])).map (cY W)).sum W a c d->Q (.bl (decide (a=x/\c=y/\d=t)))):z0D.run [.tup (ws.map wtD),pcD x y t,.tup [.int u,.int v],.tup ((co++[g]).map shsD)] Q X:=by
 have K:=S.hk;have L:=S.hz;have le:(co++[g]).length=co.length+1:=by simp
 walk_at "fn";ac_nf;refine z6Z S ?_;ac_nf;refine z8t (by lia) S.W0 S.bW (λq b =>?_) λa c h =>?_
 .obtain⟨i,J,e⟩:=vz b;exact⟨_,S.gd (ws[i],q) (wz (i:=i) (by rw[wm (by rw[uk];lia),uX,e]))⟩
 ac_nf;refine ziz ?_;refine z0r (λz =>?_) (λz =>?_)
 .ac_nf;have f:=congrArg Prod.fst z;have j:=congrArg Prod.snd z;dsimp only at f j;subst f;subst j;refine z9L w S λm o p r =>?_;ac_nf;exact zlK (I h m o p r)
 .ac_nf;refine C λk=>z ?_;obtain⟨rfl,_,rfl⟩:=h.eq S.W0 k
  rfl
theorem z5T:∀{co:List (List Sh)},(∀g'∈co,sw one W g'=W)->(co.map (sw one W)).sum=co.length*W
 | [],_=>by simp
 | g::co,h=>by
  rw[wE,wP,z5T λg' a=>h g' (by simp[a]),h g (by simp),vg,Int.natCast_add,Int.add_mul];lia
def z9N {bars:List (List P)}{c:Int}(j:bars.length<=12)(i:∀bs∈bars,bs.length<=2)(q:∀e:P,e≠(0,0)->Vb 166 e->Q (.tup ((bars.map (· ++ [e])).map vecs))):z1I.run [.tup (bars.map vecs),.int c] Q X:=by
 walk_at "fn";ac_nf;refine z0H (by decide) (by decide) (by decide) λu o p =>?_;ac_nf;refine z0H (by decide) (by decide) (by decide) λv r w =>?_;ac_nf;refine⟨by rw[we];exact szl' (by lia),?_⟩;refine z1e (f:=vecs) (g:=λbs=>vecs (bs++[(1+u,v - 4)])) (λbs b K k =>?_) ?_
 .have:=i bs b;ac_nf;refine z3A (by simp;exact szl (by lia)) ?_;rw[show bs.map vec++[D.tup [.int (1+u),.int (v - 4)]]=(bs++[(1+u,v - 4)]).map vec by simp];exact k
 ac_nf;have:=q (1+u,v - 4) (λz=>by grind) ⟨Bt.le (m:=10) (z04 (by dsimp only;lia)),Bt.le (m:=10) (z04 (by dsimp only;lia))⟩;rw[wN] at this;exact this
def zdV {bars:List (List P)}:Da 60 (.tup (bars.map vecs)):=Da.tup.mpr λd a=>by
 obtain⟨l,_,rfl⟩:=wf.mp a;exact Da.tup.mpr λd a=>by
  obtain⟨y,_,rfl⟩:=wf.mp a;exact Da.vec y
def zdb {bars:List (List P)}(q:Q (.bl (!decide (bars=[])))):pNe.run [.tup (bars.map vecs),.tup []] Q X:=by
 refine ziw zdV (zdV (bars:=[])) ?_;have e:deq (.tup (bars.map vecs)) (.tup [])=decide (bars=[]):=by
  cases bars with
  | nil=>rfl
  | cons a l=>rfl
 rw[e];exact q
def Pn (d:D):Prop:=noL d=true/\noD d=true
def PL (l:List D):Prop:=∀d∈l,Pn d
def z2G:PL []:=λd h=>absurd h (by simp)
def z1Y (h:Pn d)(k:PL l):PL (d::l):=λx a=>by
 rcases wn.mp a with rfl | a
 .exact h
 .exact k x a
def z8I (h:PL l):Pn (.tup l):=⟨z4Q λd a=>(h d a).1,z4R λd a=>(h d a).2⟩
def zgE {b:Type}{f:b->D}{l:List b}(h:∀a,Pn (f a)):PL (l.map f):=λd e=>by
 obtain⟨a,_,rfl⟩:=wf.mp e;exact h a
def z2n {bars:List (List P)}:PL (bars.map vecs):=zgE λl=>⟨z19 l,z1a l⟩
def zcV {co:List (List Sh)}:PL (co.map shsD):=zgE λl=>⟨z76 l,z77 l⟩
def z6B {u v:Int}{C B:List D}(h:PL C)(k:PL B):Pn (atD u v C B):=z8I (z1Y ⟨rfl,rfl⟩ (z1Y ⟨rfl,rfl⟩ (z1Y (z8I h) (z1Y (z8I k) z2G))))
def zbu {B:List D}(k:PL B):Pn (nvD B):=z8I (z1Y ⟨rfl,rfl⟩ (z1Y (z8I k) z2G))
def pls (h:PL l):∀d∈l,Safe d ρ:=λd a=>Safe.of_noL (h d a).1 (h d a).2 _
def zhb {b:Type}{f:b->D}{l:List b}:cutD (l.map f) (some 1) none=l.tail.map f:=by
 rw[z2q,show HT.sIx _ 0 _=min 1 _ from rfl,show HT.sIx _ _ _=l.length from rfl]
 cases l with
 | nil=>rfl
 | cons a l=>simp
def zjQ (b:(b0++[z]).length<=12)(q:Q (.lst [atD 0 1 [] [],atD 0 1 [] ((b0++[z]).map vecs),nvD (b0.map vecs),nvD ((b0++[[]]).map vecs),nvD (([(0,0)]::(b0++[z]).tail).map vecs)])):z08.run [nvD ((b0++[z]).map vecs)] Q X:=by
 walk_at "fn";ac_nf;refine zbG ?_;refine z2M rfl ?_;ac_nf;refine z1v (pls (z1Y (z6B z2G z2G) (z1Y (z6B z2G z2n) z2G))) ?_;ac_rfl;ac_nf;refine zdb ?_;refine z24 (t_no (by simp) ?_);refine zjM (z0k rfl ?_);ac_nf;rw[z9n];ac_nf;refine z3A (by rw[we];exact szl (by simp at b ⊢;lia)) ?_;rw[show b0.map vecs++[D.tup []]=(b0++[[]]).map vecs by simp];ac_nf;rw[zhb];refine z3A (by rw[we,List.length_tail];exact szl (by simp at b ⊢;lia)) ?_;ac_nf;refine⟨(show 2+3<=sizeLine from szl (by decide)),pls (z1Y (zbu z2n) (z1Y (zbu z2n) (z1Y (zbu (z2n (bars:=[(0,0)]::(b0++[z]).tail))) z2G))),?_⟩;ac_rfl;ac_nf;exact q
def zhE (q:Q (.lst [atD 0 1 [] [],atD 0 1 [] []])):z08.run [nvD []] Q X:=by
 walk_at "fn";ac_nf;refine zbG ?_;refine z2M rfl ?_;ac_nf;refine z1v (pls (z1Y (z6B z2G z2G) (z1Y (z6B z2G z2G) z2G))) ?_;ac_nf;refine zdb (bars:=[]) ?_;refine z24 (z2M rfl ?_);exact q
def zgp {u v:Int}{co:List (List Sh)}{bars:List (List P)}(N:0<v)(C:Bt 2900 u)(I:Bt 2900 v)(J:co.length=bars.length)(U:bars.length<=12)
  (q:∀u1 i u2 j,Pl (u*7+1*v) 0 (v*7) u1 0 i->Pl (u*7 + -1*v) 0 (v*7) u2 0 j->∀ex,(bars=[]->ex=[])->(∀f z o g,bars=f++[z]->co=o++[g]->ex=[atD u v (co.map shsD) (f.map vecs),atD u v (co.map shsD) ((f++[[]]).map vecs),atD u v (co.map shsD) (([(0,0)]::bars.tail).map vecs),atD u v (o.map shsD) (bars.map vecs)])->Q (.lst ([nvD (bars.map vecs),atD u1 i (co.map shsD) (bars.map vecs),atD u2 j (co.map shsD) (bars.map vecs)]++ex))):z08.run [atD u v (co.map shsD) (bars.map vecs)] Q X:=by
 have x:Bt 3000 (1):=Bt.le (m:=1) (z04 (by decide));have y:Bt 3000 (7):=Bt.le (m:=3) (z04 (by decide));have O:Bt 3000 (-1):=Bt.le (m:=1) (z04 (by decide));walk_at "fn";ac_nf;refine zbG ?_;refine t_no (by decide) ?_;ac_nf;refine z1v (pls (z1Y (zbu z2n) z2G)) ?_;ac_rfl;ac_nf;show Sm.run _ _ _ _ _;ac_rfl;refine z3C (l:=[]) (z0k rfl ?_);ac_nf;refine zcu N (by decide) C.le I.le x y λu1 i L =>?_;ac_nf;have n1:=z6B (u:=u1) (v:=i) (zcV (co:=co)) (z2n (bars:=bars));refine⟨szl' (uS rfl),Safe.of_noL n1.1 n1.2 _,?_⟩;ac_rfl;show Sm.run _ _ _ _ _;ac_rfl;refine z3C (l:=[]) (z0k rfl ?_);ac_nf;refine zcu N (by decide) C.le I.le O y λu2 j M =>?_;ac_nf;have K:=z6B (u:=u2) (v:=j) (zcV (co:=co)) (z2n (bars:=bars));refine⟨szl' (uS rfl),Safe.of_noL K.1 K.2 _,?_⟩;ac_rfl;show Sm.run _ _ _ _ _;ac_nf;refine zdb ?_
 rcases uR bars with e | ⟨f,z,e⟩
 .refine z24 (z2M e ?_);ac_nf;exact q u1 i u2 j L M [] (λ_=>rfl) λf z o g r _=>by rw[e] at r;simp at r
 rcases uR co with p | ⟨o,g,p⟩
 .rw[e,p] at J;simp at J
 rw[jh] at e p;have W:=q u1 i u2 j L M [atD u v (co.map shsD) (f.map vecs),atD u v (co.map shsD) ((f++[[]]).map vecs),atD u v (co.map shsD) (([(0,0)]::bars.tail).map vecs),atD u v (o.map shsD) (bars.map vecs)] (λz=>by rw[z] at e;simp at e) λx z1 Y Z r R=>by
  obtain⟨rfl,_⟩:=List.append_inj' (e.symm.trans r) rfl;obtain⟨rfl,_⟩:=List.append_inj' (p.symm.trans R) rfl
  rfl
 clear q;subst e;subst p;refine z24 (t_no (by simp) ?_);have hb:f.length+1<=12:=by simpa using U
 have w:∀{c:List (List Sh)}{b:List (List P)}{ρ:Pu.Env},Safe (atD u v (c.map shsD) (b.map vecs)) ρ:=λ{c b ρ}=>by
  have n:=z6B (u:=u) (v:=v) (zcV (co:=c)) (z2n (bars:=b));exact Safe.of_noL n.1 n.2 _
 refine z4c (z3C (l:=[]) (z0k rfl ?_));ac_nf;rw[z9n];ac_nf;refine⟨szl' (uS rfl),w,?_⟩;ac_rfl;refine z4c (z3C (l:=[]) (z0k rfl ?_));ac_nf;rw[z9n];ac_nf;refine z3A (by rw[we];exact szl (by simp;lia)) ?_;rw[show f.map vecs++[D.tup []]=(f++[[]]).map vecs by simp];ac_nf;refine⟨szl' (uS rfl),w,?_⟩;ac_rfl;refine z4c (z3C (l:=[]) (z0k rfl ?_));ac_nf;rw[zhb];refine z3A (by rw[we,List.length_tail];exact szl (by simp;lia)) ?_;ac_nf;refine⟨szl' (uS rfl),w (b:=[(0,0)]::(f++[z]).tail),?_⟩;ac_rfl;refine z3C (l:=[]) (z0k rfl ?_);ac_nf;rw[z9n];ac_nf;refine⟨szl' (uS rfl),w,?_⟩;ac_rfl;ac_nf;exact W
def Stn (ws:List (List P × P))(x y t:Int)(d:D)(m:Bool):Prop:=∀{Q:DK}{X:XP},Q (.bl m)->z0l.run [.tup (ws.map wtD),pcD x y t,d] Q X
def zmO (q:Q (.bl true)):z1L.run [.tup ws,p,.tup [],.tup []] Q X:=by
 walk_at "fn";ac_nf;refine z24 (z2M rfl ?_);ac_nf;refine z2M rfl ?_;exact q
def zhF (h:Bs.length≠C.length)(q:Q (.bl false)):z1L.run [.tup ws,p,.tup C,.tup Bs] Q X:=by
 walk_at "fn";refine z24 (t_no (by lia) ?_);exact q
def z8P {u v c u1 a:Int}(d:0<v)(b:c≠0)(h:Pl (u*7+c*v) 0 (v*7) u1 0 a):¬ (u=u1/\v=a):=by
 rintro⟨rfl,rfl⟩;have e:=h.cx;have k:c*(v*v)=0:=by
  grind
 rcases wI.mp k with z | z
 .exact b z
 .rcases wI.mp z with z | z <;> omega
section
variable {ws:List (List P × P)}{x y t p r W u v:Int}{k:Nat}{co:List (List Sh)}{g:List Sh}{bars:List (List P)}{b:P}
def zgT (A:AtR ws x y t k p r W co g bars b)(pl:Pl (k*r+p*1) 0 (1*r) u 0 v):Pl (((co++[g]).map (sw one W)).sum) 0 W u 0 v:=by
 refine⟨pl.pos,pl.cop,?_,by simp⟩;have e:=pl.cx;have a:=A.lst.cx;have d:=uC A.p0 A.pr;rw[wD,ul,z5T A.all,A.lc];refine cxl (c:=r) ?_ (by omega);rw[show (List.map _ [g]).sum=sw one W g by simp]
 calc u*W*r=u*(1*r)*W:=by grind
  _=(k*r*W+p*W)*v:=by rw[e];grind
  _=(k*W+sw one W g)*v*r:=by rw[a];grind
def zbc (A:AtR ws x y t k p r W co g bars b)(e:∀x∈ws,Wt4 x)(f:ws.length<=12)(pl:Pl (k*r+p*1) 0 (1*r) u 0 v)(q:Q (.bl true)):z0D.run [.tup (ws.map wtD),pcD x y t,.tup [.int u,.int v],.tup ((co++[g]).map shsD)] Q X:=
 zct e (A.sc f) (λn=>absurd (zgT A pl) n) λ_ a c d h=>by
  obtain⟨rfl,rfl,rfl⟩:=h.eq A.W0 A.pl
  simp_all
def zmw (A:AtR ws x y t k p r W co g bars b):(∀bs∈bars,Wb 166 bs)/\Wb 166 [b]:=⟨λbs a=>by
 obtain⟨j,f,e⟩:=vz a;exact(A.brd j bs (by simp_all)).vb,λc d=>by rw[wj.mp d];exact A.vb⟩
def ls1' {p r g s a b:Int}(e:g*r=p*s)(h:g*b<=a*s)(d:0<r)(f:0<s):p*b<=a*r:=by
 have k:=wo h (wt d);refine wZ ?_ f;rw[show p*b*s=g*b*r by rw[We, <- e];grind,show a*r*s=a*s*r by grind];exact k
def ziJ {a b p r:Int}(d:0<b)(j:0<r)(h:Int.gcd a b=1)(i:Int.gcd p r=1)(e:a*r=p*b):(a,b)=(p,r):=by
 obtain⟨f,_,g⟩:=(⟨d,by rw[gcd0];exact h,rfl,rfl⟩:Pl a 0 b a 0 b).eq d (⟨j,by rw[gcd0];exact i,e.symm,by simp⟩);rw[f,g]
def zlp (A:AtR ws x y t k p r W co g bars b)(e:∀x∈ws,Wt4 x)(m:ws.length<=12)(pd:Pd x y t)(pl:Pl (k*r+p*1) 0 (1*r) u 0 v){ex:List P}(nx:(0,0) ∉ ex)(vx:Wb 166 ex):Stn ws x y t (atD u v ((co++[g]).map shsD) ((bars.map (· ++ ex)++[[b]++ex]).map vecs)) true:=λq=>by
 obtain rfl:co.length=k:=A.lc;have I:=pd.pc.pos;have S:=A.sc m;have f:ws[co.length]? = some _:=wm S.hk;have C:=uC A.p0 A.pr;obtain⟨v1,v2⟩:=zmw A;have i:∀{l:List P},Wb 166 l->Wb 166 (l++ex):=λh c U=>by
  rcases wB.mp U with z | z
  .exact h c z
  .exact vx c z
 have o:∀{j d},(bars.map (· ++ ex))[j]? = some d->∃bs,bars[j]? = some bs/\d=bs++ex:=λh=>by
  rw[wO,vD] at h;obtain⟨bs,Q,R⟩:=h;exact⟨bs,Q,R.symm⟩
 refine z4C true (zbc A e m pl) (λ_=>zaA e pd S f A.lst (by rw[we];exact A.lb) (λd T =>?_) (i v2) (A.open e m I f _) (λh =>?_) λ_ _ a b' J a0 K N w =>?_) λz=>by cases z
 .obtain⟨bs,s,rfl⟩:=wf.mp T;exact i (v1 bs s)
 .rcases h with h | ⟨j,d,w',n,L,h⟩
  .rcases wB.mp h with z | z
   .exact absurd (wj.mp z).symm A.nz
   .exact absurd z nx
  .obtain⟨bs,M,rfl⟩:=o n;have B:=A.brd j bs M
   rcases h with h | h
   .rcases wB.mp h with z | z
    .exact absurd z B.nz
    .exact absurd z nx
   .exact absurd h (B.shut L ex)
 .have Z:=w p r (wt A.p0) A.pr C λc _=>A.fits e m I f c;obtain⟨F,E⟩:∃F,Geo.Far (MS (ws.take co.length)) b F:=zgS λx X=>(e x (vB X)).ne;obtain⟨G,H⟩:=zat (e _ (wz f)).ne b;obtain⟨O,n⟩:=A.at' _ f F G E H;have Y:=N b (by simp) F G E H;have l2:=ls1' n Y C O;rw[vf (ziJ J C K A.cop (Int.le_antisymm Z l2))];exact q
def zmu (A:AtR ws x y t k p r W co g bars b)(f:∀x∈ws,Wt4 x)(j:ws.length<=12)(pd:Pd x y t)(pl:Pl (k*r+p*1) 0 (1*r) u 0 v)(p1:Pl (u*7+1*v) 0 (v*7) u1 0 v1)(p2:Pl (u*7 + -1*v) 0 (v*7) u2 0 v2):∀d∈[nvD ((bars++[[b]]).map vecs),atD u1 v1 ((co++[g]).map shsD) ((bars++[[b]]).map vecs),atD u2 v2 ((co++[g]).map shsD) ((bars++[[b]]).map vecs)]++[atD u v ((co++[g]).map shsD) (bars.map vecs),atD u v ((co++[g]).map shsD) ((bars++[[]]).map vecs),atD u v ((co++[g]).map shsD) (([(0,0)]::(bars++[[b]]).tail).map vecs),atD u v (co.map shsD) ((bars++[[b]]).map vecs)],Stn ws x y t d false:=by
 obtain rfl:co.length=k:=A.lc;have I:=pd.pc.pos;have S:=A.sc j;have o:ws[co.length]? = some _:=wm S.hk;have r0:=uC A.p0 A.pr;have G:=A.lb;have lc:=S.hk;obtain⟨N,Z⟩:=zmw A;have C:∀bs∈bars++[[b]],Wb 166 bs:=λbs hb=>by
  rcases wB.mp hb with z | z
  .exact N bs z
  .rw[wj.mp z];exact Z
 have Y:Wb 166 [((0,0))]:=λc i=>by
  rw[wj.mp i];exact⟨Bt.le (m:=1) (z04 (by decide)),Bt.le (m:=1) (z04 (by decide))⟩
 have R:∀{c L M:Int},c≠0->Pl (u*7+c*v) 0 (v*7) L 0 M->Stn ws x y t (atD L M ((co++[g]).map shsD) ((bars++[[b]]).map vecs)) false:=λ{c L M} c0 h Q X q=>
  z4C false (λq=>zct f S (λ_=>q) λh' _ _ _ _=>by
   obtain⟨E,_,F⟩:=(zgT A pl).eq A.W0 h';exact absurd ⟨E,F⟩ (z8P pl.pos c0 h)) (λz=>by cases z) λ_=>q
 intro d O;simp only[jZ,List.nil_append,wn,wA,vA] at O
 rcases O with rfl | rfl | rfl | rfl | rfl | rfl | rfl
 .exact λq=>z6X (z3c f j pd C (λ_ _ J=>absurd (A.open f j I o [b]) (J co.length [b] _ (by rw[<- G];simp) o).2) λ_=>q)
 .exact R (by decide) p1
 .exact R (by decide) p2
 .exact λq=>z4C true (zbc A f j pl) (λ_=>zhF (by simp;omega) q) λz=>by cases z
 .refine λq=>z4C true (zbc A f j pl) (λ_=>zaA f pd S o A.lst G N (λc i=>by cases i) (A.open f j I o _) (λ_=>q) λ_ _ a b' b0 a0 cp fb K =>?_) λz=>by cases z
  have l:=K 0 1 (by decide) (by decide) (by decide) λc i=>by cases i
  rw[vR λz=>by have e:=congrArg Prod.fst z;dsimp only at e;have:=A.p0;omega];exact q
 .refine λq=>z4C true (zbc A f j pl) (λ_ =>?_) λz=>by cases z
  cases bars with
  | nil=>
   exact zaA (bars:=[]) (bs:=[(0,0)]) f pd S o A.lst G (λc i=>by cases i) Y (A.open f j I o _) (λ_=>q) λn=>absurd (by simp) n
  | cons b1 bt=>
   refine zaA (bars:=[(0,0)]::bt) (bs:=[b]) f pd S o A.lst G (λc i =>?_) Z (A.open f j I o _) (λ_=>q) λ_ J =>?_
   .rcases wn.mp i with rfl | i
    .exact Y
    .exact N c (by simp[i])
   .exact absurd (by simp) (J 0 [(0,0)] _ rfl (wm (by omega))).1
 .refine λq=>z4C false (λq =>?_) (λz=>by cases z) λ_=>q;have e:=pl.cx;have U:=pl.pos;have T:=A.p0
  rcases uR co with z | ⟨w,s,z⟩
  .subst z;refine zaz ?_;rw[vR λz=>by
    have E:=congrArg Prod.fst z;dsimp only at E;rw[<- E] at e;have:=wS T U;simp at e;omega]
   exact q
  .rw[jh] at z;subst z;have l1:(w++[s]).length=w.length+1:=by simp
   refine zct (co:=w) (g:=s) f ⟨A.W0,A.bW.le,by omega,j,λq hq=>S.gd q ?_,λg' hg=>A.all g' (by simp[hg]),by rw[A.all s (by simp)];exact A.W0,Wk (A.all s (by simp))⟩ (λ_=>q) λh _ _ _ _ =>?_
   .obtain⟨w',a1,H,ez⟩:=S.last;rw[ez,wB];refine .inl ?_;rw[z5G (ww _)];exact hq
   .have F:=h.cx;rw[z5T A.all,We] at F;have e3:u=((w++[s]).length)*v:=cxl F (by have:=A.W0;omega);rw[e3] at e;have:=wS T U;have e4:((w++[s]).length)*v*(1*r)=((w++[s]).length)*r*v:=by grind
    rw[e4,Int.add_mul] at e;rw[Int.mul_one] at e;omega
end
section
variable {ws:List (List P × P)}{x y t:Int}{bars:List (List P)}
def znO (ne:(x,y)≠((0),(0))):¬ (x=0/\y=0/\t=1):=λz=>ne (by rw[z.1,z.2.1])
def zlm (o:∀x∈ws,Wt4 x)(p:ws.length<=12)(pd:Pd x y t)(ne:(x,y)≠((0),(0)))(r:bars.length=ws.length)(g:∀j bs,bars[j]? = some bs->Brd ws x y t j bs){ex:List P}(nx:(0,0) ∉ ex)(vx:Wb 166 ex):Stn ws x y t (nvD ((bars.map (· ++ ex)).map vecs)) true:=λq=>by
 refine z6X (z3c o p pd (λa b =>?_) (λ_ _ _=>q) λh =>?_)
 .obtain⟨bs,d,rfl⟩:=wf.mp b;obtain⟨j,n,e⟩:=vz d;have B:=g j bs (by rw[wm n,e]);intro c m
  rcases wB.mp m with z | z
  .exact B.vb c z
  .exact vx c z
 .rcases h with h | h | ⟨j,a,w,f,i,h⟩
  .exact absurd h (znO ne)
  .simp_all
  .rw[wO,vD] at f;obtain⟨bs,l,rfl⟩:=f;have B:=g j bs l
   rcases h with h | h
   .rcases wB.mp h with z | z
    .exact absurd z B.nz
    simp_all
   .exact absurd h (B.shut i ex)
def zhr (ne:(x,y)≠((0),(0))):Stn ws x y t (atD 0 1 [] Bs) false:=λq=>z4C _ (λq=>zaz (by
 rw[vR (λz:0=x/\0=y/\1=t=>ne (by rw[<- z.1, <- z.2.1]))];exact q)) (λz=>by cases z) λ_=>q
def zmt (g:∀x∈ws,Wt4 x)(i:ws.length<=12)(pd:Pd x y t)(ne:(x,y)≠((0),(0)))(r:(b0++[z]).length=ws.length)(o:∀j bs,(b0++[z])[j]? = some bs->Brd ws x y t j bs):∀d∈[atD 0 1 [] [],atD 0 1 [] ((b0++[z]).map vecs),nvD (b0.map vecs),nvD ((b0++[[]]).map vecs),nvD (([(0,0)]::(b0++[z]).tail).map vecs)],Stn ws x y t d false:=by
 have l:∀bs∈b0++[z],Wb 166 bs:=λbs f=>by
  obtain⟨j,p,e⟩:=vz f;exact(o j bs (by rw[wm p,e])).vb
 have s:(b0++[z]).length=b0.length+1:=by simp
 intro d n;simp only[wn,wA,vA] at n
 rcases n with rfl | rfl | rfl | rfl | rfl
 .exact zhr ne
 .exact zhr ne
 .exact λq=>z6X (z3c g i pd (λbs h=>l bs (by simp[h])) (λ_ e _=>absurd e (by omega)) λ_=>q)
 .refine λq=>z6X (z3c g i pd (λbs h =>?_) (λ_ _ b =>?_) λ_=>q)
  .rcases wB.mp h with h | h
   .exact l bs (by simp[h])
   .rw[wj.mp h];intro c a
    cases a
  .exact absurd ⟨0,1,by decide,by decide,by decide,λc a=>by cases a⟩ (b b0.length [] ws[b0.length] (by simp) (wm (by omega))).2
 .refine λq=>z6X (z3c g i pd (λbs h =>?_) (λ_ _ b =>?_) λ_=>q)
  .rcases wn.mp h with rfl | h
   .intro c a;rw[wj.mp a];exact⟨Bt.le (m:=1) (z04 (by decide)),Bt.le (m:=1) (z04 (by decide))⟩
   .exact l bs (List.mem_of_mem_tail h)
  .exact absurd (by simp) (b 0 [(0,0)] _ rfl (wm (by omega))).1
def zll:Stn ws 0 0 1 (atD 0 1 [] []) true:=λq=>z4C true (λq=>zaz q) (λ_=>zmO q) λz=>by cases z
def zms (i:∀x∈ws,Wt4 x)(j:ws.length<=12)(l:Pl (0*7+1*1) 0 (1*7) u1 0 v1)(m:Pl (0*7 + -1*1) 0 (1*7) u2 0 v2)(pd:Pd 0 0 1):∀d∈[nvD [],atD u1 v1 [] [],atD u2 v2 [] []],Stn ws 0 0 1 d false:=by
 have f:∀{c a b:Int},c≠0->Pl _ 0 _ a 0 b->Stn ws 0 0 1 (atD a b [] []) _:=λ{c a b} g h Q X q=>
  z4C _ (λq=>zaz (by
   rw[vR (λz=>z8P (by decide) g h ⟨congrArg Prod.fst z,congrArg Prod.snd z⟩)];exact q)) (λz=>by cases z) λ_=>q
 intro d e;simp[wn,wA,vA] at e
 rcases e with rfl | rfl | rfl
 .exact λq=>z6X (z3c (bars:=[]) i j pd (λ_ h=>by cases h) (λn _ _=>absurd ⟨rfl,rfl,rfl⟩ n) λ_=>q)
 .exact f (by decide) l
 .exact f (by decide) m
end
def cut4 {a b c d:D}:cutD [a,b,c,d] none (some (-1))=[a,b,c]:=rfl
def cut2:cutD [a,b] none (some (-1))=[a]:=rfl
def ziK (ns:List Int)(h:ns.length<=63):z6t.run [.lst (ns.map .int)] (λd=>d = .bl true) (λ_=>False):=by
 walk_at "fn";ac_nf;refine zbn h λY a1 a2 a0 =>?_;ac_nf;rw[z9m (by decide)];generalize N:Y.take (5:Int).toNat=i;have w:∀x∈i,Wt4 x:=λx hx=>a1 x (by rw[<- N] at hx;exact vB hx);have C:i.length<=12:=by rw[<- N,vi];lia
 have ht:tl i<=60:=by rw[<- N];exact wV (zcc Y _) a0
 refine zde (by simp;exact szl (by lia)) ?_;rw[show D.int 0::([])++ns.map D.int=(0::ns).map .int by simp];ac_nf;rw[z2q];generalize ((0::ns).drop (HT.sIx (0::ns).length 0 (some (-3)))).take (HT.sIx (0::ns).length (0::ns).length none - HT.sIx (0::ns).length 0 (some (-3)))=cs;refine z0i (f :=.int) (λdn I=>∃Z x3 x4 x5 o,I=[.s (.lst (ns.map .int)),.s (.tup (i.map wtD)),Z,x3,x4,x5,o]) ⟨_,_,_,_,_,rfl⟩ ?_ ?_
 .rintro dn c rr I e ⟨Z,x3,x4,x5,o,rfl⟩;show Sm.run _ _ _ _ _;ac_rfl;ac_nf;refine zew λm m0 m1 =>?_;ac_nf;refine zmP w C m0 m1 λx y t pd =>?_;ac_nf;have fin:∀T M,Stn i x y t T true->Stn i x y t M true->(∀{Q:DK}{X:XP},(∀R:List D,(∀d∈R,Stn i x y t d false)->Q (.lst R))->z08.run [T] Q X)->
    Sm.run ((Sm.for_ [] (Tg.nm 6) (Ex.op pLst [Ex.v 4,Ex.v 5]) (Sm.ifs (Ex.op z59 [Ex.op z0l [Ex.v 1,Ex.v 3,Ex.v 6],Ex.c (D.bl true)]) (Sm.ret (Ex.c (D.bl false))) Sm.skip)).seq
     (Sm.for_ [] (Tg.nm 6) (Ex.op z08 [Ex.v 4]) (Sm.ifs (Ex.op z59 [Ex.op z0l [Ex.v 1,Ex.v 3,Ex.v 6],Ex.c (D.bl false)]) (Sm.ret (Ex.c (D.bl false))) Sm.skip)))
     [.s (.lst (ns.map .int)),.s (.tup (i.map wtD)),.s (.int c),.s (pcD x y t),.s T,.s M,o] (λI=>∃Z x3 x4 x5 o,I=[.s (.lst (ns.map .int)),.s (.tup (i.map wtD)),Z,x3,x4,x5,o]) (λd=>d = .bl true) (λ_=>False):=λT M hT hM O=>by
   ac_nf;show Sm.run _ _ _ _ _;ac_rfl;ac_nf;refine hT ?_;ac_nf;refine zdd ?_;refine z24 (z2M rfl ?_);ac_nf;show Sm.run _ _ _ _ _;ac_rfl;ac_nf;refine hM ?_;ac_nf;refine zdd ?_;refine z24 (z2M rfl ?_);ac_nf;show Sm.run _ _ _ _ _;ac_nf;refine O λR hB =>?_;ac_nf;rw[show R=R.map id by simp];refine z0i (f:=id) (λdn I=>∃o,I=[.s (.lst (ns.map .int)),.s (.tup (i.map wtD)),.s (.int c),.s (pcD x y t),.s T,.s M,o]) ⟨_,rfl⟩ ?_ ?_
   .rintro dn d rr I e ⟨o,rfl⟩;show Sm.run _ _ _ _ _;ac_rfl;ac_nf;refine hB d (by rw[e];simp) ?_;ac_nf;refine zdd ?_;refine z24 (z2M rfl ?_);ac_nf;exact⟨_,rfl⟩
   rintro I ⟨o,rfl⟩;exact⟨_,_,_,_,_,rfl⟩
  refine zbo w C ht pd (λz1 z2 z3 =>?_) (λk p r W co g bars b u v A pl =>?_) λne bars hl O =>?_
  .have n:=z6B (u:=0) (v:=1) z2G z2G;refine z0h (Safe.of_noL n.1 n.2 _) ?_;ac_rfl;ac_nf;refine z9N (bars:=[]) (by decide) (λ_ h=>by cases h) λe _ _ =>?_;ac_nf;rw[cut4];refine z3A (show 3+1<=sizeLine from szl (by decide)) ?_;refine z0h (Safe.of_noL n.1 n.2 _) ?_;ac_rfl;subst z1;subst z2;subst z3;refine fin (atD 0 1 [] []) (atD 0 1 [] []) zll zll λ{Q X} q=>zgp (co:=[]) (bars:=[]) (by decide) (Bt.le (m:=1) (z04 (by decide))) (Bt.le (m:=1) (z04 (by decide))) rfl (by decide) λu1 v1 u2 v2 p1 p2 ex h1 _=>q _ ?_;rw[h1 rfl,vT];exact zms w C p1 p2 pd
  .have n:=z6B (u:=u) (v:=v) (zcV (co:=co++[g])) (z2n (bars:=bars++[[b]]));have lb:=A.lb;have lc:=A.lc;have hk:=A.hk;have J:∀bs∈bars++[[b]],bs.length<=2:=λbs K=>by
    rcases wB.mp K with z | z
    .obtain⟨j,hj,e⟩:=vz z;exact(A.brd j bs (by rw[wm hj,e])).few
    .rw[wj.mp z];simp
   have l1:(bars++[[b]]).length=bars.length+1:=by simp
   have r0:=uC A.p0 A.pr;have v0:=pl.pos;obtain⟨bv,bu,_⟩:=pl.bt (n:=500) (m:=600) (by omega) (Bt.le (Bt.mul (Bt.le (m:=1) (n:=1) (z04 (by decide))) A.br)) (Bt.le (Bt.add (Bt.mul (Bt.le (m:=64) (n:=64) (z04 (by omega))) A.br) (Bt.mul A.bp (Bt.le (m:=1) (n:=1) (z04 (by decide)))))) (Bt.le (m:=0) (z04 (by decide)));refine z0h (Safe.of_noL n.1 n.2 _) ?_;ac_rfl;ac_nf;refine z9N (by omega) J λe e0 ve =>?_;ac_nf;rw[cut4];refine z3A (show 3+1<=sizeLine from szl (by decide)) ?_;have U:=z6B (u:=u) (v:=v) (zcV (co:=co++[g])) (z2n (bars:=(bars++[[b]]).map (· ++ [e])));refine z0h (Safe.of_noL U.1 U.2 _) ?_;ac_rfl;refine fin _ (atD u v ((co++[g]).map shsD) (((bars++[[b]]).map (· ++ [e])).map vecs)) ?_ ?_ λ{Q X} q=>zgp v0 bu.le bv.le (by simp;omega) (by omega) λu1 v1 u2 v2 p1 p2 ex _ h2=>q _ ?_
   .rw[show bars++[[b]]=bars.map (· ++ ([]))++[[b]++[]] by simp];exact zlp A w C pd pl (by simp) λc L=>by cases L
   .rw[show (bars++[[b]]).map (· ++ [e])=bars.map (· ++ [e])++[[b]++[e]] by simp];exact zlp A w C pd pl (by simpa using vN e0) λc L=>by rw[wj.mp L];exact ve
   .rw[h2 bars [b] co g rfl rfl];exact zmu A w C pd pl p1 p2
  .have n:=zbu (z2n (bars:=bars));have J:∀bs∈bars,bs.length<=2:=λbs K=>by
    obtain⟨j,hj,e⟩:=vz K;exact(O j bs (by rw[wm hj,e])).few
   refine z0h (Safe.of_noL n.1 n.2 _) ?_;ac_rfl;ac_nf;refine z9N (by omega) J λe e0 ve =>?_;ac_nf;rw[cut2];refine z3A (show 1+1<=sizeLine from szl (by decide)) ?_;have U:=zbu (z2n (bars:=bars.map (· ++ [e])));refine z0h (Safe.of_noL U.1 U.2 _) ?_;ac_rfl;refine fin _ (nvD ((bars.map (· ++ [e])).map vecs)) ?_ (zlm w C pd ne hl O (by simpa using vN e0) λc L=>by rw[wj.mp L];exact ve) λ{Q X} q =>?_
   .rw[show nvD (bars.map vecs)=nvD ((bars.map (· ++ ([]))).map vecs) by simp];exact zlm w C pd ne hl O (by simp) λc L=>by cases L
   rcases uR bars with z | ⟨b0,z,z'⟩
   .subst z;refine zhE (q _ λd hd =>?_);simp only[wn,wA,vA,or_self] at hd;rw[hd];exact zhr ne
   .rw[jh] at z';subst z';exact zjQ (by omega) (q _ (zmt w C pd ne hl O))
 rintro I ⟨Z,x3,x4,x5,o,rfl⟩;ac_nf
 rfl
open PySem.Spec PyProof.Rows
def Std (K:W.Frag)(n:Str)(st:Stmt)(f:Addr):Prop:=∃(g:Value) (h:Option Addr) (sl:Array (Option Value)) (kV e i:Value) (b:Option Addr) (a d:Value),
 W.nsIn K mainGlobals n=some (some (.ref f))/\K.lookup f=some ⟨g,h,.func (W.fnOf n n (z3z st) (z21 st) (z0e st) .none kV e i b a d),sl⟩/\W.codeIn K a n=true/\W.keepIn K (.ref f)=true
def Std.mk {K:W.Frag}{n:Str}{st:Stmt}{f:Addr}{g:Value}{h:Option Addr}{sl:Array (Option Value)}{kV e i:Value}{d:Option Addr}{b ct:Value}(a:W.nsIn K mainGlobals n=some (some (.ref f)))(l:K.lookup f=some ⟨g,h,.func (W.fnOf n n (z3z st) (z21 st) (z0e st) .none kV e i d b ct),sl⟩)(c:W.codeIn K b n=true)(k:W.keepIn K (.ref f)=true):Std K n st f:=⟨g,h,sl,kV,e,i,d,b,ct,a,l,c,k⟩
section
variable {P:Program}{w:World}{K:W.Frag}{mg:WmP}{h base:Heap}{CX:CXT}{k:Nat}{n:Str}{st:Stmt}{f fa:Addr}{ps:List Str}{sp:Sp}
def zmq (X:K.In h)(G:h.Ns mainGlobals mg)(d:Std K n st f)
  (p:∀kV i o e g ct b,b.length=ps.length->bindArgs (W.fnOf n n (z3z st) (z21 st) (z0e st) .none kV i o e g ct) ⟨b,[]⟩=pure (ps.zip b))
  (ok:∀j,Fun K n n st f j->FnOk P w K mg base CX k f j ps sp):Cal P w K mg base CX k n ps sp:=by
 obtain⟨q,r,sl,kV,i,o,e,g,ct,a,l,c,m⟩:=d;have F:=zh4 l c m;exact⟨_,_,ok _ F,W.mg_of X G a,m,F.binds p⟩
def zjl (X:K.In h)(G:h.Ns mainGlobals mg)(d:Std K n st f)(m:mg n=some (.ref fa))
  (p:∀kV j o g i ct s v,BindsTo s (W.fnOf n n (z3z st) (z21 st) (z0e st) .none kV j o g i ct) ⟨[v],[]⟩ [(x,v)])
  (ok:∀b:Heap,K.In b->b.Ns mainGlobals mg->∀e,Fun K n n st fa e->FnOk P w K mg b CX k fa e [x] sp):
  ∃e,(∀s v,BindsTo s e ⟨[v],[]⟩ [(x,v)])/\∀b:Heap,K.In b->b.Ns mainGlobals mg->FnOk P w K mg b CX k fa e [x] sp:=by
 obtain⟨u,y,sl,kV,j,o,g,i,ct,a,l,c,r⟩:=d
 cases m.symm.trans (W.mg_of X G a)
 exact⟨_,λs v=>p kV j o g i ct s v,λb q t=>ok _ q t _ (zh4 l c r)⟩
end
structure Sc (N ps:List Str)(sc:Scope):Prop where
 fs:z5p N ps sc
 nm:∀x∈N,Nm sc x
def Sc.of {N ps:List Str}{sc:Scope}(h:(sc.kind = .function/\sc.isCoroutine=false/\sc.isGenerator=false)/\N.Nodup/\N.take ps.length=ps/\(∀y∈sc.names,y.2 ≠ .free)/\∀x∈N,(sc.names.lookup x=some .local\/sc.names.lookup x=some .cell)/\dB x/\(x == ("__classdict__"))=false):Sc N ps sc:=
 ⟨⟨h.1.1,h.1.2.1,h.1.2.2,h.2.1,h.2.2.1,λx a=>(h.2.2.2.2 x (vB (by rw[h.2.2.1];exact a))).1,h.2.2.2.1⟩,λx a=>⟨(h.2.2.2.2 x a).1,(h.2.2.2.2 x a).2.1,(h.2.2.2.2 x a).2.2⟩⟩
section
variable {X:Cx}{ps:List Str}{x:Str}{pos pos2:Pos}{e:Expr}{te:TE}{i:Nat}
def vx (S:Sc X.N ps X.env.scope)(a:X.N[i]? = some x):QE X (.Name x pos) (tVar i):=
 have m:=S.nm x (wz a)
 ⟨zgG a m.vis m.hd m.hcd⟩
def nx (S:Sc X.N ps X.env.scope)(a:X.N[i]? = some x)(b:X.fn x=true):QG X (.Name x pos) (z3t i):=⟨zcY S.fs.nd a (S.nm x (wz a)).loc (.inl b)⟩
def ax (S:Sc X.N ps X.env.scope)(a:X.N[i]? = some x)(d:X.fn x=true)(b:QE X e te)(f:swapsWith e (some (.Name x pos2)) pos.line X.env=pure false):QS X (.Assign [.Name x pos2] e pos) (tAsg te (z3t i)):=⟨zkK S.fs.nd a (S.nm x (wz a)).loc b.p f (.inl d)⟩
end
def zn7 {op:BoolOp}{a:Pos}(h:QXW X E (.BoolOp op es a) x):QXT X E (.BoolOp op es a) x:=QW.pt h
noncomputable def tgN:Expr->List Str
 | .Name x _=>[x]
 | .Tuple a _ _=>a.filterMap fun | .Name x _=>some x | _=>none
 | _=>[]
def z22 (b:Expr)(a:List Nat)(N:List Str):List Str:=tgN b++a.map λj=>N.getD j ""
section
variable {X:Cx}{E:XK}{N ps:List Str}{sc scope:Scope}{target iter elt c:Expr}{src x y:Ex}{nt iy:Nat}{js:List Nat}{tg:Tg}{pos py spos:Pos}{z:Str}
def zf4 (S:Sc N ps sc)(f:X.N=N)(b:X.env.scope=sc)(g:X.calm=true)(j:QXI X E target iter src)(l:scope.kind = .function)(d:z6w (z22 target js N) N nt js scope.names sc.names=true/\(z22 target js N).Nodup)(e:tg.slots.all (· < nt)=true)
  (i:∀C s H a,(z22 target js N).Nodup->QG (X.compG scope (z22 target js N) C s H a) target (tgt X.K tg))
  (h:∀C s H a,(z22 target js N).Nodup->QX (X.compG scope (z22 target js N) C s H a) E0 elt x) (m:fI iter X):QF X E (.ListComp elt [⟨target,iter,[],0⟩] scope pos) (.comp nt js tg src none x):=
 zcK (ct:=none) g j l (z6w.ok f b d.1) e (λC s H a=>i C s H a d.2) trivial (λC s H a=>h C s H a d.2) m
def zf3 (S:Sc N ps sc)(f:X.N=N)(b:X.env.scope=sc)(g:X.calm=true)(j:QXI X E target iter src)(l:scope.kind = .function)(d:z6w (z22 target js N) N nt js scope.names sc.names=true/\(z22 target js N).Nodup)(e:tg.slots.all (· < nt)=true)
  (i:∀C s H a,(z22 target js N).Nodup->QG (X.compG scope (z22 target js N) C s H a) target (tgt X.K tg))
  (n:∀C s H a,(z22 target js N).Nodup->QXT (X.compG scope (z22 target js N) C s H a) E0 c y)
  (h:∀C s H a,(z22 target js N).Nodup->QX (X.compG scope (z22 target js N) C s H a) E0 elt x) (m:fI iter X):QF X E (.ListComp elt [⟨target,iter,[c],0⟩] scope pos) (.comp nt js tg src (some y) x):=
 zcK (ct:=some c) g j l (z6w.ok f b d.1) e (λC s H a=>i C s H a d.2) (λC s H a=>n C s H a d.2) (λC s H a=>h C s H a d.2) m
def zf0 (S:Sc N ps sc)(d:X.N=N)(b:X.env.scope=sc)(m:N[iy]? = some z)(o:sc.names.lookup z=some .local)(h:X.calm=true)(l:QXI X E target iter src)(n:scope.kind = .function)(e:z6w (z22 target js N) N nt js scope.names sc.names=true/\(z22 target js N).Nodup)(g:tg.slots.all (· < nt)=true)
  (j:∀C s H a,(z22 target js N).Nodup->QG (X.compG scope (z22 target js N) C s H a) target (tgt X.K tg))
  (i:∀C s H a,(z22 target js N).Nodup->QX (X.compG scope (z22 target js N) C s H a) E0 elt x) (f:swapsWith (.ListComp elt [⟨target,iter,[],0⟩] scope pos) (some (.Name z py)) spos.line X.env=pure true) (p:fI iter X):
  QS X (.Assign [.Name z py] (.ListComp elt [⟨target,iter,[],0⟩] scope pos) spos) (tAsg (tf X.K X.mg E (.comp nt js tg src none x)) (z3t iy)):=
 zcJ (ct:=none) (by rw[d];exact S.fs.nd) (by simp_all) (by simp_all) h l n (z6w.ok d b e.1) g (λC s H a=>j C s H a e.2) trivial (λC s H a=>i C s H a e.2) f p
def zeZ (S:Sc N ps sc)(d:X.N=N)(b:X.env.scope=sc)(m:N[iy]? = some z)(o:sc.names.lookup z=some .local)(h:X.calm=true)(l:QXI X E target iter src)(n:scope.kind = .function)(e:z6w (z22 target js N) N nt js scope.names sc.names=true/\(z22 target js N).Nodup)(g:tg.slots.all (· < nt)=true)
  (j:∀C s H a,(z22 target js N).Nodup->QG (X.compG scope (z22 target js N) C s H a) target (tgt X.K tg))
  (q:∀C s H a,(z22 target js N).Nodup->QXT (X.compG scope (z22 target js N) C s H a) E0 c y)
  (i:∀C s H a,(z22 target js N).Nodup->QX (X.compG scope (z22 target js N) C s H a) E0 elt x) (f:swapsWith (.ListComp elt [⟨target,iter,[c],0⟩] scope pos) (some (.Name z py)) spos.line X.env=pure true) (p:fI iter X):
  QS X (.Assign [.Name z py] (.ListComp elt [⟨target,iter,[c],0⟩] scope pos) spos) (tAsg (tf X.K X.mg E (.comp nt js tg src (some y) x)) (z3t iy)):=
 zcJ (ct:=some c) (by rw[d];exact S.fs.nd) (by simp_all) (by simp_all) h l n (z6w.ok d b e.1) g (λC s H a=>j C s H a e.2) (λC s H a=>q C s H a e.2) (λC s H a=>i C s H a e.2) f p
end
structure Te where
 k:Nat
 x:Str
 i:Nat
 np:Nat
 N:List Str
 F:Fn
abbrev Te.ps (t:Te):List Str:=t.N.take t.np
structure Gx where
 P:Program
 w:World
 K:W.Frag
 mg:Str->Option Value
 base:Heap
abbrev Ct (G:Gx)(t:Te):Prop:=Cal G.P G.w G.K G.mg G.base (CXe G.P G.w) t.k t.x t.ps (spP G.K G.mg t.F)
abbrev Ft (G:Gx)(t:Te)(f:Addr)(fd:FuncData):Prop:=FnOk G.P G.w G.K G.mg G.base (CXe G.P G.w) t.k f fd t.ps (spP G.K G.mg t.F)
section
variable {P:Program}{w:World}{K:W.Frag}{mg:WmP}{base:Heap}{f:Addr}{fd:FuncData}{N ps:List Str}{qual x:Str}{st:Stmt}{k np nn:Nat}{b:Sm}
def fnQ (F:Fun K x qual st f fd)(S:Sc N ps (z0e st))
  (g:∀a A d s H E,Sc N ps (z0e st)->Room k (A.deeper (envOfC qual (z0e st) s.heap.objs.size f a))->(A.deeper (envOfC qual (z0e st) s.heap.objs.size f a)).units+64<cLine->QZs ((cxOf (CXe P w) P w K mg base N qual (z0e st) f a A d s H E).wish λ_ _=>False) E0 (z21 st) b) (h:autoParam (ps.length=np) jA1) (e:autoParam (N.length=nn) jA1):
  FnOk P w K mg base (CXe P w) (k+1) f fd ps (spP K mg (Fn.mkN np nn b)):=fnM F S.fs (λa A d s H E i j=>g a A _ s H E S i j) h e
end
section
variable {G:Gx}{t:Te}{f:Addr}{fd:FuncData}{st:Stmt}{k np nn:Nat}{b:Sm}
def fnT (F:Fun G.K t.x t.x st f fd)(S:Sc t.N t.ps (z0e st))(e:t.F=Fn.mkN np nn b)(i:t.k=k+1)
  (h:∀a A d s H E,Sc t.N t.ps (z0e st)->Room k (A.deeper (envOfC t.x (z0e st) s.heap.objs.size f a))->(A.deeper (envOfC t.x (z0e st) s.heap.objs.size f a)).units+64<cLine->QZs ((cxOf (CXe G.P G.w) G.P G.w G.K G.mg G.base t.N t.x (z0e st) f a A d s H E).wish λ_ _=>False) E0 (z21 st) b) (j:autoParam (t.ps.length=np) jA1) (g:autoParam (t.N.length=nn) jA1):Ft G t f fd:=by
 show FnOk _ _ _ _ _ _ t.k _ _ _ _;rw[e,i];exact fnQ F S h j g
end
structure Cf (G:Gx)(F:Fn)(t:Te):Prop where
 c:Ct G t
 e:t.F=F
def zke {a n:Pos}{t:Te}(C:Cf G F t)(h:Ct G t->Cal X.prog X.w X.K X.mg X.base (CXe G.P G.w) t.k f t.ps (spP X.K X.mg t.F))(l:Room t.k X.A)(m:z53 (CXe G.P G.w) X E)(g:QXA X E (e::es) xs)(j:Gl X f)
  (b:dB f) (i:sE e es X) (d:bT a es X):QX X E (.Call (.Name f n) (e::es) [] a) (.op F xs):=by
 have q:=h C.c;rw[C.e] at q;exact zn3 q l m g j b i d
def us_s {P:List Value->Prop}(h:∀a us,us.length=n->P (a::us))(us:List Value)(e:us.length=n+1):P us:=by
 cases us with
 | nil=>cases e
 | cons a us=>exact h a us (Nat.succ.inj e)
def us1 {P:List Value->Prop}(h:∀b,P [b]):∀us,us.length=1->P us:=us_s λa us e=>by
 grind
def us2 {P:List Value->Prop}(h:∀b d,P [b,d]):∀us,us.length=2->P us:=us_s λa=>us1 (h a)
def us3 {P:List Value->Prop}(h:∀b d e,P [b,d,e]):∀us,us.length=3->P us:=us_s λa=>us2 (h a)
def us4 {P:List Value->Prop}(h:∀b d e f,P [b,d,e,f]):∀us,us.length=4->P us:=us_s λa=>us3 (h a)
def Gx.of (P:Program)(w:World)(K:W.Frag)(mg:WmP)(base:Heap):∃G:Gx,G.P=P/\G.w=w/\G.K=K/\G.mg=mg/\G.base=base:=⟨⟨P,w,K,mg,base⟩,rfl,rfl,rfl,rfl,rfl⟩
def ctG {G:Gx}{h:Heap}(X:G.K.In h)(g:h.Ns mainGlobals G.mg)(t:Te){st:Stmt}{f:Addr}(d:Std G.K t.x st f)(ok:∀e,Fun G.K t.x t.x st f e->Ft G t f e)
  (o:∀kV m p i j ct b,b.length=t.ps.length->bindArgs (W.fnOf t.x t.x (z3z st) (z21 st) (z0e st) .none kV m p i j ct) ⟨b,[]⟩=pure (t.ps.zip b):=by walk_at "c"):Cf G t.F t:=⟨zmq X g d o ok,rfl⟩
end Pu
end
set_option Elab.async false
set_option linter.all false
set_option maxRecDepth 100000
set_option maxHeartbeats 4000000
namespace My
open PySem L2 Pu
def top (i:Nat):Stmt:=PySem.Challenge.pw_closehaul_k32_soonest_papers_taken.main.body.getD i (.Pass ⟨0,0,0,0⟩)
abbrev Fu (G:Gx)(t:Te)(f:Addr)(fd:FuncData):Prop:=Fun G.K t.x t.x (top t.i) f fd
local macro_rules | `(tactic| walk_at "c") => `(tactic| first | exact λ_ _ _ _ _ _=>us1 λ_=>rfl | exact λ_ _ _ _ _ _=>us2 λ_ _=>rfl | exact λ_ _ _ _ _ _=>us3 λ_ _ _=>rfl | exact λ_ _ _ _ _ _=>us4 λ_ _ _ _=>rfl)
noncomputable abbrev BL:List Str:=["abs","enumerate","len","list","max","min","range","reversed","set","sorted","sum","tuple","zip"]
structure Txt (K:W.Frag)(mg:WmP):Prop where
 nb:∀b∈BL,mg b=none
 g_EVERY_WAY:zmC K mg "EVERY_WAY" z3r
def zog:bootBuiltins "abs"=some (.builtin "abs"):=by rfl
def zof:bootBuiltins "len"=some (.builtin "len"):=by rfl
def zmv:bootBuiltins "list"=some (.type "list"):=by rfl
def zoe:bootBuiltins "max"=some (.builtin "max"):=by rfl
def zod:bootBuiltins "min"=some (.builtin "min"):=by rfl
def zg7:bootBuiltins "sorted"=some (.builtin "sorted"):=by rfl
def zoc:bootBuiltins "sum"=some (.builtin "sum"):=by rfl
def zj6:bootBuiltins "tuple"=some (.type "tuple"):=by rfl
set_option hygiene false in
local macro_rules
 | `(tactic| walk_at "q2") => do let ha0←sh "QE:___" (←`(tactic|walk_at "e"));let ab0←al "zog zof zmv zoe zod zg7 zoc zj6";let ac0←al "zeS??? zhN";let hd0←sh "QA:___" ac0;let ae0←al "zgy? zcI?? zk5";let hf0←sh "QSs:___" ae0;let hg0←sh "QS:___" (←`(tactic|walk_at "s"));let ah0←al "zko?#??? zhR?";let hi0←sh "QT:___" (←`(tactic|first | $ah0:tactic | with_reducible refine zn7 ?_ | with_reducible refine zhS ?_ ?_));let aj0←al "zeV? zhO? zhP?? zkj??";let hk0←sh "QW:___" aj0;let al0←al "zbs???? zf1????? z6A???? qi_x?";let hm0←sh "QI:____" al0;`(tactic| first | $ha0:tactic | ((with_reducible show _=_);first | $ab0:tactic | exact rfl) | $hd0:tactic | $hf0:tactic | $hg0:tactic | $hi0:tactic | $hk0:tactic | $hm0:tactic | walk_at "o")
 | `(tactic| walk_at "e") => do let ba0←al "vx!= qv*" false;let ab0←al "zkd zkh?#?? zn2??? zk9? zkg?#???";let rc0:=#[←rl "zke:Gt?????????" 2 (←`(tactic|(assumption;with_unfolding_all exact λh=>h)))];`(tactic| first | ((with_reducible refine qx_v ?_);$ba0:tactic) | $ab0:tactic $[|$rc0]* | walk_at "g")
 | `(tactic| walk_at "g") => do let aa0←al "qx_v? zn6 zka zkc zn0?%? zkb? zki?? zn1??? zf4!?????????? zf3!??????????? zkw? zbt????????? z58???????? zi1 zeT??????? z8E????????? zbr???????? zbq????????";let rb0:=#[←rl "zeU:ck???????" 2 (←`(tactic|with_unfolding_all exact tb)),←rl "zgA:0ckps????" 6 (←`(tactic|with_unfolding_all exact (‹Cf G z3S _›).c)),←rl "zgA:2ckps????" 6 (←`(tactic|with_unfolding_all exact (‹Cf G z0A _›).c))];let rc0:=#[←rl "zn4:i?n????????" 1 (←`(tactic|walk_at "h")),←rl "zkf:i?n????????" 1 (←`(tactic|first | exact zfY)),←rl "zna:i?????????" 1 (←`(tactic|walk_at "h"))];let bd0←al "vx!= qv*" false;`(tactic| first | $aa0:tactic $[|$rb0]* | with_reducible refine zn5 (d:=z3r) ?_ ?_ ?_ $[|$rc0]* | with_reducible refine QF.qx ?_ | $bd0:tactic)
 | `(tactic| walk_at "s") => do let aa0←al "zgz? zk1? zmZ??? zk4? zhM? zk8???????? zk7???????? zk3???? zeO??? zk6?????? zeR????????? zeQ zk2????? zeP???? zf0!????????????? zeZ!?????????????? zhL????";let bb0←al "ax!==?= QS.sh?" false;`(tactic| first | ((with_reducible refine zgz ?_);refine ax S rfl rfl ?_ rfl) | $aa0:tactic | $bb0:tactic)
 | `(tactic| walk_at "o") => do let aa0←al "zlu zlw zlr zlv ziv zls znB? znu? znv? znz? znw? znA znx zft zda zny? zlc zhX zhW?";let bb0←al "nx!== zku~== zkv~== zf2??= zi0 zkt=? hr.mono^ zl2 hu PassesOwn.never zlN* rfl T.nb*^" false;`(tactic| first | $aa0:tactic | $bb0:tactic | assumption | (intro _;rfl) | (intro _ _;rfl) | (intro _ _ _ _ n1) | decide | exact S.fs.nd | decide +kernel | (intro _ _ he hg;exact zkr he hg) | (intro _ he;exact ax S rfl rfl he rfl) | with_unfolding_all rfl | exact T.g_EVERY_WAY)
 | `(tactic| walk_at "h") => do let ba0←al "zmo zmp zmn$ zj4$" false;let bb0←al "zj2$ zj1$ zj0$ zg1" false;`(tactic| first | $ba0:tactic | (refine zj3 ?_ ?_;with_unfolding_all rfl;with_unfolding_all exact hu) | $bb0:tactic)
local macro_rules | `(tactic| walk_at "q") => `(tactic| walk_at "q2" <;> walk_at "q")
set_option hygiene false in
local macro_rules | `(tactic| walk_at "f") => `(tactic| (refine fnT F (Sc.of (by decide +kernel)) rfl rfl (λcdv A outer s H E S hr hu =>?_);first | refine zgy ?_ | refine zcI ?_ ?_) <;> walk_at "q")
def z1V:Te:=⟨1,"_law_cell_at",75,2,["script","k"],z0m⟩
def z1l:Te:=⟨1,"_law_free_vector",78,2,["cell","far","wide"],z0f⟩
def z18:Te:=⟨2,"_law_free_watches",79,1,["script","far","watches","at","size","first","wind"],z0v⟩
def z0J:Te:=⟨1,"_law_draw",76,3,["cell","k","many","prime","mixed"],z00⟩
def z2S:Te:=⟨2,"_law_vector",77,3,["cell","far","line","times"],z0Q⟩
def z2w:Te:=⟨3,"_law_watches",80,1,["script","base","far","line","most","watches","at","size","wind","stream"],z0E⟩
def z0N:Te:=⟨1,"_law_lowest",81,1,["row","least","number","one","rest"],z01⟩
def z3i:Te:=⟨2,"_law_short",90,2,["course","cell","first","bottom","part","last"],z0Z⟩
def z3G:Te:=⟨2,"_law_add",85,3,["place","vector","share","top","x","y"],z0F⟩
def z3E:Te:=⟨2,"_law_sum",82,2,["one","other"],z0Y⟩
def z3F:Te:=⟨3,"_law_end",86,2,["watches","course","place","k","total","j","share"],z10⟩
def z17:Te:=⟨2,"_law_free_place",87,2,["cell","far","wide","x","y"],z0j⟩
def z3j:Te:=⟨2,"_law_parts",83,3,["cell","many","bottom","cut","one","two","three","rest","tops"],z1r⟩
def z2h:Te:=⟨3,"_law_course",84,2,["watches","cell","course","k","bottom","tops"],z0w⟩
def z3Y:Te:=⟨4,"_law_goal",88,3,["watches","cell","far","place","way","size","step"],z1J⟩
def z4t:Te:=⟨5,"_law_aim",91,3,["watches","cell","far","short","place"],z1c⟩
def z36:Te:=⟨1,"turn_of",2,2,["one","other"],z1A⟩
def z1S:Te:=⟨1,"step_of",5,2,["start","end"],z0A⟩
def z4r:Te:=⟨2,"turn_by",8,3,["start","middle","end"],z3S⟩
def z40:Te:=⟨3,"chain_of",9,2,["spots","turn","kept","spot"],z3d⟩
def z2v:Te:=⟨4,"least_round",10,2,["rising","turn","there","back"],z2B⟩
def z0y:Te:=⟨5,"least_headings",11,1,["wind"],z0a⟩
def z1x:Te:=⟨1,"vector_added",4,2,["one","other"],z0T⟩
def z3a:Te:=⟨6,"drift_of",32,1,["watch"],z2D⟩
def z38:Te:=⟨1,"right_of",6,1,["step"],z2C⟩
def z1E:Te:=⟨3,"bearings_round",12,2,["corners","step_between","found","number","corner","step"],z1K⟩
def z2y:Te:=⟨1,"dot_of",3,2,["one","other"],z0R⟩
def z37:Te:=⟨6,"sides_of",13,1,["wind","sides"],z26⟩
def z39:Te:=⟨2,"farthest",7,2,["wind","bearing"],z1Q⟩
def z3h:Te:=⟨7,"limits_of",60,3,["ahead","drift","place","limits","bearing","most","gap"],z3v⟩
def z0z:Te:=⟨1,"longest_from_begin",61,1,["limits","found","limit"],z0o⟩
def z1D:Te:=⟨1,"longest_to_end",62,1,["limits","found","limit"],z1G⟩
def z27:Te:=⟨2,"watch_barred",63,1,["limits","bearing","gap","gain","first","last"],z2d⟩
def z0p:Te:=⟨1,"common_divisor",20,2,["one","other","great","small","rest"],z05⟩
def z3I:Te:=⟨2,"added",22,2,["one","other","shared","one_times","other_times","top","rest"],z2p⟩
def z7j:Te:=⟨3,"taken",23,2,["one","other"],z80⟩
def z2U:Te:=⟨2,"goes_first",29,2,["one","other","one_rises","other_rises"],z30⟩
def z28:Te:=⟨3,"steps_merged",30,2,["ones","others","steps","taken","other"],z2e⟩
def z2t:Te:=⟨3,"steps_round",28,2,["corners","step_between","behind"],z1Z⟩
def z4u:Te:=⟨6,"joined",31,2,["one","other","ones","others","heading","headings","step"],z48⟩
def z2Q:Te:=⟨2,"lowest",21,2,["top","bottom","divisor"],z1b⟩
def z2N:Te:=⟨1,"wind_times",64,2,["wind","number"],z2l⟩
def z2u:Te:=⟨1,"lies_beyond",43,3,["place","bearing","most"],z2A⟩
def z1n:Te:=⟨7,"barring_bearing",44,2,["headings","place","bearing","most"],z1s⟩
def z4q:Te:=⟨1,"way_to",45,2,["vector","place"],z47⟩
def z2R:Te:=⟨2,"line_parts",46,2,["corners","place","step","whole","second"],z2Y⟩
def z16:Te:=⟨2,"triangle_parts",47,2,["corners","place","one","other","way","whole","second","third"],z0M⟩
def z1g:Te:=⟨3,"triangle_around",48,2,["headings","place","number","corners"],z1o⟩
def z1i:Te:=⟨3,"shares_of_parts",49,3,["wind","corners","parts","whole","shares"],z0X⟩
def z3g:Te:=⟨8,"shares_to",50,2,["wind","place","headings","bearing","corners","parts"],z3u⟩
def z2T:Te:=⟨2,"heading_at",54,2,["wind","step","side","ways"],z2Z⟩
def z1j:Te:=⟨3,"shares_in_watch",55,3,["wind","reach","shares","found","number","share","heading"],z1q⟩
def z2b:Te:=⟨2,"lowest_place",34,3,["x","y","bottom","divisor"],z2g⟩
def z1k:Te:=⟨3,"place_times",36,2,["place","fraction"],z0B⟩
def z2P:Te:=⟨3,"multiplied",24,2,["one","other"],z2X⟩
def z1h:Te:=⟨9,"short_course_to",65,4,["watches","ahead","part","place","drift","reach","shares","course","last"],z1p⟩
def z4s:Te:=⟨10,"soonest",66,2,["watches","place","bars","ahead","number","drift","limits","barred","limit","part","course"],z4U⟩
def z1m:Te:=⟨3,"_law_bad_answers",93,1,["answer","bars","bad","moment","more"],z08⟩
def z3W:Te:=⟨2,"_law_size",89,1,["script"],z1H⟩
def z3X:Te:=⟨2,"_law_more",92,2,["bars","cell","bearing"],z1I⟩
def z2F:Te:=⟨1,"is_before",26,2,["one","other"],z1d⟩
def z2x:Te:=⟨3,"farthest_by",52,2,["watches","bearing"],z20⟩
def z7k:Te:=⟨3,"along",37,2,["bearing","place"],z81⟩
def z4v:Te:=⟨3,"divided",25,2,["one","other"],z4V⟩
def z1W:Te:=⟨4,"barred_from",68,4,["watches","number","place","bearings","least","greatest","bearing","gap","gain","bound"],z1t⟩
def z11:Te:=⟨3,"shares_sum",41,1,["shares","total","heading","share"],z0q⟩
def z2i:Te:=⟨5,"all_barred",69,3,["watches","place","bars","number","entry"],z1R⟩
def z3l:Te:=⟨6,"at_stands",72,4,["watches","place","course","bars","last","left"],z1L⟩
def z2a:Te:=⟨6,"never_stands",70,3,["watches","place","bars"],z1B⟩
def z3Z:Te:=⟨2,"is_share",39,1,["share"],z49⟩
def z1M:Te:=⟨3,"are_shares",40,2,["wind","shares","ahead","heading","share"],z0C⟩
def z3k:Te:=⟨4,"is_course",53,2,["watches","course","watch","shares"],z3w⟩
def z0U:Te:=⟨5,"is_short_course",58,2,["watches","course","last","shares"],z0t⟩
def z29:Te:=⟨4,"short_moment",57,1,["course","moment","shares"],z2f⟩
def z1T:Te:=⟨2,"place_added",35,2,["one","other","shared","one_times","other_times","x","y","rest"],z14⟩
def z2O:Te:=⟨4,"shares_end",42,2,["wind","shares","end","heading","share","vector"],z2W⟩
def z3f:Te:=⟨6,"short_end",59,2,["watches","course","end","watch","shares","stream","carried"],z2J⟩
def z1U:Te:=⟨7,"moment_stands",71,4,["watches","place","moment","course"],z0D⟩
def z1C:Te:=⟨8,"soonest_stands",73,3,["watches","place","answer"],z0l⟩
def zjq:Te:=⟨11,"law",94,1,["script","watches","cell","place","told","more","answer"],z6t⟩
section
variable {G:Gx}{f:Addr}{fd:FuncData}(T:Txt G.K G.mg)
include T
theorem z6J (F:Fu G z1V f fd):Ft G z1V f fd:=by walk_at "f"
theorem z4M (F:Fu G z1l f fd):Ft G z1l f fd:=by walk_at "f"
theorem z4j (F:Fu G z18 f fd)(_:Cf G z0f z1l):Ft G z18 f fd:=by walk_at "f"
theorem z9Y (F:Fu G z0J f fd):Ft G z0J f fd:=by walk_at "f"
theorem z7J (F:Fu G z2S f fd)(_:Cf G z00 z0J):Ft G z2S f fd:=by walk_at "f"
theorem z6I (F:Fu G z2w f fd)(_:Cf G z0m z1V)(_:Cf G z00 z0J)(_:Cf G z0Q z2S)(_:Cf G z0v z18):Ft G z2w f fd:=by walk_at "f"
theorem z7K (F:Fu G z0N f fd):Ft G z0N f fd:=by walk_at "f"
theorem z8V (F:Fu G z3i f fd)(_:Cf G z00 z0J)(_:Cf G z01 z0N):Ft G z3i f fd:=by walk_at "f"
theorem zbE (F:Fu G z3G f fd)(_:Cf G z01 z0N):Ft G z3G f fd:=by walk_at "f"
theorem zbB (F:Fu G z3E f fd)(_:Cf G z01 z0N):Ft G z3E f fd:=by walk_at "f"
theorem zbC (F:Fu G z3F f fd)(_:Cf G z0Y z3E)(_:Cf G z0F z3G):Ft G z3F f fd:=by walk_at "f"
theorem z5e (F:Fu G z17 f fd)(_:Cf G z01 z0N):Ft G z17 f fd:=by walk_at "f"
theorem z8W (F:Fu G z3j f fd)(_:Cf G z00 z0J):Ft G z3j f fd:=by walk_at "f"
theorem z7L (F:Fu G z2h f fd)(_:Cf G z00 z0J)(_:Cf G z01 z0N)(_:Cf G z1r z3j):Ft G z2h f fd:=by walk_at "f"
theorem z9X (F:Fu G z3Y f fd)(_:Cf G z00 z0J)(_:Cf G z01 z0N)(_:Cf G z0w z2h)(_:Cf G z0F z3G)(_:Cf G z10 z3F)(_:Cf G z0j z17):Ft G z3Y f fd:=by walk_at "f"
theorem zbD (F:Fu G z4t f fd)(_:Cf G z00 z0J)(_:Cf G z0w z2h)(_:Cf G z10 z3F)(_:Cf G z0j z17)(_:Cf G z1J z3Y)(_:Cf G z0Z z3i):Ft G z4t f fd:=by walk_at "f"
theorem zbx (F:Fu G z36 f fd):Ft G z36 f fd:=by walk_at "f"
theorem zbz (F:Fu G z1S f fd):Ft G z1S f fd:=by walk_at "f"
theorem zby (F:Fu G z4r f fd)(_:Cf G z1A z36)(_:Cf G z0A z1S):Ft G z4r f fd:=by walk_at "f"
theorem za2 (F:Fu G z40 f fd)(tb:FTab G.P G.w G.K G.mg G.base (CXe G.P G.w) 2 zae):Ft G z40 f fd:=by walk_at "f"
theorem z6H (F:Fu G z2v f fd)(_:Cf G z3d z40):Ft G z2v f fd:=by walk_at "f"
theorem z5d (F:Fu G z0y f fd)(_:Cf G z3S z4r)(_:Cf G z2B z2v):Ft G z0y f fd:=by walk_at "f"
theorem z6a (F:Fu G z1x f fd):Ft G z1x f fd:=by walk_at "f"
theorem za1 (F:Fu G z3a f fd)(_:Cf G z0T z1x)(_:Cf G z0a z0y):Ft G z3a f fd:=by walk_at "f"
theorem z9U (F:Fu G z38 f fd):Ft G z38 f fd:=by walk_at "f"
theorem z5g (F:Fu G z1E f fd)(_:Cf G z2C z38)(tb:FTab G.P G.w G.K G.mg G.base (CXe G.P G.w) 2 zae):Ft G z1E f fd:=by walk_at "f"
theorem zd8 (F:Fu G z2y f fd):Ft G z2y f fd:=by walk_at "f"
theorem z9T (F:Fu G z37 f fd)(_:Cf G z0R z2y)(_:Cf G z0A z1S)(_:Cf G z0a z0y)(_:Cf G z1K z1E):Ft G z37 f fd:=by walk_at "f"
theorem za0 (F:Fu G z39 f fd)(_:Cf G z0R z2y):Ft G z39 f fd:=by walk_at "f"
theorem z8U (F:Fu G z3h f fd)(_:Cf G z0R z2y)(_:Cf G z1Q z39)(_:Cf G z26 z37):Ft G z3h f fd:=by walk_at "f"
theorem z3P (F:Fu G z0z f fd):Ft G z0z f fd:=by walk_at "f"
theorem z5c (F:Fu G z1D f fd):Ft G z1D f fd:=by walk_at "f"
theorem z69 (F:Fu G z27 f fd)(_:Cf G z0o z0z)(_:Cf G z1G z1D):Ft G z27 f fd:=by walk_at "f"
theorem z5f (F:Fu G z0p f fd):Ft G z0p f fd:=by walk_at "f"
theorem zfr (F:Fu G z3I f fd)(_:Cf G z05 z0p):Ft G z3I f fd:=by walk_at "f"
theorem zfp (F:Fu G z7j f fd)(_:Cf G z2p z3I):Ft G z7j f fd:=by walk_at "f"
theorem z7N (F:Fu G z2U f fd)(_:Cf G z1A z36):Ft G z2U f fd:=by walk_at "f"
theorem z6b (F:Fu G z28 f fd)(_:Cf G z30 z2U):Ft G z28 f fd:=by walk_at "f"
theorem z6D (F:Fu G z2t f fd)(tb:FTab G.P G.w G.K G.mg G.base (CXe G.P G.w) 2 zae):Ft G z2t f fd:=by walk_at "f"
theorem zd7 (F:Fu G z4u f fd)(_:Cf G z0T z1x)(_:Cf G z0A z1S)(_:Cf G z0a z0y)(_:Cf G z1Z z2t)(_:Cf G z2e z28):Ft G z4u f fd:=by walk_at "f"
theorem zd6 (F:Fu G z2Q f fd)(_:Cf G z05 z0p):Ft G z2Q f fd:=by walk_at "f"
theorem z7E (F:Fu G z2N f fd):Ft G z2N f fd:=by walk_at "f"
theorem z6G (F:Fu G z2u f fd):Ft G z2u f fd:=by walk_at "f"
theorem z4P (F:Fu G z1n f fd)(_:Cf G z26 z37)(_:Cf G z2A z2u):Ft G z1n f fd:=by walk_at "f"
theorem zd5 (F:Fu G z4q f fd):Ft G z4q f fd:=by walk_at "f"
theorem z7I (F:Fu G z2R f fd)(_:Cf G z0R z2y)(_:Cf G z0A z1S)(_:Cf G z47 z4q):Ft G z2R f fd:=by walk_at "f"
theorem z5a (F:Fu G z16 f fd)(_:Cf G z1A z36)(_:Cf G z0A z1S)(_:Cf G z47 z4q):Ft G z16 f fd:=by walk_at "f"
theorem z4I (F:Fu G z1g f fd)(_:Cf G z0M z16):Ft G z1g f fd:=by walk_at "f"
theorem z4K (F:Fu G z1i f fd)(_:Cf G z1b z2Q):Ft G z1i f fd:=by walk_at "f"
theorem z8S (F:Fu G z3g f fd)(_:Cf G z0a z0y)(_:Cf G z1s z1n)(_:Cf G z2Y z2R)(_:Cf G z0M z16)(_:Cf G z1o z1g)(_:Cf G z0X z1i):Ft G z3g f fd:=by walk_at "f"
theorem z7M (F:Fu G z2T f fd)(_:Cf G z0R z2y)(_:Cf G z2C z38):Ft G z2T f fd:=by walk_at "f"
theorem z4L (F:Fu G z1j f fd)(_:Cf G z0A z1S)(_:Cf G z2p z3I)(_:Cf G z2Z z2T):Ft G z1j f fd:=by walk_at "f"
theorem z6e (F:Fu G z2b f fd)(_:Cf G z05 z0p):Ft G z2b f fd:=by walk_at "f"
theorem z6E (F:Fu G z1k f fd)(_:Cf G z2g z2b):Ft G z1k f fd:=by walk_at "f"
theorem z7H (F:Fu G z2P f fd)(_:Cf G z1b z2Q):Ft G z2P f fd:=by walk_at "f"
theorem z4J (F:Fu G z1h f fd)(_:Cf G z2X z2P)(_:Cf G z48 z4u)(_:Cf G z2D z3a)(_:Cf G z0B z1k)(_:Cf G z3u z3g)(_:Cf G z1q z1j)(_:Cf G z2l z2N):Ft G z1h f fd:=by walk_at "f"
theorem zbA (F:Fu G z4s f fd)(_:Cf G z1b z2Q)(_:Cf G z2p z3I)(_:Cf G z48 z4u)(_:Cf G z2D z3a)(_:Cf G z3v z3h)(_:Cf G z0o z0z)(_:Cf G z2d z27)(_:Cf G z1p z1h):Ft G z4s f fd:=by walk_at "f"
theorem z4N (F:Fu G z1m f fd)(_:Cf G z0Y z3E):Ft G z1m f fd:=by walk_at "f"
theorem z9V (F:Fu G z3W f fd)(_:Cf G z0m z1V)(_:Cf G z00 z0J):Ft G z3W f fd:=by walk_at "f"
theorem z9W (F:Fu G z3X f fd)(_:Cf G z00 z0J):Ft G z3X f fd:=by walk_at "f"
theorem z8Y (F:Fu G z2F f fd):Ft G z2F f fd:=by walk_at "f"
theorem z6K (F:Fu G z2x f fd)(_:Cf G z0R z2y)(_:Cf G z1Q z39):Ft G z2x f fd:=by walk_at "f"
theorem zfq (F:Fu G z7k f fd)(_:Cf G z1b z2Q):Ft G z7k f fd:=by walk_at "f"
theorem zbF (F:Fu G z4v f fd)(_:Cf G z1b z2Q):Ft G z4v f fd:=by walk_at "f"
theorem z6L (F:Fu G z1W f fd)(_:Cf G z80 z7j)(_:Cf G z4V z4v)(_:Cf G z1d z2F)(_:Cf G z81 z7k)(_:Cf G z20 z2x):Ft G z1W f fd:=by walk_at "f"
theorem z7F (F:Fu G z11 f fd)(_:Cf G z2p z3I):Ft G z11 f fd:=by walk_at "f"
theorem z7P (F:Fu G z2i f fd)(_:Cf G z1t z1W):Ft G z2i f fd:=by walk_at "f"
theorem z8Z (F:Fu G z3l f fd)(_:Cf G z0q z11)(_:Cf G z1t z1W)(_:Cf G z1R z2i):Ft G z3l f fd:=by walk_at "f"
theorem z6d (F:Fu G z2a f fd)(_:Cf G z1R z2i):Ft G z2a f fd:=by walk_at "f"
theorem z9Z (F:Fu G z3Z f fd)(_:Cf G z05 z0p):Ft G z3Z f fd:=by walk_at "f"
theorem z7O (F:Fu G z1M f fd)(_:Cf G z49 z3Z):Ft G z1M f fd:=by walk_at "f"
theorem z8X (F:Fu G z3k f fd)(_:Cf G z0C z1M)(_:Cf G z0q z11):Ft G z3k f fd:=by walk_at "f"
theorem z4O (F:Fu G z0U f fd)(_:Cf G z1d z2F)(_:Cf G z0C z1M)(_:Cf G z0q z11)(_:Cf G z3w z3k):Ft G z0U f fd:=by walk_at "f"
theorem z6c (F:Fu G z29 f fd)(_:Cf G z2p z3I)(_:Cf G z0q z11):Ft G z29 f fd:=by walk_at "f"
theorem z6F (F:Fu G z1T f fd)(_:Cf G z05 z0p):Ft G z1T f fd:=by walk_at "f"
theorem z7G (F:Fu G z2O f fd)(_:Cf G z14 z1T)(_:Cf G z0B z1k)(_:Cf G z0C z1M):Ft G z2O f fd:=by walk_at "f"
theorem z8R (F:Fu G z3f f fd)(_:Cf G z14 z1T)(_:Cf G z0B z1k)(_:Cf G z0q z11)(_:Cf G z2W z2O)(_:Cf G z0t z0U):Ft G z3f f fd:=by walk_at "f"
theorem z5E (F:Fu G z1U f fd)(_:Cf G z2f z29)(_:Cf G z0t z0U)(_:Cf G z2J z3f):Ft G z1U f fd:=by walk_at "f"
theorem z5b (F:Fu G z1C f fd)(_:Cf G z1B z2a)(_:Cf G z0D z1U)(_:Cf G z1L z3l):Ft G z1C f fd:=by walk_at "f"
theorem zlo (F:Fu G zjq f fd)(_:Cf G z4U z4s)(_:Cf G z0l z1C)(_:Cf G z0E z2w)(_:Cf G z1H z3W)(_:Cf G z1c z4t)(_:Cf G z1I z3X)(_:Cf G z08 z1m):Ft G zjq f fd:=by walk_at "f"
end
def zmy {l:W.OpenLaw}{w:World}{K:W.Frag}{h:Heap}{mg:WmP}{fa f0 f1 f2 f3 f4 f5 f6 f7 f8 f9 h8 h9 i0 i1 i2 i3 i4 i5 i6 i7 i8 i9 k0 k1 k2 k3 k4 k5 k6 k7 k8 k9 l0 l1 l2 l3 l4 l5 l6 l7 l8 l9 m0 m1 m2 m3 m4 m5 m6 m7 m8 m9 n0 n1 n2 n3 n4 n5 n6 n7 n8 n9 o0 o1 o2 o3 o4 o5 o6 o7 o8 o9 p0 p1 p2 p3 p4 p5 p6 p7:Addr}(X:K.In h)(g:h.Ns mainGlobals mg)(p8:mg "law"=some (.ref fa))
  (d0:Std K "_law_cell_at" (top 75) f0)
  (d1:Std K "_law_free_vector" (top 78) f1)
  (d2:Std K "_law_free_watches" (top 79) f2)
  (d3:Std K "_law_draw" (top 76) f3)
  (d4:Std K "_law_vector" (top 77) f4)
  (d5:Std K "_law_watches" (top 80) f5)
  (d6:Std K "_law_lowest" (top 81) f6)
  (d7:Std K "_law_short" (top 90) f7)
  (d8:Std K "_law_add" (top 85) f8)
  (d9:Std K "_law_sum" (top 82) f9)
  (H:Std K "_law_end" (top 86) h8)
  (I:Std K "_law_free_place" (top 87) h9)
  (J:Std K "_law_parts" (top 83) i0)
  (L:Std K "_law_course" (top 84) i1)
  (M:Std K "_law_goal" (top 88) i2)
  (N:Std K "_law_aim" (top 91) i3)
  (O:Std K "turn_of" (top 2) i4)
  (Q:Std K "step_of" (top 5) i5)
  (R:Std K "turn_by" (top 8) i6)
  (S:Std K "chain_of" (top 9) i7)
  (U:Std K "least_round" (top 10) i8)
  (Y:Std K "least_headings" (top 11) i9)
  (Z:Std K "vector_added" (top 4) k0)
  (a0:Std K "drift_of" (top 32) k1)
  (a1:Std K "right_of" (top 6) k2)
  (a2:Std K "bearings_round" (top 12) k3)
  (a3:Std K "dot_of" (top 3) k4)
  (a4:Std K "sides_of" (top 13) k5)
  (a5:Std K "farthest" (top 7) k6)
  (a6:Std K "limits_of" (top 60) k7)
  (a7:Std K "longest_from_begin" (top 61) k8)
  (a8:Std K "longest_to_end" (top 62) k9)
  (a9:Std K "watch_barred" (top 63) l0)
  (b0:Std K "common_divisor" (top 20) l1)
  (b1:Std K "added" (top 22) l2)
  (b2:Std K "taken" (top 23) l3)
  (b3:Std K "goes_first" (top 29) l4)
  (b4:Std K "steps_merged" (top 30) l5)
  (b5:Std K "steps_round" (top 28) l6)
  (b6:Std K "joined" (top 31) l7)
  (b7:Std K "lowest" (top 21) l8)
  (b8:Std K "wind_times" (top 64) l9)
  (b9:Std K "lies_beyond" (top 43) m0)
  (c0:Std K "barring_bearing" (top 44) m1)
  (c1:Std K "way_to" (top 45) m2)
  (c2:Std K "line_parts" (top 46) m3)
  (c3:Std K "triangle_parts" (top 47) m4)
  (c4:Std K "triangle_around" (top 48) m5)
  (c5:Std K "shares_of_parts" (top 49) m6)
  (c6:Std K "shares_to" (top 50) m7)
  (c7:Std K "heading_at" (top 54) m8)
  (c8:Std K "shares_in_watch" (top 55) m9)
  (c9:Std K "lowest_place" (top 34) n0)
  (e0:Std K "place_times" (top 36) n1)
  (e1:Std K "multiplied" (top 24) n2)
  (e2:Std K "short_course_to" (top 65) n3)
  (e3:Std K "soonest" (top 66) n4)
  (e4:Std K "_law_bad_answers" (top 93) n5)
  (e5:Std K "_law_size" (top 89) n6)
  (e6:Std K "_law_more" (top 92) n7)
  (e7:Std K "is_before" (top 26) n8)
  (e8:Std K "farthest_by" (top 52) n9)
  (e9:Std K "along" (top 37) o0)
  (g0:Std K "divided" (top 25) o1)
  (g1:Std K "barred_from" (top 68) o2)
  (g2:Std K "shares_sum" (top 41) o3)
  (g4:Std K "all_barred" (top 69) o4)
  (g5:Std K "at_stands" (top 72) o5)
  (g6:Std K "never_stands" (top 70) o6)
  (g7:Std K "is_share" (top 39) o7)
  (g8:Std K "are_shares" (top 40) o8)
  (g9:Std K "is_course" (top 53) o9)
  (h0:Std K "is_short_course" (top 58) p0)
  (h1:Std K "short_moment" (top 57) p1)
  (h2:Std K "place_added" (top 35) p2)
  (h3:Std K "shares_end" (top 42) p3)
  (h4:Std K "short_end" (top 59) p4)
  (h5:Std K "moment_stands" (top 71) p5)
  (h6:Std K "soonest_stands" (top 73) p6)
  (h7:Std K "law" (top 94) p7)
  (zb:∀b∈BL,W.nsIn K mainGlobals b=some none)
  (j:W.nsIn K mainGlobals "turn_among"=some none)
  (i:W.nsIn K mainGlobals "step_among"=some none)
  (C:W.nsIn K mainGlobals ""=some none)
  {d:Addr}(o:W.nsIn K mainGlobals "EVERY_WAY"=some (some (.ref d))) (m:z99 K z3r (.ref d)=true)
  : ∃fd:FuncData,(∀(s:Shared) (v:Value),BindsTo s fd ⟨[v],[]⟩ [("script",v)])/\∀p:Heap,K.In p->p.Ns mainGlobals mg->FnOk l.prog w K mg p (CXe l.prog w) 11 fa fd ["script"] (spL K):=by
 refine zjl X g h7 p8 (λ_ _ _ _ _ _ s v =>.of_eq rfl) λp kb nb fd F =>?_;generalize l.prog=P;obtain⟨G,rfl,rfl,rfl,rfl,rfl⟩:=Gx.of P w K mg p;have T:Txt G.K G.mg:=⟨λb hb=>Wf X g (zb b hb),⟨_,W.mg_of X g o,m⟩⟩
 have a := @ctG G h X g;have q0:=a z1V d0 λ_ F=>z6J T F;have q1:=a z1l d1 λ_ F=>z4M T F;have q3:=a z18 d2 λ_ F=>z4j T F q1;have q:=a z0J d3 λ_ F=>z9Y T F;have q5:=a z2S d4 λ_ F=>z7J T F q;have q6:=a z2w d5 λ_ F=>z6I T F q0 q q5 q3;have t:=a z0N d6 λ_ F=>z7K T F;have q8:=a z3i d7 λ_ F=>z8V T F q t;have q9:=a z3G d8 λ_ F=>zbE T F t;have qa:=a z3E d9 λ_ F=>zbB T F t;have qb:=a z3F H λ_ F=>zbC T F qa q9;have qc:=a z17 I λ_ F=>z5e T F t;have qd:=a z3j J λ_ F=>z8W T F q;have qe:=a z2h L λ_ F=>z7L T F q t qd;have qf:=a z3Y M λ_ F=>z9X T F q t qe q9 qb qc;have qg:=a z4t N λ_ F=>zbD T F q qe qb qc qf q8;have qh:=a z36 O λ_ F=>zbx T F;have r:=a z1S Q λ_ F=>zbz T F;have qj:=a z4r R λ_ F=>zby T F qh r;have tb:FTab G.P G.w G.K G.mg G.base (CXe G.P G.w) 2 zae:=FTab.mk (Wf X g C) λn hn f e=>by
  match n,hn with
  | 0,_=>exact qj.c.tab (by decide) f e
  | 1,_=>rw[show z6r 1="turn_among" from rfl,Wf X g j] at e;cases e
  | 2,_=>exact r.c.tab (by decide) f e
  | 3,_=>rw[show z6r 3="step_among" from rfl,Wf X g i] at e;cases e
 have qk:=a z40 S λ_ F=>za2 T F tb;have ql:=a z2v U λ_ F=>z6H T F qk;have E:=a z0y Y λ_ F=>z5d T F qj ql;have qn:=a z1x Z λ_ F=>z6a T F;have qo:=a z3a a0 λ_ F=>za1 T F qn E;have qp:=a z38 a1 λ_ F=>z9U T F;have qq:=a z1E a2 λ_ F=>z5g T F qp tb;have u:=a z2y a3 λ_ F=>zd8 T F;have qs:=a z37 a4 λ_ F=>z9T T F u r E qq;have qt:=a z39 a5 λ_ F=>za0 T F u;have qu:=a z3h a6 λ_ F=>z8U T F u qt qs;have qw:=a z0z a7 λ_ F=>z3P T F;have qy:=a z1D a8 λ_ F=>z5c T F;have qz:=a z27 a9 λ_ F=>z69 T F qw qy;have x:=a z0p b0 λ_ F=>z5f T F;have y:=a z3I b1 λ_ F=>zfr T F x;have qC:=a z7j b2 λ_ F=>zfp T F y;have qD:=a z2U b3 λ_ F=>z7N T F qh;have qE:=a z28 b4 λ_ F=>z6b T F qD;have qF:=a z2t b5 λ_ F=>z6D T F tb;have qG:=a z4u b6 λ_ F=>zd7 T F qn r E qF qE;have z:=a z2Q b7 λ_ F=>zd6 T F x;have qI:=a z2N b8 λ_ F=>z7E T F;have qJ:=a z2u b9 λ_ F=>z6G T F;have qK:=a z1n c0 λ_ F=>z4P T F qs qJ;have qL:=a z4q c1 λ_ F=>zd5 T F;have qM:=a z2R c2 λ_ F=>z7I T F u r qL;have qN:=a z16 c3 λ_ F=>z5a T F qh r qL;have qO:=a z1g c4 λ_ F=>z4I T F qN;have qP:=a z1i c5 λ_ F=>z4K T F z;have qQ:=a z3g c6 λ_ F=>z8S T F E qK qM qN qO qP;have qR:=a z2T c7 λ_ F=>z7M T F u qp;have qS:=a z1j c8 λ_ F=>z4L T F r y qR
 have qT:=a z2b c9 λ_ F=>z6e T F x;have qU:=a z1k e0 λ_ F=>z6E T F qT;have qV:=a z2P e1 λ_ F=>z7H T F z;have qW:=a z1h e2 λ_ F=>z4J T F qV qG qo qU qQ qS qI;have qX:=a z4s e3 λ_ F=>zbA T F z y qG qo qu qw qz qW;have qY:=a z1m e4 λ_ F=>z4N T F qa;have qZ:=a z3W e5 λ_ F=>z9V T F q0 q;have y0:=a z3X e6 λ_ F=>z9W T F q;have y1:=a z2F e7 λ_ F=>z8Y T F;have y2:=a z2x e8 λ_ F=>z6K T F u qt;have y3:=a z7k e9 λ_ F=>zfq T F z;have y4:=a z4v g0 λ_ F=>zbF T F z;have y5:=a z1W g1 λ_ F=>z6L T F qC y4 y1 y3 y2;have A:=a z11 g2 λ_ F=>z7F T F y;have y7:=a z2i g4 λ_ F=>z7P T F y5;have y8:=a z3l g5 λ_ F=>z8Z T F A y5 y7;have y9:=a z2a g6 λ_ F=>z6d T F y7;have ya:=a z3Z g7 λ_ F=>z9Z T F x;have yb:=a z1M g8 λ_ F=>z7O T F ya;have yc:=a z3k g9 λ_ F=>z8X T F yb A;have yd:=a z0U h0 λ_ F=>z4O T F y1 yb A yc;have ye:=a z29 h1 λ_ F=>z6c T F y A;have yf:=a z1T h2 λ_ F=>z6F T F x;have yg:=a z2O h3 λ_ F=>z7G T F yf qU yb;have yh:=a z3f h4 λ_ F=>z8R T F yf qU A yg yd;have yi:=a z1U h5 λ_ F=>z5E T F ye yd yh;have yj:=a z1C h6 λ_ F=>z5b T F y9 yi y8;exact zlY ziK (zlo T F qX yj q6 qZ qg y0 qY)
def walk {l:W.OpenLaw}{q:Program}{e:List Str}{XP:(Str->Option Value)->Heap->Prop}{g:World->Heap->Prop}{d:DefRec}{K:Params->W.Frag}(A:l.most=some 63)(i:d.params.defaults=[])
  (r:∀(w:World) (h:Heap),g w h->(K w.params).In h) (p:∀(w:World) (h:Heap),g w h->∀P t,(tsOf (K w.params)).lookup P=some t->h.get? P=some { cls :=.none,data :=.fields #[] })
  (F:∀(w:World) (mg:WmP) (j:Addr) (h:Heap),(K w.params).In h->h.Ns mainGlobals mg->mg d.name=some (.ref j)->
   ∃m:FuncData,(∀(s:Shared) (u:Value),BindsTo s m ⟨[u],[]⟩ [("script",u)])/\∀b:Heap,(K w.params).In b->b.Ns mainGlobals mg->FnOk l.prog w (K w.params) mg b (CXe l.prog w) 11 j m ["script"] (spL (K w.params))):
  W.WalkO q e XP g l.row.toRowW d [] (λf vs=>PySem.call f vs):=
 L2.zhf (n:=63) (k:=11) (x:="script") (CX:=λw=>(CXe l.prog w)) (sp:=λw=>spL (K w.params)) A (by decide) i ⟨rfl,by decide,by decide⟩ r p F (λ_ _ a C y o=>⟨a,C,rfl,o,y,λ_=>rfl⟩) λ_ _ _ _ _ z=>z
end My
open PySem PySem.W PyProof.Rows
local macro_rules | `(tactic| walk_at "ks") => `(tactic| (refine' Pu.Std.mk ?a ?l ?c ?k;(case a=>k_is);(case l=>k_is);(case c=>k_is);(case k=>k_is)))
set_option maxRecDepth 100000 in
set_option maxHeartbeats 0 in
theorem PySem.Challenge.cw_closehaul_k32_soonest_papers_taken_holds : PySem.Challenge.rw_closehaul_k32_soonest_papers_taken.Holds := by
 w_on;o_law;k_head;(case hw=>w_witness2)
 k_fill
 refine My.walk (l:=PySem.Challenge.rw_closehaul_k32_soonest_papers_taken) rfl rfl (λw h Y=>W.kIn_of Y) (λw h Y=>λP t e=>by rw[show L2.tsOf _=[] from by kernel_rfl] at e;cases e) ?F
 case F=>
  intro w mg g h f G b;refine' My.zmy f G b ?_ ?_ ?_ ?_ ?_ ?_ ?_ ?_ ?_ ?_ ?_ ?_ ?_ ?_ ?_ ?_ ?_ ?_ ?_ ?_ ?_ ?_ ?_ ?_ ?_ ?_ ?_ ?_ ?_ ?_ ?_ ?_ ?_ ?_ ?_ ?_ ?_ ?_ ?_ ?_ ?_ ?_ ?_ ?_ ?_ ?_ ?_ ?_ ?_ ?_ ?_ ?_ ?_ ?_ ?_ ?_ ?_ ?_ ?_ ?_ ?_ ?_ ?_ ?_ ?_ ?_ ?_ ?_ ?_ ?_ ?_ ?_ ?_ ?_ ?_ ?_ ?_ ?_ ?_ ?_ ?_ ?_ ?_ ?_ ?_ ?_
  all_goals first | walk_at "ks" | k_is | kernel_rfl | ((repeat refine List.forall_mem_cons.2 ⟨by k_is,?_⟩);intro _ h;cases h) | skip
