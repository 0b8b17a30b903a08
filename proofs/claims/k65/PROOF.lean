import PyProof.Rows.All
import Wide.All
import OpenK.AllK
import Wide.FinOn
import Lean
import PyProof.EqAt
import PyProof.EqKinds
import PyProof.TupleCall
import PyProof.Rows.SortRuns
import KE.KRevIter
import PyProof.SetRoads
import PyProof.ListNew
import PyProof.Rows.ListMulPlace
import PyProof.ZipIter
import PyProof.Rows.ZipGen
import PyProof.Rows.SumGenD
import PySem.Challenge.RW_closehaul_k65_whole_watches_halved
set_option tactic.hygienic false
set_option compiler.extract_closed false
set_option linter.defProp false
open Lean in
local macro_rules|`(#where)=>do
 let p:=`PySem.Challenge
 let l:=["closehaul_k65_whole_watches_halved"].flatMap λx=>[p.str ("pw_"++x),p.str ("rw_"++x)]++("env_41 heap_39 heap_46 heap_499 sts_134 sts_149 sts_197 sts_281 sts_357 sts_438 sts_49 tree_133 tree_148 tree_196 tree_280 tree_356 tree_437 tree_47 tree_498 view_39".splitOn " "++(List.range 456).map λi=>s!"o_{i+43}").map (p.str ("cw_"++x++"_holds")).str
 return mkNullNode (←l.toArray.mapM λn=>`(command|theorem $(mkIdent (.str `PySem.W.Fast s!"tw{n.hash}")):ident:True:=trivial))
#where
noncomputable section
section
set_option hygiene false
local macro_rules|`(tactic|kt_k)=>`(tactic|dsimp only)
local macro_rules|`(tactic|k_in)=>`(tactic|refine z0w (Safe.of_noL rfl rfl _) ?_)
local macro_rules|`(tactic|z_go)=>`(tactic|refine⟨by rw[wd];exact szl' (by lia),?_⟩)
local macro_rules|`(tactic|x_go)=>`(tactic|refine z0w (Safe.of_noL (z14 _) (z15 _) _) ?_)
local macro_rules|`(tactic|w_up)=>`(tactic|show Sm.run _ _ _ _ _)
local macro_rules|`(tactic|k_go)=>`(tactic|refine call_meets F.slot_list_pop ⟨_,e1,rfl⟩ F.entry_list_pop (F.args_list_pop_1 _) (MeetsSeq.list_pop_last a vs.toArray m u (by simpa using hu) (by have:=z4O;simp only[wH];lia)) ⟨e1,?_⟩)
local macro_rules|`(tactic|kd_p)=>`(tactic|exact⟨u,rfl,zeV (s:={ s with heap:=h' }) e c d (by decide) (h u h' s.toks st' (λb o z e=>(sb.2 b z).trans e) (ru.mono λb o q=>⟨(sb.2 b λz=>nV o (z ▸ q)).trans (hV b o q),.inl q⟩))⟩)
local macro_rules|`(tactic|k_ne)=>`(tactic|simpa using this)
local macro_rules|`(tactic|kj_on)=>`(tactic|refine zaM (λρ'=>∃ws:List (List P × P),(∀x∈ws,Wt4 x 136)/\ws.length<=5/\tl ws<=60/\ρ'=[.s (.lst (ns.map .int)),.s (.tup (ws.map wtD)),.n,.n,.n,.n,.n,.n,.n,.n,.n]) ?_ ?_)
local macro_rules|`(tactic|k_all)=>`(tactic|refine z1x (λx hx=>by cases hx) ?_)
local macro_rules|`(tactic|l_bnd)=>`(tactic|obtain⟨io,St,W,st,it⟩:=S.wk (prog:=X.prog) (w:=X.w) (A:=X.A.in1) (by simp[I.ok.hd]))
local macro_rules|`(tactic|kd_p1)=>`(tactic|refine wc (uo sz rfl (x :=.bool false) rfl (show wpAny _ _ (PySem.field (.ref z) 3 >>= λ_=>_) _ _ _ from wc (uo sz rfl (x :=.ref TI) rfl (wc (vC sti rfl ?_))))))
local macro_rules|`(tactic|o_rec)=>`(tactic|constructor)
local macro_rules|`(tactic|kl_no)=>`(tactic|have apart:∀{b:Addr},b ∉ S::wr->S≠b:=λz e=>z (by subst e;exact wq))
local macro_rules|`(tactic|f_int)=>`(tactic|exact q)
local macro_rules|`(tactic|k_not)=>`(tactic|refine⟨_,_,.inr ⟨f,by simp[hf],rfl,f0,λk hk k0 =>?_⟩,rfl⟩)
local macro_rules|`(tactic|kln_w)=>`(tactic|obtain⟨a,q1,h1,h2,h3,vs,m,e1,hz,rs⟩:=S.ow i _ hl)
local macro_rules|`(tactic|kt_le)=>`(tactic|refine z0Q (λz =>?_) (λz =>?_))
local macro_rules|`(tactic|tm_up)=>`(tactic|refine⟨.s (.int (k:Int)),.s (vec (Geo.cy h k)),.s (vec (stp (Geo.cy h (k+h.length - 1)) (Geo.cy h k))),λ_ _ _=>trivial,?_⟩)
local macro_rules|`(tactic|tb_lt)=>`(tactic|refine z4v (l:=[]) (z0q rfl ?_))
local macro_rules|`(tactic|l_fit)=>`(tactic|refine⟨_,_,.inr ⟨m,by simp,rfl,g0,λk hk k0 =>?_⟩,rfl⟩)
local macro_rules|`(tactic|ksr_p)=>`(tactic|refine z0N (by decide) (by decide) (by decide) λr r0 r1 =>?_)
local macro_rules|`(tactic|z_run)=>`(tactic|refine wz (z6c hL hk (hmb _ mb) hma (by lia) (by lia) (λp q p1 p2 p3=>sa p q (by lia) p2 (by lia)) λk hk1 g1 g2 =>?_))
local macro_rules|`(tactic|w_why)=>`(tactic|refine wz (z6d hL hk (hma _ ma) hmb (by lia) (by lia) (λp q p1 p2 p3=>sb p q (by lia) p2 (by lia)) λl hl1 f1 f2 =>?_))
local macro_rules|`(tactic|kw_lk)=>`(tactic|refine wz (wpS_lift (jy ⟨rfl,?_⟩)))
local macro_rules|`(tactic|k_asm)=>`(tactic|intro x hx y hy)
local macro_rules|`(tactic|kpc_g)=>`(tactic|have g:Gx s ⟨h',s.gens,s.drawn,tk',s.os⟩ :=.heap λb o e=>mv.heap b o (by simpa using wX (wO e)) (wi _ e))
local macro_rules|`(tactic|k_dec)=>`(tactic|refine wc (m:=tryCatch (pyNext (.ref r)) _) (jg (W.item (at_+1) s _ _ (by lia) st λv s1 pv st1 mv =>?_)))
local macro_rules|`(tactic|o_new)=>`(tactic|refine z0Q (λg0 =>?_) (λg0 =>?_))
local macro_rules|`(tactic|sr_in)=>`(tactic|refine fin best _ (by rw[hn];exact hb) ((mv.mono more).then_heap (tk:=s1.toks) (ww _) λb o z e =>?_))
local macro_rules|`(tactic|l_out)=>`(tactic|obtain⟨a,vs,rfl,S⟩:=z5V rd rfl)
local macro_rules|`(tactic|f_tup)=>`(tactic|show wpAny _ _ (if (Value.ref t == Value.none)=true then _ else (PySem.field (.ref j) 1 >>= _)) _ _ s)
local macro_rules|`(tactic|kcj_m)=>`(tactic|refine⟨by rw[wd];exact szl' (by lia),Safe.of_noL rfl rfl _,?_⟩)
local macro_rules|`(tactic|k_end)=>`(tactic|subst this)
local macro_rules|`(tactic|l_idx)=>`(tactic|simp only[wC,uM,vc,jI,uB])
local macro_rules|`(tactic|ks_is)=>`(tactic|rw[wg.mp z])
local macro_rules|`(tactic|k_one)=>`(tactic|refine⟨rfl,?_⟩)
local macro_rules|`(tactic|k_mem)=>`(tactic|refine wz (wpS_get ?_))
local macro_rules|`(tactic|w_how)=>`(tactic|by_cases hc:(j == NameKind.free && env.scope.kind == .function && env.kindOf n == some .cell)=true)
local macro_rules|`(tactic|w_fin)=>`(tactic|refine wc (m:=tryCatch (pyNext (.ref r)) _) (jg (W.done s _ _ (by rw[hn];exact st) λs1 mv =>?_)))
local macro_rules|`(tactic|w_tab)=>`(tactic|refine z0Q (λ_ =>?_) (λ_ =>?_))
local macro_rules|`(tactic|kpf_c)=>`(tactic|obtain⟨h',g',d',tk',os'⟩:=s')
local macro_rules|`(tactic|kcf_m)=>`(tactic|exact vG (by simp;lia) (by simp;lia))
local macro_rules|`(tactic|k_few)=>`(tactic|obtain⟨t,rfl⟩:=z0x.1 r1)
local macro_rules|`(tactic|k_get)=>`(tactic|refine z4r rfl ?_)
local macro_rules|`(tactic|mg_lt)=>`(tactic|refine wc (m:=tryCatch (pyNext (.ref r)) _) (jg (W.item 0 s _ _ hn st λv s1 pv st1 mv =>?_)))
local macro_rules|`(tactic|w_end)=>`(tactic|obtain⟨m,t,rfl,h1,h2,h3,h4⟩:=x.ex)
local macro_rules|`(tactic|gn_on)=>`(tactic|refine z1e (z7R (by lia) (by lia)) ?_)
local macro_rules|`(tactic|k_cls)=>`(tactic|refine wc (jy (wc (uo sz rfl (x:=Value.ref TO) rfl (wc (u9 sz (by simp) λg1 z1 k1 =>?_))))))
local macro_rules|`(tactic|f_are)=>`(tactic|unfold z0l z0l z0l)
local macro_rules|`(tactic|k_put)=>`(tactic|have tn:∀i,0<cr (cy h i) (cy h (i+1)) (cy h (i+2)):=λi=>z4e (ed i) (ed (i+1)) (ne2 i))
local macro_rules|`(tactic|k_go0)=>`(tactic|exact hm.heap b o (by simp only[wj,wg,wF,vS,not_or];exact⟨hb1,hb2⟩) (wi _ (wi _ e)))
local macro_rules|`(tactic|k_sub)=>`(tactic|refine⟨⟨o,h1.1,h2.plain.1⟩,λb eb=>by cases eb;exact⟨o,h1.1,h2.plain.2⟩,?_⟩)
local macro_rules|`(tactic|o_src)=>`(tactic|refine z0N (by decide) (by decide) (by lia) λr r0 r1 =>?_)
local macro_rules|`(tactic|gp_on)=>`(tactic|have hS1:=mv.heap S _ outW hS)
local macro_rules|`(tactic|f_len)=>`(tactic|rw[wW _ _ λy:S=b=>out (by rw[y];exact z)])
local macro_rules|`(tactic|x_run)=>`(tactic|refine z4q rfl ?_)
local macro_rules|`(tactic|k_upd)=>`(tactic|exact wD ⟨rfl,_,_,rfl,by omega,by omega,by omega,q'⟩)
local macro_rules|`(tactic|kst_p)=>`(tactic|show wpAny _ _ (setNext S (slot:Int).toNat (i:Int).toNat (ep:Int).toNat >>= _) _ _ s)
local macro_rules|`(tactic|kd_in)=>`(tactic|obtain⟨v,rfl,rd⟩:=rs.one)
local macro_rules|`(tactic|cb_eq)=>`(tactic|exact m _ h)
local macro_rules|`(tactic|by_in)=>`(tactic|refine wc (jg (vO (wc (cmp (at_+1) (argBest bt at_) v best s1 _ _ ok1 pv hb ?_)))))
local macro_rules|`(tactic|lge_go)=>`(tactic|refine z0Q (λh =>?_) (λh =>?_))
local macro_rules|`(tactic|w_left)=>`(tactic|refine wm ⟨Code.quiet_builtin _ (by decide +kernel),vR F.entry_type_call ?_⟩)
local macro_rules|`(tactic|k_accD)=>`(tactic|have outW:S ∉ wr:=λz=>out (W.sub S z))
local macro_rules|`(tactic|kmk_kw)=>`(tactic|show wpAny _ _ (Builtin.SmallTypes.ownedTupleIsFree (.ref z) >>= λ_=>_) _ _ _)
local macro_rules|`(tactic|k_data)=>`(tactic|have le:=congrArg List.length e)
local macro_rules|`(tactic|fen_go)=>`(tactic|simp only[sliceBounds,HT.sIx,Option.getD_none,show (1:Int) > 0 by decide,jc])
local macro_rules|`(tactic|l_fitC)=>`(tactic|refine z3W (z4v (l:=[]) (z0q rfl ?_)))
local macro_rules|`(tactic|k_fold)=>`(tactic|intro at_ s best c hn st ok hb hS fin)
local macro_rules|`(tactic|ac_nf0)=>`(tactic|refine wz (z0g eb ?_))
local macro_rules|`(tactic|tb_any)=>`(tactic|refine wz (z0g ea ?_))
local macro_rules|`(tactic|k_memK)=>`(tactic|refine⟨by rw[wd,vK];exact szl (by lia),?_⟩)
local macro_rules|`(tactic|k_keys)=>`(tactic|obtain⟨b1,b2⟩:=b)
local macro_rules|`(tactic|kpc_if)=>`(tactic|show wpS M A E s (z1J _ >>= _) _ _)
local macro_rules|`(tactic|kfm_eq)=>`(tactic|obtain⟨u,rfl⟩:=z0x.1 r2)
local macro_rules|`(tactic|x_form)=>`(tactic|refine z08 (by simpa using c3) ?_)
local macro_rules|`(tactic|k_same)=>`(tactic|refine z06 (by simpa using c3) ?_)
local macro_rules|`(tactic|kd_mem)=>`(tactic|refine zbd (by simp;exact szl (by lia)) ?_)
local macro_rules|`(tactic|tb_rel)=>`(tactic|simp only[wL,ug])
local macro_rules|`(tactic|kd_idx)=>`(tactic|obtain⟨l,hl,r⟩:=z3o r)
local macro_rules|`(tactic|kmb_kw)=>`(tactic|refine z8U (by lia) (by lia) ?_)
local macro_rules|`(tactic|kgr_on)=>`(tactic|obtain⟨b,hb',rfl⟩:=we.mp hs)
local macro_rules|`(tactic|o_asPy)=>`(tactic|obtain⟨a,o,vs,rfl,g1,q1,rs⟩:=z0O.1 rd)
local macro_rules|`(tactic|k_accS)=>`(tactic|obtain⟨a1,a2⟩:=a)
local macro_rules|`(tactic|tlg_ne)=>`(tactic|obtain⟨q,hq,rfl⟩:=we.mp hp)
local macro_rules|`(tactic|k_qdec)=>`(tactic|obtain⟨j,hj,hj2,e⟩:=z9Z hx)
set_option hygiene true
def wc:=@PySem.wpAny_bind
def wd:=@List.length_map
def we:=@List.mem_map
def wf:=@List.getElem?_eq_getElem
def wg:=@List.mem_singleton
def wi:=@PySem.Heap.get?_push_of_some
def wj:=@List.mem_cons
def wm:=@PySem.wpAny_pure
def wn:=@List.mem_cons_of_mem
def wo:=@List.getElem?_eq_some_iff
def wp:=@List.mem_append
def wq:=@List.mem_cons_self
def wt:=@PySem.Heap.get?_push_size
def wu:=@List.mem_of_getElem?
def wv:=@List.map_append
def ww:=@Nat.le_refl
def wz:=@PyProof.Rows.wpS_bind
def wA:=@Int.mul_le_mul_of_nonneg_right
def wB:=@List.length_append
def wC:=@List.map_cons
def wD:=@PyProof.Rows.wpS_pure
def wE:=@Int.le_of_lt
def wF:=@List.not_mem_nil
def wG:=@List.getD_eq_getElem?_getD
def wH:=@List.size_toArray
def wI:=@List.length_cons
def wJ:=@Int.mul_nonneg
def wK:=@Int.mul_eq_zero
def wL:=@Bool.false_eq_true
def wM:=@Int.mul_le_mul_of_nonneg_left
def wN:=@List.getElem?_map
def wO:=@PySem.Heap.lt_size
def wP:=@Nat.mod_eq_of_lt
def wQ:=@Option.some.inj
def wR:=@List.map_map
def wS:=@List.append_assoc
def wT:=@List.getElem?_append_left
def wU:=@List.mem_of_mem_take
def wV:=@List.getElem?_append_right
def wW:=@PySem.Heap.get?_update_other
def wX:=@Nat.ne_of_lt
def wY:=@Int.eq_of_mul_eq_mul_right
def wZ:=@Classical.byContradiction
def w3:=@Int.mul_pos
def w4:=@List.length_pos_iff
def w5:=@List.mem_iff_getElem
def w6:=@Array.getElem?_toList
def w7:=@Int.mul_nonpos_of_nonneg_of_nonpos
def w8:=@List.length_take
def w9:=@List.pairwise_cons
def vc:=@List.sum_cons
def vd:=@Nat.le_trans
def ve:=@Int.mul_comm
def vf:=@List.pairwise_map
def vg:=@Array.length_toList
def vh:=@List.pairwise_iff_getElem
def vi:=@List.append_nil
def vj:=@Nat.zero_le
def vk:=@Option.map_eq_some_iff
def vp:=@Nat.lt_or_ge
def vq:=@PySem.Heap.size_push
def vr:=@PySem.Heap.get?_update_self
def vz:=@decide_eq_false
def vA:=@Array.toList_append
def vB:=@List.pairwise_append
def vC:=@PySem.wpAny_seqItems
def vD:=@PySem.Around.under_plainId
def vE:=@Int.mul_nonpos_of_nonpos_of_nonneg
def vF:=@Bool.and_eq_true
def vG:=@Prod.ext
def vH:=@List.take_append_drop
def vI:=@List.mem_range
def vJ:=@List.drop_eq_getElem_cons
def vK:=@List.length_range
def vL:=@PySem.wpAny_setState_of
def vN:=@Int.mul_le_mul_of_nonpos_right
def vO:=@PySem.wpAny_holding
def vP:=@List.nodup_cons
def vQ:=@List.lookup_cons
def vR:=@PySem.codeAny_builtin
def vS:=@or_false
def vT:=@Int.mul_nonneg_of_nonpos_of_nonpos
def vU:=@decide_eq_true
def vV:=@PySem.wpAny_mono
def vW:=@PySem.Calls.callWith_builtin
def vX:=@PySem.Calls.spliced_cons
def vY:=@PySem.wpAny_Call_Name_kw
def vZ:=@Int.natAbs_dvd_natAbs
def v4:=@Int.lt_or_le
def v5:=@List.Perm.append_left
def v7:=@List.map_congr_left
def v8:=@PySem.F.called_set
def v9:=@PyProof.Rows.wpS_forRange
def ua:=@PySem.wpAny_callSpecial?_slot
def ub:=@PySem.wpAny_newObj_type
def uc:=@PySem.plainId_quiet
def ud:=@List.take_of_length_le
def ue:=@Int.natAbs_mul
def uf:=@Int.le_of_mul_le_mul_left
def ug:=@if_false
def uh:=@PySem.wpAny_call_entry
def ui:=@List.dropLast_eq_take
def uj:=@Nat.add_mod_right
def uk:=@Nat.lt_succ_of_lt
def ul:=@getElem?_pos
def uo:=@PySem.wpAny_field
def uq:=@PySem.Obj.data_mapFields
def ur:=@List.mem_append_left
def uv:=@List.getElem_mem
def uw:=@Int.le_refl
def ux:=@of_decide_eq_true
def uy:=@List.mem_map_of_mem
def uz:=@PySem.Calls.spliced_nil
def uA:=@PySem.Heap.SameBut.update
def uB:=@Int.add_zero
def uC:=@List.length_singleton
def uD:=@PyProof.Rows.callWith_builtin1
def uE:=@PySem.wpAny_updateSeq
def uF:=@Int.mul_ediv_cancel_left
def uG:=@Int.lt_or_eq_of_le
def uH:=@List.mem_of_mem_drop
def uI:=@List.getLast?_cons_cons
def uJ:=@List.getElem?_cons_succ
def uK:=@PySem.F.plainAttrs_list
def uL:=@Nat.lt_irrefl
def uM:=@List.map_nil
def uN:=@Nat.lt_trichotomy
def uO:=@List.length_nil
def uP:=@List.getElem_of_mem
def uQ:=@List.length_zip
def uR:=@PyProof.Rows.callWith_type1
def uS:=@PySem.wpAny_letGo
def uT:=@Int.le_of_mul_le_mul_right
def uU:=@Array.perm_iff_toList_perm
def uV:=@PySem.F.slot_tuple_iterator_next
def uW:=@List.cons_append
def uX:=@Nat.mod_lt
def uY:=@List.length_drop
def uZ:=@PySem.F.plain_min_loop
def u3:=@PySem.F.plain_max_loop
def u4:=@Int.mul_assoc
def u5:=@of_decide_eq_false
def u6:=@Int.emod_lt_of_pos
def u7:=@Nat.lt_of_lt_of_le
def u8:=@PySem.wpAny_pyIter_tuple
def u9:=@PySem.wpAny_setField_rec
def jc:=@if_true
def jd:=@Nat.eq_of_mul_eq_mul_left
def jf:=@List.take_succ
def jg:=@PySem.wpAny_tryCatch
def jh:=@List.pairwise_of_forall_mem_list
def ji:=@Int.mul_ediv_cancel'
def jj:=@PySem.Calls.evalArgs_plain
def jk:=@List.reverse_cons
def jl:=@List.takeWhile_append_dropWhile
def jm:=@PySem.wpAny_truthy_bool
def jn:=@PyProof.Rows.slot_tuple_getitem
def jo:=@Int.zero_mul
def jp:=@Nat.dvd_trans
def jq:=@List.filterMap_cons
def jr:=@List.length_eq_zero_iff
def jt:=@List.map_eq_nil_iff
def ju:=@PyProof.Rows.F.plain_set_update_loop
def jv:=@PyProof.Rows.wpS_mono
def jw:=@Int.gcd_dvd_left
def jx:=@Nat.lt_succ_self
def jy:=@PySem.wpAny_rule
def jz:=@PyProof.Rows.wpS_modify
def jA:=@List.drop_eq_nil_of_le
def jB:=@List.append_eq_nil_iff
def jC:=@List.Perm.append_right
def jD:=@Bool.false_ne_true
def jE:=@Array.size_extract
def jF:=@Int.emod_nonneg
def jG:=@List.sum_append
def jH:=@Int.mul_lt_mul_of_pos_right
def jI:=@List.sum_nil
def jJ:=@Nat.not_lt_zero
def jK:=@List.perm_append_comm
def jL:=@PySem.builtinLookup_eq_fast
def jM:=@Int.gcd_dvd_right
def jN:=@List.ext_getElem?
def jO:=@Bool.not_true
def jP:=@Nat.pow_le_pow_right
def jQ:=@Array.toList_reverse
def jR:=@List.append_eq_append_iff
def jS:=@PySem.isSubtype_type
def jT:=@List.perm_middle
def jU:=@List.getElem_zip
def jV:=@PySem.wpAny_forIn_list
def jW:=@PySem.wpAny_askSetting
def jX:=@Ne.symm
def jY:=@List.getElem?_range
def jZ:=@PySem.mem_of_lookup
def j0:=@Nat.gcd_comm
def j6:=@Nat.zero_add
def j7:=@Int.le_trans
def j8:=@List.of_mem_zip
def j9:=@Int.natAbs_natCast
def Wa:=@Int.dvd_trans
def Wc:=@Nat.min_eq_left
def We:=@List.mem_filterMap
def Wf:=@PySem.W.mg_none_of
def Wg:=@Nat.dvd_gcd
def Wh:=@List.Perm.refl
def Wi:=@PySem.wpAny_setField
def Wj:=@PySem.codeAny_mono
def Wk:=@Nat.le_of_lt
def Wl:=@PySem.wpAny_typeOf
def Wm:=@Nat.ne_of_gt
set_option Elab.async false
set_option linter.all false
set_option maxRecDepth 100000
set_option maxHeartbeats 4000000
namespace L2
open PySem PySem.Spec PyProof.Rows
abbrev Key:=Sum Int Str
def z8n:Key->Value->Bool
 | .inl k,v=>Value.isInt k v
 | .inr x,v=>Value.isStrOf x v
def keyH (w:World):Key->Int
 | .inl k=>hashInt k
 | .inr x=>hashStr w x
def z0L:∀{k:Key}{v:Value},z8n k v=true->(∃i t,k=Sum.inl i/\v=Value.int i t)\/(∃x t,k=Sum.inr x/\v=Value.str x t)
 | .inl i,v,h=>by
  obtain⟨t,e⟩:=Value.isInt_shape (k:=i) (v:=v) h;exact .inl ⟨i,t,rfl,e⟩
 | .inr x,v,h=>by
  obtain⟨t,e⟩:=Value.isStrOf_shape (x:=x) (v:=v) h;exact .inr ⟨x,t,rfl,e⟩
def zbp (i:Int)(t:Tok):z8n (.inl i) (.int i t)=true:=by simp[z8n,Value.isInt]
def zbo (x:Str)(t:Tok):z8n (.inr x) (.str x t)=true:=by simp[z8n,Value.isStrOf]
def zh1 (a b:Int):decide ((Sum.inl a:Key)=Sum.inl b)=(a == b):=by
 by_cases e:a=b
 .subst e;simp
 .have h:¬ (Sum.inl a:Key)=Sum.inl b:=λq=>e (Sum.inl.inj q);rw[vz h];exact(beq_eq_false_iff_ne.mpr e).symm
def zgY (a b:Str):decide ((Sum.inr a:Key)=Sum.inr b)=decide (a=b):=by
 by_cases e:a=b
 .subst e;simp
 .have h:¬ (Sum.inr a:Key)=Sum.inr b:=λq=>e (Sum.inr.inj q);rw[vz h,vz e]
def zh0 (a:Int)(b:Str):decide ((Sum.inl a:Key)=Sum.inr b)=false:=vz (λq=>nomatch q)
def zgZ (a:Str)(b:Int):decide ((Sum.inr a:Key)=Sum.inl b)=false:=vz (λq=>nomatch q)
def z2e (prog:Program)(w:World):PySem.KeyKind prog w Key where
 is:=z8n
 hash:=keyH w
 inj:=λv a b l g=>by
  rcases z0L l with ⟨i,t,rfl,rfl⟩ | ⟨x,t,rfl,rfl⟩
  .rcases z0L g with ⟨j,u,rfl,e⟩ | ⟨y,u,rfl,e⟩
   .injection e with d _;rw[d]
   .exact nomatch e
  .rcases z0L g with ⟨j,u,rfl,e⟩ | ⟨y,u,rfl,e⟩
   .exact nomatch e
   .injection e with d _;rw[d]
 byValue:=λk v h=>by
  rcases z0L h with ⟨i,t,rfl,rfl⟩ | ⟨x,t,rfl,rfl⟩ <;> rfl
 pyHash:=λf h=>by
  rcases z0L f with ⟨i,t,rfl,rfl⟩ | ⟨x,t,rfl,rfl⟩
  .exact wpAny_pyHash_int h
  .exact wpAny_pyHash_str h
 eqBool:=λm f h=>by
  rcases z0L m with ⟨i,t,rfl,rfl⟩ | ⟨x,t,rfl,rfl⟩
  .rcases z0L f with ⟨j,u,rfl,rfl⟩ | ⟨y,u,rfl,rfl⟩
   .rw[zh1] at h;exact wpAny_eqBool_int h
   .rw[zh0] at h;exact SeqAt.EqAt.int_str i t y u _ _ _ _ h
  .rcases z0L f with ⟨j,u,rfl,rfl⟩ | ⟨y,u,rfl,rfl⟩
   .rw[zgZ] at h;exact SeqAt.EqAt.str_int x t j u _ _ _ _ h
   .rw[zgY] at h;exact wpAny_eqBool_str h
 «strs»:=λk x t v h=>by
  rcases z0L h with ⟨i,u,rfl,e⟩ | ⟨y,u,rfl,e⟩
  .exact nomatch e
  .injection e with d _
   subst d
   cases v <;> rfl
def z9Y (prog:Program)(w:World)(k:Key)(v:Value):(z2e prog w).is k v=z8n k v:=rfl
def z8j (prog:Program)(w:World)(i:Int)(t:Tok):(z2e prog w).is (.inl i) (.int i t)=true:=zbp i t
def z8i (prog:Program)(w:World)(x:Str)(t:Tok):(z2e prog w).is (.inr x) (.str x t)=true:=zbo x t
def zeV {M:Model}{A:Around}{E:Value->Shared->Prop}{s:Shared}{d:Expr}{b:Addr}{u:Value}{o:Obj}{n:String}{vs:Array Value}{Q:Unit->Shared->Prop}(i:s.heap.get? b=some o)(e:o.cls = .type n)(f:o.data = .fields vs)
  (g:["enumerate","zip","dict_itemiterator","dict_reverseitemiterator","odict_iterator","itertools.zip_longest","itertools.pairwise"].contains n=false) (a:Q () s):wpAny M A (letOwnedTupleGo d (.ref b) u) Q E s:=by
 unfold letOwnedTupleGo
 cases d <;> first
  | exact wm a
  | (cases u <;> first
    | exact wm a
    | (refine wc (wpAny_load i ?_)
       rw[e,f];show wpAny M A (if (["enumerate","zip","dict_itemiterator","dict_reverseitemiterator","odict_iterator","itertools.zip_longest","itertools.pairwise"].contains n && vs[0]? == some (rawInt _))=true then _ else _) Q E s;rw[if_neg (by intro h;rw[g,Bool.false_and] at h;cases h)];exact wm a))
section
def CPow (i j:Int):Prop:=0<=j/\j<=1000000/\i.natAbs<2 ^ 64
end
def z0b (K:W.Frag)(b:FuncData)(ps:List Str)(ds:List Value):Prop:=
 ∀(s:Shared) (a:List Value),K.In s.heap->(a++ds).length=ps.length->BindsTo s b ⟨a,[]⟩ (ps.zip (a++ds))
def z0b.all {K:W.Frag}{a:FuncData}{ps:List Str}(h:∀us:List Value,us.length=ps.length->bindArgs a ⟨us,[]⟩=pure (ps.zip us)):z0b K a ps []:=λs us _ b=>by
 rw[vi] at b ⊢;exact .of_eq (h us b)
structure z8D (N P:List Str)(sc:Scope):Prop where
 kind:sc.kind = .function
 co:sc.isCoroutine=false
 gen:sc.isGenerator=false
 nd:N.Nodup
 pre:N.take P.length=P
 par:∀x∈P,sc.names.lookup x=some .local\/sc.names.lookup x=some .cell
 nofree:∀y∈sc.names,y.2 ≠ .free
theorem z7N {a:Str->Option NameKind}{x:Str}:∀{binds:List (Str × Value)}{m:Str->Option Value},(∀v,(x,v) ∉ binds)->bindL a binds m x=m x
 | [],_,_=>rfl
 | (n,v)::r,m,h=>by
  unfold bindL;rw[z7N λw b=>h w (wn _ b)]
  split
  .have:x≠n:=by rintro rfl;exact h v wq
   simp[this]
  .rfl
theorem z7P {a:Str->Option NameKind}{x:Str}:∀{binds:List (Str × Value)}{m:Str->Option Value},(∀v,(x,v) ∉ binds)->bindC a binds m x=m x
 | [],_,_=>rfl
 | (n,v)::r,m,h=>by
  unfold bindC;rw[z7P λw b=>h w (wn _ b)]
  split
  .rfl
  .have:x≠n:=by rintro rfl;exact h v wq
   simp[this]
theorem z7O {a:Str->Option NameKind}{x:Str}{v:Value}:∀{P:List Str}{vs:List Value}{i:Nat}{m:Str->Option Value},P.Nodup->P[i]? = some x->vs[i]? = some v->a x=some .local->
  bindL a (P.zip vs) m x=some v
 | [],_,_,_,_,h,_,_=>by simp at h
 | _::_,[],_,_,_,_,h,_=>by simp at h
 | p::P,w::vs,0,m,f,b,d,e=>by
  simp at b d;subst b;subst d;show bindL a ((p,w)::P.zip vs) m p=_;unfold bindL;rw[z7N λv g=>(vP.mp f).1 (j8 g).1,if_pos e];simp
 | p::P,w::vs,i+1,m,f,b,d,e=>by
  show bindL a ((p,w)::P.zip vs) m x=_;unfold bindL;exact z7O (i:=i) (vP.mp f).2 (by simpa using b) (by simpa using d) e
theorem z7Q {a:Str->Option NameKind}{x:Str}{v:Value}:∀{P:List Str}{vs:List Value}{i:Nat}{m:Str->Option Value},P.Nodup->P[i]? = some x->vs[i]? = some v->a x≠some .local->
  bindC a (P.zip vs) m x=some v
 | [],_,_,_,_,h,_,_=>by simp at h
 | _::_,[],_,_,_,_,h,_=>by simp at h
 | p::P,w::vs,0,m,f,b,d,e=>by
  simp at b d;subst b;subst d;show bindC a ((p,w)::P.zip vs) m p=_;unfold bindC;rw[z7P λv g=>(vP.mp f).1 (j8 g).1,if_neg e];simp
 | p::P,w::vs,i+1,m,f,b,d,e=>by
  show bindC a ((p,w)::P.zip vs) m x=_;unfold bindC;exact z7Q (i:=i) (vP.mp f).2 (by simpa using b) (by simpa using d) e
def z9t {sc:Scope}{n:Nat}{x:Str}(h:sc.names.lookup x=some .cell):∃c,(cellsFrom n sc.names []).lookup x=some c:=by
 have q:=W.cellsFrom_some sc.names n [] (.inl h);exact Option.isSome_iff_exists.mp q
end L2
namespace HT
open PySem PyProof.Rows
def z0B:List Int->List Int->Bool
 | [],[]=>false
 | [],_::_=>true
 | _::_,[]=>false
 | x::a,y::b=>if x=y then z0B a b else decide (x<y)
def z0G (x y:Int)(xs ys:List Int):z0B (x::xs) (y::ys)=if x=y then z0B xs ys else decide (x<y):=rfl
def z6F:z0B [] []=false:=rfl
def zcZ (A:Around)(s:Shared)(a:Int)(t:Tok)(c:Int)(u:Tok):∃e,SeqAt.EqAt A s (.int a t) (.int c u) e/\(e=true↔a=c):=
 ⟨(a == c),SeqAt.EqAt.int_int a t c u,by simp⟩
def zck (A:Around)(s:Shared)(a:Int)(t:Tok)(c:Int)(u:Tok)(prog:Program)(w:World)(E:Value->Shared->Prop)(Q:Value->Shared->Prop)(h:Q (.bool (decide (a<c))) s):
  wpAny (model prog w) A (richCompare .Lt (.int a t) (.int c u)) Q E s:=
 (PyProof.Rows.lt_int h:wpAny (model prog w) A (compareOp .Lt (.int a t) (.int c u)) Q E s)
section
variable {prog:Program}{w:World}{A:Around}{E:Value->Shared->Prop}{s:Shared}
def sIx (n d:Nat):Option Int->Nat
 | none=>d
 | some v=>if v<0 then (v+(n:Int)).toNat else min v.toNat n
def zfH (n d:Nat)(b:d<=n)(o:Option Int):sIx n d o<=n:=by
 cases o with
 | none=>exact b
 | some v=>
  show (if v<0 then (v+(n:Int)).toNat else min v.toNat n)<=n
  by_cases a:v<0
  .rw[if_pos a];lia
  .rw[if_neg a];exact Nat.min_le_right _ _
def zbQ (v:Int)(n d:Nat):(if v<0 then max (v+(n:Int)) 0 else min v (n:Int))=((sIx n d (some v):Nat):Int):=by
 show (if v<0 then max (v+(n:Int)) 0 else min v (n:Int))=(((if v<0 then (v+(n:Int)).toNat else min v.toNat n):Nat):Int)
 by_cases a:v<0
 .simp only[if_pos a];lia
 .simp only[if_neg a];lia
def za9 (lo a:Option Int)(n:Nat):Builtin.Slice.sliceAdjust lo a 1 (n:Int)=(((sIx n 0 lo:Nat):Int),((sIx n n a:Nat):Int)):=by
 have b:¬ ((1:Int)<0):=by lia
 unfold Builtin.Slice.sliceAdjust;simp only[b,ug];refine vG ?_ ?_
 .cases lo with
  | none=>rfl
  | some v=>exact zbQ v n 0
 .cases a with
  | none=>rfl
  | some v=>exact zbQ v n n
def z9M (i j:Nat):Builtin.Slice.slicePlaces (i:Int) (j:Int) 1=j - i:=by
 unfold Builtin.Slice.slicePlaces;have a:(1:Int) > 0:=by lia
 simp only[a,jc,Int.ediv_one]
 split <;> lia
def z5T {v:Value}{o:Option Int}{Q:Option Int->Shared->Prop}(p:IsPart v o)(h:Q o s):wpAny (model prog w) A (Builtin.Slice.slicePartIndex v) Q E s:=by
 cases p with
 | none=>exact slicePart_none h
 | int i t=>exact slicePart_int h
def z4S {sl:Addr}{e f:Value}{lo b:Option Int}{n:Nat}{Q:Int × Int × Nat->Shared->Prop}(i:s.heap.IsSliceOf sl e f .none)(pl:IsPart e lo)(j:IsPart f b)
  (h:Q (((sIx n 0 lo:Nat):Int),1,sIx n n b - sIx n 0 lo) s):wpAny (model prog w) A (Builtin.Slice.sliceApplied (.ref sl) (pure (n:Int))) Q E s:=by
 obtain⟨k,d,g,a⟩:=id i;unfold Builtin.Slice.sliceApplied Builtin.Slice.sliceFields;refine wc (wc (uo d a (x:=e) rfl (wc (uo d a (x:=f) rfl (wc (uo d a (x :=.none) rfl (wm ?_)))))));refine wc (slicePart_none ?_);show wpAny _ _ (if ((1:Int) == 0)=true then _ else _) _ _ s;rw[if_neg (by decide)];refine wc (z5T pl (wc (z5T j (wc (wm ?_)))));show wpAny _ _ (match Builtin.Slice.sliceAdjust lo b 1 (n:Int) with | (lo,b)=>pure (lo,(1:Int),Builtin.Slice.slicePlaces lo b 1)) _ _ s;rw[za9 lo b n];show wpAny _ _ (pure (((sIx n 0 lo:Nat):Int),(1:Int),Builtin.Slice.slicePlaces ((sIx n 0 lo:Nat):Int) ((sIx n n b:Nat):Int) 1)) _ _ s;rw[z9M];exact wm h
def zcA (xs:Array Value)(i k:Nat):((List.range k).filterMap λ(m:Nat)=>xs[((i:Int)+(m:Int)*1).toNat]?).toArray=((xs.toList.drop i).take k).toArray:=by
 have e:(λ(m:Nat)=>xs[((i:Int)+(m:Int)*1).toNat]?)=λm=>xs[i+m]? := by
  funext m
  have:((i:Int)+(m:Int)*1).toNat=i+m:=by lia
  rw[this]
 rw[e];have:=pick_run xs i k;rw[List.filterMap_map] at this;have a:((λx=>xs[x]?) ∘ λx=>i+x)=λm=>xs[i+m]? := rfl;rw[a] at this;rw[this]
end
end HT
namespace L2
open PySem PySem.Spec PyProof.Rows
def ixN (n:Nat)(i:Int):Option Nat:=if 0<=i then (if i<n then some i.toNat else none) else if -(n:Int)<=i then some (i+n).toNat else none
def atI {α:Type}(xs:List α)(i:Int):Option α:=(ixN xs.length i).bind λj=>xs[j]?
def zbq {n:Nat}{i:Int}{j:Nat}(h:ixN n i=some j):seqIndex? i n=some j/\j<n /\ -(n:Int)<=i/\i<n:=by
 unfold ixN at h
 by_cases b:0<=i
 .rw[if_pos b] at h
  by_cases a:i<n
  .rw[if_pos a] at h;have e:i.toNat=j:=wQ h;exact⟨by rw[seqIndex_of b a,e],by lia,by lia,a⟩
  .rw[if_neg a] at h;cases h
 .rw[if_neg b] at h
  by_cases a : -(n:Int)<=i
  .rw[if_pos a] at h;have e:(i+n).toNat=j:=wQ h;exact⟨by rw[seqIndex_neg (by lia) a,e],by lia,a,by lia⟩
  .rw[if_neg a] at h;cases h
def zfb {α:Type}{xs:List α}{i:Int}{v:α}(h:atI xs i=some v):∃j,seqIndex? i xs.length=some j/\xs[j]? = some v/\j<xs.length /\ -(xs.length:Int)<=i/\i<xs.length:=by
 unfold atI at h
 cases e:ixN xs.length i with
 | none=>rw[e] at h;cases h
 | some j=>
  rw[e] at h;obtain⟨a,b,d,f⟩:=zbq e;exact⟨j,a,h,b,d,f⟩
def zfa {α:Type}{xs:List α}{j:Nat}{v:α}(h:xs[j]? = some v):atI xs (j:Int)=some v:=by
 have a:j<xs.length:=(wo.mp h).1;have e:ixN xs.length (j:Int)=some j:=by
  unfold ixN;rw[if_pos (by lia),if_pos (by lia)];simp
 unfold atI;rw[e];exact h
section
def z75 (lo a:Option Int)(n:Nat):(sliceBounds lo a none n).1=((HT.sIx n 0 lo:Nat):Int)/\(sliceBounds lo a none n).2.1=((HT.sIx n n a:Nat):Int)/\(sliceBounds lo a none n).2.2=1:=by
 refine⟨?_,?_,rfl⟩
 .cases lo with
  | none=>simp[sliceBounds,HT.sIx]
  | some i=>
   fen_go
   by_cases h:i<0
   .simp only[h,jc] <;> lia
   .simp only[h,ug] <;> lia
 .cases a with
  | none=>simp[sliceBounds,HT.sIx]
  | some i=>
   fen_go
   by_cases h:i<0
   .simp only[h,jc] <;> lia
   .simp only[h,ug] <;> lia
def z6h (a:List Value)(lo b:Option Int):slicePick a.toArray lo b none=((a.drop (HT.sIx a.length 0 lo)).take (HT.sIx a.length a.length b - HT.sIx a.length 0 lo)).toArray:=by
 obtain⟨d,e,f⟩:=z75 lo b a.toArray.size;unfold slicePick;rw[d,e,f];simp only[sliceRange_one,pick_run,wH] <;> rfl
end
end L2
namespace Att
open PySem PySem.W PySem.Calls PyProof.Rows
def z5u {P:Params}{h:Heap}:∀(ns:List Int) (vs:List Value),WellAll P h vs (ns.map WData.int)->IntsAre vs ns:=by
 intro ns
 induction ns with
 | nil=>
  intro vs w;rw[uM] at w
  cases w
  exact .nil
 | cons n ns d=>
  intro vs w;rw[wC] at w
  cases w with
  | cons a b=>
   cases a
   exact .cons _ _ (d _ b)
def zaB {l:OpenLaw}{n:Nat}(u:l.most=some n){P:Params}{h:Heap}{args:List WData}{e:List Value}
  (b:l.row.toRowW.claim.pre args=true) (m:WellAll P h e args):
  ∃a vs ns,e=[Value.ref a]/\args=[WData.list (ns.map WData.int)]/\h.get? a=some { cls :=.type "list",data :=.seq vs.toArray }/\IntsAre vs ns/\ns.length<=n:=by
 have k:WShape.hasAll [] args [.list .int]=true:=(pre_splitW b).1;have o:l.pre.holds [] { args:=args }=true:=(pre_splitW b).2;obtain⟨d,r,rfl,p,s⟩:=hasAllW_cons k;obtain rfl:=hasAllW_nil s;obtain⟨C,rfl,t⟩:=hasW_list p;obtain⟨ns,rfl⟩:=items_int t;have g:ns.length<=n:=by
  unfold OpenLaw.pre at o;have i:(WTm.not (.lt (.lit (.int (n:Int))) (.len (.arg 0)))).holds [] { args:=[.list (ns.map .int)] }=true:=by
   have i:=(holds_andW o).1;rw[u] at i;exact i
  have j:=condW_of i (w_not (w_lt w_lit (w_len_list (w_arg rfl))));rw[wd] at j;refine Nat.le_of_not_lt λq =>?_;have y:(n:Int)<((ns.length:Nat):Int):=by lia
  first
   | (rw[vU y] at j;exact absurd j (by decide))
   | (simp at j;lia)
 cases m with
 | cons z A=>
  cases A
  cases z with
  | list x f=>exact⟨_,_,ns,rfl,rfl,x,z5u ns _ f,g⟩
def zaX (l:OpenLaw)(args:List WData):l.row.toRowW.claim.post args (.bool true) args=true:=
 postW_of (r:=l.row.toRowW) (X:=(true == true))
  (show WShape.has [] (.bool true) .bool=true by first | rfl | decide | simp[WShape.has,WShape.arms,WShape.armsAll])
  (show (WTm.eq .res (.lit (.bool true))).value [] { args:=args,res:=some (.bool true),after:=args }=some (.bool (true == true)) from w_eq_bool (w_res rfl) w_lit) rfl
def z8A {l:OpenLaw}{n:Nat}{q:Program}{e:List Str}{XP:(Str->Option Value)->Heap->Prop}{E:World->Heap->Prop}{d:DefRec}
  (U:l.most=some n) (x:d.params.defaults=[])
  (j:∀(w:World) (g b:Shared) (mg A:Str->Option Value) (k:Addr) (o:Obj) (C t h:Value) (a:Addr) (vs:List Value) (ns:List Int),
   Ground q e [] XP w g mg A b.heap->E w b.heap->
   b.heap.get? k=some o->o.data = .func (docDef d.name d.params d.body d.scope C t h)->b.heap.CodeRec t d.name->mg d.name=some (.ref k)->
   b.heap.get? a=some { cls :=.type "list",data :=.seq vs.toArray }->IntsAre vs ns->ns.length<=n->b.gens = #[]->
   codeAny (model l.prog w) callerA (.call (.ref k) ⟨[.ref a],[]⟩) (λr s'=>r = .ok (.ret (.bool true))/\OldK b.heap s'.heap/\s'.os=b.os/\AllBare s'.gens) b):
  WalkO q e XP E l.row.toRowW d [] (λf vs=>PySem.call f vs):=by
 intro w g b mg A G Y k o C t h K Z V Q u H y R F J as s I X z S;obtain rfl:K = .none:=Dflts.none H x;obtain rfl:Z = .none:=Dflts.noKw H;obtain⟨a,vs,ns,rfl,rfl,p,i,m⟩:=zaB U s z;refine enter_call (Wj (j w g b mg A k o C t h a vs ns G Y V (fd_plain Q) u y p i m R) λr s' W =>?_);obtain⟨rfl,L,N,O⟩:=W;exact⟨.inl ⟨.bool true,.bool true,[],rfl,λ_=>rfl,.bool true,zaX l _,λ_=>⟨List.Pairwise.nil,λ_ T=>(nomatch T)⟩⟩,L,N,O⟩
end Att
namespace L2
open PySem PySem.Spec PyProof.Rows
def z3K (s:Stmt):Arguments:=match s with
 | .FunctionDef _ a _ _ _ _ _ _ _ _=>a
 | _=>{ posonlyargs:=[],args:=[],vararg:=none,kwonlyargs:=[],kw_defaults:=[],kwarg:=none,defaults:=[] }
def z2Q (s:Stmt):List Stmt:=match s with
 | .FunctionDef _ _ b _ _ _ _ _ _ _=>b
 | _=>[]
def z0n (s:Stmt):Scope:=match s with
 | .FunctionDef _ _ _ _ _ _ sc _ _ _=>sc
 | _=>{ kind :=.function,names:=[],isGenerator:=false,isCoroutine:=false }
structure Fun (K:W.Frag)(x qual:Str)(st:Stmt)(f:Addr)(fd:FuncData):Prop where
 ex:∃(oc:Value) (od:Option Addr) (kV doc pm:Value) (an:Option Addr) (cdv ct:Value) (osl:Array (Option Value)),
  fd=W.fnOf x qual (z3K st) (z2Q st) (z0n st) .none kV doc pm an cdv ct/\K.lookup f=some ⟨oc,od,.func fd,osl⟩/\W.codeIn K cdv qual=true
 kp:W.keepIn K (.ref f)=true
section
variable {P:Program}{w:World}{K:W.Frag}{mg:Str->Option Value}{base:Heap}
def Fun.binds {x a:Str}{st:Stmt}{f:Addr}{j:FuncData}{ps:List Str}(F:Fun K x a st f j)
  (h:∀(g d i:Value) (e:Option Addr) (b ct:Value) (us:List Value),us.length=ps.length->bindArgs (W.fnOf x a (z3K st) (z2Q st) (z0n st) .none g d i e b ct) ⟨us,[]⟩=pure (ps.zip us)):z0b K j ps []:=by
 obtain⟨n,o,g,d,i,e,b,ct,l,rfl,m,k⟩:=F.ex;exact .all (h g d i e b ct)
def zh9 {x a:Str}{st:Stmt}{f:Addr}{j:Value}{m g:Option Addr}{e:Array (Option Value)}{h d i b ct:Value}(l:K.lookup f=some ⟨j,m,.func (W.fnOf x a (z3K st) (z2Q st) (z0n st) .none h d i g b ct),e⟩)
  (c:W.codeIn K b a=true) (k:W.keepIn K (.ref f)=true):Fun K x a st f (W.fnOf x a (z3K st) (z2Q st) (z0n st) .none h d i g b ct):=⟨⟨j,m,h,d,i,g,b,ct,e,rfl,l,c⟩,k⟩
end
end L2
namespace Pu
open PySem PySem.Spec PyProof.Rows L2
inductive D where
 | non | bl (b:Bool) | int (i:Int) | str (x:Str) | tup (l:List D) | lst (l:List D) | dct (ks vs:List D) | fn (n:Nat)
instance:Inhabited D:=⟨.non⟩
mutual
def noL:D->Bool
 | .lst _=>false
 | .tup l=>noLs l
 | .dct a vs=>noLs vs
 | _=>true
def noLs:List D->Bool
 | []=>true
 | d::a=>noL d && noLs a
end
mutual
def noD:D->Bool
 | .dct _ _=>false
 | .tup l=>noDs l
 | .lst l=>noDs l
 | _=>true
def noDs:List D->Bool
 | []=>true
 | d::a=>noD d && noDs a
end
inductive B where
 | n | s (d:D) | o (d:D)
abbrev Env:=List B
def B.get:B->Option D
 | .n=>none
 | .s d=>some d
 | .o d=>some d
def Env.get (a:Env)(i:Nat):Option D:=match a,i with
 | [],_=>none
 | b::_,0=>b.get
 | _::r,i+1=>Env.get r i
theorem Env.get_eq:∀a i,Env.get a i=(a[i]?).bind B.get
 | [],i=>by rfl
 | b::r,0=>by rfl
 | b::r,i+1=>by simp[Env.get,Env.get_eq r i]
abbrev DK:=D->Prop
abbrev XP:=Str->Prop
structure Fn where
 run:List D->DK->XP->Prop
 mono:∀ds Q Q' X X',(∀d,Q d->Q' d)->(∀x,X x->X' x)->run ds Q X->run ds Q' X'
structure Ex where
 run:Env->DK->XP->Prop
 mono:∀ρ Q Q' X X',(∀d,Q d->Q' d)->(∀x,X x->X' x)->run ρ Q X->run ρ Q' X'
structure Sm where
 run:Env->(Env->Prop)->DK->XP->Prop
 mono:∀ρ N N' Q Q' X X',(∀ρ,N ρ->N' ρ)->(∀d,Q d->Q' d)->(∀x,X x->X' x)->run ρ N Q X->run ρ N' Q' X'
def onV (o:Option D)(Q:DK):Prop:=match o with
 | some d=>Q d
 | none=>False
def Ex.c (d:D):Ex:=⟨λ_ Q _=>Q d,λ_ _ _ _ _ m _ q=>m _ q⟩
def Ex.v (i:Nat):Ex:=⟨λa Q _=>onV (a.get i) Q,λa Q f _ _ m _ q=>by
 show onV (a.get i) f;have b:onV (a.get i) Q:=q
 cases e:a.get i with
 | none=>rw[e] at b;exact b
 | some d=>rw[e] at b;exact m _ b⟩
def runs:List Ex->Env->(List D->Prop)->XP->Prop
 | [],_,Q,_=>Q []
 | e::f,a,Q,X=>e.run a (λd=>runs f a (λb=>Q (d::b)) X) X
theorem z3n:∀es b Q f X a,(∀d,Q d->f d)->(∀x,X x->a x)->runs es b Q X->runs es b f a
 | [],_,_,_,_,_,m,_,q=>m _ q
 | e::es,b,Q,f,X,a,m,g,q=>e.mono b _ _ X a (λd h=>z3n es b _ _ X a (λj i=>m _ i) g h) g q
def Ex.op (f:Fn)(es:List Ex):Ex:=⟨λb Q X=>runs es b (λa=>f.run a Q X) X,λb Q g X d m e q=>z3n es b _ _ X d (λa h=>f.mono a Q g X d m e h) e q⟩
def tst (d:D)(A B:Prop):Prop:=match d with
 | .bl b=>(b=true->A)/\(b=false->B)
 | _=>False
def z32 {d:D}{A a B B':Prop}(f:A->a)(g:B->B')(h:tst d A B):tst d a B':=by
 cases d with
 | bl b=>exact⟨λe=>f (h.1 e),λe=>g (h.2 e)⟩
 | _=>exact h.elim
def zdf {d:D}{A B:Prop}(h:tst d A B):∃b,d = .bl b/\(b=true->A)/\(b=false->B):=by
 cases d with
 | bl b=>exact⟨b,rfl,h⟩
 | _=>exact h.elim
def Ex.and (a b:Ex):Ex:=⟨λe Q X=>a.run e (λd=>tst d (b.run e Q X) (Q (.bl false))) X,λe Q h X f m g q=>a.mono e _ _ X f (λd i=>z32 (b.mono e Q h X f m g) (m _) i) g q⟩
def Ex.or (a b:Ex):Ex:=⟨λe Q X=>a.run e (λd=>tst d (Q (.bl true)) (b.run e Q X)) X,λe Q h X f m g q=>a.mono e _ _ X f (λd i=>z32 (m _) (b.mono e Q h X f m g) i) g q⟩
def Ex.not (a:Ex):Ex:=⟨λe Q X=>a.run e (λd=>match d with | .bl b=>Q (.bl (!b)) | _=>False) X,λe Q i X g m h q=>a.mono e _ _ X g (λd f=>by
 cases d with
 | bl b=>exact m _ f
 | _=>exact f.elim) h q⟩
inductive Tg where
 | nm (i:Nat) | tp (is:List Nat)
def z0l:List Nat->List D->Env->Env
 | i::is,d::b,a=>z0l is b (a.set i (.s d))
 | _,_,a=>a
def Tg.put (t:Tg)(d:D)(b:Env)(K:Env->Prop):Prop:=match t,d with
 | .nm i,d=>K (b.set i (.s d))
 | .tp is,.tup a=>is.length=a.length/\K (z0l is a b)
 | _,_=>False
def Tg.put_mono {t:Tg}{d:D}{a:Env}{K K':Env->Prop}(m:∀a,K a->K' a)(h:t.put d a K):t.put d a K':=by
 cases t with
 | nm i=>exact m _ h
 | tp is=>
  cases d with
  | tup b=>exact⟨h.1,m _ h.2⟩
  | _=>exact h.elim
def items:D->Option (List D)
 | .lst l=>some l
 | .tup l=>some l
 | _=>none
def onL (o:Option (List D))(Q:List D->Prop):Prop:=match o with
 | some l=>Q l
 | none=>False
def z90 {o:Option (List D)}{Q Q':List D->Prop}(m:∀l,Q l->Q' l)(h:onL o Q):onL o Q':=by
 cases o with
 | none=>exact h
 | some l=>exact m _ h
def z3g (f:D->(Option D->Prop)->Prop):List D->(List D->Prop)->Prop
 | [],N=>N []
 | x::a,N=>f x λo=>z3g f a λr=>N (o.toList++r)
theorem z68 {f d:D->(Option D->Prop)->Prop}(e:∀x K b,(∀o,K o->b o)->f x K->d x b):∀xs N a,(∀l,N l->a l)->z3g f xs N->z3g d xs a
 | [],_,_,m,q=>m _ q
 | x::xs,N,a,m,q=>e x _ _ (λo g=>z68 e xs _ _ (λr h=>m _ h) g) q
def z1Q (b:Nat)(a:List Nat)(d:Env):Env:=List.replicate b .n++a.map λj=>(d[j]?).getD .n
def z4g (t:Tg)(c:Option Ex)(e:Ex)(f:Env)(x:D)(K:Option D->Prop):Prop:=
 t.put x f λa=>match c with
  | none=>e.run a (λd=>K (some d)) (λ_=>False)
  | some c=>c.run a (λb=>tst b (e.run a (λd=>K (some d)) (λ_=>False)) (K none)) (λ_=>False)
def za8 {t:Tg}{c:Option Ex}{a:Ex}{g:Env}(x:D)(K K':Option D->Prop)(m:∀o,K o->K' o)(h:z4g t c a g x K):z4g t c a g x K':=by
 refine Tg.put_mono (λe q =>?_) h
 cases c with
 | none=>exact a.mono e _ _ _ _ (λd f=>m _ f) (λ_ z=>z) q
 | some c=>exact c.mono e _ _ _ _ (λb f=>z32 (a.mono e _ _ _ _ (λd i=>m _ i) (λ_ z=>z)) (m _) f) (λ_ z=>z) q
def Ex.comp (j:Nat)(h:List Nat)(t:Tg)(a:Ex)(c:Option Ex)(e:Ex):Ex:=
 ⟨λb Q X=>a.run b (λd=>onL (items d) λl=>l.length<sizeLine/\z3g (z4g t c e (z1Q j h b)) l λr=>Q (.lst r)) X,λb Q o X g m i q=>
  a.mono b _ _ X g (λd k=>z90 (λl f=>⟨f.1,z68 za8 l _ _ (λr n=>m _ n) f.2⟩) k) i q⟩
def Sm.skip:Sm:=⟨λa N _ _=>N a,λ_ _ _ _ _ _ _ m _ _ q=>m _ q⟩
def Sm.seq (a b:Sm):Sm:=⟨λe N Q X=>a.run e (λd=>b.run d N Q X) Q X,λe N i Q f X g j m h q=>a.mono e _ _ Q f X g (λd k=>b.mono d N i Q f X g j m h k) m h q⟩
def zfw (d:D):B->Prop
 | .o (.lst _)=>noL d=true
 | .o (.dct _ _)=>noD d=true
 | _=>True
def Safe (d:D):Env->Prop
 | []=>True
 | b::r=>zfw d b/\Safe d r
def zab (d:D)(a:Env):Prop:=match d with
 | .lst l=>∀x∈l,Safe x a
 | .dct _ vs=>∀x∈vs,Safe x a
 | _=>False
def Sm.set (i:Nat)(e:Ex):Sm:=⟨λa N _ X=>e.run a (λd=>Safe d (a.set i .n)/\N (a.set i (.s d))) X,λa N j Q k X f g m h q=>e.mono a _ _ X f (λd b=>⟨b.1,g _ b.2⟩) h q⟩
def Sm.own (i:Nat)(e:Ex):Sm:=⟨λa N _ X=>e.run a (λd=>zab d (a.set i .n)/\N (a.set i (.o d))) X,λa N j Q k X f g m h q=>e.mono a _ _ X f (λd b=>⟨b.1,g _ b.2⟩) h q⟩
def demB:B->B
 | .o d =>.s d
 | b=>b
def dem:List Nat->Env->Env
 | [],a=>a
 | j::b,a=>dem b (a.set j (demB ((a[j]?).getD .n)))
def visB:B->B
 | .o _ =>.n
 | b=>b
def vis (a:Env):Env:=a.map visB
def Sm.setx (b:List Nat)(i:Nat)(e:Ex):Sm:=⟨λa N _ X=>e.run (vis (dem b a)) (λd=>N ((dem b a).set i (.s d))) X,λa N k Q l X f g m h q=>e.mono _ _ _ X f (λd j=>g _ j) h q⟩
def Sm.ifs (c:Ex)(a b:Sm):Sm:=⟨λe N Q X=>c.run e (λd=>tst d (a.run e N Q X) (b.run e N Q X)) X,λe N h Q i X f j m g q=>c.mono e _ _ X f (λd k=>z32 (a.mono e N h Q i X f j m g) (b.mono e N h Q i X f j m g) k) g q⟩
def Sm.ret (e:Ex):Sm:=⟨λa _ Q X=>e.run a Q X,λa N f Q g X b h m d q=>e.mono a _ _ X b m d q⟩
def Sm.ex (e:Ex):Sm:=⟨λa N _ X=>e.run a (λ_=>N a) X,λa N h Q i X b d m f q=>e.mono a _ _ X b (λ_ g=>d _ g) f q⟩
def wh (c:Ex)(b:Sm)(N:Env->Prop)(Q:DK)(X:XP):Nat->Env->Prop
 | 0,_=>False
 | n+1,a=>c.run a (λd=>tst d (b.run a (wh c b N Q X n) Q X) (N a)) X
theorem zaf {c:Ex}{b:Sm}{N i:Env->Prop}{Q f:DK}{X e:XP}(j:∀a,N a->i a)(m:∀d,Q d->f d)(g:∀x,X x->e x):∀n a,wh c b N Q X n a->wh c b i f e n a
 | 0,_,q=>q
 | n+1,a,q=>c.mono a _ _ X e (λd k=>z32 (b.mono a _ _ Q f X e (λh l=>zaf j m g n h l) m g) (j a) k) g q
def Sm.wh (c:Ex)(b:Sm):Sm:=⟨λa N Q X=>∃n,Pu.wh c b N Q X n a,λa N f Q g X h d m e ⟨n,q⟩=>⟨n,zaf d m e n a q⟩⟩
def forL (t:Tg)(b:Sm)(N:Env->Prop)(Q:DK)(X:XP):List D->Env->Prop
 | [],a=>N a
 | x::e,a=>t.put x a λd=>b.run d (forL t b N Q X e) Q X
theorem z5v {t:Tg}{b:Sm}{N i:Env->Prop}{Q e:DK}{X f:XP}(j:∀a,N a->i a)(m:∀d,Q d->e d)(k:∀x,X x->f x):∀l a,forL t b N Q X l a->forL t b i e f l a
 | [],_,q=>j _ q
 | x::p,a,q=>Tg.put_mono (λg n=>b.mono g _ _ Q e X f (λh o=>z5v j m k p h o) m k n) q
def Sm.for_ (f:List Nat)(t:Tg)(a:Ex)(b:Sm):Sm:=⟨λe N Q X=>a.run (vis (dem f e)) (λd=>onL (items d) λl=>forL t b N Q X l (dem f e)) X,λe N n Q o X h i m g q=>a.mono _ _ _ X h (λd j=>z90 (λl k=>z5v i m g l _ k) j) g q⟩
def onR (ds:List D)(K:List D->Prop):Prop:=match ds with
 | [.int j]=>(-(2 ^ 62)<=j/\j<2 ^ 62)/\K ((List.range j.toNat).map λ(k:Nat) =>.int k)
 | [.int i,.int j]=>((-(2 ^ 62)<=i/\i<2 ^ 62) /\ -(2 ^ 62)<=j/\j<2 ^ 62)/\K ((List.range (j - i).toNat).map λ(k:Nat) =>.int (i+k))
 | _=>False
def z8Z {ds:List D}{K K':List D->Prop}(m:∀l,K l->K' l)(h:onR ds K):onR ds K':=by
 unfold onR at h ⊢
 split at h
 .exact⟨h.1,m _ h.2⟩
 .exact⟨h.1,m _ h.2⟩
 omega
def Sm.forr (es:List Ex)(t:Tg)(b:Sm):Sm:=⟨λa N Q X=>runs es a (λg=>onR g λl=>forL t b N Q X l a) X,λa N k Q n X f h m e q=>z3n es a _ _ X f (λd i=>z8Z (λl j=>z5v h m e l _ j) i) e q⟩
def ownL (a:Env)(i:Nat)(K:List D->Prop):Prop:=match a[i]? with
 | some (.o (.lst l))=>K l
 | _=>False
set_option tactic.hygienic true in
def z3p {a:Env}{i:Nat}{K K':List D->Prop}(m:∀l,K l->K' l)(h:ownL a i K):ownL a i K':=by
 unfold ownL at h ⊢
 split <;> rename_i e
 .simp_all
 simp_all
def Sm.app (i:Nat)(e:Ex):Sm:=⟨λa N _ X=>ownL a i λl=>e.run a (λd=>l.length<sizeLine/\Safe d a/\N (a.set i (.o (.lst (l++[d]))))) X,λa N k Q n X f g m h q=>z3p (λl j=>e.mono a _ _ X f (λd b=>⟨b.1,b.2.1,g _ b.2.2⟩) h j) q⟩
def popL (l:List D)(K:List D->D->Prop):Prop:=match l[l.length - 1]? with
 | some d=>K l.dropLast d
 | none=>False
set_option tactic.hygienic true in
def z7g {l:List D}{K K':List D->D->Prop}(m:∀l d,K l d->K' l d)(h:popL l K):popL l K':=by
 unfold popL at h ⊢
 split <;> rename_i e
 .simp_all
 simp_all
def Sm.pop (i:Nat):Sm:=⟨λa N _ _=>ownL a i λl=>popL l λb _=>N (a.set i (.o (.lst b))),λa N g Q h X j d m k q=>z3p (λl e=>z7g (λ_ _ f=>d _ f) e) q⟩
def Sm.popTo (j i:Nat):Sm:=⟨λa N _ _=>ownL a i λl=>popL l λb d=>N ((a.set i (.o (.lst b))).set j (.s d)),λa N h Q k X n e m p q=>z3p (λl f=>z7g (λ_ _ g=>e _ g) f) q⟩
def isLs (d:D)(K:List D->Prop):Prop:=match d with
 | .lst l=>K l
 | _=>False
def z7z {d:D}{K K':List D->Prop}(m:∀j,K j->K' j)(h:isLs d K):isLs d K':=by
 cases d with
 | lst l=>exact m _ h
 | _=>exact h.elim
def Sm.ext (i:Nat)(e:Ex):Sm:=⟨λa N _ X=>ownL a i λl=>e.run a (λd=>isLs d λm=>l.length+m.length<=sizeLine/\(∀x∈m,Safe x a)/\N (a.set i (.o (.lst (l++m))))) X,λa N n Q p X f g m h q=>z3p (λl j=>e.mono a _ _ X f (λd k=>z7z (λm b=>⟨b.1,b.2.1,g _ b.2.2⟩) k) h j) q⟩
def onN (o:Option Nat)(K:Nat->Prop):Prop:=match o with
 | some j=>K j
 | none=>False
def zcE {o:Option Nat}{K K':Nat->Prop}(m:∀j,K j->K' j)(h:onN o K):onN o K':=by
 cases o with
 | none=>exact h
 | some l=>exact m _ h
def isI (d:D)(K:Int->Prop):Prop:=match d with
 | .int i=>K i
 | _=>False
def z9b {d:D}{K K':Int->Prop}(m:∀j,K j->K' j)(h:isI d K):isI d K':=by
 cases d with
 | int i=>exact m _ h
 | _=>exact h.elim
def Sm.put (i:Nat)(k e:Ex):Sm:=⟨λa N _ X=>ownL a i λl=>e.run a (λd=>Safe d a/\k.run a (λf=>isI f λz=>onN (ixN l.length z) λj=>N (a.set i (.o (.lst (l.set j d))))) X) X,λa N u Q x X b n m g q=>
 z3p (λl p=>e.mono a _ _ X b (λd h=>⟨h.1,k.mono a _ _ X b (λf r=>z9b (λz s=>zcE (λj t=>n _ t) s) r) g h.2⟩) g p) q⟩
def Fn.mk' (d h:Nat)(b:Sm):Fn:=⟨λa Q X=>a.length=d/\b.run (a.map B.s++List.replicate (h - d) .n) (λ_=>Q .non) Q X,λa Q e X f m g q=>⟨q.1,b.mono _ _ _ Q e X f (λ_ i=>m _ i) m g q.2⟩⟩
def Fn.mkN (d f:Nat)(b:Sm):Fn:=⟨λa Q _=>a.length=d/\b.run (a.map B.s++List.replicate (f - d) .n) (λ_=>Q .non) Q (λ_=>False),λa Q e X h m i q=>⟨q.1,b.mono _ _ _ Q e _ _ (λ_ g=>m _ g) m (λ_ z=>z) q.2⟩⟩
end Pu
namespace L2
open PySem PySem.Spec PyProof.Rows
open Builtin.Int (intBits)
abbrev Bt (n:Nat)(i:Int):Prop:=intBits i<=n
def Bt.le {m n:Nat}{i:Int}(h:Bt m i)(q:m<=n:=by decide):Bt n i:=vd h q
def z05 {n:Nat}{i:Int}(h:i.natAbs<2 ^ n):Bt n i:=PySem.intBits_le_iff.mpr h
def Bt.of_abs {n:Nat}{i j:Int}(h:Bt n j)(q:i.natAbs<=j.natAbs):Bt n i:=PySem.intBits_le_of_natAbs q h
def Bt.add {m n:Nat}{i j:Int}(h:Bt m i)(q:Bt n j):Bt (max m n+1) (i+j):=PySem.intBits_add_le h q
def Bt.sub {m n:Nat}{i j:Int}(h:Bt m i)(q:Bt n j):Bt (max m n+1) (i - j):=PySem.intBits_sub_le h q
def Bt.mul {m n:Nat}{i j:Int}(h:Bt m i)(q:Bt n j):Bt (m+n) (i*j):=PySem.intBits_mul_le h q
def Bt.neg {m:Nat}{i:Int}(h:Bt m i):Bt m (-i):=PySem.intBits_neg_le h
def zhw (i j:Int):Prop:=Bt 60000000 i/\Bt 60000000 j
def ziI (_ j:Int):Prop:=j≠0/\Bt 9000 j
def zbm {j:Int}(a:j≠0)(h:Bt 9000 j):j.natAbs.log2<9000:=by
 have e:intBits j=j.natAbs.log2+1:=by
  unfold Builtin.Int.intBits
  simp_all
 omega
end L2
namespace Mth
def z3u {t b:Int}(h:0<b):(0)<(Int.gcd t b:Int)/\t=(Int.gcd t b)*(t / (Int.gcd t b))/\b=(Int.gcd t b)*(b / (Int.gcd t b))/\1<=b / (Int.gcd t b)/\Int.gcd (t / (Int.gcd t b)) (b / (Int.gcd t b))=1:=by
 have p:=(Int.gcd_pos_iff (a:=t) (b:=b)).mpr (.inr (by lia));have d:t=(Int.gcd t b)*(t / (Int.gcd t b)):=(ji (jw t b)).symm;have e:b=(Int.gcd t b)*(b / (Int.gcd t b)):=(ji (jM t b)).symm;refine⟨by lia,d,e,?_,?_⟩
 .rcases(show b / (Int.gcd t b)<1\/1<=b / (Int.gcd t b) by lia) with q | q
  .have:(Int.gcd t b)*(b / (Int.gcd t b))<=0:=w7 (by lia) (by lia);lia
  .f_int
 .have q:=Int.gcd_mul_left (Int.gcd t b) (t / (Int.gcd t b)) (b / (Int.gcd t b));rw[<- d, <- e,j9] at q;have f:Int.gcd t b*1=Int.gcd t b*Int.gcd (t / (Int.gcd t b)) (b / (Int.gcd t b)):=by rw[Nat.mul_one];exact q
  exact(jd p f).symm
def z1d {a b:Int}(d:0<b):(a / b).natAbs<=a.natAbs:=by
 rw[<- Int.fdiv_eq_ediv_of_nonneg a (wE d)];exact PySem.natAbs_fdiv_le a b
end Mth
namespace L2
open PySem PySem.Spec PyProof.Rows
def z9u {i:Int}(a : -(2 ^ 64)<i)(b:i<2 ^ 64):Bt 9000 i:=vd (PySem.intBits_le_64 a b) (by decide)
def bt_k {i:Int}(h:i.natAbs<2 ^ 640):Bt 640 i:=z05 h
def bt_n {i:Int}(a:0<=i)(h:i<2 ^ 640):Bt 640 i:=z05 (by lia)
def eqv2 {a b c d:Int}:PyData.eqv (.tuple [.int a,.int b]) (.tuple [.int c,.int d])=decide (a=c/\b=d):=by
 simp[PyData.eqv,PyData.eqvAll]
 by_cases e:a=c <;> by_cases f:b=d <;> simp[e,f]
end L2
namespace Mth
def g3 (x y b:Int):Int:=((Int.gcd ((Int.gcd b x):Int) y:Nat):Int)
def z53 (x y b:Int):g3 x y b ∣ b:=Wa (jw _ _) (jw b x)
def z9k (x y b:Int):g3 x y b ∣ x:=Wa (jw _ _) (jM b x)
def z9j (x y b:Int):g3 x y b ∣ y:=jM _ _
def z9i {x y b:Int}(h:0<b):0<g3 x y b:=by
 have p:=(Int.gcd_pos_iff (a:=b) (b:=x)).mpr (.inl (by lia));have d:=(Int.gcd_pos_iff (a:=((Int.gcd b x))) (b:=y)).mpr (.inl (by lia));unfold g3;lia
structure Plc (x y b u v t:Int):Prop where
 pos:1<=t
 cop:Int.gcd ((Int.gcd u v):Int) t=1
 cx:u*b=x*t
 cy:v*b=y*t
 lu:u.natAbs<=x.natAbs
 lv:v.natAbs<=y.natAbs
 lt:t.natAbs<=b.natAbs
def z2C (a b c:Int):Int.gcd ((Int.gcd a b):Int) c=Nat.gcd (Nat.gcd a.natAbs b.natAbs) c.natAbs:=rfl
def zdw {x y b:Int}(h:0<b):Plc x y b (x / g3 x y b) (y / g3 x y b) (b / g3 x y b):=by
 have f:=z9i (x:=x) (y:=y) h;have ex:x=g3 x y b*(x / g3 x y b):=(ji (z9k x y b)).symm;have d:y=g3 x y b*(y / g3 x y b):=(ji (z9j x y b)).symm;have a:b=g3 x y b*(b / g3 x y b):=(ji (z53 x y b)).symm;have l:g3 x y b=((Nat.gcd (Nat.gcd b.natAbs x.natAbs) y.natAbs):Int):=rfl;refine⟨?_,?_,?_,?_,z1d f,z1d f,z1d f⟩
 .generalize b / g3 x y b=t at a
  rcases(show t<1\/1<=t by lia) with q | q
  .have:g3 x y b*t<=0:=w7 (by lia) (by lia);lia
  .f_int
 .rw[z2C];generalize o:x / g3 x y b=u at ex;generalize p:y / g3 x y b=v at d;generalize n:b / g3 x y b=t at a;have nx:=congrArg Int.natAbs ex;have i:=congrArg Int.natAbs d;have g:=congrArg Int.natAbs a;rw[ue] at nx i g;have ng:(g3 x y b).natAbs=Nat.gcd (Nat.gcd b.natAbs x.natAbs) y.natAbs:=by rw[l,j9]
  generalize m:(g3 x y b).natAbs=G at nx i g ng;have e:0<G:=by lia
  rw[nx,i,g,Nat.gcd_mul_left,Nat.gcd_mul_left] at ng;have j:G*1=G*Nat.gcd (Nat.gcd t.natAbs u.natAbs) v.natAbs:=by rw[Nat.mul_one];exact ng
  have k:=jd e j;rw[j0 (Nat.gcd u.natAbs v.natAbs), <- Nat.gcd_assoc];exact k.symm
 .have:x / g3 x y b*b=x / g3 x y b*(g3 x y b*(b / g3 x y b)):=congrArg _ a;rw[this,Int.mul_left_comm, <- u4, <- ex]
 .have:y / g3 x y b*b=y / g3 x y b*(g3 x y b*(b / g3 x y b)):=congrArg _ a;rw[this,Int.mul_left_comm, <- u4, <- d]
def z4D {a b:Nat}(h:∀p,p ∣ a->p ∣ b->p ∣ 1):Nat.Coprime a b:=
 Nat.dvd_one.mp (h _ (Nat.gcd_dvd_left a b) (Nat.gcd_dvd_right a b))
def z8u {p:Nat}{x:Int}:p ∣ x.natAbs↔(p:Int) ∣ x:=by rw[<- vZ,j9]
def z6M {p z c:Nat}{x a:Int}(b:Nat.Coprime z c)(d:p ∣ z)(h:(p:Int) ∣ x*c+a*z):p ∣ x.natAbs:=by
 have e:(p:Int) ∣ a*z:=Wa (Int.natCast_dvd_natCast.mpr d) (Int.dvd_mul_left _ _);have f  := (Int.dvd_add_left e).mp h;have g  := by
  have:=z8u.mpr f;rw[ue] at this;exact this
 exact(Nat.Coprime.coprime_dvd_left d b).dvd_of_dvd_mul_right g
def zb0 {x y z a b c:Int}(hz:0<z)(hc:0<c)(Y:Int.gcd ((Int.gcd x y:Nat)) z=1)(Z:Int.gcd ((Int.gcd a b:Nat)) c=1)
  {g u v r:Int}(W:g=((Int.gcd z c:Nat))) (J:u=x*(c / g)+a*(z / g)) (K:v=y*(c / g)+b*(z / g)) (X:r=((Int.gcd ((Int.gcd g u:Nat):Int) v:Nat))):
  0<g/\0<r/\g.natAbs<=z.natAbs/\r.natAbs<=z.natAbs/\Plc (x*c+a*z) (y*c+b*z) (z*c) (u / r) (v / r) (z / g*(c / r)):=by
 have gp:=(Int.gcd_pos_iff (a:=z) (b:=c)).mpr (.inl (by omega));have E:0<g:=by omega
 have gz:g ∣ z:=W ▸ jw z c;have gc:g ∣ c:=W ▸ jM z c;have I:r=g3 u v g:=X;have R:0<r:=I ▸ z9i E;have rg:r ∣ g:=I ▸ z53 u v g;have ru:r ∣ u:=I ▸ z9k u v g;have rv:r ∣ v:=I ▸ z9j u v g;obtain⟨z',s⟩:=gz;obtain⟨c',A⟩:=gc;obtain⟨g',e⟩:=rg;obtain⟨u',i⟩:=ru;obtain⟨v',j⟩:=rv;have q1:z / g=z':=by rw[s];exact uF z' (by omega)
 have q2:c / g=c':=by rw[A];exact uF c' (by omega)
 have q3:u / r=u':=by rw[i];exact uF u' (by omega)
 have q4:v / r=v':=by rw[j];exact uF v' (by omega)
 have q5:c / r=g'*c':=by rw[A,e,u4];exact uF _ (by omega)
 rw[q1,q2] at J K;rw[q1,q3,q4,q5];have S:0<z':=by
  rcases(show z'<=0\/0<z' by omega) with h | h
  .have:=w7 (wE E) h;omega
  .exact h
 have O:0<c':=by
  rcases(show c'<=0\/0<c' by omega) with h | h
  .have:=w7 (wE E) h;omega
  .exact h
 have Q:0<g':=by
  rcases(show g'<=0\/0<g' by omega) with h | h
  .have:=w7 (wE R) h;omega
  .exact h
 have f:Nat.Coprime z'.natAbs c'.natAbs:=by
  have q:=Int.gcd_mul_left g z' c';rw[<- s, <- A] at q;have q':g.natAbs*1=g.natAbs*Int.gcd z' c':=by omega
  exact(jd (by omega) q').symm
 have cg:Nat.gcd (Nat.gcd g'.natAbs u'.natAbs) v'.natAbs=1:=by
  have n1:=congrArg Int.natAbs e;have n2:=congrArg Int.natAbs i;have n3:=congrArg Int.natAbs j;rw[ue] at n1 n2 n3;have N:r.natAbs=Nat.gcd (Nat.gcd g.natAbs u.natAbs) v.natAbs:=by rw[X,j9,z2C]
  rw[n1,n2,n3,Nat.gcd_mul_left,Nat.gcd_mul_left] at N;have:r.natAbs*1=r.natAbs*Nat.gcd (Nat.gcd g'.natAbs u'.natAbs) v'.natAbs:=by omega
  exact(jd (by omega) this).symm
 have m:(z'.natAbs:Int)=z':=Int.natAbs_of_nonneg (by omega);have l:(c'.natAbs:Int)=c':=Int.natAbs_of_nonneg (by omega);have C:∀{p:Nat},p ∣ u'.natAbs->(p:Int) ∣ u:=λh=>i ▸ Wa (z8u.mp h) (Int.dvd_mul_left _ _);have o:∀{p:Nat},p ∣ v'.natAbs->(p:Int) ∣ v:=λh=>j ▸ Wa (z8u.mp h) (Int.dvd_mul_left _ _);have k1:Nat.Coprime (Nat.gcd u'.natAbs v'.natAbs) z'.natAbs:=by
  refine z4D λp t n =>?_;have F:=C (jp t (Nat.gcd_dvd_left _ _));have H:=o (jp t (Nat.gcd_dvd_right _ _));rw[J, <- m, <- l] at F;rw[K, <- m, <- l] at H;have T:p ∣ z.natAbs:=by rw[s,ue];exact jp n (Nat.dvd_mul_left _ _)
  have:=Wg (Wg (z6M f n F) (z6M f n H)) T;rw[z2C] at Y;rw[Y] at this;exact this
 have k2:Nat.Coprime (Nat.gcd u'.natAbs v'.natAbs) c'.natAbs:=by
  refine z4D λp t n =>?_;have F:=C (jp t (Nat.gcd_dvd_left _ _));have H:=o (jp t (Nat.gcd_dvd_right _ _));rw[J, <- m, <- l,Int.add_comm] at F;rw[K, <- m, <- l,Int.add_comm] at H;have T:p ∣ c.natAbs:=by rw[A,ue];exact jp n (Nat.dvd_mul_left _ _)
  have:=Wg (Wg (z6M f.symm n F) (z6M f.symm n H)) T;rw[z2C] at Z;rw[Z] at this;exact this
 have k3:Nat.Coprime (Nat.gcd u'.natAbs v'.natAbs) g'.natAbs:=by
  refine z4D λp t n =>?_;have:=Wg (Wg n (jp t (Nat.gcd_dvd_left _ _))) (jp t (Nat.gcd_dvd_right _ _));rw[cg] at this;exact this
 have U:x*c+a*z=g*r*u':=by rw[u4, <- i,J,A,s];grind
 have V:y*c+b*z=g*r*v':=by rw[u4, <- j,K,A,s];grind
 have L:z*c=g*r*(z'*(g'*c')):=by rw[s,A];generalize g=G at e ⊢;subst e;grind
 have a0:0<g*r:=w3 E R;have d:∀k:Int,k.natAbs<=(g*r*k).natAbs:=λk=>by
  rw[ue];exact Nat.le_mul_of_pos_left _ (by omega)
 refine⟨E,R,Nat.le_of_dvd (by omega) (vZ.mpr ⟨z',s⟩),Nat.le_of_dvd (by omega) (vZ.mpr ⟨g'*z',by rw[s,e,u4]⟩),?_,?_,?_,?_,?_,?_,?_⟩
 .have:=w3 S (w3 Q O);omega
 .rw[z2C,ue,ue];exact Nat.Coprime.mul_right k1 (Nat.Coprime.mul_right k3 k2)
 .rw[U,L];grind
 .rw[V,L];grind
 .rw[U];exact d _
 .rw[V];exact d _
 .rw[L];exact d _
end Mth
namespace L2
open PySem PySem.Spec PyProof.Rows
theorem z5y (f:Nat->Int):∀k j,j<=k->f j<=f (argBest (λi j=>decide (f i > f j)) k)
 | 0,j,h=>by
  have:j=0:=by lia
  k_end;exact uw _
 | k+1,j,h=>by
  have a:=z5y f k;rw[argBest]
  grind
def z4j {α:Type}{xs:List α}{i:Int}(d:0<=i)(e:i<xs.length):∃v∈xs,atI xs i=some v:=by
 have a:i.toNat<xs.length:=by lia
 have b:i=i.toNat:=by lia
 refine⟨xs[i.toNat],uv a,?_⟩;have q  := zfa (wf a);rw[<- b] at q;f_int
end L2
namespace Pu
open PySem PySem.Spec PyProof.Rows L2
section
def z5i:Fn:=⟨λa Q _=>onR a λl=>Q (.lst l),λa Q b X d m _ q=>z8Z (λ_ q=>m _ q) q⟩
end
section
set_option tactic.hygienic true in
def z3o {a:List D->Prop}(h:ownL ρ i a):∃l,ρ[i]? = some (B.o (.lst l))/\a l:=by
 unfold ownL at h
 split at h
 .rename_i l e;exact⟨l,e,h⟩
 .exact h.elim
end
section
set_option tactic.hygienic true in
def z7f {l:List D}{a:List D->D->Prop}(h:popL l a):∃d,l[l.length - 1]? = some d/\a l.dropLast d:=by
 unfold popL at h
 split at h
 .rename_i d e;exact⟨d,e,h⟩
 .exact h.elim
def z9a {d:D}{a:Int->Prop}(h:isI d a):∃k,d = .int k/\a k:=by
 cases d with
 | int k=>exact⟨k,rfl,h⟩
 | _=>exact h.elim
def zcD {o:Option Nat}{a:Nat->Prop}(h:onN o a):∃k,o=some k/\a k:=by
 cases o with
 | none=>exact h.elim
 | some k=>exact⟨k,rfl,h⟩
end
section
def pTup:Fn:=⟨λa Q _=>a.length<=sizeLine/\Q (.tup a),λa Q b X d m _ q=>⟨q.1,m _ q.2⟩⟩
def pLst:Fn:=⟨λa Q _=>a.length<=sizeLine/\Q (.lst a),λa Q b X d m _ q=>⟨q.1,m _ q.2⟩⟩
end
def fn2 (g:D->D->DK->Prop)(m:∀a b Q e,(∀d,Q d->e d)->g a b Q->g a b e):Fn:=⟨λf Q _=>match f with
 | [a,b]=>g a b Q
 | _=>False,λf Q e X i h _ q=>by
 match f,q with
 | [a,b],q=>exact m a b Q e h q
 | [],q=>exact q.elim
 | [_],q=>exact q.elim
 | _::_::_::_,q=>exact q.elim⟩
def fn1 (g:D->DK->Prop)(m:∀a Q b,(∀d,Q d->b d)->g a Q->g a b):Fn:=⟨λe Q _=>match e with
 | [a]=>g a Q
 | _=>False,λe Q b X h f _ q=>by
 match e,q with
 | [a],q=>exact m a Q b f q
 | [],q=>exact q.elim
 | _::_::_,q=>exact q.elim⟩
def z8Y {o:Option D}{Q Q':DK}(m:∀d,Q d->Q' d)(h:onV o Q):onV o Q':=by
 cases o with
 | none=>exact h
 | some d=>exact m _ h
def z3A {o:Option D}{Q:DK}(h:onV o Q):∃d,o=some d/\Q d:=by
 cases o with
 | none=>exact h.elim
 | some d=>exact⟨d,rfl,h⟩
def gAdd (a b:D)(Q:DK):Prop:=match a,b with
 | .int i,.int j=>Q (.int (i+j))
 | .lst l,.lst m=>l.length+m.length<=sizeLine/\Q (.lst (l++m))
 | .tup l,.tup m=>l.length+m.length<=sizeLine/\Q (.tup (l++m))
 | _,_=>False
def zbE (a b:D)(Q Q':DK)(m:∀d,Q d->Q' d)(h:gAdd a b Q):gAdd a b Q':=by
 unfold gAdd at h ⊢
 split at h
 .cb_eq
 .simp_all
 .simp_all
 omega
def pAdd:Fn:=fn2 gAdd zbE
def gI (g:Int->Int->DK->Prop)(a b:D)(Q:DK):Prop:=match a,b with
 | .int i,.int j=>g i j Q
 | _,_=>False
def zeX {g:Int->Int->DK->Prop}(e:∀i j Q Q',(∀d,Q d->Q' d)->g i j Q->g i j Q')(a b:D)(Q Q':DK)(m:∀d,Q d->Q' d)(h:gI g a b Q):gI g a b Q':=by
 unfold gI at h ⊢
 split at h
 .exact e _ _ _ _ m h
 omega
def fnI (g:Int->Int->DK->Prop)(b:∀i j Q a,(∀d,Q d->a d)->g i j Q->g i j a):Fn:=fn2 (gI g) (zeX b)
def pSub:Fn:=fnI (λi j Q=>Q (.int (i - j))) λ_ _ _ _ m h=>m _ h
def z1U:Fn:=fnI (λi j Q=>ziI i j/\Q (.int (i.fdiv j))) λ_ _ _ _ m h=>⟨h.1,m _ h.2⟩
def pMod:Fn:=fnI (λi j Q=>j≠0/\Q (.int (i.fmod j))) λ_ _ _ _ m h=>⟨h.1,m _ h.2⟩
def pPow:Fn:=fnI (λi j Q=>CPow i j/\Q (.int (i ^ j.toNat))) λ_ _ _ _ m h=>⟨h.1,m _ h.2⟩
def gNeg (a:D)(Q:DK):Prop:=match a with
 | .int i=>Q (.int (-i))
 | _=>False
def pNeg:Fn:=fn1 gNeg λa Q b m h=>by
 unfold gNeg at h ⊢
 split at h
 .cb_eq
 .exact h.elim
section
def zbD {g:Int->Int->DK->Prop}{a b:D}{Q:DK}(h:gI g a b Q):∃i j,a = .int i/\b = .int j/\g i j Q:=by
 unfold gI at h
 split at h
 .exact⟨_,_,rfl,rfl,h⟩
 .exact h.elim
def z0a:Fn:=fnI (λi j Q=>zhw i j/\Q (.int (i*j))) λ_ _ _ _ m h=>⟨h.1,m _ h.2⟩
end
def ints? : List D->Option (List Int)
 | []=>some []
 | .int i::r=>match ints? r with
  | some l=>some (i::l)
  | none=>none
 | _::_=>none
theorem z3s:∀{l:List D}{ns:List Int},ints? l=some ns->l=ns.map D.int
 | [],ns,h=>by
  have  := by simpa[ints?] using h.symm
  k_end;rfl
 | .int i::r,ns,h=>by
  unfold ints? at h
  cases q:ints? r with
  | none=>simp_all
  | some l=>
   rw[q] at h
   cases h
   rw[z3s q];rfl
 | .non::_,_,h=>by simp[ints?] at h
 | .bl _::_,_,h=>by simp[ints?] at h
 | .str _::_,_,h=>by simp[ints?] at h
 | .tup _::_,_,h=>by simp[ints?] at h
 | .lst _::_,_,h=>by simp[ints?] at h
 | .dct _ _::_,_,h=>by simp[ints?] at h
 | .fn _::_,_,h=>by simp[ints?] at h
def z9c (ns:List Int):ints? (ns.map D.int)=some ns:=by
 induction ns with
 | nil=>rfl
 | cons n ns a=>rw[wC,ints?, a]
def onI (o:Option (List Int))(Q:List Int->Prop):Prop:=match o with
 | some l=>Q l
 | none=>False
def z51 {o:Option (List Int)}{Q Q':List Int->Prop}(m:∀d,Q d->Q' d)(h:onI o Q):onI o Q':=by
 cases o with
 | none=>exact h
 | some d=>exact m _ h
def z50 {o:Option (List Int)}{Q:List Int->Prop}(h:onI o Q):∃d,o=some d/\Q d:=by
 cases o with
 | none=>exact h.elim
 | some d=>exact⟨d,rfl,h⟩
def gCmp (f:Int->Int->Bool)(t:List Int->List Int->Bool)(a b:D)(Q:DK):Prop:=match a,b with
 | .int i,.int j=>Q (.bl (f i j))
 | .tup l,.tup m=>onI (ints? l) λe=>onI (ints? m) λd=>Q (.bl (t e d))
 | _,_=>False
def z7A {f:Int->Int->Bool}{t:List Int->List Int->Bool}(a b:D)(Q Q':DK)(m:∀d,Q d->Q' d)(h:gCmp f t a b Q):gCmp f t a b Q':=by
 unfold gCmp at h ⊢
 split at h
 .cb_eq
 .exact z51 (λ_ h=>z51 (λ_ h=>m _ h) h) h
 grind
def pLt:Fn:=fn2 (gCmp (λi j=>decide (i<j)) λb a=>HT.z0B b a) z7A
def pGt:Fn:=fn2 (gCmp (λi j=>decide (j<i)) λb a=>HT.z0B a b) z7A
def pLe:Fn:=fnI (λi j Q=>Q (.bl (decide (i<=j)))) λ_ _ _ _ m h=>m _ h
mutual
def py:D->PyData
 | .non =>.none
 | .bl b =>.bool b
 | .int i =>.int i
 | .str x =>.str x
 | .tup l =>.tuple (pys l)
 | .lst l =>.list (pys l)
 | _ =>.none
def pys:List D->List PyData
 | []=>[]
 | d::a=>py d::pys a
end
def Da:Nat->D->Prop
 | _,.non=>True
 | _,.bl _=>True
 | _,.int _=>True
 | _,.str x=>PyData.strOk x=true
 | 0,.tup _=>False
 | n+1,.tup l=>∀d∈l,Da n d
 | 0,.lst _=>False
 | n+1,.lst l=>∀d∈l,Da n d
 | _,.dct _ _=>False
 | _,.fn _=>False
section
theorem Da.tup {n:Nat}{l:List D}:Da (n+1) (.tup l)↔∀d∈l,Da n d:=by rw[Da]
theorem Da.lst {n:Nat}{l:List D}:Da (n+1) (.lst l)↔∀d∈l,Da n d:=by rw[Da]
theorem Da.int {n:Nat}{i:Int}:Da n (.int i):=by cases n <;> (trivial)
theorem Da.str {n:Nat}{x:Str}:Da n (.str x)↔PyData.strOk x=true:=by cases n <;> rw[Da]
def Da.canLay:∀n d,Da n d->(py d).canLay0=true/\(py d).depth<=n:=by
 intro n
 induction n with
 | zero=>
  intro d h
  cases d with
  | non=>exact⟨rfl,ww _⟩
  | bl _=>exact⟨rfl,ww _⟩
  | int _=>exact⟨rfl,ww _⟩
  | str x=>exact⟨by exact Da.str.mp h,by rw[py,PyData.depth];exact ww _⟩
  | _=>rw[Da] at h;exact h.elim
 | succ n m=>
  have all:∀l:List D,(∀d∈l,Da n d)->PyData.canLayAll0 (pys l)=true/\PyData.depthAll (pys l)<=n:=by
   intro l
   induction l with
   | nil=>intro _;exact⟨rfl,vj _⟩
   | cons d l e=>
    intro h;obtain⟨f,g⟩:=m d (h d wq);obtain⟨i,j⟩:=e λx k=>h x (wn _ k);rw[pys,PyData.canLayAll0,PyData.depthAll,f,i];exact⟨rfl,Nat.max_le.mpr ⟨g,j⟩⟩
  intro d h
  cases d with
  | non=>exact⟨rfl,vj _⟩
  | bl _=>exact⟨rfl,vj _⟩
  | int _=>exact⟨rfl,vj _⟩
  | str x=>exact⟨by exact Da.str.mp h,by rw[py,PyData.depth];exact vj _⟩
  | tup l=>
   obtain⟨a,b⟩:=all l (Da.tup.mp h);exact⟨by rw[py,PyData.canLay0];exact a,by rw[py,PyData.depth];omega⟩
  | lst l=>
   obtain⟨a,b⟩:=all l (Da.lst.mp h);exact⟨by rw[py,PyData.canLay0];exact a,by rw[py,PyData.depth];omega⟩
  | _=>rw[Da] at h;exact h.elim
theorem Da.shaped {n:Nat}{d:D}(h:Da n d)(e:n<=64):PySem.SeqAt.shaped (py d)=true:=by
 obtain⟨a,b⟩:=Da.canLay n d h;unfold PySem.SeqAt.shaped;rw[a,vU (vd b e)]
 rfl
end
def deq (a b:D):Bool:=PyData.eqv (py a) (py b)
def gEq (neg:Bool)(a b:D)(Q:DK):Prop:=match a,b with
 | .int i,.int j=>Q (.bl (if neg then !decide (i=j) else decide (i=j)))
 | .str x,.str y=>Q (.bl (if neg then !decide (x=y) else decide (x=y)))
 | .bl x,.bl y=>Q (.bl (if neg then !decide (x=y) else decide (x=y)))
 | a,b=>Da 60 a/\Da 60 b/\Q (.bl (if neg then !deq a b else deq a b))
def z6J {neg:Bool}(a b:D)(Q Q':DK)(m:∀d,Q d->Q' d)(h:gEq neg a b Q):gEq neg a b Q':=by
 unfold gEq at h ⊢
 split at h
 .cb_eq
 .cb_eq
 .cb_eq
 simp_all
def pEq:Fn:=fn2 (gEq false) z6J
def pNe:Fn:=fn2 (gEq true) z6J
section
def isN:D->Bool
 | .non=>true
 | _=>false
def gIs (neg:Bool)(a b:D)(Q:DK):Prop:=match b with
 | .non=>Q (.bl (if neg then !isN a else isN a))
 | _=>False
def z9g {neg:Bool}(a b:D)(Q Q':DK)(m:∀d,Q d->Q' d)(h:gIs neg a b Q):gIs neg a b Q':=by
 unfold gIs at h ⊢
 split at h
 .cb_eq
 omega
def pIs:Fn:=fn2 (gIs false) z9g
def z7l:Fn:=fn2 (gIs true) z9g
def z2D {g:D->DK->Prop}{m}{ds:List D}{Q:DK}{b:XP}(h:(fn1 g m).run ds Q b):∃d,ds=[d]/\g d Q:=by
 match ds,h with
 | [a],h=>exact⟨a,rfl,h⟩
 | [],h=>exact h.elim
 | _::_::_,h=>exact h.elim
def z9m {g:D->D->DK->Prop}{m}{ds:List D}{Q:DK}{f:XP}(h:(fn2 g m).run ds Q f):∃d e,ds=[d,e]/\g d e Q:=by
 match ds,h with
 | [a,b],h=>exact⟨a,b,rfl,h⟩
 | [],h=>exact h.elim
 | [_],h=>exact h.elim
 | _::_::_::_,h=>exact h.elim
def gLen (d:D)(Q:DK):Prop:=match d with
 | .lst l=>Q (.int l.length)
 | .tup l=>Q (.int l.length)
 | _=>False
def pLen:Fn:=fn1 gLen λd Q a m h=>by
 unfold gLen at h ⊢
 split at h
 .cb_eq
 .cb_eq
 .exact h.elim
def gAbs (d:D)(Q:DK):Prop:=match d with
 | .int i=>Q (.int (if i<0 then -i else i))
 | _=>False
def pAbs:Fn:=fn1 gAbs λd Q a m h=>by
 unfold gAbs at h ⊢
 split at h
 .cb_eq
 .exact h.elim
def zbA (d:D)(Q:DK):Prop:=match d with
 | .lst l=>Q (.tup l)
 | .tup l=>Q (.tup l)
 | _=>False
def z12:Fn:=fn1 zbA λd Q a m h=>by
 unfold zbA at h ⊢
 split at h
 .cb_eq
 .cb_eq
 .exact h.elim
def zbC (d:D)(Q:DK):Prop:=match d with
 | .lst l=>onI (ints? l) λa=>a≠[]/\∀m,m∈a->(∀x∈a,x<=m)->Q (.int m)
 | _=>False
def za3 (d:D)(Q Q':DK)(m:∀d,Q d->Q' d)(h:zbC d Q):zbC d Q':=by
 unfold zbC at h ⊢
 split at h
 .exact z51 (λ_ q=>⟨q.1,λx a b=>m _ (q.2 x a b)⟩) h
 grind
def gSum (d:D)(Q:DK):Prop:=match d with
 | .lst l=>onI (ints? l) λa=>Q (.int a.sum)
 | _=>False
def pSum:Fn:=fn1 gSum λd Q a m h=>by
 unfold gSum at h ⊢
 split at h
 .exact z51 (λ_ q=>m _ q) h
 .exact h.elim
def gIx (a b:D)(Q:DK):Prop:=match a,b with
 | .lst l,.int i=>onV (atI l i) Q
 | .tup l,.int i=>onV (atI l i) Q
 | _,_=>False
def zcV (a b:D)(Q Q':DK)(m:∀d,Q d->Q' d)(h:gIx a b Q):gIx a b Q':=by
 unfold gIx at h ⊢
 split at h
 .exact z8Y m h
 .exact z8Y m h
 .exact h.elim
def pIx:Fn:=fn2 gIx zcV
end
def part (o:Option Ex)(a:Pu.Env)(K:Option Int->Prop)(X:XP):Prop:=match o with
 | none=>K none
 | some e=>e.run a (λd=>isI d λi=>K (some i)) X
def z7k {o:Option Ex}{a:Pu.Env}{K b:Option Int->Prop}{X X':XP}(m:∀i,K i->b i)(f:∀x,X x->X' x)(h:part o a K X):part o a b X':=by
 cases o with
 | none=>exact m _ h
 | some e=>exact e.mono a _ _ X X' (λd q=>z9b (λi q=>m _ q) q) f h
def cutD (l:List D)(lo a:Option Int):List D:=(l.drop (HT.sIx l.length 0 lo)).take (HT.sIx l.length l.length a - HT.sIx l.length 0 lo)
def slcD (d:D)(lo a:Option Int)(Q:DK):Prop:=match d with
 | .lst l=>Q (.lst (cutD l lo a))
 | .tup l=>Q (.tup (cutD l lo a))
 | _=>False
def zav {d:D}{lo a:Option Int}{Q Q':DK}(m:∀d,Q d->Q' d)(h:slcD d lo a Q):slcD d lo a Q':=by
 unfold slcD at h ⊢
 split at h
 .cb_eq
 .cb_eq
 .exact h.elim
def Ex.sl (e:Ex)(lo g:Option Ex):Ex:=⟨λa Q X=>e.run a (λd=>part lo a (λl=>part g a (λu=>slcD d l u Q) X) X) X,λa Q h X f m b q=>e.mono a _ _ X f (λd q=>z7k (λl q=>z7k (λu q=>zav m q) b q) b q) b q⟩
section
def za7 {xs:List D}{lo a:Option Int}(h:HT.sIx xs.length 0 lo=0/\HT.sIx xs.length xs.length a=xs.length):cutD xs lo a=xs:=by
 unfold cutD
 simp_all
end
section
def isiD (T:String):D->Option Bool
 | .int _=>some (T == "int")
 | .bl _=>some (T == "int" || T == "bool")
 | .str _=>some (T == "str")
 | .tup _=>some (T == "tuple")
 | .lst _=>some (T == "list")
 | .non=>some false
 | _=>none
def onB (o:Option Bool)(Q:Bool->Prop):Prop:=match o with
 | some b=>Q b
 | none=>False
def zcG {o:Option Bool}{Q Q':Bool->Prop}(m:∀b,Q b->Q' b)(h:onB o Q):onB o Q':=by
 cases o with
 | none=>exact h
 | some b=>exact m _ h
def zcF {o:Option Bool}{Q:Bool->Prop}(h:onB o Q):∃b,o=some b/\Q b:=by
 cases o with
 | none=>exact h.elim
 | some b=>exact⟨b,rfl,h⟩
def pIsi (T:String):Fn:=fn1 (λd Q=>onB (isiD T d) λb=>Q (.bl b)) λd Q a m h=>zcG (λb q=>m _ q) h
def zcQ:List String:=["int","bool","str","tuple","list"]
def zez:Fn:=fn1 zbC za3
def zcW {g:Int->Int->DK->Prop}{f}{ds:List D}{Q:DK}{a:XP}(h:(fnI g f).run ds Q a):∃i j,ds=[.int i,.int j]/\g i j Q:=by
 obtain⟨d,e,rfl,b⟩:=z9m h;obtain⟨i,j,rfl,rfl,q⟩:=zbD b;exact⟨i,j,rfl,q⟩
def z9O:Fn:=fnI (λi j Q=>Q (.int (if j<i then j else i))) λ_ _ _ _ m h=>m _ h
end
end Pu
namespace Pu
open PySem L2
open Builtin.Int (intBits)
section
variable {ρ:Pu.Env}{Q:DK}{X:XP}{N:Pu.Env->Prop}{a b c e:Ex}{s t:Sm}{F:Fn}{d:D}{i j:Nat}
def z91 {d:D}(q:Q d):onV (some d) Q:=q
def e_c (q:Q d):(Ex.c d).run ρ Q X:=q
def e_v (q:onV (ρ.get i) Q):(Ex.v i).run ρ Q X:=q
def zd0 (q:a.run ρ (λx=>F.run [x] Q X) X):(Ex.op F [a]).run ρ Q X:=q
def zhc (q:a.run ρ (λx=>b.run ρ (λy=>F.run [x,y] Q X) X) X):(Ex.op F [a,b]).run ρ Q X:=q
def ziq (q:a.run ρ (λx=>b.run ρ (λy=>c.run ρ (λz=>F.run [x,y,z] Q X) X) X) X):(Ex.op F [a,b,c]).run ρ Q X:=q
def zio (q:a.run ρ (λx=>b.run ρ (λy=>c.run ρ (λz=>e.run ρ (λu=>F.run [x,y,z,u] Q X) X) X) X) X):(Ex.op F [a,b,c,e]).run ρ Q X:=q
def zin {es:List Ex}(q:runs es ρ (λds=>F.run ds Q X) X):(Ex.op F es).run ρ Q X:=q
def zfJ {Q:List D->Prop}(q:Q []):runs [] ρ Q X:=q
def zea {es:List Ex}{Q:List D->Prop}(q:a.run ρ (λd=>runs es ρ (λds=>Q (d::ds)) X) X):runs (a::es) ρ Q X:=q
def zis (q:a.run ρ (λd=>tst d (b.run ρ Q X) (Q (.bl false))) X):(Ex.and a b).run ρ Q X:=q
def e_or (q:a.run ρ (λd=>tst d (Q (.bl true)) (b.run ρ Q X)) X):(Ex.or a b).run ρ Q X:=q
def notD (d:D)(Q:DK):Prop:=match d with
 | .bl b=>Q (.bl (!b))
 | _=>False
def zir (q:a.run ρ (λd=>notD d Q) X):(Ex.not a).run ρ Q X:=q
def n_bl {k:Bool}(q:Q (.bl (!k))):notD (.bl k) Q:=q
def zdP {f:Nat}{e:List Nat}{g:Tg}{b:Ex}{ct:Option Ex}{a:Ex}(q:b.run ρ (λd=>onL (items d) λl=>l.length<sizeLine/\z3g (z4g g ct a (z1Q f e ρ)) l λr=>Q (.lst r)) X):(Ex.comp f e g b ct a).run ρ Q X:=q
def zij {l:List D}{K:List D->Prop}(q:K l):onL (items (.lst l)) K:=q
def zii {l:List D}{K:List D->Prop}(q:K l):onL (items (.tup l)) K:=q
def e_sl {lo b:Option Ex}(q:a.run ρ (λd=>part lo ρ (λl=>part b ρ (λu=>slcD d l u Q) X) X) X):(Ex.sl a lo b).run ρ Q X:=q
def zgi {K:Option Int->Prop}(q:K none):part none ρ K X:=q
def zgh {K:Option Int->Prop}(q:a.run ρ (λd=>isI d λi=>K (some i)) X):part (some a) ρ K X:=q
def zh6 {k:Int}{K:Int->Prop}(q:K k):isI (.int k) K:=q
def zix {l:List D}{lo a:Option Int}(q:Q (.lst (cutD l lo a))):slcD (.lst l) lo a Q:=q
def ziw {l:List D}{lo a:Option Int}(q:Q (.tup (cutD l lo a))):slcD (.tup l) lo a Q:=q
def z72 {A B:Prop}(h:A):tst (.bl true) A B:=⟨λ_=>h,(λz=>by cases z)⟩
def z4p {A B:Prop}(h:B):tst (.bl false) A B:=⟨(λz=>by cases z),λ_=>h⟩
def z0w {d:D}{a:Pu.Env}{B:Prop}(h:Safe d a)(q:B):Safe d a/\B:=⟨h,q⟩
def z1x {d:D}{a:Pu.Env}{B:Prop}(h:zab d a)(q:B):zab d a/\B:=⟨h,q⟩
def z0Q {p:Prop}[Decidable p]{A B:Prop}(h:p->A)(h':¬ p->B):tst (.bl (decide p)) A B:=⟨λe=>h (ux e),λe=>h' (u5 e)⟩
def z71 {p:Prop}[Decidable p]{A B:Prop}(hp:p)(h:A):tst (.bl (decide p)) A B:=z0Q (λ_=>h) λn=>(n hp).elim
def t_no {p:Prop}[Decidable p]{A B:Prop}(hp:¬ p)(h:B):tst (.bl (decide p)) A B:=z0Q (λy=>(hp y).elim) λ_=>h
def z4o {k:Bool}{A B:Prop}(h:tst (.bl k) B A):tst (.bl (!k)) A B:=by
 cases k
 .exact z72 (h.2 rfl)
 .exact z4p (h.1 rfl)
def z4q {k:Bool}{A B:Prop}(e:k=true)(h:A):tst (.bl k) A B:=by rw[e];exact z72 h
def z4r {k:Bool}{A B:Prop}(e:k=false)(h:B):tst (.bl k) A B:=by rw[e];exact z4p h
def zdk (q:N ρ):Sm.skip.run ρ N Q X:=q
def z3W (q:s.run ρ (λa=>t.run a N Q X) Q X):(Sm.seq s t).run ρ N Q X:=q
def zhA (q:a.run ρ (λd=>Safe d (ρ.set i .n)/\N (ρ.set i (.s d))) X):(Sm.set i a).run ρ N Q X:=q
def zc9 (q:a.run ρ (λd=>zab d (ρ.set i .n)/\N (ρ.set i (.o d))) X):(Sm.own i a).run ρ N Q X:=q
def zfy {b:List Nat}(q:a.run (vis (dem b ρ)) (λd=>N ((dem b ρ).set i (.s d))) X):(Sm.setx b i a).run ρ N Q X:=q
def s_if (q:c.run ρ (λd=>tst d (s.run ρ N Q X) (t.run ρ N Q X)) X):(Sm.ifs c s t).run ρ N Q X:=q
def zhB (q:a.run ρ Q X):(Sm.ret a).run ρ N Q X:=q
def zhE {b:List Nat}{e:Tg}(q:a.run (vis (dem b ρ)) (λd=>onL (items d) λl=>forL e s N Q X l (dem b ρ)) X):(Sm.for_ b e a s).run ρ N Q X:=q
def ze9 {b:Tg}(q:a.run ρ (λd=>onR [d] λl=>forL b s N Q X l ρ) X):(Sm.forr [a] b s).run ρ N Q X:=q
def z4v {l:List D}(h:ownL ρ i λl=>a.run ρ (λd=>l.length<sizeLine/\Safe d ρ/\N (ρ.set i (.o (.lst (l++[d]))))) X):(Sm.app i a).run ρ N Q X:=h
def zhC (h:ownL ρ i λl=>popL l λl' _=>N (ρ.set i (.o (.lst l')))):(Sm.pop i).run ρ N Q X:=h
def ze5 (h:ownL ρ i λl=>popL l λl' d=>N ((ρ.set i (.o (.lst l'))).set j (.s d))):(Sm.popTo j i).run ρ N Q X:=h
def zfE (h:ownL ρ i λl=>a.run ρ (λd=>isLs d λm=>l.length+m.length<=sizeLine/\(∀x∈m,Safe x ρ)/\N (ρ.set i (.o (.lst (l++m))))) X):(Sm.ext i a).run ρ N Q X:=h
def ze4 (h:ownL ρ i λl=>a.run ρ (λd=>Safe d ρ/\b.run ρ (λe=>isI e λz=>onN (ixN l.length z) λj=>N (ρ.set i (.o (.lst (l.set j d))))) X) X):(Sm.put i b a).run ρ N Q X:=h
def zhF {a b:Nat}{ds:List D}(h:ds.length=a)(q:s.run (ds.map B.s++List.replicate (b - a) .n) (λ_=>Q .non) Q (λ_=>False)):(Fn.mkN a b s).run ds Q X:=⟨h,q⟩
def zhG {a b:Nat}{ds:List D}(h:ds.length=a)(q:s.run (ds.map B.s++List.replicate (b - a) .n) (λ_=>Q .non) Q X):(Fn.mk' a b s).run ds Q X:=⟨h,q⟩
def Sm.cut (W:Pu.Env->Prop)(h:s.run ρ W Q X)(k:∀a,W a->t.run a N Q X):(Sm.seq s t).run ρ N Q X:=s.mono ρ W _ Q Q X X k (λ_ z=>z) (λ_ z=>z) h
def zfr (W:Pu.Env->Prop)(h:tst d (s.run ρ W Q X) (t.run ρ W Q X))(k:∀a,W a->N a):tst d (s.run ρ N Q X) (t.run ρ N Q X):=z32 (s.mono ρ W N Q Q X X k (λ_ z=>z) (λ_ z=>z)) (t.mono ρ W N Q Q X X k (λ_ z=>z) (λ_ z=>z)) h
def nI (a:Pu.Env)(i:Nat):Int:=match a.get i with
 | some (.int s)=>s
 | _=>0
def nL (a:Pu.Env)(i:Nat):Nat:=match a.get i with
 | some (.lst k)=>k.length
 | _=>0
def z0A {α:Type}{f:α->D}{i:Tg}{l:List α}(I:List α->Pu.Env->Prop)(j:I [] ρ)(m:∀a x r ρ,l=a++x::r->I a ρ->i.put (f x) ρ λd=>s.run d (λb=>I (a++[x]) b) Q X)(k:∀ρ,I l ρ->N ρ):forL i s N Q X (l.map f) ρ:=by
 have g:∀r a ρ,l=a++r->I a ρ->forL i s N Q X (r.map f) ρ:=by
  intro r
  induction r with
  | nil=>
   intro a ρ e h;rw[vi] at e;subst e;exact k ρ h
  | cons x r n=>
   intro a ρ e h;exact Tg.put_mono (λd q=>s.mono d _ _ Q Q X X (λb q=>n _ _ (by rw[e];simp) q) (λ_ z=>z) (λ_ z=>z) q) (m a x r ρ e h)
 exact g l [] ρ rfl j
def z58 (I:Pu.Env->Prop)(e:Pu.Env->Nat)(f:I ρ)(h:∀ρ,I ρ->c.run ρ (λd=>tst d (s.run ρ (λa=>I a/\e a < e ρ) Q X) (N ρ)) X):(Sm.wh c s).run ρ N Q X:=by
 have b:∀n ρ,I ρ->e ρ < n->wh c s N Q X n ρ:=by
  intro n
  induction n with
  | zero=>simp_all
  | succ n i=>
   intro ρ g j;exact c.mono ρ _ _ X X (λd q=>z32 (s.mono ρ _ _ Q Q X X (λa q=>i a q.1 (by lia)) (λ_ z=>z) (λ_ z=>z)) (λz=>z) q) (λ_ z=>z) (h ρ g)
 exact⟨e ρ+1,b _ ρ f (jx _)⟩
theorem z1b {α:Type}{f g:α->D}{G:D->(Option D->Prop)->Prop}{M:List D->Prop}:∀{l:List α},(∀x∈l,∀K:Option D->Prop,K (some (g x))->G (f x) K)->M (l.map g)->z3g G (l.map f) M
 | [],_,q=>q
 | x::r,h,q=>h x wq _ (z1b (λy a=>h y (wn _ a)) q)
theorem z2K {α:Type}{f g:α->D}{p:α->Bool}{G:D->(Option D->Prop)->Prop}{M:List D->Prop}:∀{l:List α},(∀x∈l,∀K:Option D->Prop,(p x=true->K (some (g x)))->(p x=false->K none)->G (f x) K)->M ((l.filter p).map g)->z3g G (l.map f) M
 | [],_,q=>q
 | x::r,h,q=>by
  refine h x wq _ (λe =>?_) (λe =>?_)
  .refine z2K (λy a=>h y (wn _ a)) ?_
   simp_all
  .refine z2K (λy a=>h y (wn _ a)) ?_
   simp_all
theorem z4f {α b:Type}{f:α->D}{g:b->D}{P:α->b->Prop}{G:D->(Option D->Prop)->Prop}:∀{l:List α}{M:List D->Prop},(∀x∈l,∀K:Option D->Prop,(∀y,P x y->K (some (g y)))->G (f x) K)->(∀ys:List b,ys.length=l.length->(∀y∈ys,∃x∈l,P x y)->M (ys.map g))->z3g G (l.map f) M
 | [],_,_,q=>q [] rfl (λ_ z=>by simp at z)
 | x::r,M,h,q=>h x wq _ λy e=>z4f (λz a=>h z (wn _ a)) λys d i=>q (y::ys) (by simp[d]) λz a=>by
  rcases wj.mp a with rfl | a
  .exact⟨x,wq,e⟩
  simp_all
def ziu {k:Nat}{a:Ex}{x:D}{K:Option D->Prop}(q:a.run (ρ.set k (.s x)) (λd=>K (some d)) (λ_=>False)):z4g (.nm k) none a ρ x K:=q
def zhi {k:Nat}{a:Ex}{x:D}{K:Option D->Prop}(q:c.run (ρ.set k (.s x)) (λb=>tst b (a.run (ρ.set k (.s x)) (λd=>K (some d)) (λ_=>False)) (K none)) (λ_=>False)):z4g (.nm k) (some c) a ρ x K:=q
variable {m n:Int}
def zie (q:Q (.int (m+n))):pAdd.run [.int m,.int n] Q X:=q
def zi3 (q:Q (.int (m - n))):pSub.run [.int m,.int n] Q X:=q
def zi8 (h:zhw m n)(q:Q (.int (m*n))):z0a.run [.int m,.int n] Q X:=⟨h,q⟩
def zi4 (q:Q (.int (-m))):pNeg.run [.int m] Q X:=q
def zdB (h:0<n)(a:Bt 9000 n)(q:Q (.int (m / n))):z1U.run [.int m,.int n] Q X:=⟨⟨by lia,a⟩,by rw[Int.fdiv_eq_ediv_of_nonneg m (by lia)];exact q⟩
def zgC (h:0<n)(q:Q (.int (m % n))):pMod.run [.int m,.int n] Q X:=⟨by lia,by rw[Int.fmod_eq_emod_of_nonneg m (by lia)];exact q⟩
def zgB (h:CPow m n)(q:Q (.int (m ^ n.toNat))):pPow.run [.int m,.int n] Q X:=⟨h,q⟩
def o_lt (q:Q (.bl (decide (m<n)))):pLt.run [.int m,.int n] Q X:=q
def o_le (q:Q (.bl (decide (m<=n)))):pLe.run [.int m,.int n] Q X:=q
def o_gt (q:Q (.bl (decide (n<m)))):pGt.run [.int m,.int n] Q X:=q
def o_eq (q:Q (.bl (decide (m=n)))):pEq.run [.int m,.int n] Q X:=q
def o_ne (q:Q (.bl (!decide (m=n)))):pNe.run [.int m,.int n] Q X:=q
def zeD {l r:List D}(a:Da 60 (.tup l))(b:Da 60 (.tup r))(q:Q (.bl (deq (.tup l) (.tup r)))):pEq.run [.tup l,.tup r] Q X:=⟨a,b,q⟩
def zi5 {l r:List D}(a:Da 60 (.tup l))(b:Da 60 (.tup r))(q:Q (.bl (!deq (.tup l) (.tup r)))):pNe.run [.tup l,.tup r] Q X:=⟨a,b,q⟩
def o_is (q:Q (.bl (isN d))):pIs.run [d,.non] Q X:=q
def zeB (q:Q (.bl (!isN d))):z7l.run [d,.non] Q X:=q
def zgG {l:List D}(q:Q (.int l.length)):pLen.run [.lst l] Q X:=q
def zgF {l:List D}(q:Q (.int l.length)):pLen.run [.tup l] Q X:=q
def zib {l:List D}(q:onV (atI l m) Q):pIx.run [.lst l,.int m] Q X:=q
def zia {l:List D}(q:onV (atI l m) Q):pIx.run [.tup l,.int m] Q X:=q
def zi1 {ds:List D}(h:ds.length<=sizeLine)(q:Q (.tup ds)):pTup.run ds Q X:=⟨h,q⟩
def zi9 {ds:List D}(h:ds.length<=sizeLine)(q:Q (.lst ds)):pLst.run ds Q X:=⟨h,q⟩
def zgA {l:List D}(q:Q (.tup l)):z12.run [.lst l] Q X:=q
def zif (q:Q (.int (if m<0 then -m else m))):pAbs.run [.int m] Q X:=q
def zgI {T:String}(q:Q (.bl (T == "int"))):(pIsi T).run [.int m] Q X:=q
def zgH {T:String}{l:List D}(q:Q (.bl (T == "tuple"))):(pIsi T).run [.tup l] Q X:=q
def zgE {ns:List Int}(a:ns≠[])(q:∀k,k∈ns->(∀x∈ns,x<=k)->Q (.int k)):zez.run [.lst (ns.map D.int)] Q X:=by
 show onI _ _;rw[z9c];exact⟨a,q⟩
def zgD (q:Q (.int (if n<m then n else m))):z9O.run [.int m,.int n] Q X:=q
def zi2 {ns:List Int}(q:Q (.int ns.sum)):pSum.run [.lst (ns.map D.int)] Q X:=by
 show onI _ _;rw[z9c];f_int
def zbd {l r:List D}(h:l.length+r.length<=sizeLine)(q:Q (.lst (l++r))):pAdd.run [.lst l,.lst r] Q X:=⟨h,q⟩
def z92 {l r:List D}(h:l.length+r.length<=sizeLine)(q:Q (.tup (l++r))):pAdd.run [.tup l,.tup r] Q X:=⟨h,q⟩
end
theorem Safe.of_noL {d:D}(a:noL d=true)(b:noD d=true):∀e:Pu.Env,Safe d e
 | []=>trivial
 | .n::r=>⟨trivial,Safe.of_noL a b r⟩
 | .s _::r=>⟨trivial,Safe.of_noL a b r⟩
 | .o x::r=>⟨by cases x <;> first | exact a | exact b | trivial,Safe.of_noL a b r⟩
def z0q {a:Pu.Env}{i:Nat}{l:List D}{K:List D->Prop}(h:a[i]? = some (B.o (.lst l)))(q:K l):ownL a i K:=by unfold ownL;rw[h];exact q
def z8U {k:Int}{K:List D->Prop}(h : -(2 ^ 62)<=k)(h':k<2 ^ 62)(q:K ((List.range k.toNat).map λ(j:Nat)=>D.int j)):onR [.int k] K:=⟨⟨h,h'⟩,q⟩
def z1e {l:List D}{k:Int}{d:D}{Q:DK}(e:atI l k=some d)(q:Q d):onV (atI l k) Q:=by rw[e];exact q
abbrev vec (p:Int × Int):D :=.tup [.int p.1,.int p.2]
theorem z37:∀{l:List D},(∀d∈l,noL d=true)->noLs l=true
 | [],_=>rfl
 | d::r,h=>by rw[noLs,h d wq,z37 λx a=>h x (wn _ a)];rfl
theorem z38:∀{l:List D},(∀d∈l,noD d=true)->noDs l=true
 | [],_=>rfl
 | d::r,h=>by rw[noDs,h d wq,z38 λx a=>h x (wn _ a)];rfl
abbrev vecs (l:List (Int × Int)):D :=.tup (l.map vec)
def z14 (l:List (Int × Int)):noL (vecs l)=true:=by
 refine z37 λd a =>?_;obtain⟨p,_,rfl⟩:=we.mp a
 rfl
def z15 (l:List (Int × Int)):noD (vecs l)=true:=by
 refine z38 λd a =>?_;obtain⟨p,_,rfl⟩:=we.mp a
 rfl
def z0P {α:Type}{f:α->D}{l:List α}{k:Int}{x:α}(h:atI l k=some x):atI (l.map f) k=some (f x):=by
 unfold atI at h ⊢
 cases q:ixN l.length k with
 | none=>simp_all
 | some j=>
  simp_all
def menu {ns:List Int}{k:Int}{Q:DK}(a:0<=k)(b:k<ns.length)(q:∀v∈ns,Q (.int v)):onV (atI (ns.map D.int) k) Q:=by
 obtain⟨v,d,e⟩:=z4j a b;rw[z0P e];exact q v d
def z3e {α:Type}(f:α->D)(l:List α)(lo a:Option Int):cutD (l.map f) lo a=((l.drop (HT.sIx l.length 0 lo)).take (HT.sIx l.length l.length a - HT.sIx l.length 0 lo)).map f:=by
 unfold cutD
 simp_all
def z3J (p r:Int × Int):deq (vec p) (vec r)=decide (p=r):=by
 obtain⟨a,b⟩:=p;obtain⟨c,d⟩:=r;show PyData.eqv (.tuple [.int a,.int b]) (.tuple [.int c,.int d])=decide _;rw[eqv2,decide_eq_decide,Prod.mk.injEq]
theorem Da.vec (p:Int × Int){n:Nat}:Da (n+1) (vec p):=Da.tup.mpr λd a=>by
 simp[wj,wF,vS] at a
 rcases a with rfl | rfl <;> exact Da.int
end Pu
namespace Tim
open PySem PyProof.Rows PySem.W HT
theorem z5p:∀k:List Int,z0B k k=false
 | []=>rfl
 | x::a=>by rw[z0G,if_pos rfl];exact z5p a
theorem z97:∀{a b c:List Int},z0B a b=true->z0B b c=true->z0B a c=true
 | [],[],_,h,_=>by cases h
 | [],_::_,[],_,k=>by cases k
 | [],_::_,_::_,_,_=>rfl
 | _::_,[],_,h,_=>by cases h
 | _::_,_::_,[],_,k=>by cases k
 | x::f,y::g,z::i,h,k=>by
  rw[z0G] at h k ⊢
  by_cases e:x=y
  .subst e
   by_cases d:x=z
   .subst d;rw[if_pos rfl] at h k ⊢;exact z97 h k
   .rw[if_neg d] at k ⊢;exact k
  grind
theorem z8m:∀(a b:List Int),z0B a b=false->z0B b a=false->a=b
 | [],[],_,_=>rfl
 | [],_::_,h,_=>by cases h
 | _::_,[],_,k=>by cases k
 | x::d,y::f,h,k=>by
  rw[z0G] at h k
  by_cases e:x=y
  .subst e;rw[if_pos rfl] at h k;rw[z8m d f h k]
  grind
end Tim
namespace Pu
open PySem PySem.Spec PyProof.Rows L2
abbrev tupD (k:List Int):D :=.tup (k.map .int)
structure Rows (ks kl:List (List Int)):Prop where
 up:kl.Pairwise (λa b=>HT.z0B a b=true)
 mem:∀x,x∈kl↔x∈ks
def zaz (d:D)(P:List (List Int)->Prop):Prop:=match d with
 | .lst l=>∃a,l=a.map tupD/\l.length<=2040/\P a
 | .tup l=>∃a,l=a.map tupD/\l.length<=2040/\P a
 | _=>False
def z9E {d:D}{P P':List (List Int)->Prop}(m:∀k,P k->P' k)(h:zaz d P):zaz d P':=by
 cases d with
 | lst l=>obtain⟨e,a,b,c⟩:=h;exact⟨e,a,b,m _ c⟩
 | tup l=>obtain⟨e,a,b,c⟩:=h;exact⟨e,a,b,m _ c⟩
 | _=>exact h.elim
def z9e (d:D)(Q:DK):Prop:=zaz d λb=>(∀k∈b,k≠[])/\∀a,Rows b a->Q (.lst (a.map tupD))
def z8W:Fn:=fn1 z9e λd Q b m h=>z9E (λe q=>⟨q.1,λa z=>m _ (q.2 a z)⟩) h
section
def zdq {d:List (List Int)}(f:d.Nodup)(h:d.Pairwise (λa b=>HT.z0B b a=false)):d.Pairwise (λa b=>HT.z0B a b=true):=by
 induction d with
 | nil=>exact .nil
 | cons a l i=>
  rw[w9] at h ⊢;rw[vP] at f;refine⟨λb g =>?_,i f.2 h.2⟩
  cases z:HT.z0B a b with
  | true=>rfl
  | false=>
   have e  := Tim.z8m a b z (h.1 b g)
   simp_all
theorem z2b {α:Type}[DecidableEq α]:∀{l m:List α},l.Nodup->(∀x∈l,x∈m)->l.length<=m.length
 | [],_,_,_=>vj _
 | a::l,m,b,h=>by
  rw[vP] at b;have f:=h a wq;have:=z2b b.2 λx d=>(List.mem_erase_of_ne (λ(e:x=a)=>b.1 (by simp_all))).mpr (h x (wn _ d))
  grind
end
def Ex.callv (T:Nat->Fn)(i:Nat)(es:List Ex):Ex:=⟨λb Q a=>∃n,b.get i=some (.fn n)/\runs es b (λd=>(T n).run d Q a) a,λb Q h a f m g ⟨n,e,q⟩=>⟨n,e,z3n es b _ _ a f (λd j=>(T n).mono d Q h a f m g j) g q⟩⟩
section
def z9f (d:D)(Q:DK):Prop:=isLs d λl=>Q (.lst l.reverse)
def z2N:Fn:=fn1 z9f λd Q a m h=>z7z (λl q=>m _ q) h
def zbr {d:D}{P:List D->Prop}(h:isLs d P):∃l,d = .lst l/\P l:=by
 cases d with
 | lst l=>exact⟨l,rfl,h⟩
 | _=>exact h.elim
end
end Pu
namespace Pu
open PySem L2
def Fn.bot:Fn:=⟨λ_ _ _=>False,λ_ _ _ _ _ _ _ h=>h⟩
open PySem.Spec PyProof.Rows
def gAll (d:D)(Q:DK):Prop:=∃a:List Bool,d = .lst (a.map .bl)/\Q (.bl (a.all id))
def pAll:Fn:=fn1 gAll λd Q b m h=>by
 obtain⟨a,e,q⟩:=h;exact⟨a,e,m _ q⟩
def zid {a:List Bool}{Q:DK}{X:XP}(q:Q (.bl (a.all id))):pAll.run [.lst (a.map .bl)] Q X:=⟨a,rfl,q⟩
abbrev pdD (x:Int × D):D :=.tup [.int x.1,x.2]
def zh8 (d:D)(Q:DK):Prop:=∃rs,d = .lst (rs.map pdD)/\(rs.map (·.1)).Nodup/\rs.length<=63/\∀e:List (Int × D),e.Perm rs->e.Pairwise (λa b=>a.1<b.1)->Q (.lst (e.map pdD))
def zdz:Fn:=fn1 zh8 λd Q k m h=>by
 obtain⟨j,e,f,g,q⟩:=h;exact⟨j,e,f,g,λi a b=>m _ (q i a b)⟩
def Sm.never:Sm:=⟨λ_ _ _ _=>False,λ_ _ _ _ _ _ _ _ _ _ q=>q⟩
section
def z65 (b a:D)(Q:DK):Prop:=match b with
 | .tup l=>Da 60 a/\(∀d∈l,Da 60 d)/\(∃d∈l,deq d a=true)/\∀(i:Nat) d,l[i]? = some d->deq d a=true->(∀j e,j<i->l[j]? = some e->deq e a=false)->Q (.int i)
 | _=>False
def z8p (a b:D)(Q Q':DK)(m:∀d,Q d->Q' d)(h:z65 a b Q):z65 a b Q':=by
 unfold z65 at h ⊢
 split at h
 .exact⟨h.1,h.2.1,h.2.2.1,λi d e f g=>m _ (h.2.2.2 i d e f g)⟩
 omega
def zb4:Fn:=fn2 z65 z8p
end
section
def zil (d:D)(Q:DK):Prop:=∃a,d = .tup (a.map .int)/\a≠[]/\∀m,m∈a->(∀x∈a,m<=x)->Q (.int m)
def zgk:Fn:=fn1 zil λd Q i m ⟨h,e,f,g⟩=>⟨h,e,f,λk a b=>m _ (g k a b)⟩
def zik (d:D)(Q:DK):Prop:=∃a:List Int,d = .tup (a.map .int)/\Q (.int a.sum)
def zgj:Fn:=fn1 zik λd Q b m ⟨a,e,h⟩=>⟨a,e,m _ h⟩
end
def LxG (p q:Int × Int):Prop:=q.1<p.1\/p.1=q.1/\q.2<=p.2
def zim (d:D)(Q:DK):Prop:=∃ps,d = .lst (ps.map vec)/\ps≠[]/\ps.length<=1000/\∀m∈ps,(∀x∈ps,LxG m x)->Q (vec m)
def zgl:Fn:=fn1 zim λd Q i m ⟨ps,e,f,g,h⟩=>⟨ps,e,f,g,λk a b=>m _ (h k a b)⟩
def z9h (d:D)(Q:DK):Prop:=∃ps,d = .lst (ps.map vec)/\ps≠[]/\ps.length<=1000/\∀(i:Nat) m,ps[i]? = some m->(∀x∈ps,LxG m x)->Q (.int i)
def z8X:Fn:=fn1 z9h λd Q j m ⟨ps,e,f,g,h⟩=>⟨ps,e,f,g,λi k a b=>m _ (h i k a b)⟩
end Pu
namespace Pu
open L2
def kD:Key->D
 | .inl i =>.int i
 | .inr x =>.str x
open PySem PySem.Spec PyProof.Rows
def dk (kvs:List (Key × D)):D :=.dct (kvs.map λp=>kD p.1) (kvs.map (·.2))
def valD (kvs:List (Key × D))(k:Key):Option D:=(kvs.find? λp=>decide (p.1=k)).map (·.2)
def putD (kvs:List (Key × D))(k:Key)(d:D):List (Key × D):=if (kvs.any λp=>decide (p.1=k))=true then kvs.map (λp=>if p.1=k then (p.1,d) else p) else kvs++[(k,d)]
def ownD (b:Env)(i:Nat)(P:List (Key × D)->Prop):Prop:=∃a,b[i]? = some (.o (dk a))/\P a
def Sm.dput (i:Nat)(k e:Ex):Sm:=⟨λf N _ X=>ownD f i λa=>e.run f (λd=>Safe d f/\k.run f (λb=>∃j,b=kD j/\a.length<sizeLine/\N (f.set i (.o (dk (putD a j d))))) X) X,λf N s Q t X g r m l ⟨a,h,q⟩=>⟨a,h,e.mono f _ _ X g (λd q=>⟨q.1,k.mono f _ _ X g (λb ⟨j,n,p,q⟩=>⟨j,n,p,r _ q⟩) l q.2⟩) l q⟩⟩
def zgm:Fn:=⟨λ_ Q _=>Q (dk []),λ_ Q a X b m _ q=>m _ q⟩
def Ex.dget2 (x k e:Ex):Ex:=⟨λf Q X=>x.run f (λa=>∃d,a=dk d/\k.run f (λb=>∃j,b=kD j/\e.run f (λc=>Q ((valD d j).getD c)) X) X) X,λf Q l X g m i q=>x.mono f _ _ X g (λa ⟨d,h,q⟩=>⟨d,h,k.mono f _ _ X g (λb ⟨j,h,q⟩=>⟨j,h,e.mono f _ _ X g (λc q=>m _ q) i q⟩) i q⟩) i q⟩
abbrev dkI (rs:List (Int × D)):D:=dk (rs.map λr=>(Sum.inl r.1,r.2))
def zbB (d:D)(Q:DK):Prop:=∃rs,d=dkI rs/\(rs.map (·.1)).Nodup/\rs.length<=63/\∀e:List (Int × D),e.Perm rs->e.Pairwise (λa b=>a.1<b.1)->Q (.lst (e.map pdD))
def z61:Fn:=fn1 zbB λd Q i m ⟨rs,e,f,g,q⟩=>⟨rs,e,f,g,λh a b=>m _ (q h a b)⟩
def gZip (a b:D)(Q:DK):Prop:=match a,b with
 | .tup l,.tup m=>Q (.lst ((l.zip m).map λp =>.tup [p.1,p.2]))
 | _,_=>False
def zbz (a b:D)(Q Q':DK)(m:∀d,Q d->Q' d)(h:gZip a b Q):gZip a b Q':=by
 unfold gZip at h ⊢
 split at h
 .cb_eq
 omega
def z9N:Fn:=fn2 gZip zbz
open PySem
def z09:Fn:=Fn.mkN 2 5 (.seq (.set 2 (.op pAbs [.v 0]))
 (.seq (.set 3 (.op pAbs [.v 1]))
 (.seq (.wh (.op pNe [.v 3,.c (.int 0)]) (.seq (.set 4 (.op pMod [.v 2,.v 3]))
 (.seq (.set 2 (.v 3))
 (.set 3 (.v 4)))))
 (.ret (.v 2)))))
def z1s:Fn:=Fn.mkN 2 2 (.ret (.op pSub [.op z0a [.op pIx [.v 0,.c (.int 0)],.op pIx [.v 1,.c (.int 1)]],.op z0a [.op pIx [.v 0,.c (.int 1)],.op pIx [.v 1,.c (.int 0)]]]))
def z0v:Fn:=Fn.mkN 2 2 (.ret (.op pTup [.op pSub [.op pIx [.v 1,.c (.int 0)],.op pIx [.v 0,.c (.int 0)]],.op pSub [.op pIx [.v 1,.c (.int 1)],.op pIx [.v 0,.c (.int 1)]]]))
def z3t:Fn:=Fn.mkN 3 3 (.ret (.op z1s [.op z0v [.v 0,.v 1],.op z0v [.v 1,.v 2]]))
def z7E:Fn:=Fn.mkN 3 5 (.seq (.set 3 (.op pSub [.op z0a [.op pIx [.v 1,.c (.int 0)],.op pIx [.v 2,.c (.int 2)]],.op z0a [.op pIx [.v 2,.c (.int 0)],.op pIx [.v 1,.c (.int 2)]]]))
 (.seq (.set 4 (.op pSub [.op z0a [.op pIx [.v 1,.c (.int 1)],.op pIx [.v 2,.c (.int 2)]],.op z0a [.op pIx [.v 2,.c (.int 1)],.op pIx [.v 1,.c (.int 2)]]]))
 (.ret (.op pAdd [.op pSub [.op z0a [.op pIx [.v 0,.c (.int 0)],.v 4],.op z0a [.op pIx [.v 0,.c (.int 1)],.v 3]],.op z0a [.op pIx [.v 0,.c (.int 2)],.op pSub [.op z0a [.op pIx [.v 1,.c (.int 0)],.op pIx [.v 2,.c (.int 1)]],.op z0a [.op pIx [.v 1,.c (.int 1)],.op pIx [.v 2,.c (.int 0)]]]]]))))
def z7F:Fn:=Fn.mkN 2 5 (.seq (.set 2 (.op pSub [.op z0a [.op pIx [.v 1,.c (.int 0)],.op pIx [.v 0,.c (.int 2)]],.op z0a [.op pIx [.v 0,.c (.int 0)],.op pIx [.v 1,.c (.int 2)]]]))
 (.seq (.set 3 (.op pSub [.op z0a [.op pIx [.v 1,.c (.int 1)],.op pIx [.v 0,.c (.int 2)]],.op z0a [.op pIx [.v 0,.c (.int 1)],.op pIx [.v 1,.c (.int 2)]]]))
 (.seq (.set 4 (.op z09 [.v 2,.v 3]))
 (.ret (.op pTup [.op z1U [.v 2,.v 4],.op z1U [.v 3,.v 4]])))))
def z8q:Nat->Fn
 | 0=>z3t
 | 1=>z7E
 | 2=>z0v
 | 3=>z7F
 | _=>⟨λ_ _ _=>False,λ_ _ _ _ _ _ _ z=>z⟩
def z30:Fn:=Fn.mkN 2 4 (.seq (.own 2 (.op pLst []))
 (.seq (.for_ [] (.nm 3) (.v 0) (.seq (.wh (.and (.op pGt [.op pLen [.v 2],.c (.int 1)]) (.op pLe [.callv z8q 1 [.op pIx [.v 2,.op pNeg [.c (.int 2)]],.op pIx [.v 2,.op pNeg [.c (.int 1)]],.v 3],.c (.int 0)])) (.pop 2))
 (.app 2 (.v 3))))
 (.ret (.v 2))))
def z2j:Fn:=Fn.mkN 2 4 (.seq (.ifs (.op pLt [.op pLen [.v 0],.c (.int 2)]) (.ret (.op z12 [.v 0])) .skip)
 (.seq (.set 2 (.op z30 [.v 0,.v 1]))
 (.seq (.set 3 (.op z30 [.op z2N [.v 0],.v 1]))
 (.ret (.op z12 [.op pAdd [.sl (.v 2) none (some (.op pNeg [.c (.int 1)])),.sl (.v 3) none (some (.op pNeg [.c (.int 1)]))]])))))
def z07:Fn:=Fn.mkN 1 1 (.ret (.op z2j [.op z8W [.v 0],.c (.fn 0)]))
def z17:Fn:=Fn.mkN 2 2 (.ret (.op pAdd [.op z0a [.op pIx [.v 0,.c (.int 0)],.op pIx [.v 1,.c (.int 0)]],.op z0a [.op pIx [.v 0,.c (.int 1)],.op pIx [.v 1,.c (.int 1)]]]))
def z2n:Fn:=Fn.mkN 2 2 (.ret (.op zez [.comp 1 [1] (.nm 0) (.v 0) none (.op z17 [.v 0,.v 1])]))
def z0f:Fn:=Fn.mkN 2 2 (.seq (.ifs (.op pLt [.v 1,.op pLen [.v 0]]) (.ret (.op pIx [.v 0,.v 1])) .skip)
 (.ret (.c (.int 0))))
def z0M:Fn:=Fn.mkN 2 2 (.ret (.op pTup [.op pAdd [.op pIx [.v 0,.c (.int 0)],.op pIx [.v 1,.c (.int 0)]],.op pAdd [.op pIx [.v 0,.c (.int 1)],.op pIx [.v 1,.c (.int 1)]]]))
def z1C:Fn:=Fn.mkN 1 1 (.ret (.op z07 [.comp 1 [0] (.nm 0) (.op pIx [.v 0,.c (.int 0)]) none (.op z0M [.v 0,.op pIx [.v 1,.c (.int 1)]])]))
def z4H:Fn:=Fn.mkN 2 7 (.seq (.set 2 (.op z09 [.op pIx [.v 0,.c (.int 1)],.op pIx [.v 1,.c (.int 1)]]))
 (.seq (.set 3 (.op z1U [.op pIx [.v 1,.c (.int 1)],.v 2]))
 (.seq (.set 4 (.op z1U [.op pIx [.v 0,.c (.int 1)],.v 2]))
 (.seq (.set 5 (.op pAdd [.op z0a [.op pIx [.v 0,.c (.int 0)],.v 3],.op z0a [.op pIx [.v 1,.c (.int 0)],.v 4]]))
 (.seq (.set 6 (.op z09 [.v 2,.v 5]))
 (.ret (.op pTup [.op z1U [.v 5,.v 6],.op z0a [.v 4,.op z1U [.op pIx [.v 1,.c (.int 1)],.v 6]]])))))))
def z20:Fn:=Fn.mkN 3 4 (.seq (.set 3 (.op z09 [.op z09 [.v 2,.v 0],.v 1]))
 (.ret (.op pTup [.op z1U [.v 0,.v 3],.op z1U [.v 1,.v 3],.op z1U [.v 2,.v 3]])))
def z2g:Fn:=Fn.mkN 2 2 (.ret (.op z20 [.op z0a [.op pIx [.v 0,.c (.int 0)],.op pIx [.v 1,.c (.int 0)]],.op z0a [.op pIx [.v 0,.c (.int 1)],.op pIx [.v 1,.c (.int 0)]],.op z0a [.op pIx [.v 0,.c (.int 2)],.op pIx [.v 1,.c (.int 1)]]]))
def z0c:Fn:=Fn.mkN 2 3 (.seq (.set 2 (.op pAdd [.op z0a [.c (.int 2),.v 1],.c (.int 1)]))
 (.ret (.op pTup [.op pSub [.op pMod [.v 0,.v 2],.v 1],.op pSub [.op pMod [.op z1U [.v 0,.v 2],.v 2],.v 1]])))
def z0r:Fn:=Fn.mkN 1 7 (.seq (.set 1 (.op pIx [.op pLst [.c (.int 3),.c (.int 12),.op pPow [.c (.int 10),.c (.int 9)]],.op pMod [.op z1U [.op pIx [.v 0,.c (.int 0)],.c (.int 2)],.c (.int 3)]]))
 (.seq (.own 2 (.op pLst []))
 (.seq (.set 3 (.c (.int 1)))
 (.seq (.wh (.and (.op pLt [.v 3,.op z9O [.op pLen [.v 0],.c (.int 61)]]) (.op pLt [.op pLen [.v 2],.c (.int 12)])) (.seq (.set 4 (.op pAdd [.c (.int 1),.op pMod [.op pIx [.v 0,.v 3],.c (.int 12)]]))
 (.seq (.set 5 (.op z1U [.op pIx [.v 0,.v 3],.c (.int 12)]))
 (.seq (.own 6 (.op pLst [.op z0c [.v 5,.v 1]]))
 (.seq (.ext 6 (.comp 1 [1] (.nm 0) (.sl (.v 0) (some (.op pAdd [.v 3,.c (.int 1)])) (some (.op z9O [.op pAdd [.v 3,.v 4],.c (.int 61)]))) none (.op z0c [.v 0,.v 1])))
 (.seq (.app 2 (.op pTup [.op z12 [.v 6],.op z0c [.op z1U [.v 5,.op pPow [.op pAdd [.op z0a [.c (.int 2),.v 1],.c (.int 1)],.c (.int 2)]],.v 1]]))
 (.set 3 (.op pAdd [.v 3,.v 4]))))))))
 (.ret (.op z12 [.v 2]))))))
def z00:Fn:=Fn.mkN 3 5 (.seq (.set 3 (.c (.int 170141183460469231731687303715884105727)))
 (.seq (.set 4 (.op pMod [.op z0a [.op pAdd [.op pMod [.v 0,.v 3],.op z0a [.op pAdd [.v 1,.c (.int 3)],.c (.int 1000000007)]],.c (.int 105172331949523456789012345678901234567)],.v 3]))
 (.seq (.set 4 (.op pMod [.op z0a [.v 4,.v 4],.v 3]))
 (.ret (.op pMod [.op z1U [.op pMod [.op z0a [.op pAdd [.v 4,.v 1],.c (.int 83492791123456789012345678901234567891)],.v 3],.c (.int 7)],.v 2])))))
def z0J:Fn:=Fn.mkN 3 4 (.seq (.ifs (.op z7l [.v 2,.c .non]) (.seq (.set 3 (.op pSub [.op z00 [.v 0,.c (.int 2),.c (.int 7)],.c (.int 3)]))
 (.ret (.op pTup [.op z0a [.op pIx [.v 2,.c (.int 0)],.v 3],.op z0a [.op pIx [.v 2,.c (.int 1)],.v 3]]))) .skip)
 (.ret (.op pTup [.op pSub [.op z00 [.v 0,.c (.int 2),.op pAdd [.op z0a [.c (.int 2),.v 1],.c (.int 1)]],.v 1],.op pSub [.op z00 [.v 0,.c (.int 3),.op pAdd [.op z0a [.c (.int 2),.v 1],.c (.int 1)]],.v 1]])))
def z16:Fn:=Fn.mkN 1 10 (.seq (.set 1 (.op z0f [.v 0,.c (.int 0)]))
 (.seq (.ifs (.op pEq [.op pMod [.v 1,.c (.int 2)],.c (.int 1)]) (.ret (.op z0r [.v 0])) .skip)
 (.seq (.set 2 (.op pIx [.op pLst [.c (.int 3),.c (.int 3),.c (.int 12),.op pPow [.c (.int 10),.c (.int 9)]],.op z00 [.v 1,.c (.int 1),.c (.int 4)]]))
 (.seq (.set 3 (.c .non))
 (.seq (.ifs (.op pEq [.op z00 [.v 1,.c (.int 4),.c (.int 5)],.c (.int 0)]) (.set 3 (.op pTup [.op pSub [.op z00 [.v 1,.c (.int 5),.c (.int 7)],.c (.int 3)],.op pSub [.op z00 [.v 1,.c (.int 6),.c (.int 7)],.c (.int 3)]])) .skip)
 (.seq (.set 4 (.op pIx [.op pLst [.c (.int 3),.c (.int 3),.c (.int 5),.c (.int 12)],.op z00 [.v 1,.c (.int 8),.c (.int 4)]]))
 (.seq (.own 5 (.op pLst []))
 (.seq (.set 6 (.c (.int 1)))
 (.seq (.wh (.and (.op pLt [.v 6,.op z9O [.op pLen [.v 0],.c (.int 61)]]) (.op pLt [.op pLen [.v 5],.c (.int 12)])) (.seq (.set 7 (.op pAdd [.c (.int 1),.op z00 [.op pIx [.v 0,.v 6],.c (.int 7),.v 4]]))
 (.seq (.own 8 (.comp 1 [2,3] (.nm 0) (.sl (.v 0) (some (.v 6)) (some (.op z9O [.op pAdd [.v 6,.v 7],.c (.int 61)]))) none (.op z0J [.v 0,.v 1,.v 2])))
 (.seq (.set 9 (.op pTup [.c (.int 0),.c (.int 0)]))
 (.seq (.ifs (.op pEq [.op z00 [.op pIx [.v 0,.v 6],.c (.int 9),.c (.int 2)],.c (.int 1)]) (.set 9 (.op z0J [.op pAdd [.op pIx [.v 0,.v 6],.c (.int 1)],.v 2,.v 3])) .skip)
 (.seq (.app 5 (.op pTup [.op z12 [.v 8],.v 9]))
 (.set 6 (.op pAdd [.v 6,.v 7]))))))))
 (.ret (.op z12 [.v 5])))))))))))
def z2J:Fn:=Fn.mkN 2 4 (.seq (.set 2 (.op pGt [.v 0,.op pTup [.c (.int 0),.c (.int 0)]]))
 (.seq (.set 3 (.op pGt [.v 1,.op pTup [.c (.int 0),.c (.int 0)]]))
 (.seq (.ifs (.op pNe [.v 2,.v 3]) (.ret (.v 2)) .skip)
 (.ret (.op pGt [.op z1s [.v 0,.v 1],.c (.int 0)])))))
def z1Z:Fn:=Fn.mkN 2 5 (.seq (.own 2 (.op pLst []))
 (.seq (.set 3 (.c (.int 0)))
 (.seq (.for_ [] (.nm 4) (.v 1) (.seq (.wh (.and (.op pLt [.v 3,.op pLen [.v 0]]) (.op z2J [.op pIx [.v 0,.v 3],.v 4])) (.seq (.app 2 (.op pIx [.v 0,.v 3]))
 (.set 3 (.op pAdd [.v 3,.c (.int 1)]))))
 (.app 2 (.v 4))))
 (.ret (.op pAdd [.v 2,.sl (.v 0) (some (.v 3)) none])))))
def z1N:Fn:=Fn.mkN 2 3 (.seq (.ifs (.op pEq [.op pLen [.v 0],.c (.int 1)]) (.ret (.op pLst [])) .skip)
 (.seq (.set 2 (.op pAdd [.sl (.v 0) (some (.c (.int 1))) none,.sl (.v 0) none (some (.c (.int 1)))]))
 (.ret (.comp 2 [1] (.tp [0,1]) (.op z9N [.v 0,.v 2]) none (.callv z8q 2 [.v 0,.v 1])))))
def z2H:Fn:=Fn.mkN 2 7 (.seq (.set 2 (.op z07 [.v 0]))
 (.seq (.set 3 (.op z07 [.v 1]))
 (.seq (.set 4 (.op z0M [.op pIx [.v 2,.c (.int 0)],.op pIx [.v 3,.c (.int 0)]]))
 (.seq (.own 5 (.op pLst [.v 4]))
 (.seq (.for_ [] (.nm 6) (.op z1Z [.op z1N [.v 2,.c (.fn 2)],.op z1N [.v 3,.c (.fn 2)]]) (.seq (.set 4 (.op z0M [.v 4,.v 6]))
 (.app 5 (.v 4))))
 (.ret (.op z07 [.v 5])))))))
def z2G:Fn:=Fn.mkN 1 3 (.seq (.set 1 (.op pTup [.op pTup [.c (.int 0),.c (.int 0)]]))
 (.seq (.for_ [] (.nm 2) (.v 0) (.set 1 (.op z2H [.v 1,.v 2])))
 (.ret (.v 1))))
def z2Z:Fn:=Fn.mkN 1 1 (.ret (.op z2G [.comp 1 [] (.nm 0) (.v 0) none (.op z1C [.v 0])]))
def z01:Nat->Fn
 | 0=>Fn.bot
 | n+1=>Fn.mkN 2 2 (.seq (.ifs (.op (pIsi "tuple") [(.v 1)]) (.seq (.ifs (.or (.not (.op (pIsi "tuple") [(.v 0)])) (.op pNe [(.op pLen [(.v 0)]),(.op pLen [(.v 1)])])) (.ret (.c (.bl false))) .skip)
 (.ret (.op pAll [(.comp 1 [0,1] (.nm 0) (.op z5i [(.op pLen [(.v 1)])]) none (.op (z01 n) [(.op pIx [(.v 1),(.v 0)]),(.op pIx [(.v 2),(.v 0)])]))]))) .skip)
 (.seq (.ifs (.op pIs [(.v 1),(.c .non)]) (.ret (.op pIs [(.v 0),(.c .non)])) .skip)
 (.seq (.ifs (.op (pIsi "str") [(.v 1)]) (.ret (.and (.op (pIsi "str") [(.v 0)]) (.op pEq [(.v 0),(.v 1)]))) .skip)
 (.seq (.ifs (.op (pIsi "bool") [(.v 1)]) (.ret (.and (.op (pIsi "bool") [(.v 0)]) (.op pEq [(.v 0),(.v 1)]))) .skip)
 (.ret (.and (.op (pIsi "int") [(.v 0)]) (.and (.not (.op (pIsi "bool") [(.v 0)])) (.op pEq [(.v 0),(.v 1)]))))))))
def z0m:Fn:=z01 4
def z39:D :=.tup [.tup [.int (1),.int (0)],.tup [.int (0),.int (1)],.tup [.int (-1),.int (0)],.tup [.int (0),.int (-1)]]
def z2m:Fn:=Fn.mkN 1 1 (.ret (.op pTup [.op pIx [.v 0,.c (.int 1)],.op pNeg [.op pIx [.v 0,.c (.int 0)]]]))
def z1w:Fn:=Fn.mkN 2 6 (.seq (.ifs (.op pEq [.op pLen [.v 0],.c (.int 1)]) (.ret (.comp 1 [0] (.nm 0) (.c z39) none (.op pTup [.v 0,.op pIx [.v 1,.c (.int 0)]]))) .skip)
 (.seq (.own 2 (.op pLst []))
 (.seq (.forr [.op pLen [.v 0]] (.nm 3) (.seq (.set 4 (.op pIx [.v 0,.v 3]))
 (.seq (.set 5 (.callv z8q 1 [.op pIx [.v 0,.op pSub [.v 3,.c (.int 1)]],.v 4]))
 (.seq (.app 2 (.op pTup [.op z2m [.v 5],.v 4]))
 (.ifs (.op pEq [.op pLen [.v 0],.c (.int 2)]) (.app 2 (.op pTup [.v 5,.v 4])) .skip)))))
 (.ret (.v 2)))))
def z1W:Fn:=Fn.mkN 1 2 (.seq (.set 1 (.op z1w [.op z07 [.v 0],.c (.fn 2)]))
 (.ret (.op z12 [.comp 2 [] (.tp [0,1]) (.v 1) none (.op pTup [.v 0,.op z17 [.v 0,.v 1]])])))
end Pu
namespace Geo
abbrev P:=Int × Int
def cr (a b c:P):Int:=(b.1 - a.1)*(c.2 - a.2) - (b.2 - a.2)*(c.1 - a.1)
def Lx (a b:P):Prop:=a.1<b.1\/(a.1=b.1/\a.2<b.2)
instance (a b:P):Decidable (Lx a b):=inferInstanceAs (Decidable (_\/_))
def Lx.irr {a:P}:¬ Lx a a:=by unfold Lx;lia
def Lx.tr {a b c:P}(h:Lx a b)(q:Lx b c):Lx a c:=by unfold Lx at *;lia
def Lx.asym {a b:P}(h:Lx a b):¬ Lx b a:=by unfold Lx at *;lia
def Lx.tri (a b:P):Lx a b\/a=b\/Lx b a:=by
 k_accS;k_keys;unfold Lx;simp only[Prod.mk.injEq];lia
def Lx.ne {a b:P}(h:Lx a b):a≠b:=λz=>by subst z;exact Lx.irr h
def z7t {a b:P}(d:¬ Lx a b)(e:¬ Lx b a):a=b:=by
 rcases Lx.tri a b with h | h | h
 .exact absurd h d
 .exact h
 .exact absurd h e
def z3S {k m:Int}(h:0<k)(q:0<=m*k):0<=m:=by
 rcases(show m<0\/0<=m by lia) with z | z
 .have:=Int.mul_neg_of_neg_of_pos z h;lia
 .exact z
def zfu {k m:Int}(h:0<k)(q:0<m*k):0<m:=by
 rcases(show m<=0\/0<m by lia) with z | z
 .have:=vE z (wE h);lia
 .exact z
def zdZ {u1 u2 w1 w2 z1 z2:Int}(hw:0<w1\/w1=0/\0<w2)(k:0<u1\/u1=0/\0<=u2)(a:0<z1\/z1=0/\0<=z2)(f:0<=u1*w2 - u2*w1)(g:0<=w1*z2 - w2*z1):0<=u1*z2 - u2*z1:=by
 rcases hw with hw | ⟨hw,b⟩
 .refine z3S hw ?_;have e:(u1*z2 - u2*z1)*w1=(u1*w2 - u2*w1)*z1+(w1*z2 - w2*z1)*u1:=by grind
  rw[e];have i:=wJ f (show 0<=z1 by lia);have j:=wJ g (show 0<=u1 by lia);lia
 .subst hw;have h:z1=0:=by
   rcases a with a | a
   .have:=w3 b a;lia
   .exact a.1
  have d:0<=z2:=by lia
  subst h;have:=wJ (show 0<=u1 by lia) d;lia
def zhx {u1 u2 w1 w2 z1 z2:Int}(hw:0<w1\/w1=0/\0<w2)(a:0<u1\/u1=0/\0<u2)(b:0<z1\/z1=0/\0<z2)(g:0<u1*w2 - u2*w1)(h:0<w1*z2 - w2*z1):0<u1*z2 - u2*z1:=by
 rcases hw with hw | ⟨hw,f⟩
 .refine zfu hw ?_;have e:(u1*z2 - u2*z1)*w1=(u1*w2 - u2*w1)*z1+(w1*z2 - w2*z1)*u1:=by grind
  rw[e]
  rcases a with a | ⟨a,d⟩
  .have i:=wJ (wE g) (show 0<=z1 by lia);have j:=w3 h a;lia
  .subst a;have:=w3 d hw;lia
 .subst hw
  rcases b with b | ⟨b,_⟩
  .have:=w3 f b;lia
  .subst b;lia
def pops (v:P):List P->List P
 | b::a::r=>if cr a b v<=0 then pops v (a::r) else b::a::r
 | s=>s
def z5P (S:P->Prop):List P->Prop
 | b::a::r=>(∀p,S p->0<=cr a b p)/\Lx a b/\z5P S (a::r)
 | _=>True
def Conv:List P->Prop
 | c::b::a::r=>0<cr a b c/\Conv (b::a::r)
 | _=>True
def z5P.tail {S:P->Prop}{b:P}{r:List P}(h:z5P S (b::r)):z5P S r:=by
 cases r with
 | nil=>trivial
 | cons a r=>exact h.2.2
def Conv.tail {b:P}{r:List P}(h:Conv (b::r)):Conv r:=by
 match r,h with
 | [],_=>trivial
 | [_],_=>trivial
 | _::_::_,h=>exact h.2
theorem z7G {S:P->Prop}{v:P}:∀{r:List P}{b a:P},z5P S (b::a::r)->Conv (b::a::r)->Lx b v->0<cr a b v->z5P (λp=>p=v\/S p) (b::a::r)
 | [],b,a,e,f,i,h=>⟨λp hp=>by
   rcases hp with rfl | hp
   .exact wE h
   .exact e.1 p hp,e.2.1,trivial⟩
 | c::r,b,a,e,f,i,h=>by
  have g:=e.2.2.2.1;have d:=e.2.1;have k:0<cr c a v:=by
   have j:0<cr c a b:=f.1;have:=zhx (u1:=a.1 - c.1) (u2:=a.2 - c.2) (w1:=b.1 - a.1) (w2:=b.2 - a.2) (z1:=v.1 - b.1) (z2:=v.2 - b.2) (by unfold Lx at d;lia) (by unfold Lx at g;lia) (by unfold Lx at i;lia)
    (by unfold cr at j;grind) (by unfold cr at h;grind)
   unfold cr at j ⊢
   grind
  exact⟨λp hp=>by
   rcases hp with rfl | hp
   .exact wE h
   .exact e.1 p hp,d,z7G e.2.2 f.2 (d.tr i) k⟩
theorem zaY {S:P->Prop}{v:P}(s:∀p,S p->Lx p v):∀{r:List P}{b:P},(∀x∈b::r,S x)->z5P S (b::r)->Conv (b::r)->(∀p,S p->¬ Lx p b->0<=cr b v p)->(∀z,(b::r).getLast? = some z->∀p,S p->¬ Lx p z)->
  ∃b' i,pops v (b::r)=b'::i/\(b'::i) <:+ (b::r)/\(∀p,S p->0<=cr b' v p)/\z5P (λp=>p=v\/S p) (b'::i)/\Conv (v::b'::i)
 | [],b,n,g,j,o,m=>⟨b,[],rfl,List.suffix_refl _,λp hp=>o p hp (m b rfl p hp),trivial,trivial⟩
 | a::r,b,n,g,j,o,m=>by
  have d:=g.2.1;have f:=s b (n b (by simp))
  by_cases h:cr a b v<=0
  .have e:pops v (b::a::r)=pops v (a::r):=by rw[pops,if_pos h]
   obtain⟨b',i,t,u,y,A,C⟩:=zaY s (r:=r) (b:=a) (λx E=>n x (wn _ E)) g.tail j.tail (λp hp k=>by
    have q:=g.1 p hp;have:=zdZ (u1:=v.1 - a.1) (u2:=v.2 - a.2) (w1:=b.1 - a.1) (w2:=b.2 - a.2) (z1:=p.1 - a.1) (z2:=p.2 - a.2) (by unfold Lx at d;lia) (by have:=d.tr f;unfold Lx at this;lia) (by unfold Lx at k;lia)
     (by unfold cr at h;grind) (by unfold cr at q;grind)
    unfold cr
    grind) (λz F=>m z (by rw[uI];exact F))
   exact⟨b',i,e.trans t,u.trans (List.suffix_cons _ _),y,A,C⟩
  .have l:0<cr a b v:=by lia
   have e:pops v (b::a::r)=b::a::r:=by rw[pops,if_neg h]
   refine⟨b,a::r,e,List.suffix_refl _,λp hp =>?_,z7G g j f l,⟨l,j⟩⟩
   by_cases k:Lx p b
   .have q:=g.1 p hp;have:=zdZ (u1:=b.1 - p.1) (u2:=b.2 - p.2) (w1:=b.1 - a.1) (w2:=b.2 - a.2) (z1:=v.1 - b.1) (z2:=v.2 - b.2) (by unfold Lx at d;lia) (by unfold Lx at k;lia) (by unfold Lx at f;lia)
     (by unfold cr at q;grind) (by unfold cr at l;grind)
    unfold cr
    grind
   .exact o p hp k
structure Ok (S:P->Prop)(s:List P):Prop where
 sub:∀x∈s,S x
 desc:s.Pairwise λx y=>Lx y x
 top:∃b r,s=b::r/\∀p,S p->¬ Lx b p
 bot:∃z,s.getLast? = some z/\∀p,S p->¬ Lx p z
 edges:z5P S s
 conv:Conv s
def z5b {s t:List P}{b:P}(h:(b::t) <:+ s):s.getLast? = (b::t).getLast? := by
 obtain⟨u,rfl⟩:=h;rw[List.getLast?_append];rw[List.getLast?_cons]
 rfl
def Ok.push {S:P->Prop}{s:List P}{v:P}(o:Ok S s)(h:∀p,S p->Lx p v):Ok (λp=>p=v\/S p) (v::pops v s):=by
 obtain⟨b,r,rfl,g⟩:=o.top;obtain⟨z,k,d⟩:=o.bot;obtain⟨l,y,m,j,n,q,t⟩:=zaY h o.sub o.edges o.conv (λp hp u=>by
  have:p=b:=z7t u (g p hp);k_end;unfold cr
  grind) (λA i=>by rw[k] at i;injection i with e;subst e;exact d)
 have a:∀x∈l::y,S x:=λx f=>o.sub x (j.subset f);rw[m];refine⟨λx f =>?_,?_,⟨v,_,rfl,λp hp =>?_⟩,⟨z,?_,λp hp =>?_⟩,⟨λp hp =>?_,h l (a l (by simp)),q⟩,t⟩
 .rcases wj.mp f with rfl | f
  .exact .inl rfl
  .exact .inr (a x f)
 .exact w9.mpr ⟨λx f=>h x (a x f),o.desc.sublist j.sublist⟩
 .rcases hp with rfl | hp
  .exact Lx.irr
  .exact(h p hp).asym
 .rw[uI, <- z5b j];exact k
 .rcases hp with rfl | hp
  .exact(h z (by rw[z5b j] at k;exact a z (List.mem_of_getLast? k))).asym
  .exact d p hp
 .rcases hp with rfl | hp
  .unfold cr;grind
  .exact n p hp
def z2w (l:List P):List P:=l.foldl (λs v=>v::pops v s) []
def Ok.one (v:P):Ok (λp=>p=v) [v]:=⟨by simp,by simp,⟨v,[],rfl,λp hp=>by subst hp;exact Lx.irr⟩,⟨v,rfl,λp hp=>by subst hp;exact Lx.irr⟩,trivial,trivial⟩
def Ok.congr {S S':P->Prop}{s:List P}(o:Ok S s)(h:∀p,S p↔S' p):Ok S' s:=by
 have e:S=S':=funext λp=>propext (h p);subst e;exact o
theorem z9s:∀(l:List P) (S:P->Prop) (s:List P),Ok S s->(∀x∈l,∀p,S p->Lx p x)->l.Pairwise Lx->Ok (λp=>S p\/p∈l) (l.foldl (λs v=>v::pops v s) s)
 | [],S,s,o,_,_=>o.congr (by simp)
 | v::l,S,s,o,h,hp=>by
  obtain⟨b,d⟩:=w9.mp hp;have:=z9s l _ _ (o.push (v:=v) (h v (by simp))) (λx a p hp=>by
   rcases hp with rfl | hp
   .exact b x a
   .exact h x (by simp[a]) p hp) d
  refine this.congr λp =>?_;simp only[wj]
  o_rec
  .rintro((h | h) | h)
   .exact .inr (.inl h)
   .exact .inl h
   .exact .inr (.inr h)
  .rintro(h | h | h)
   .exact .inl (.inr h)
   .exact .inl (.inl h)
   .exact .inr h
def z7M {l:List P}(d:l≠[])(hp:l.Pairwise Lx):Ok (· ∈ l) (z2w l):=by
 match l,d with
 | v::l,_=>
  obtain⟨a,b⟩:=w9.mp hp;have:=z9s l (λp=>p=v) [v] (Ok.one v) (λx e p hp=>by subst hp;exact a x e) b;exact this.congr λp=>by simp
def ng (p:P):P:=(-p.1,-p.2)
def z47 (p:P):ng (ng p)=p:=by unfold ng;simp
def zd4 (a b c:P):cr (ng a) (ng b) (ng c)=cr a b c:=by unfold cr ng;grind
def za0 {a b:P}:Lx (ng a) (ng b)↔Lx b a:=by unfold Lx ng;simp;lia
theorem zaZ (v:P):∀s:List P,pops (ng v) (s.map ng)=(pops v s).map ng
 | []=>rfl
 | [_]=>rfl
 | b::a::r=>by
  show (if cr (ng a) (ng b) (ng v)<=0 then pops (ng v) ((a::r).map ng) else _)=_;rw[zd4,zaZ v (a::r),pops]
  by_cases h:cr a b v<=0
  .rw[if_pos h,if_pos h]
  .rw[if_neg h,if_neg h];rfl
theorem zbF:∀(l s:List P),(l.map ng).foldl (λs v=>v::pops v s) (s.map ng)=(l.foldl (λs v=>v::pops v s) s).map ng
 | [],_=>rfl
 | v::l,s=>by
  show (l.map ng).foldl _ (ng v::pops (ng v) (s.map ng))=_;rw[zaZ];exact zbF l (v::pops v s)
def zbR (l:List P):z2w (l.map ng)=(z2w l).map ng:=zbF l []
def dot (a b p:P):Int:=(p.1 - a.1)*(b.1 - a.1)+(p.2 - a.2)*(b.2 - a.2)
structure Edge (S:P->Prop)(a b:P):Prop where
 sa:S a
 sb:S b
 ne:a≠b
 left:∀p,S p->0<=cr a b p
 btw:∀p,S p->cr a b p=0->0<=dot a b p/\0<=dot b a p
theorem Edge.ng {S:P->Prop}{a b:P}(e:Edge (λp=>S (Geo.ng p)) a b):Edge S (Geo.ng a) (Geo.ng b):=by
 refine⟨e.sa,e.sb,λz=>e.ne (by have:=congrArg Geo.ng z;rwa [z47,z47] at this),λp hp =>?_,λp hp h =>?_⟩
 .have:=e.left (Geo.ng p) (by rw[z47];exact hp);rw[<- zd4,z47] at this;exact this
 .have:=e.btw (Geo.ng p) (by rw[z47];exact hp) (by rw[<- zd4,z47];exact h);unfold dot Geo.ng at*;dsimp only at*
  o_rec
  .have:=this.1;grind
  .have:=this.2;grind
def zf1 (a b c:P):cr a c b = -cr a b c:=by unfold cr;grind
def z0d (x:Int):0<=x*x:=by
 rcases(show x<=0\/0<=x by lia) with h | h
 .exact vT h h
 .exact wJ h h
def z3H {x y:Int}(h:x*x+y*y=0):x=0/\y=0:=by
 have d:=z0d x;have e:=z0d y;have a:x*x=0:=by omega
 have b:y*y=0:=by omega
 o_rec
 .rcases wK.mp a with z | z <;> exact z
 .rcases wK.mp b with z | z <;> exact z
def Edge.det {S:P->Prop}{a b c:P}(e:Edge S a b)(f:Edge S a c):b=c:=by
 have h1:=e.left c f.sb;have h2:=f.left b e.sb;have J:=zf1 a b c;have l:cr a b c=0:=by lia
 have m:cr a c b=0:=by lia
 have p:=e.btw c f.sb l;have q:=f.btw b e.sb m;have U:=e.ne;have V:=f.ne;k_accS;k_keys;obtain⟨d,g⟩:=c;unfold cr at l;unfold dot at p q;simp only[ne_eq,Prod.mk.injEq] at*;obtain⟨W,n⟩:=p;obtain⟨a0,i⟩:=q;have Q:(b1 - d)*(b1 - d)+(b2 - g)*(b2 - g)=0:=by
  generalize K:b1 - a1=u1 at*;generalize L:b2 - a2=u2 at*;generalize N:d - a1=w1 at*;generalize O:g - a2=w2 at*;have s:b1 - d=u1 - w1:=by lia
  have t:b2 - g=u2 - w2:=by lia
  have u:d - b1=w1 - u1:=by lia
  have x:g - b2=w2 - u2:=by lia
  have y:a1 - b1 = -u1:=by lia
  have G:a2 - b2 = -u2:=by lia
  have H:a1 - d = -w1:=by lia
  have I:a2 - g = -w2:=by lia
  rw[s,t] at i ⊢;rw[u,x,y,G] at n;rw[H,I] at i;have A:0<=(u1*u1+u2*u2) - (u1*w1+u2*w2):=by grind
  have B:0<=(w1*w1+w2*w2) - (u1*w1+u2*w2):=by grind
  have C:(u1*u1+u2*u2)*(w1*w1+w2*w2)=(u1*w1+u2*w2)*(u1*w1+u2*w2):=by
   have:(u1*u1+u2*u2)*(w1*w1+w2*w2)=(u1*w1+u2*w2)*(u1*w1+u2*w2)+(u1*w2 - u2*w1)*(u1*w2 - u2*w1):=by grind
   rw[this,l];lia
  have D:0<=u1*w1+u2*w2:=by grind
  have PX:0<u1*u1+u2*u2:=by
   have R:=z0d u1;have T:=z0d u2
   rcases(show u1*u1+u2*u2=0\/0<u1*u1+u2*u2 by lia) with z | z
   .have:=z3H z;lia
   .exact z
  have PY:0<w1*w1+w2*w2:=by
   have R:=z0d w1;have T:=z0d w2
   rcases(show w1*w1+w2*w2=0\/0<w1*w1+w2*w2 by lia) with z | z
   .have:=z3H z;lia
   .exact z
  have E:(u1 - w1)*(u1 - w1)+(u2 - w2)*(u2 - w2)=((u1*u1+u2*u2) - (u1*w1+u2*w2))+((w1*w1+w2*w2) - (u1*w1+u2*w2)):=by grind
  rw[E];generalize u1*u1+u2*u2=X at*;generalize w1*w1+w2*w2=Y at*;generalize u1*w1+u2*w2=Z at*;have F:(X - Z)*Y+Z*(Y - Z)=0:=by grind
  have G1:=wJ A (show 0<=Y by lia);have G2:=wJ D B;have r:(X - Z)*Y=0:=by omega
  have o:Z*(Y - Z)=0:=by omega
  rcases wK.mp r with h | h
  .rcases wK.mp o with j | j
   .have:X*Y=0:=by rw[C,j];rfl
    rcases wK.mp this with k | k <;> lia
   .lia
  .rcases wK.mp o with j | j <;> lia
 have:=z3H Q;lia
def Path (R:P->P->Prop):List P->Prop
 | a::b::r=>R a b/\Path R (b::r)
 | _=>True
theorem Path.join {R:P->P->Prop}{M:P}{t:List P}:∀{A:List P},Path R (A++[M])->Path R (M::t)->Path R (A++M::t)
 | [],_,h=>h
 | [a],h,q=>⟨h.1,q⟩
 | a::b::A,h,q=>⟨h.1,Path.join (A:=b::A) h.2 q⟩
def Path.snoc {R:P->P->Prop}{a b:P}{A:List P}(h:Path R (A++[a]))(q:R a b):Path R (A++[a,b]):=Path.join h ⟨q,trivial⟩
theorem Path.rev {R:P->P->Prop}:∀{l:List P},Path (λx y=>R y x) l->Path R l.reverse
 | [],_=>trivial
 | [_],_=>trivial
 | a::b::r,h=>by
  have:=Path.rev (l:=b::r) h.2;rw[jk] at this ⊢;rw[jk];rw[wS];exact Path.snoc this h.1
theorem Path.imp {R R':P->P->Prop}(i:∀a b,R a b->R' a b):∀{l:List P},Path R l->Path R' l
 | [],_=>trivial
 | [_],_=>trivial
 | _::_::_,h=>⟨i _ _ h.1,Path.imp i h.2⟩
theorem Path.map {R:P->P->Prop}{f:P->P}:∀{l:List P},Path (λa b=>R (f a) (f b)) l->Path R (l.map f)
 | [],_=>trivial
 | [_],_=>trivial
 | _::b::r,h=>⟨h.1,Path.map (l:=b::r) h.2⟩
def zdC {a b p:P}(h:Lx a b)(q:¬ Lx b p)(z:cr a b p=0):0<=dot b a p:=by
 unfold Lx at h q;unfold cr at z;unfold dot;have e:(p.1 - b.1)*(a.1 - b.1)+(p.2 - b.2)*(a.2 - b.2)=(b.1 - a.1)*(b.1 - p.1)+(b.2 - a.2)*(b.2 - p.2):=by grind
 rw[e];have t:(b.1 - a.1)*(b.2 - p.2)=(b.2 - a.2)*(b.1 - p.1):=by grind
 generalize l:b.1 - a.1=d at*;generalize m:b.2 - a.2=f at*;generalize n:b.1 - p.1=i at*;generalize o:b.2 - p.2=j at*
 rcases(show 0<d\/d=0/\0<f by lia) with g | ⟨g,k⟩
 .refine z3S g ?_;have:(d*i+f*j)*d=i*(d*d+f*f):=by grind
  rw[this];have r:=z0d d;have s:=z0d f;exact wJ (by lia) (by lia)
 .subst g;have:f*i=0:=by lia
  rcases wK.mp this with z | z
  .lia
  .subst z;have:=wJ (wE k) (show 0<=j by lia);lia
def zeI {a b p:P}(h:Lx a b)(q:¬ Lx p a)(z:cr a b p=0):0<=dot a b p:=by
 have:=zdC (a:=ng b) (b:=ng a) (p:=ng p) (za0.mpr h) (λy=>q (za0.mp y)) (by rw[zd4];unfold cr at *;grind);unfold dot ng at*;dsimp only at this
 grind
def zbe {a b c p:P}(h:0<cr a b c)(q:0<=cr b c p)(z:cr a b p=0):0<=dot b a p:=by
 unfold cr at h q z;unfold dot;have k:(p.1 - b.1)*(a.1 - b.1)+(p.2 - b.2)*(a.2 - b.2) = -((p.1 - b.1)*(b.1 - a.1)+(p.2 - b.2)*(b.2 - a.2)):=by grind
 rw[k];have l:0<(b.1 - a.1)*(c.2 - b.2) - (b.2 - a.2)*(c.1 - b.1):=by grind
 have m:(b.1 - a.1)*(p.2 - b.2) - (b.2 - a.2)*(p.1 - b.1)=0:=by grind
 generalize b.1 - a.1=d at*;generalize b.2 - a.2=e at*;generalize c.1 - b.1=f at*;generalize c.2 - b.2=g at*;generalize p.1 - b.1=i at*;generalize p.2 - b.2=j at*;refine z3S l ?_;have : -(i*d+j*e)*(d*g - e*f)=(f*j - g*i)*(d*d+e*e) - (d*j - e*i)*(f*d+g*e):=by grind
 rw[this,m,jo,Int.sub_zero];have n:=z0d d;have o:=z0d e;exact wJ q (by lia)
def z95 {y a b p:P}(h:0<cr y a b)(q:0<=cr y a p)(z:cr a b p=0):0<=dot a b p:=by
 unfold cr at h q z;unfold dot;have k:0<(a.1 - y.1)*(b.2 - a.2) - (a.2 - y.2)*(b.1 - a.1):=by grind
 have l:0<=(a.1 - y.1)*(p.2 - a.2) - (a.2 - y.2)*(p.1 - a.1):=by grind
 generalize b.1 - a.1=d at*;generalize b.2 - a.2=e at*;generalize a.1 - y.1=f at*;generalize a.2 - y.2=g at*;generalize p.1 - a.1=i at*;generalize p.2 - a.2=j at*;refine z3S k ?_;have:(i*d+j*e)*(f*e - g*d)=(f*j - g*i)*(d*d+e*e) - (d*j - e*i)*(f*d+g*e):=by grind
 rw[this,z,jo,Int.sub_zero];have m:=z0d d;have n:=z0d e;exact wJ l (by lia)
theorem z69 {S:P->Prop}:∀{r:List P}{b a:P},(∀x∈b::a::r,S x)->z5P S (b::a::r)->Conv (b::a::r)->(∀z,(b::a::r).getLast? = some z->∀p,S p->¬ Lx p z)->(∀p,S p->cr a b p=0->0<=dot b a p)->Path (λx y=>Edge S y x) (b::a::r)
 | [],b,a,e,d,f,g,h=>⟨⟨e a (by simp),e b (by simp),d.2.1.ne,d.1,λp hp z=>⟨zeI d.2.1 (g a rfl p hp) z,h p hp z⟩⟩,trivial⟩
 | y::r,b,a,e,d,f,g,h=>by
  refine⟨⟨e a (by simp),e b (by simp),d.2.1.ne,d.1,λp hp z=>⟨z95 f.1 (d.2.2.1 p hp) z,h p hp z⟩⟩,?_⟩;exact z69 (λx i=>e x (wn _ i)) d.2.2 f.2 (λz j=>g z (by rw[uI];exact j)) λp hp z=>zbe f.1 (d.1 p hp) z
def Ok.path {S:P->Prop}{s:List P}(o:Ok S s):Path (Edge S) s.reverse:=by
 refine Path.rev ?_;obtain⟨b,r,rfl,g⟩:=o.top;obtain⟨z,h,f⟩:=o.bot
 cases r with
 | nil=>trivial
 | cons a r=>exact z69 o.sub o.edges o.conv (λi d=>by rw[h] at d;injection d with e;subst e;exact f) λp hp z=>zdC o.edges.2.1 (g p hp) z
def hull (l:List P):List P:=if l.length<=1 then l else (z2w l).reverse.dropLast++(z2w l.reverse).reverse.dropLast
structure z03 (S:P->Prop)(h:List P):Prop where
 ex:∃m t,h=m::t/\S m/\(∀p,S p->¬ Lx p m)/\m ∉ t/\((t=[]/\∀p,S p->p=m)\/(t≠[]/\Path (Edge S) (m::t++[m])))
theorem z3F {R:P->P->Prop}(det:∀a b c,R a b->R a c->b=c){m:P}:∀{t t':List P}{a:P},m ∉ t->m ∉ t'->Path R (a::t++[m])->Path R (a::t'++[m])->t=t'
 | [],[],_,_,_,_,_=>rfl
 | [],b::t',a,_,h,p,q=>by
  have:b=m:=det a b m q.1 p.1;exact absurd (by rw[this];simp) h
 | b::t,[],a,h,_,p,q=>by
  have:b=m:=det a b m p.1 q.1;exact absurd (by rw[this];simp) h
 | b::t,c::t',a,h,d,p,q=>by
  have e:b=c:=det a b c p.1 q.1;subst e;rw[z3F det (t:=t) (t':=t') (λz=>h (by simp[z])) (λz=>d (by simp[z])) p.2 q.2]
def z03.unique {S:P->Prop}{h h':List P}(x:z03 S h)(y:z03 S h'):h=h':=by
 obtain⟨m,t,rfl,A,s,z,e⟩:=x.ex;obtain⟨m',C,rfl,k,i,j,l⟩:=y.ex;have n:m=m':=z7t (i m A) (s m' k);subst n;have one:∀{u:List P},u≠[]->Path (Edge S) (m::u++[m])->(∀p,S p->p=m)->False:=λ{u} r hp f=>by
  match u,r with
  | b::u,_=>
   have e:Edge S m b:=hp.1;exact e.ne (f b e.sb).symm
 rcases e with ⟨rfl,f⟩ | ⟨o,hp⟩
 .rcases l with ⟨rfl,_⟩ | ⟨g,d⟩
  .rfl
  .exact(one g d f).elim
 .rcases l with ⟨rfl,f⟩ | ⟨g,d⟩
  .exact(one o hp f).elim
  .rw[z3F (R:=Edge S) (λa b c p q=>Edge.det p q) z j hp d]
def z3f {s:List P}{z:P}(h:s.getLast? = some z):s.dropLast++[z]=s:=by
 have a:s≠[]:=λe=>by rw[e] at h;simp at h
 have e:s.getLast a=z:=by
  rw[List.getLast?_eq_some_getLast a] at h;exact wQ h
 rw[<- e];exact List.dropLast_concat_getLast a
def zfn {l:List P}(a:2<=l.length)(hp:l.Pairwise Lx):∃x y,x∈l/\y∈l/\Lx x y:=by
 match l,a,hp with
 | x::y::r,_,hp=>exact⟨x,y,by simp,by simp,(w9.mp hp).1 y (by simp)⟩
def z64 {l:List P}(N:2<=l.length)(hp:l.Pairwise Lx):∃m M A B,hull l=m::A++M::B/\m∈l/\M∈l/\Lx m M/\(∀p∈l,¬ Lx p m)/\(∀p∈l,¬ Lx M p)/\
  (m::A++[M]).Pairwise Lx/\(M::B++[m]).Pairwise (λx y=>Lx y x)/\Path (Edge (· ∈ l)) (m::A++[M])/\Path (Edge (· ∈ l)) (M::B++[m]):=by
 have E:l≠[]:=λz=>by rw[z] at N;simp at N
 have C:=z7M E hp;have O:(l.reverse.map ng).Pairwise Lx:=by
  rw[vf,List.pairwise_reverse];exact hp.imp λh=>za0.mpr h
 have n:=z7M (l:=l.reverse.map ng) (by simpa using E) O;rw[zbR] at n;have mem:∀p,p∈l.reverse.map ng↔ng p∈l:=λp=>by
  simp only[we,List.mem_reverse]
  o_rec
  .rintro⟨q,Y,rfl⟩;rw[z47];exact Y
  .intro h;exact⟨ng p,h,z47 p⟩
 obtain⟨M,r1,U,F⟩:=C.top;obtain⟨m,s,g⟩:=C.bot;obtain⟨d,S,I,t2⟩:=n.top;obtain⟨u,t,H⟩:=n.bot;have T:M∈l:=C.sub M (by rw[U];simp);have R:m∈l:=C.sub m (List.mem_of_getLast? s);have G:ng d∈l:=(mem d).mp (n.sub d (by rw[I];simp));have Q:ng u∈l:=(mem u).mp (n.sub u (List.mem_of_getLast? t));have i:ng d=m:=by
  refine z7t (g _ G) λz =>?_;have:=t2 (ng m) ((mem _).mpr (by rw[z47];exact R));exact this (by rw[<- z47 d];exact za0.mpr z)
 have k:ng u=M:=by
  refine z7t (λz =>?_) (F _ Q);have:=H (ng M) ((mem _).mpr (by rw[z47];exact T));exact this (by rw[<- z47 u];exact za0.mpr z)
 have j:Lx m M:=by
  rcases Lx.tri m M with h | h | h
  .exact h
  .exfalso
   subst h;have all:∀p∈l,p=m:=λp hp=>z7t (g p hp) (F p hp);obtain⟨x,y,Z,hy,this⟩:=zfn N hp;rw[all x Z,all y hy] at this;exact Lx.irr this
  .exact absurd h (F m R)
 have o:∃A,(z2w l).reverse=m::A++[M]:=by
  rw[U] at s ⊢
  cases r1 with
  | nil=>simp at s;exact absurd (s ▸ j) Lx.irr
  | cons c r=>
   rw[uI] at s;refine⟨(c::r).dropLast.reverse,?_⟩;rw[jk, <- z3f s];simp
 obtain⟨A,J⟩:=o;have L:z2w l.reverse=(d::S).map ng:=by
  have:((z2w l.reverse).map ng).map ng=(d::S).map ng:=by rw[I]
  rw[wR] at this;simpa[Function.comp_def,z47] using this
 have back:∃B,(z2w l.reverse).reverse=M::B++[m]:=by
  rw[I] at t;rw[L]
  cases S with
  | nil=>
   simp at t;rw[t] at i;rw[i] at k;exact absurd (k ▸ j) Lx.irr
  | cons c r=>
   rw[uI] at t;refine⟨((c::r).dropLast.map ng).reverse,?_⟩;have:(c::r)=(c::r).dropLast++[u]:=(z3f t).symm;rw[wC,jk,i,this,wv];simp[k]
 obtain⟨B,K⟩:=back;refine⟨m,M,A,B,?_,R,T,j,g,F,?_,?_,?_,?_⟩
 .unfold hull;rw[if_neg (by lia),J,K,List.dropLast_concat,List.dropLast_concat]
 .rw[<- J,List.pairwise_reverse];exact C.desc
 .rw[<- K,List.pairwise_reverse];have q:=n.desc;rw[vf] at q;exact q.imp λh=>za0.mp h
 .rw[<- J];exact C.path
 .rw[<- K];have q:=n.path;rw[<- List.map_reverse] at q;have X:Path (λa b=>Edge (· ∈ l) (ng a) (ng b)) ((z2w l.reverse).map ng).reverse:=by
   rw[<- List.map_reverse];refine Path.imp (λa b e =>?_) q;refine Edge.ng ?_;have W:(λp=>ng p∈l)=(λp=>p∈l.reverse.map ng):=funext λp=>propext (mem p).symm;rw[W];exact e
  have V:=Path.map (f:=ng) X;rw[List.map_reverse,wR] at V;simpa[Function.comp_def,z47] using V
def zeT {l:List P}(g:l≠[])(hp:l.Pairwise Lx):z03 (· ∈ l) (hull l):=by
 by_cases f:l.length<=1
 .match l,g,f with
  | [x],_,_=>exact⟨x,[],rfl,by simp,λp hp=>by rw[wg.mp hp];exact Lx.irr,by simp,.inl ⟨rfl,λp hp=>wg.mp hp⟩⟩
 .obtain⟨m,M,A,B,e,h,o,b,a,d,i,j,k,n⟩:=z64 (by lia) hp;refine⟨m,A++M::B,e,h,a,λz =>?_,.inr ⟨by simp,?_⟩⟩
  .rcases wp.mp z with z | z
   .exact Lx.irr ((w9.mp i).1 m (by simp[z]))
   .rcases wj.mp z with z | z
    .exact Lx.irr (z ▸ b)
    .have:(M::B++[m]).Pairwise (λx y=>Lx y x):=j;rw[vB] at this;exact Lx.irr (this.2.2 m (by simp[z]) m (by simp))
  .have:m::(A++M::B)++[m]=(m::A)++M::(B++[m]):=by simp
   rw[this];exact Path.join k n
def Hd (l h:List P):Prop:=∃a:List P,a.Pairwise Lx/\(∀p,p∈a↔p∈l)/\h=hull a
def Hd.is {l h:List P}(x:Hd l h)(g:l≠[]):z03 (· ∈ l) h:=by
 obtain⟨d,f,b,rfl⟩:=x;have a:d≠[]:=λz=>by
  cases l with
  | nil=>exact g rfl
  | cons p l=>have:=(b p).mpr (by simp);rw[z] at this;cases this
 have:=zeT a f;have e:(λp=>p∈d)=λp=>p∈l:=funext λp=>propext (b p);rw[e] at this;exact this
theorem z6o {R:P->P->Prop}:∀{l:List P}{i:Nat}{a b:P},Path R l->l[i]? = some a->l[i+1]? = some b->R a b
 | [],_,_,_,_,e,_=>by simp at e
 | [_],i,_,_,_,e,f=>by simp at f
 | x::y::r,0,a,b,h,e,f=>by
  simp at e f;subst e;subst f;exact h.1
 | x::y::r,i+1,a,b,h,e,f=>z6o (l:=y::r) (i:=i) h.2 (by simpa using e) (by simpa using f)
theorem z40 {R:P->P->Prop}:∀{u v:List P},Path R (u++v)->Path R v
 | [],_,h=>h
 | [x],[],_=>trivial
 | [x],y::v,h=>h.2
 | x::y::u,v,h=>z40 (u:=y::u) h.2
theorem z60 {R:P->P->Prop}(det:∀a b c,R a b->R a c->b=c){m:P}:∀{t:List P},m ∉ t->Path R (t++[m])->t.Nodup
 | [],_,_ =>.nil
 | a::t,i,h=>by
  rw[vP];have d:m ∉ t:=λz=>i (wn _ z);refine⟨λg =>?_,z60 det d (z40 (u:=[a]) h)⟩;obtain⟨u,v,e⟩:=List.append_of_mem g;have f:Path R (a::v++[m]):=by
   have:Path R ((a::u)++(a::v++[m])):=by rw[e] at h;simpa using h
   exact z40 this
  have j:m ∉ v:=λz=>d (by rw[e];simp[z]);have:=z3F det d j h f;have:=congrArg List.length this;rw[e] at this;simp at this;lia
def z03.nodup {S:P->Prop}{h:List P}(x:z03 S h):h.Nodup:=by
 w_end
 rcases h4 with ⟨rfl,_⟩ | ⟨_,h4⟩
 .simp
 .rw[vP];exact⟨h3,z60 (λa b c e f=>e.det f) h3 (z40 (u:=[m]) h4)⟩
def z03.sub {S:P->Prop}{h:List P}(x:z03 S h):∀p∈h,S p:=by
 w_end
 rcases h4 with ⟨rfl,_⟩ | ⟨f,h4⟩
 .intro p hp;simp at hp;subst hp;exact h1
 .intro p hp;obtain⟨i,a,e⟩:=w5.mp hp;have d:(m::t++[m])[i]? = some p:=by rw[wT a,wf a,e]
  have b:i+1<(m::t++[m]).length:=by simp at a ⊢;lia
  exact(z6o h4 d (wf b)).sa
def Edge.less {S T:P->Prop}{a b:P}(e:Edge S a b)(h:∀p,T p->S p)(d:T a)(f:T b):Edge T a b:=⟨d,f,e.ne,λp hp=>e.left p (h p hp),λp hp=>e.btw p (h p hp)⟩
theorem z7j {S T:P->Prop}(h:∀p,T p->S p):∀{l:List P},(∀p∈l,T p)->Path (Edge S) l->Path (Edge T) l
 | [],_,_=>trivial
 | [_],_,_=>trivial
 | a::b::r,d,hp=>⟨hp.1.less h (d a (by simp)) (d b (by simp)),z7j h (l:=b::r) (λp hp=>d p (wn _ hp)) hp.2⟩
def z03.of {S T:P->Prop}{h:List P}(x:z03 S h)(d:∀p,T p->S p)(a:∀p∈h,T p):z03 T h:=by
 w_end;refine⟨m,t,rfl,a m (by simp),λp hp=>h2 p (d p hp),h3,?_⟩
 rcases h4 with ⟨rfl,h4⟩ | ⟨b,h4⟩
 .exact .inl ⟨rfl,λp hp=>h4 p (d p hp)⟩
 .exact .inr ⟨b,z7j d (λp hp=>by
   rcases wp.mp hp with z | z
   .exact a p z
   .ks_is;exact a m (by simp)) h4⟩
def z4e {S:P->Prop}{a b c:P}(e:Edge S a b)(f:Edge S b c)(h:a≠c):0<cr a b c:=by
 have C:=e.left c f.sb
 rcases uG C with z | z
 .exact z
 exfalso
 have r:cr a b c=0:=z.symm;have Q:cr b c a=0:=by rw[<- r];unfold cr;grind
 obtain⟨U,L⟩:=e.btw c f.sb r;obtain⟨V,N⟩:=f.btw a e.sa Q;have j:=e.ne;have k:=f.ne;k_accS;k_keys;obtain⟨g,i⟩:=c;simp only[cr,dot] at*;generalize G:b1 - a1=u1 at*;generalize H:b2 - a2=u2 at*;generalize I:g - a1=v1 at*;generalize J:i - a2=v2 at*;have y:(g - b1)*(a1 - b1)+(i - b2)*(a2 - b2)=(u1*u1+u2*u2) - (u1*v1+u2*v2):=by
  have:g - b1=v1 - u1:=by lia
  have:i - b2=v2 - u2:=by lia
  have:a1 - b1 = -u1:=by lia
  have:a2 - b2 = -u2:=by lia
  grind
 have A:(a1 - g)*(b1 - g)+(a2 - i)*(b2 - i)=(v1*v1+v2*v2) - (u1*v1+u2*v2):=by
  have:a1 - g = -v1:=by lia
  have:a2 - i = -v2:=by lia
  have:b1 - g=u1 - v1:=by lia
  have:b2 - i=u2 - v2:=by lia
  grind
 rw[y] at L;rw[A] at N;have p:(u1*v1+u2*v2)*(u1*v1+u2*v2)=(u1*u1+u2*u2)*(v1*v1+v2*v2):=by
  have:(u1*u1+u2*u2)*(v1*v1+v2*v2) - (u1*v1+u2*v2)*(u1*v1+u2*v2)=(u1*v2 - u2*v1)*(u1*v2 - u2*v1):=by grind
  rw[r] at this;lia
 have F:0<=u1*v1+u2*v2:=by
  have:(v1*u1+v2*u2)=u1*v1+u2*v2:=by grind
  lia
 generalize R:u1*v1+u2*v2=d at*;generalize E:u1*u1+u2*u2=uu at*;generalize T:v1*v1+v2*v2=vv at*;have q:0<=uu:=by have:=z0d u1;have:=z0d u2;lia
 have O:0<=vv:=by have:=z0d v1;have:=z0d v2;lia
 have u:d*d<=uu*d:=wA (by lia) F;have x:uu*d<=uu*vv:=wM (by lia) q;have n:uu*(vv - d)=0:=by
  have:uu*(vv - d)=uu*vv - uu*d:=by grind
  omega
 rcases wK.mp n with z | z
 .obtain⟨s,t⟩:=z3H (E.trans z);exact j (vG (by show a1=b1;lia) (by show a2=b2;lia))
 .have m:vv=d:=by lia
  have o:d*(uu - d)=0:=by
   have:d*(uu - d)=uu*d - d*d:=by grind
   rw[m] at p;omega
  rcases wK.mp o with z | z
  .have l:v1*v1+v2*v2=0:=by lia
   obtain⟨s,t⟩:=z3H l;exact h (vG (by show a1=g;lia) (by show a2=i;lia))
  .have K:(u1 - v1)*(u1 - v1)+(u2 - v2)*(u2 - v2)=0:=by
    have:(u1 - v1)*(u1 - v1)+(u2 - v2)*(u2 - v2)=(u1*u1+u2*u2) - 2*(u1*v1+u2*v2)+(v1*v1+v2*v2):=by grind
    lia
   obtain⟨s,t⟩:=z3H K;exact k (vG (by show b1=g;lia) (by show b2=i;lia))
end Geo
open Geo
open Lean in
def sq (s:String):MacroM (TSyntax `tactic):=do
 let a←(s.splitOn " ").toArray.mapM λw=>do
  let l:=w.splitOn ":"
  let x←l.tail.toArray.mapM λv=>if v="a" then `(tactic|try apply Pu.z91) else if v="b" then `(tactic|apply Pu.z91) else if v="c" then `(tactic|focus exact⟨by decide,by decide,by decide⟩) else if v="d" then `(tactic|focus (simp only[wI,uO];decide)) else `(tactic|focus walk_at $(Syntax.mkStrLit v))
  let x:=#[←`(tactic|with_reducible apply $(mkIdent (`Pu++l.head!.toName)))]++x
  `(tacticSeq|$[$x:tactic];*)
 `(tactic|first $[|$a]*)
local macro_rules | `(tactic| walk_at "bt") => `(tactic| first | assumption | (refine L2.Bt.add ?_ ?_ <;> walk_at "bt") | (refine L2.Bt.sub ?_ ?_ <;> walk_at "bt") | (refine L2.Bt.mul ?_ ?_ <;> walk_at "bt") | (apply L2.Bt.neg;walk_at "bt") | exact L2.bt_k (by decide +kernel) | exact L2.bt_n (by omega) (by omega))
local macro_rules | `(tactic| walk_at "mu") => `(tactic| exact⟨L2.Bt.le (by walk_at "bt") (by decide),L2.Bt.le (by walk_at "bt") (by decide)⟩)
local macro_rules | `(tactic| walk_at "ps") => `(tactic| first | assumption | decide | omega)
local macro_rules | `(tactic| walk_at "bb") => `(tactic| first | exact L2.z9u (by decide) (by decide) | exact L2.Bt.le (by walk_at "bt") (by decide) | exact L2.z9u (by omega) (by omega))
local macro_rules | `(tactic| walk_at "sf") => `(tactic| first | exact Pu.Safe.of_noL rfl rfl _ | exact Pu.Safe.of_noL (Pu.z14 _) (Pu.z15 _) _ | (repeat (first | exact trivial | refine⟨trivial,?_⟩)) | assumption)
local macro_rules | `(tactic| walk_at "en") => do
 let a←("List.set_cons_zero List.set_cons_succ wC uM List.replicate uW List.nil_append Nat.reduceSub Pu.dem Pu.vis Pu.visB Pu.demB List.getElem?_cons_zero uJ Option.getD_some Pu.z1Q List.replicate_succ List.replicate_zero".splitOn " ").toArray.mapM λw=>`(Lean.Parser.Tactic.simpLemma|$(Lean.mkIdent w.toName):ident)
 `(tactic| try simp only[$a,*])
local macro_rules | `(tactic| walk_at "st") => sq "e_c e_v:b zhc zd0 ziq zio zin zea zfJ zie zi3 zi4 zi8:mu zdB:ps:bb zgC:ps zgB:c zia:a zib:a o_lt o_le o_gt o_eq o_ne o_is zeB zgG zgF zi1:d zi9:d zgA zif zgI zgH zgD zis e_or zir n_bl zdP zij zii e_sl zgi zgh zh6 zix ziw z72 z4p z3W zhA zc9 zfy s_if zhB zdk zhE:en ze9 z0w:sf:en ziu:en zhi:en"
local macro_rules | `(tactic| walk_at "go") => `(tactic| repeat walk_at "st")
local macro_rules | `(tactic| walk_at "fn") => `(tactic| ((refine Pu.zhF rfl ?_);(walk_at "en")))
local macro_rules | `(tactic| walk_at "fe") => `(tactic| ((refine Pu.zhG rfl ?_);(walk_at "en")))
local macro_rules | `(tactic| ac_nf) => `(tactic| walk_at "go")
local macro_rules | `(tactic| ac_rfl) => `(tactic| walk_at "en")
namespace Pu
open PySem L2
def szl {n:Nat}(h:n<=1000000):n<=sizeLine:=vd h (by decide)
def szl' {n:Nat}(h:n<=1000000):n<sizeLine:=Nat.lt_of_le_of_lt h (by decide)
abbrev Vb (n:Nat)(p:Int × Int):Prop:=Bt n p.1/\Bt n p.2
abbrev Wb (n:Nat)(l:List (Int × Int)):Prop:=∀p∈l,Vb n p
theorem Vb.le {m n:Nat}{p:Int × Int}(h:Vb m p)(q:m<=n:=by decide):Vb n p:=⟨h.1.le q,h.2.le q⟩
theorem Wb.le {m n:Nat}{l:List (Int × Int)}(h:Wb m l)(q:m<=n:=by decide):Wb n l:=λp hp=>(h p hp).le q
def z3m {p r:Int × Int}{Q:DK}{X:XP}(h1:Vb 30000000 p)(h2:Vb 30000000 r)(q:Q (.int (p.1*r.2 - p.2*r.1))):z1s.run [vec p,vec r] Q X:=by
 obtain⟨a1,a2⟩:=h1;obtain⟨b1,b2⟩:=h2;walk_at "fn";ac_nf;f_int
def z3x {p r:Int × Int}{Q:DK}{X:XP}(h1:Vb 30000000 p)(h2:Vb 30000000 r)(q:Q (.int (p.1*r.1+p.2*r.2))):z17.run [vec p,vec r] Q X:=by
 obtain⟨a1,a2⟩:=h1;obtain⟨b1,b2⟩:=h2;walk_at "fn";ac_nf;f_int
def z2a {p r:Int × Int}{Q:DK}{X:XP}(q:Q (vec (r.1 - p.1,r.2 - p.2))):z0v.run [vec p,vec r] Q X:=by
 walk_at "fn";ac_nf;f_int
def Vb.step {p r:Int × Int}(h:Vb 20000000 p)(k:Vb 20000000 r):Vb 30000000 (r.1 - p.1,r.2 - p.2):=⟨(Bt.sub k.1 h.1).le,(Bt.sub k.2 h.2).le⟩
def zaE {a b c:Int × Int}{Q:DK}{X:XP}(h1:Vb 20000000 a)(h2:Vb 20000000 b)(h3:Vb 20000000 c)(q:Q (.int (Geo.cr a b c))):z3t.run [vec a,vec b,vec c] Q X:=by
 walk_at "fn";ac_nf;refine z2a ?_;ac_nf;refine z2a ?_;refine z3m (h1.step h2) (h2.step h3) ?_;have e:(b.1 - a.1)*(c.2 - b.2) - (b.2 - a.2)*(c.1 - b.1)=Geo.cr a b c:=by unfold Geo.cr;grind
 kt_k;rw[e];f_int
def z8t {T:Nat->Fn}{i n:Nat}{es:List Ex}{a:Pu.Env}{Q:DK}{X:XP}(h:a.get i=some (.fn n))(q:runs es a (λds=>(T n).run ds Q X) X):(Ex.callv T i es).run a Q X:=⟨n,h,q⟩
def zbc {l:List D}{Q:DK}{X:XP}(q:Q (.lst l.reverse)):z2N.run [.lst l] Q X:=q
def zhp {α:Type}{b:α}{r:List α}:atI (b::r).reverse (-1)=some b:=by
 unfold atI ixN;rw[if_neg (by decide),List.length_reverse,wI,if_pos (by lia)];show (b::r).reverse[((-1:Int)+((r.length+1:Nat):Int)).toNat]? = some b;rw[show ((-1:Int)+((r.length+1:Nat):Int)).toNat=r.length by lia];simp
def zf8 {α:Type}{a b:α}{r:List α}:atI (b::a::r).reverse (-2)=some a:=by
 unfold atI ixN;rw[if_neg (by decide),List.length_reverse,wI,wI,if_pos (by lia)];show (b::a::r).reverse[((-2:Int)+((r.length+1+1:Nat):Int)).toNat]? = some a;rw[show ((-2:Int)+((r.length+1+1:Nat):Int)).toNat=r.length by lia];simp
def z5Y {l:List (Int × Int)}{Q:DK}{X:XP}(hb:Wb 20000000 l)(hz:l.length<=100000)(q:Q (.lst ((z2w l).reverse.map vec))):z30.run [.lst (l.map vec),.fn 0] Q X:=by
 walk_at "fn";refine z3W (zc9 ?_);ac_nf;k_all;ac_rfl;ac_nf;refine z0A (f:=vec) (λN H=>∃(st:List (Int × Int)) (x:B),st=z2w N/\(∀p∈st,p∈l)/\st.length<=N.length/\H=[.s (.lst (l.map vec)),.s (.fn 0),.o (.lst (st.reverse.map vec)),x]) ⟨[],_,rfl,(λp hp=>by cases hp),ww _,rfl⟩ ?_ ?_
 .rintro N v r H e ⟨st,x,J,L,K,rfl⟩;have R:v∈l:=by rw[e];simp
  w_up;ac_rfl;refine Sm.cut (λH=>∃st':List (Int × Int),st'=pops v st/\(∀p∈st',p∈l)/\st'.length<=N.length/\H=[.s (.lst (l.map vec)),.s (.fn 0),.o (.lst (st'.reverse.map vec)),.s (vec v)]) ?_ ?_
  .refine z58 (λH=>∃st':List (Int × Int),pops v st'=pops v st/\(∀p∈st',p∈l)/\st'.length<=N.length/\H=[.s (.lst (l.map vec)),.s (.fn 0),.o (.lst (st'.reverse.map vec)),.s (vec v)]) (λH=>nL H 2) ⟨st,rfl,L,K,rfl⟩ ?_;rintro H ⟨st',h1,h2,h3,rfl⟩;ac_nf
   match st',h1,h2,h3 with
   | [],h1,h2,h3=>
    refine t_no (by simp) ?_;refine z4p ?_;exact⟨[],by rw[<- h1];rfl,h2,h3,rfl⟩
   | [b],h1,h2,h3=>
    refine t_no (by simp) ?_;refine z4p ?_;exact⟨[b],by rw[<- h1];rfl,h2,h3,rfl⟩
   | b::a::r,h1,h2,h3=>
    refine z71 (by simp;lia) ?_;ac_nf;refine z8t rfl ?_;ac_nf;refine z1e (z0P zf8) ?_;ac_nf;refine z1e (z0P zhp) ?_;ac_nf;have O:∀p,p∈l->Vb 20000000 p:=hb;refine zaE (O a (h2 a (by simp))) (O b (h2 b (by simp))) (O v R) ?_;ac_nf;refine z0Q (λhc =>?_) (λhc =>?_)
    .refine zhC (z0q rfl ?_);unfold popL;rw[wd,List.length_reverse,wN,show (b::a::r).reverse[(b::a::r).length - 1]? = some b by simp];refine⟨⟨a::r,?_,λp hp=>h2 p (wn _ hp),by simp at h3 ⊢;lia,?_⟩,?_⟩
     .rw[<- h1];show _=pops v (b::a::r);rw[pops,if_pos hc]
     .simp
     .show List.length _<List.length _;simp
    .exact⟨b::a::r,by rw[<- h1,pops,if_neg hc],h2,h3,rfl⟩
  .rintro H ⟨st',h1,h2,h3,rfl⟩;tb_lt;ac_nf;have U:N.length<l.length:=by rw[e];simp
   refine⟨by simp;exact szl' (by lia),Safe.of_noL rfl rfl _,?_⟩;ac_rfl;refine⟨v::st',.s (vec v),?_,λp hp =>?_,by simp;lia,by simp⟩
   .unfold z2w at J ⊢;rw[List.foldl_append, <- J,h1]
    rfl
   .rcases wj.mp hp with rfl | hp
    .exact R
    .exact h2 p hp
 rintro H ⟨st,x,J,L,K,rfl⟩;ac_nf;rw[J];f_int
def z6O {α:Type}(l:List α):(l.drop (HT.sIx l.length 0 none)).take (HT.sIx l.length l.length (some (-1)) - HT.sIx l.length 0 none)=l.dropLast:=by
 rw[ui];show (l.drop 0).take ((if (-1:Int)<0 then ((-1:Int)+(l.length:Int)).toNat else min (-1:Int).toNat l.length) - 0)=_;rw[if_pos (by decide),List.drop_zero]
 congr 1
 lia
def z6k {l:List (Int × Int)}{Q:DK}{X:XP}(hb:Wb 20000000 l)(hz:l.length<=100000)(q:Q (vecs (hull l))):z2j.run [.lst (l.map vec),.fn 0] Q X:=by
 walk_at "fn";ac_nf;rw[wd];lge_go
 .ac_nf;rw[hull,if_pos (by lia)] at q;f_int
 ac_nf;refine z5Y hb hz ?_;have J:∀(l:List (Int × Int)) (s:List (Int × Int)),(l.foldl (λs v=>v::pops v s) s).length<=l.length+s.length:=by
  have K:∀(v:Int × Int) (s:List (Int × Int)),(pops v s).length<=s.length:=by
   intro v s
   induction s with
   | nil=>exact ww _
   | cons b s H=>
    cases s with
    | nil=>exact ww _
    | cons a s=>
     rw[pops]
     split
     .exact Nat.le_succ_of_le H
     .exact ww _
  intro l
  induction l with
  | nil=>intro s;simp
  | cons v l H=>
   intro s;rw[List.foldl_cons];have:=H (v::pops v s);have:=K v s;simp only[wI] at*;lia
 have L:(z2w l).length<=l.length:=vd (J l []) (ww _);have c3:(z2w l.reverse).length<=l.length:=vd (J l.reverse []) (by simp);refine z0w ?_ ?_
 .exact⟨trivial,trivial,trivial,trivial,trivial⟩
 ac_rfl;ac_nf;refine zbc ?_;ac_nf;rw[<- List.map_reverse];refine z5Y (λp hp=>hb p (by simpa using hp)) (by simpa using hz) ?_;refine z0w ⟨trivial,trivial,trivial,trivial,trivial⟩ ?_;ac_rfl;ac_nf;rw[z3e,z3e,z6O,z6O];kd_mem;ac_nf;rw[<- wv];rw[hull,if_neg (by lia)] at q;f_int
set_option tactic.hygienic true in
def zdM {a b:Int × Int}:HT.z0B [a.1,a.2] [b.1,b.2]=true↔Lx a b:=by
 rw[HT.z0G,HT.z0G];unfold Lx
 split
 .rename_i h
  split
  .rename_i d
   rw[HT.z6F]
   o_rec
   .intro z;cases z
   .rintro(z | z) <;> lia
  .simp;lia
 .simp;lia
def pk (p:Int × Int):List Int:=[p.1,p.2]
def zdx {p r:Int × Int}(h:pk p=pk r):p=r:=by
 unfold pk at h
 injection h with b a
 injection a with a _
 exact vG b a
def zcg:∀{ks b:List (List Int)}{l:List (Int × Int)},ks=l.map pk->Rows ks b->∃a:List (Int × Int),b=a.map pk/\a.Pairwise Lx/\∀p,p∈a↔p∈l:=by
 intro ks b l e h;have i:∀k∈b,∃p,k=pk p:=λk g=>by
  have:=(h.mem k).mp g;rw[e] at this;obtain⟨p,_,rfl⟩:=we.mp this;exact⟨p,rfl⟩
 have j:∃a:List (Int × Int),b=a.map pk:=by
  clear h e
  induction b with
  | nil=>exact⟨[],rfl⟩
  | cons k b m=>
   obtain⟨p,hp⟩:=i k wq;obtain⟨a,d⟩:=m λk g=>i k (wn _ g);exact⟨p::a,by rw[hp,d];rfl⟩
 obtain⟨a,rfl⟩:=j;refine⟨a,rfl,?_,λp =>?_⟩
 .have:=h.up;rw[vf] at this;exact this.imp λz=>zdM.mp z
 .have:=h.mem (pk p);rw[e] at this
  o_rec
  .intro hp;obtain⟨r,d,f⟩:=we.mp (this.mp (we.mpr ⟨p,hp,rfl⟩));rw[<- zdx f];exact d
  .intro hp;obtain⟨r,d,f⟩:=we.mp (this.mpr (we.mpr ⟨p,hp,rfl⟩));rw[<- zdx f];exact d
def Vs (d:D)(l:List (Int × Int)):Prop:=d = .tup (l.map vec)\/d = .lst (l.map vec)
def zag (l:List (Int × Int)):l.map vec=(l.map pk).map tupD:=by rw[wR];rfl
def Vs.set {d:D}{l:List (Int × Int)}{P:List (List Int)->Prop}(h:Vs d l)(a:l.length<=2040)(q:P (l.map pk)):zaz d P:=by
 rcases h with rfl | rfl
 .exact⟨l.map pk,zag l,by simpa using a,q⟩
 .exact⟨l.map pk,zag l,by simpa using a,q⟩
def z0F {d:D}{l:List (Int × Int)}{Q:DK}{X:XP}(hd:Vs d l)(hb:Wb 20000000 l)(hz:l.length<=2040)(q:∀h,Hd l h->Q (vecs h)):z07.run [d] Q X:=by
 walk_at "fn";ac_nf;refine hd.set hz ⟨λk hk =>?_,λJ h =>?_⟩
 .obtain⟨p,_,rfl⟩:=we.mp hk;unfold pk;simp
 obtain⟨H,rfl,h1,h2⟩:=zcg rfl h;ac_nf;rw[<- zag];have nd:H.Nodup:=h1.imp λz=>z.ne;have hl:H.length<=l.length:=z2b nd λx hx=>(h2 x).mp hx;exact z6k (λp hp=>hb p ((h2 p).mp hp)) (by lia) (q _ ⟨H,h1,h2,rfl⟩)
def dot (p r:Int × Int):Int:=p.1*r.1+p.2*r.2
def z9H {l:List (Int × Int)}{b:Int × Int}{Q:DK}{X:XP}(hb:Vb 30000000 b)(hl:Wb 30000000 l)(hn:l≠[])(hz:l.length<sizeLine)(q:∀m,m∈l.map (dot · b)->(∀p∈l,dot p b<=m)->Q (.int m)):z2n.run [vecs l,vec b] Q X:=by
 walk_at "fn";ac_nf;refine⟨by rw[wd];exact hz,?_⟩;refine z1b (g:=λp =>.int (dot p b)) (λp hp K H =>?_) ?_
 .ac_nf;exact z3x (hl p hp) hb H
 have e:(l.map λp=>D.int (dot p b))=(l.map (dot · b)).map D.int:=by rw[wR];rfl
 rw[e];refine zgE (by simpa using hn) λk hk hx=>q k hk λp hp=>hx _ (we.mpr ⟨p,hp,rfl⟩)
end Pu
namespace Geo
def z03.cyc {S:P->Prop}{h:List P}(x:z03 S h)(g:2<=h.length){j:Nat}(f:j<h.length){a b:P}(d:h[(j+h.length - 1) % h.length]? = some a)(e:h[j]? = some b):Edge S a b:=by
 w_end
 rcases h4 with ⟨rfl,_⟩ | ⟨_,h4⟩
 .simp at g
 cases j with
 | zero=>
  rw[show (0+(m::t).length - 1) % (m::t).length=(m::t).length - 1 by rw[j6];exact wP (by lia)] at d;simp at e;subst e;refine z6o (i:=(m::t).length - 1) h4 ?_ ?_
  .rw[wT (by lia)];exact d
  .rw[show (m::t).length - 1+1=(m::t).length by lia,wV (ww _)];simp
 | succ j=>
  rw[show (j+1+(m::t).length - 1) % (m::t).length=j by rw[show j+1+(m::t).length - 1=j+(m::t).length by lia,uj];exact wP (by lia)] at d;refine z6o (i:=j) h4 ?_ ?_
  .rw[wT (by lia)];exact d
  .rw[wT f];exact e
def In (h:List P)(p:P):Prop:=match h with
 | []=>False
 | [m]=>p=m
 | [a,b]=>cr a b p=0/\0<=dot a b p/\0<=dot b a p
 | h=>∀j a b,j<h.length->h[(j+h.length - 1) % h.length]? = some a->h[j]? = some b->0<=cr a b p
def In.three {h:List P}{p:P}(d:3<=h.length):In h p↔∀j a b,j<h.length->h[(j+h.length - 1) % h.length]? = some a->h[j]? = some b->0<=cr a b p:=by
 match h,d with
 | a::b::c::r,_=>exact Iff.rfl
def z03.in {S:P->Prop}{h:List P}(x:z03 S h){p:P}(hp:S p):In h p:=by
 match h,x with
 | [],x=>obtain⟨m,t,e,_⟩:=x.ex;cases e
 | [m],x=>
  obtain⟨s,t,e,n,o,q,d⟩:=x.ex
  cases e
  rcases d with ⟨_,d⟩ | ⟨d,_⟩
  .exact d p hp
  .exact absurd rfl d
 | [a,b],x=>
  have f:Edge S a b:=x.cyc (j:=1) (by simp) (by simp) (by simp) rfl;have g:Edge S b a:=x.cyc (j:=0) (by simp) (by simp) (by simp) rfl;have u:cr b a p = -cr a b p:=by unfold cr;grind
  have z:cr a b p=0:=by have:=f.left p hp;have:=g.left p hp;lia
  exact⟨z,f.btw p hp z⟩
 | a::b::c::r,x=>exact λj y z l i k=>(x.cyc (by simp) l i k).left p hp
def cy (h:List P)(i:Nat):P:=h.getD (i % h.length) (0,0)
def z13 {h:List P}{i:Nat}(a:0<h.length):h[i % h.length]? = some (cy h i):=by
 unfold cy;have:=uX i a;rw[wG,wf this]
 rfl
def z2v {h:List P}{i:Nat}(a:0<h.length):cy h i∈h:=wu (z13 a)
def z6m {i n:Nat}(a:0<n):((i+1) % n+n - 1) % n=i % n:=by
 have b:=uX i a;have e:(i+1) % n=(i % n+1) % n:=by simp
 rw[e]
 rcases vp (i % n+1) n with z | z
 .rw[wP z,show i % n+1+n - 1=i % n+n by lia,uj,wP b]
 .have:i % n+1=n:=by lia
  rw[this,Nat.mod_self,j6,wP (by lia)];lia
def z3d {S:P->Prop}{h:List P}(x:z03 S h)(a:2<=h.length)(i:Nat):Edge S (cy h i) (cy h (i+1)):=
 x.cyc a (j:=(i+1) % h.length) (uX _ (by lia)) (by rw[z6m (by lia)];exact z13 (by lia)) (z13 (by lia))
def zbL {S:P->Prop}{h:List P}(x:z03 S h)(n:3<=h.length)(i:Nat):cy h i≠cy h (i+2):=λz=>by
 have f:=x.nodup;have m:=z13 (h:=h) (i:=i) (by lia);have d:=z13 (h:=h) (i:=i+2) (by lia);rw[<- z] at d;obtain⟨a,g⟩:=wo.mp m;obtain⟨b,j⟩:=wo.mp d;have e:i % h.length=(i+2) % h.length:=by
  rcases uN (i % h.length) ((i+2) % h.length) with y | y | y
  .exact(vh.mp f _ _ a b y (g.trans j.symm)).elim
  .exact y
  .exact(vh.mp f _ _ b a y (j.trans g.symm)).elim
 have o:=uX i (show 0<h.length by lia);have k:(i+2) % h.length=(i % h.length+2) % h.length:=by simp
 rw[k] at e;generalize i % h.length=r at*
 rcases vp (r+2) h.length with y | y
 .rw[wP y] at e;lia
 .have l:(r+2) % h.length=r+2 - h.length:=by
   rw[Nat.mod_eq_sub_mod y];exact wP (by lia)
  rw[l] at e;lia
theorem zb3 {R:P->P->Prop}:∀{l:List P},(∀i a b,l[i]? = some a->l[i+1]? = some b->R a b)->Path R l
 | [],_=>trivial
 | [_],_=>trivial
 | x::y::r,h=>⟨h 0 x y rfl rfl,zb3 (l:=y::r) λi a b d e=>h (i+1) a b (by simpa using d) (by simpa using e)⟩
def zcP {y m z p:P}(a:0<=cr y m p)(b:0<=cr m z p)(d:0<cr y m z)(e:Lx m y)(f:Lx m z)(g:Lx p m):False:=by
 unfold Lx at e f g;have q:=zdZ (u1:=y.1 - m.1) (u2:=y.2 - m.2) (w1:=m.1 - p.1) (w2:=m.2 - p.2) (z1:=z.1 - m.1) (z2:=z.2 - m.2) (by lia) (by lia) (by lia) (by unfold cr at a;grind) (by unfold cr at b;grind);unfold cr at d
 grind
def z03.fill {S T:P->Prop}{h:List P}(x:z03 S h)(g:∀p∈h,T p)(f:∀p,T p->In h p):z03 T h:=by
 have sub:=x.sub
 match h,x,g,f,sub with
 | [],x,_,_,_=>obtain⟨m,t,e,_⟩:=x.ex;cases e
 | [m],x,g,f,_=>exact⟨m,[],rfl,g m (by simp),λp hp=>by rw[f p hp];exact Lx.irr,by simp,.inl ⟨rfl,f⟩⟩
 | [a,b],x,g,f,sub=>
  obtain⟨m,t,e,V,s,H,W⟩:=x.ex
  cases e
  have n:Edge S a b:=x.cyc (j:=1) (by simp) (by simp) (by simp) rfl;have Y:Lx a b:=by
   rcases Lx.tri a b with z | z | z
   .exact z
   .exact absurd z n.ne
   .exact absurd z (s b n.sb)
  refine⟨a,[b],rfl,g a (by simp),λp hp z =>?_,H,.inr ⟨by simp,⟨⟨g a (by simp),g b (by simp),n.ne,λp hp =>?_,λp hp _=>(f p hp).2⟩,⟨g b (by simp),g a (by simp),jX n.ne,λp hp =>?_,λp hp _=>⟨(f p hp).2.2,(f p hp).2.1⟩⟩,trivial⟩⟩⟩
  .obtain⟨y1,y2,y3⟩:=f p hp;k_accS;k_keys;obtain⟨A,C⟩:=p;simp only[cr,dot,Lx] at*;generalize a4:b1 - a1=u1 at*;generalize a5:b2 - a2=u2 at*;generalize Z:A - a1=q1 at*;generalize a3:C - a2=E at*;have hz:q1<0\/q1=0/\E<0:=by lia
   rcases(show 0<u1\/u1=0/\0<u2 by lia) with r | ⟨r,k2⟩
   .have n:(q1*u1+E*u2)*u1=q1*(u1*u1+u2*u2):=by grind
    have n1:=z0d u1;have n2:=z0d u2;have n3:0<u1*u1:=w3 r r;have O:0<=q1*(u1*u1+u2*u2):=by rw[<- n];exact wJ y2 (wE r)
    have e3:0<=q1:=z3S (show 0<u1*u1+u2*u2 by lia) O;have Q:q1=0:=by lia
    subst Q;have F:u1*E=0:=by lia
    rcases wK.mp F with z | z <;> lia
   .subst r;have F:u2*q1=0:=by lia
    rcases wK.mp F with z | z
    .lia
    .subst z;have:0<=E*u2:=by lia
     have:=z3S k2 this;lia
  .rw[(f p hp).1];exact uw _
  .have z0:cr b a p = -cr a b p:=by unfold cr;grind
   rw[z0,(f p hp).1];exact uw _
 | a0::L::N::r0,x,g,f,sub=>
  generalize X:a0::L::N::r0=h at*;have u:3<=h.length:=by rw[<- X];simp
  have k:∀p,T p->∀i,0<=cr (cy h i) (cy h (i+1)) p:=λp hp i=>by
   have q:=(In.three u).mp (f p hp) ((i+1) % h.length) (cy h i) (cy h (i+1)) (uX _ (by lia));exact q (by rw[z6m (by lia)];exact z13 (by lia)) (z13 (by lia))
  have ed:=z3d x (by lia);have ne2:=zbL x u;k_put;have I:∀i,T (cy h i):=λi=>g _ (z2v (by lia));have G:∀i,Edge T (cy h (i+1)) (cy h (i+2)):=λi=>⟨I _,I _,(ed (i+1)).ne,λp hp=>k p hp (i+1),λp hp z=>⟨z95 (tn i) (k p hp i) z,zbe (tn (i+1)) (k p hp (i+2)) z⟩⟩
  have d:∀i,cy h (i+h.length)=cy h i:=λi=>by unfold cy;rw[uj]
  obtain⟨m,t,e,V,s,H,W⟩:=x.ex;have o:cy h 0=m:=by unfold cy;rw[e];simp
  refine⟨m,t,e,g m (by rw[e];simp),λp hp z =>?_,H,.inr ⟨λy=>by rw[e,y] at u;simp at u,zb3 λi a b R U =>?_⟩⟩
  .have l1:Lx m (cy h 1):=by
    rcases Lx.tri m (cy h 1) with y | y | y
    .exact y
    .exact absurd (o.trans y) (ed 0).ne
    .exact absurd y (s _ (ed 0).sb)
   have J:Edge S (cy h (h.length - 1)) m:=by
    have:=ed (h.length - 1);rw[show h.length - 1+1=0+h.length by lia,d,o] at this;exact this
   have l2:Lx m (cy h (h.length - 1)):=by
    rcases Lx.tri m (cy h (h.length - 1)) with y | y | y
    .exact y
    .exact absurd y.symm J.ne
    .exact absurd y (s _ J.sa)
   have A:=k p hp (h.length - 1);rw[show h.length - 1+1=0+h.length by lia,d,o] at A;have C:=k p hp 0;rw[o] at C;have K:=tn (h.length - 1);rw[show h.length - 1+1=0+h.length by lia,show h.length - 1+2=1+h.length by lia,d,d,o] at K;exact zcP A C K l2 l1 z
  .have hn:h.length=t.length+1:=by rw[e];simp
   have get:∀i z,(m::t++[m])[i]? = some z->i<=h.length/\z=cy h i:=λi z l=>by
    rcases uN i h.length with y | y | y
    .rw[<- e,wT y] at l;refine⟨by lia,?_⟩;have:=z13 (h:=h) (i:=i) (by lia);rw[wP y,l] at this;exact(wQ this)
    .rw[<- e,wV (by lia),y] at l;simp at l;refine⟨by lia,?_⟩;rw[show i=0+h.length by lia,d,o];exact l.symm
    .rw[<- e,List.getElem?_eq_none (by simp;lia)] at l
     cases l
   obtain⟨i1,rfl⟩:=get i a R;obtain⟨i2,rfl⟩:=get (i+1) b U;have:=G (i+h.length - 1);rw[show i+h.length - 1+1=i+h.length by lia,show i+h.length - 1+2=i+1+h.length by lia,d,d] at this;exact this
end Geo
namespace Pu
open PySem L2
def z9x {α:Type}{l:List α}{k:Nat}(h:k<l.length):atI l (k:Int)=l[k]? := by
 unfold atI ixN;rw[if_pos (by lia),if_pos (by lia)];simp
def zbT {α:Type}{x:α}{r:List α}:atI (x::r) 0=some x:=z9x (k:=0) (by simp)
def zf9 {α:Type}{l:List α}{k:Nat}(h:k<l.length):atI l ((k:Int) - 1)=l[(k+l.length - 1) % l.length]? := by
 unfold atI ixN
 by_cases a:0<=(k:Int) - 1
 .rw[if_pos a,if_pos (by lia)];show l[((k:Int) - 1).toNat]? = _;rw[show (k+l.length - 1) % l.length=k - 1 by rw[show k+l.length - 1=(k - 1)+l.length by lia,uj];exact wP (by lia)]
  congr 1
  lia
 .rw[if_neg a,if_pos (by lia)];have b:k=0:=by lia
  subst b;show l[(((0:Nat):Int) - 1+(l.length:Int)).toNat]? = _;rw[show (0+l.length - 1) % l.length=l.length - 1 by rw[j6];exact wP (by lia)]
  congr 1
  lia
abbrev P:=Geo.P
def stp (a b:P):P:=(b.1 - a.1,b.2 - a.2)
def rt (s:P):P:=(s.2,-s.1)
def z0h (h:List P)(j:Nat):List (P × P):=(rt (stp (Geo.cy h (j+h.length - 1)) (Geo.cy h j)),Geo.cy h j)::if h.length=2 then [(stp (Geo.cy h (j+h.length - 1)) (Geo.cy h j),Geo.cy h j)] else []
def ways:List P:=[(1,0),(0,1),(-1,0),(0,-1)]
def z04 (h:List P):List (P × P):=if h.length=1 then ways.map λb=>(b,Geo.cy h 0) else (List.range h.length).flatMap (z0h h)
abbrev zey (x:P × P):D :=.tup [vec x.1,vec x.2]
def z5W {s:P}{Q:DK}{X:XP}(q:Q (vec (rt s))):z2m.run [vec s] Q X:=by
 walk_at "fn";ac_nf;f_int
def z8w {h:List P}{k:Nat}(a:k<h.length):atI h (k:Int)=some (Geo.cy h k):=by
 rw[z9x a, <- z13 (i:=k) (by lia),wP a]
def zhg {h:List P}{k:Nat}(a:k<h.length):atI h ((k:Int) - 1)=some (Geo.cy h (k+h.length - 1)):=by rw[zf9 a,z13 (by lia)]
def z4T {h:List P}{Q:DK}{X:XP}(hz:h.length<=100000)(hn:h≠[])(q:Q (.lst ((z04 h).map zey))):z1w.run [vecs h,.fn 2] Q X:=by
 have O:0<h.length:=w4.mpr hn;walk_at "fn";ac_nf;rw[wd];refine z0Q (λhl =>?_) (λhl =>?_)
 .ac_nf;show onL (items (vecs ways)) _;ac_nf;refine⟨by rw[wd];exact szl' (by decide),?_⟩;refine z1b (g:=λb=>zey (b,Geo.cy h 0)) (λb hb K R =>?_) ?_
  .ac_nf;refine z1e (z0P (z8w (k:=0) O)) ?_;ac_nf;exact R
  .rw[z04,if_pos (by lia),wR] at q;f_int
 refine zdk ?_;refine z3W (zc9 ?_);ac_nf;k_all;ac_rfl;ac_nf;rw[wd];kmb_kw;have N:((h.length:Nat):Int).toNat=h.length:=by simp
 rw[N];have J:∀H:List Nat,(H.flatMap (z0h h)).length<=2*H.length:=by
  intro H
  induction H with
  | nil=>simp
  | cons k H V=>
   rw[List.flatMap_cons,wB];have:(z0h h k).length<=2:=by unfold z0h;split <;> simp
   simp only[wI];lia
 refine z0A (f:=λ(j:Nat)=>D.int (j:Int)) (λH L=>∃x y z:B,(∀d,noL d=true->noD d=true->True)/\L=[.s (vecs h),.s (.fn 2),.o (.lst ((H.flatMap (z0h h)).map zey)),x,y,z]) ⟨_,_,_,λ_ _ _=>trivial,rfl⟩ ?_ ?_
 .rintro H k r L e ⟨x,y,z,_,rfl⟩;have hk:k<h.length:=by
   have:k∈List.range h.length:=by rw[e];simp
   k_ne
  have hd:H.length<h.length:=by
   have:=congrArg List.length e;simp at this;lia
  have U:=J H;w_up;ac_rfl;ac_nf;refine z1e (z0P (z8w hk)) ?_;k_in;ac_rfl;ac_nf;refine z8t rfl ?_;ac_nf;refine z1e (z0P (zhg hk)) ?_;ac_nf;refine z2a ?_;k_in;ac_rfl;l_fitC;ac_nf;refine z5W ?_;ac_nf;kcj_m;ac_rfl;ac_nf;rw[wd];refine z0Q (λh2 =>?_) (λh2 =>?_)
  .tb_lt;ac_nf;refine⟨by rw[wB,wd];exact szl' (by simp only[wI,uO];lia),Safe.of_noL rfl rfl _,?_⟩;ac_rfl;tm_up;rw[List.flatMap_append,wv,List.flatMap_cons,List.flatMap_nil,vi,z0h,if_pos (by lia)];simp[stp]
  .ac_nf;tm_up;rw[List.flatMap_append,wv,List.flatMap_cons,List.flatMap_nil,vi,z0h,if_neg (by lia)];simp[stp]
 rintro L ⟨x,y,z,_,rfl⟩;ac_nf;rw[z04,if_neg (by lia)] at q;f_int
def z3Q {a b p:P}:dot p (rt (stp a b))<=dot b (rt (stp a b))↔0<=Geo.cr a b p:=by
 have e:dot b (rt (stp a b)) - dot p (rt (stp a b))=Geo.cr a b p:=by
  unfold dot rt stp Geo.cr;kt_k
  grind
 lia
def z5f {a b p:P}:dot p (stp a b)<=dot b (stp a b)↔0<=Geo.dot b a p:=by
 have e:dot b (stp a b) - dot p (stp a b)=Geo.dot b a p:=by
  unfold dot stp Geo.dot;kt_k
  grind
 lia
def z2Y {h:List P}{s:P × P}(d:h.length≠1)(a:s∈z04 h):∃j,j<h.length/\s∈z0h h j:=by
 rw[z04,if_neg d,List.mem_flatMap] at a;obtain⟨j,b,a⟩:=a;exact⟨j,vI.mp b,a⟩
def z1r {h:List P}{s:P × P}{j:Nat}(b:h.length≠1)(a:j<h.length)(d:s∈z0h h j):s∈z04 h:=by
 rw[z04,if_neg b,List.mem_flatMap];exact⟨j,vI.mpr a,d⟩
def z6i {h:List P}{p:P}(A:h≠[])(d:∀s∈z04 h,dot p s.1<=dot s.2 s.1):In h p:=by
 match h,A,d with
 | [m],_,d=>
  have g:=d ((1,0),m) (by simp[z04,ways,Geo.cy]);have k:=d ((0,1),m) (by simp[z04,ways,Geo.cy]);have e:=d ((-1,0),m) (by simp[z04,ways,Geo.cy]);have f:=d ((0,-1),m) (by simp[z04,ways,Geo.cy]);unfold dot at g k e f;dsimp only at g k e f;show p=m;exact vG (by lia) (by lia)
 | [a,b],_,d=>
  have q:∀s,s∈z0h [a,b] 0->s∈z04 [a,b]:=λs z=>z1r (by simp) (by simp) z;have t:∀s,s∈z0h [a,b] 1->s∈z04 [a,b]:=λs z=>z1r (by simp) (by simp) z;have g:=z3Q.mp (d _ (q (rt (stp b a),a) (by simp[z0h,Geo.cy])));have k:=z3Q.mp (d _ (t (rt (stp a b),b) (by simp[z0h,Geo.cy])));have e:=z5f.mp (d _ (q (stp b a,a) (by simp[z0h,Geo.cy])));have f:=z5f.mp (d _ (t (stp a b,b) (by simp[z0h,Geo.cy])));have C:Geo.cr b a p = -Geo.cr a b p:=by unfold Geo.cr;grind
  exact⟨by lia,e,f⟩
 | a::b::c::r,_,d=>
  refine(In.three (by simp)).mpr λj x y o ex u =>?_;have l:Geo.cy (a::b::c::r) j=y:=by
   have:=z13 (h:=a::b::c::r) (i:=j) (by simp);rw[wP o,u] at this;exact(wQ this).symm
  have n:Geo.cy (a::b::c::r) (j+(a::b::c::r).length - 1)=x:=by
   have:=z13 (h:=a::b::c::r) (i:=j+(a::b::c::r).length - 1) (by simp);rw[ex] at this;exact(wQ this).symm
  have:=d (rt (stp x y),y) (z1r (j:=j) (by simp) o (by rw[z0h,l,n];exact wq));exact z3Q.mp this
set_option tactic.hygienic true in
def z3R {S:P->Prop}{h:List P}(x:z03 S h){s:P × P}(a:s∈z04 h):s.2∈h/\∀p,S p->dot p s.1<=dot s.2 s.1:=by
 by_cases g:h.length=1
 .obtain⟨m,rfl⟩:∃m,h=[m]:=by
   match h,g with
   | [m],_=>exact⟨m,rfl⟩
  rw[z04,if_pos g] at a;obtain⟨b,l,rfl⟩:=we.mp a;refine⟨by simp[Geo.cy],λp hp =>?_⟩;have:p=m:=x.in hp;k_end;exact uw _
 .obtain⟨j,n,a⟩:=z2Y g a;have i:2<=h.length:=by lia
  have e:=z3d x i (j+h.length - 1);rw[show j+h.length - 1+1=j+h.length by lia,show Geo.cy h (j+h.length)=Geo.cy h j by unfold Geo.cy;rw[uj]] at e;unfold z0h at a
  rcases wj.mp a with rfl | a
  .exact⟨z2v (by lia),λp hp=>z3Q.mpr (e.left p hp)⟩
  .split at a
   .rename_i d
    rw[wg.mp a];refine⟨z2v (by lia),λp hp=>z5f.mpr ?_⟩;have f:=z3d x i j;have k:Geo.cy h (j+h.length - 1)=Geo.cy h (j+1):=by unfold Geo.cy;rw[d];congr 1
    rw[k] at e ⊢;have r:Geo.cr (Geo.cy h j) (Geo.cy h (j+1)) p = -Geo.cr (Geo.cy h (j+1)) (Geo.cy h j) p:=by unfold Geo.cr;grind
    have o:=e.left p hp;have q:=f.left p hp;exact(f.btw p hp (by lia)).1
   .cases a
end Pu
namespace Geo
def sc (p b:P):Int:=p.1*b.1+p.2*b.2
def za5 (b:P):∀{h:List P},h≠[]->∃i,i<h.length/\∀p∈h,sc p b<=sc (cy h i) b:=by
 have a:∀{h:List P},h≠[]->∃c∈h,∀p∈h,sc p b<=sc c b:=by
  intro h
  induction h with
  | nil=>intro z;exact absurd rfl z
  | cons x r k=>
   intro _
   cases r with
   | nil=>exact⟨x,by simp,λp hp=>by simp at hp;subst hp;exact uw _⟩
   | cons y r=>
    obtain⟨c,f,d⟩:=k (by simp)
    by_cases z:sc x b<=sc c b
    .refine⟨c,wn _ f,λp hp =>?_⟩
     rcases wj.mp hp with rfl | hp
     .exact z
     .exact d p hp
    .refine⟨x,by simp,λp hp =>?_⟩
     rcases wj.mp hp with rfl | hp
     .exact uw _
     .have:=d p hp;lia
 intro h j;obtain⟨c,f,d⟩:=a j;obtain⟨i,g,e⟩:=w5.mp f;refine⟨i,g,λp hp =>?_⟩;have:cy h i=c:=by
  have:=z13 (h:=h) (i:=i) (by lia);rw[wP g,wf g,e] at this;exact(wQ this).symm
 rw[this];exact d p hp
def z03.far {S:P->Prop}{h:List P}(x:z03 S h){p:P}(hp:In h p)(b:P):∃c∈h,sc p b<=sc c b:=by
 match h,x,hp with
 | [],x,_=>obtain⟨m,t,e,_⟩:=x.ex;cases e
 | [m],x,hp=>exact⟨m,by simp,by rw[show p=m from hp];exact uw _⟩
 | [y,z],x,hp=>
  obtain⟨F,L,G⟩:=hp;have A:Edge S y z:=x.cyc (j:=1) (by simp) (by simp) (by simp) rfl;have H:=A.ne;obtain⟨y1,y2⟩:=y;obtain⟨l,n⟩:=z;obtain⟨o,r⟩:=p;k_keys;simp only[cr,dot] at F L G;generalize a3:l - y1=u1 at*;generalize a4:n - y2=u2 at*;generalize a1:o - y1=f at*;generalize a2:r - y2=g at*;have d:0<u1*u1+u2*u2:=by
   have:=z0d u1;have:=z0d u2
   rcases uG (show 0<=u1*u1+u2*u2 by lia) with k | k
   .exact k
   .obtain⟨R,T⟩:=z3H k.symm;exact(H (vG (by show y1=l;lia) (by show y2=n;lia))).elim
  by_cases Z:0<=u1*b1+u2*b2
  .refine⟨(l,n),by simp,?_⟩;simp only[sc];have R:y1 - l = -u1:=by lia
   have T:y2 - n = -u2:=by lia
   have k3:o - l=f - u1:=by lia
   have k4:r - n=g - u2:=by lia
   rw[R,T,k3,k4] at G;have a:(l*b1+n*b2 - (o*b1+r*b2))*(u1*u1+u2*u2)=((f - u1) * -u1+(g - u2) * -u2)*(u1*b1+u2*b2)+(u1*g - u2*f)*(u2*b1 - u1*b2):=by
    have A:l=u1+y1:=by lia
    have Y:n=u2+y2:=by lia
    have C:o=f+y1:=by lia
    have E:r=g+y2:=by lia
    subst A Y C E
    grind
   rw[F,jo,uB] at a;have:=z3S d (by rw[a];exact wJ G Z);lia
  .refine⟨(y1,y2),by simp,?_⟩;simp only[sc];have a:(y1*b1+y2*b2 - (o*b1+r*b2))*(u1*u1+u2*u2)=(f*u1+g*u2) * -(u1*b1+u2*b2) - (u1*g - u2*f)*(u1*b2 - u2*b1):=by
    have C:o=f+y1:=by lia
    have E:r=g+y2:=by lia
    subst C E
    grind
   rw[F,jo,Int.sub_zero] at a;have:=z3S d (by rw[a];exact wJ L (by lia));lia
 | a0::W::X::r0,x,hp=>
  generalize N:a0::W::X::r0=h at*;have O:3<=h.length:=by rw[<- N];simp
  have s:∀i,0<=cr (cy h i) (cy h (i+1)) p:=λi=>by
   have q:=(In.three O).mp hp ((i+1) % h.length) (cy h i) (cy h (i+1)) (uX _ (by lia));exact q (by rw[z6m (by lia)];exact z13 (by lia)) (z13 (by lia))
  have ed:=z3d x (by lia);have ne2:=zbL x O;k_put;have u:∀i,cy h (i+h.length)=cy h i:=λi=>by unfold cy;rw[uj]
  obtain⟨i,hi,Q⟩:=za5 b (h:=h) (by rw[<- N];simp);refine⟨cy h i,z2v (by lia),?_⟩;have m1:=Q (cy h (i+h.length - 1)) (z2v (by lia));have m2:=Q (cy h (i+1)) (z2v (by lia));have J:=tn (i+h.length - 1);have U:=s (i+h.length - 1);have V:=s i;rw[show i+h.length - 1+1=i+h.length by lia,u] at J U;rw[show i+h.length - 1+2=(i+1)+h.length by lia,u] at J;generalize cy h (i+h.length - 1)=y at*;generalize cy h i=c at*;generalize cy h (i+1)=z at*;unfold cr at J U V;unfold sc at m1 m2 ⊢;have K:0<(z.1 - c.1)*(y.2 - c.2) - (z.2 - c.2)*(y.1 - c.1):=by grind
  have I:0<=(p.1 - c.1)*(y.2 - c.2) - (p.2 - c.2)*(y.1 - c.1):=by grind
  have a:(c.1*b.1+c.2*b.2 - (p.1*b.1+p.2*b.2))*((z.1 - c.1)*(y.2 - c.2) - (z.2 - c.2)*(y.1 - c.1))=((p.1 - c.1)*(y.2 - c.2) - (p.2 - c.2)*(y.1 - c.1))*(c.1*b.1+c.2*b.2 - (z.1*b.1+z.2*b.2))+((z.1 - c.1)*(p.2 - c.2) - (z.2 - c.2)*(p.1 - c.1))*(c.1*b.1+c.2*b.2 - (y.1*b.1+y.2*b.2)):=by grind
  have n1:=wJ I (show 0<=c.1*b.1+c.2*b.2 - (z.1*b.1+z.2*b.2) by lia);have n2:=wJ V (show 0<=c.1*b.1+c.2*b.2 - (y.1*b.1+y.2*b.2) by lia);have:=z3S K (by rw[a];lia);lia
def sca (c:Int)(v:P):P:=(v.1*c,v.2*c)
def zaC {c:Int}(f:0<c){a b:P}(h:sca c a=sca c b):a=b:=by
 have d:=congrArg Prod.fst h;have e:=congrArg Prod.snd h;exact vG (wY (by lia) d) (wY (by lia) e)
def zgW {c:Int}(f:0<c){a b:P}:Lx (sca c a) (sca c b)->Lx a b:=by
 intro h
 rcases h with h | ⟨d,e⟩
 .exact .inl (Int.lt_of_mul_lt_mul_right h (by lia))
 .exact .inr ⟨wY (by lia) d,Int.lt_of_mul_lt_mul_right e (by lia)⟩
def zdU (c:Int)(a b p:P):cr (sca c a) (sca c b) (sca c p)=c*c*cr a b p:=by
 simp only[cr,sca]
 grind
def zbJ (c:Int)(a b p:P):dot (sca c a) (sca c b) (sca c p)=c*c*dot a b p:=by
 simp only[dot,sca]
 grind
theorem Path.mapTo {R R':P->P->Prop}{f:P->P}(d:∀a b,R a b->R' (f a) (f b)):∀{l:List P},Path R l->Path R' (l.map f)
 | [],_=>trivial
 | [_],_=>trivial
 | a::b::r,h=>⟨d a b h.1,Path.mapTo d h.2⟩
theorem z03.sca {l h:List P}{c:Int}(d:0<c)(x:z03 (· ∈ l) h):z03 (· ∈ l.map (sca c)) (h.map (sca c)):=by
 have i:0<c*c:=w3 d d;w_end;refine⟨Geo.sca c m,t.map (Geo.sca c),by rw[wC],we.mpr ⟨m,h1,rfl⟩,λp hp z =>?_,λz =>?_,?_⟩
 .tlg_ne;exact h2 q hq (zgW d z)
 .obtain⟨q,hq,e⟩:=we.mp z;exact h3 (zaC d e ▸ hq)
 .rcases h4 with ⟨rfl,h4⟩ | ⟨g,h4⟩
  .refine .inl ⟨rfl,λp hp =>?_⟩;tlg_ne;rw[h4 q hq]
  .refine .inr ⟨by simpa using g,?_⟩;have:=h4.mapTo (R':=Edge (· ∈ l.map (Geo.sca c))) (f:=Geo.sca c) λa b e =>?_
   .rw[wv,wC] at this;exact this
   refine⟨we.mpr ⟨a,e.sa,rfl⟩,we.mpr ⟨b,e.sb,rfl⟩,λz=>e.ne (zaC d z),λp hp =>?_,λp hp z =>?_⟩
   .tlg_ne;rw[zdU];exact wJ (by lia) (e.left q hq)
   .tlg_ne;rw[zdU] at z;have j:cr a b q=0:=(wK.mp z).resolve_left (by lia);have:=e.btw q hq j;rw[zbJ,zbJ];exact⟨wJ (by lia) this.1,wJ (by lia) this.2⟩
theorem z4F:∀{l:List Int},(∀x∈l,0<=x)->0<=l.sum/\∀x∈l,x<=l.sum
 | [],_=>⟨by simp,λx a=>by cases a⟩
 | y::l,h=>by
  have b:=z4F (l:=l) λx a=>h x (by simp[a]);have d:=h y (by simp);rw[vc];refine⟨by lia,λx a =>?_⟩
  rcases wj.mp a with rfl | a
  .lia
  .have:=b.2 x a;lia
end Geo
namespace Pu
open PySem L2
def Far (m:Int)(p:Int × Int):Prop:=(-m<=p.1/\p.1<=m) /\ -m<=p.2/\p.2<=m
def Far.vb {m:Int}{n:Nat}{p:Int × Int}(h:Far m p)(g:m<2 ^ n):Vb n p:=by
 obtain⟨⟨a,b⟩,d,f⟩:=h;have e:((2 ^ n:Nat):Int)=2 ^ n:=by simp
 refine⟨z05 ?_,z05 ?_⟩ <;> lia
def zaM {s t:Sm}{b:Pu.Env}{N:Pu.Env->Prop}{Q:DK}{X:XP}(W:Pu.Env->Prop)(h:s.run b W Q X)(k:∀a,W a->t.run a N Q X):(Sm.seq s t).run b N Q X:=s.mono b W _ Q Q X X k (λ_ z=>z) (λ_ z=>z) h
def zdT {α:Type}{f:α->D}{l:List α}{k:Int}(h:0<=k):cutD (l.map f) (some k) none=(l.drop k.toNat).map f:=by
 have a:HT.sIx l.length 0 (some k)=min k.toNat l.length:=by
  show (if k<0 then (k+(l.length:Int)).toNat else min k.toNat l.length)=_;rw[if_neg (by lia)]
 rw[z3e,a];show ((l.drop (min k.toNat l.length)).take (l.length - min k.toNat l.length)).map f=_;rw[ud (by simp)]
 rcases Nat.le_total k.toNat l.length with z | z
 .rw[Wc z]
 .rw[Nat.min_eq_right z,jA z,List.drop_length]
open Mth
structure Pl (x y b u v t:Int):Prop where
 pos:0<t
 cop:Int.gcd ((Int.gcd u v:Nat):Int) t=1
 cx:u*b=x*t
 cy:v*b=y*t
def Pl.of {x y b u v t:Int}(h:Plc x y b u v t):Pl x y b u v t:=⟨by have:=h.pos;lia,h.cop,h.cx,h.cy⟩
def z6N {u v t b:Int}(e:Int.gcd ((Int.gcd u v:Nat):Int) t=1)(h:t ∣ u*b)(i:t ∣ v*b):t ∣ b:=by
 have f:t.natAbs ∣ u.natAbs*b.natAbs:=by rw[<- ue];exact vZ.mpr h
 have g:t.natAbs ∣ v.natAbs*b.natAbs:=by rw[<- ue];exact vZ.mpr i
 have d:=Wg f g;rw[Nat.gcd_mul_right] at d;have a:Nat.Coprime t.natAbs (Nat.gcd u.natAbs v.natAbs):=by
  rw[z2C,j0] at e;exact e
 exact vZ.mp (a.dvd_of_dvd_mul_left d)
def Pl.dvd {x y b u v t:Int}(h:Pl x y b u v t):t ∣ b:=z6N h.cop ⟨x,by rw[h.cx,ve]⟩ ⟨y,by rw[h.cy,ve]⟩
def Pl.eq {x y b u v t a i t':Int}(p:0<b)(h:Pl x y b u v t)(k:Pl x y b a i t'):u=a/\v=i/\t=t':=by
 have g:b≠0:=by lia
 have cr:∀{u a x:Int},u*b=x*t->a*b=x*t'->u*t'=a*t:=λ{u a x} n o=>by
  apply wY g
  calc u*t'*b=(u*b)*t':=by grind
   _=(a*b)*t:=by rw[n,o];grind
   _=a*t*b:=by grind
 have d:=cr h.cx k.cx;have f:=cr h.cy k.cy;have l:t ∣ t':=z6N h.cop ⟨a,by rw[d,ve]⟩ ⟨i,by rw[f,ve]⟩;have m:t' ∣ t:=z6N k.cop ⟨u,by rw[<- d,ve]⟩ ⟨v,by rw[<- f,ve]⟩;have e:t=t':=Int.dvd_antisymm (by have:=h.pos;lia) (by have:=k.pos;lia) l m;subst e;have j:t≠0:=by have:=h.pos;lia
 exact⟨wY j d,wY j f,rfl⟩
def Pl.bt {x y b u v t:Int}{n m:Nat}(l:0<b)(h:Pl x y b u v t)(f:Bt n b)(g:Bt m x)(d:Bt m y):Bt n t/\Bt m u/\Bt m v:=by
 obtain⟨k,a⟩:=h.dvd;have j:=h.pos;have i:0<k:=by
  rcases v4 0 k with z | z
  .exact z
  .have:=w7 (wE j) z;lia
 have le:∀{u x:Int},u*b=x*t->u.natAbs<=x.natAbs:=λ{u x} e=>by
  have:u*k=x:=by
   apply wY (show t≠0 by lia);rw[<- e,a]
   grind
  rw[<- this,ue];exact Nat.le_mul_of_pos_right _ (by lia)
 refine⟨f.of_abs ?_,g.of_abs (le h.cx),d.of_abs (le h.cy)⟩;rw[a,ue];exact Nat.le_mul_of_pos_right _ (by lia)
def zbV (a:Int):(if a<0 then -a else a)=(a.natAbs:Int):=by split <;> lia
def z3y {a b:Int}{Q:DK}{X:XP}(q:Q (.int ((Int.gcd a b:Nat):Int))):z09.run [.int a,.int b] Q X:=by
 walk_at "fn";ac_nf;rw[zbV,zbV];refine z58 (λH=>∃(g s:Nat) (x:B),Nat.gcd g s=Int.gcd a b/\H=[.s (.int a),.s (.int b),.s (.int (g:Int)),.s (.int (s:Int)),x]) (λH=>(nI H 3).toNat) ⟨a.natAbs,b.natAbs,_,rfl,rfl⟩ ?_;rintro H ⟨g,s,x,e,rfl⟩;ac_nf;refine z4o (z0Q (λz =>?_) (λz =>?_))
 .ac_nf;have:s=0:=by lia
  k_end;rw[Nat.gcd_zero_right] at e;rw[e];f_int
 .ac_nf;have hm:(g:Int) % (s:Int)=((g % s:Nat):Int):=by simp
  refine⟨⟨s,g % s,_,by rw[<- e,j0 g s,Nat.gcd_rec s g,j0],by rw[hm]⟩,?_⟩;show ((g:Int) % (s:Int)).toNat<((s:Nat):Int).toNat
  rw[hm];have:=uX g (show 0<s by lia);lia
def z5D {x y b:Int}{Q:DK}{X:XP}(hb:0<b)(H:Bt 8000 b)(q:∀u v t,Pl x y b u v t->Q (.tup [.int u,.int v,.int t])):z20.run [.int x,.int y,.int b] Q X:=by
 have hp:=zdw (x:=x) (y:=y) hb;have g0:=z9i (x:=x) (y:=y) hb;have J:Bt 9000 (g3 x y b):=Bt.le (H.of_abs (by
  have:=vZ.mpr (z53 x y b);exact Nat.le_of_dvd (by lia) this))
 walk_at "fn";ac_nf;refine z3y ?_;ac_nf;refine z3y ?_;rw[show ((Int.gcd ((Int.gcd b x:Nat):Int) y:Nat):Int)=g3 x y b from rfl];generalize g3 x y b=g at*;ac_nf;exact q _ _ _ (Pl.of hp)
def gcd0 (u t:Int):Int.gcd ((Int.gcd u 0:Nat):Int) t=Int.gcd u t:=by rw[z2C];simp[Int.gcd]
def Pl.low {t b:Int}(f:0<b):Pl t 0 b (t / (Int.gcd t b:Int)) 0 (b / (Int.gcd t b:Int)):=by
 obtain⟨i,a,d,h,e⟩:=z3u (t:=t) f;refine⟨by lia,by rw[gcd0];exact e,?_,by simp⟩;generalize (Int.gcd t b:Int)=g at*;generalize t / g=u at*;generalize b / g=w at*;rw[d,a]
 grind
def z85 {a b c d:Int}{Q:DK}{X:XP}(hb:0<b)(hd:0<d)(h1:Int.gcd a b=1)(h2:Int.gcd c d=1)(U:Bt 8000 a)(H:Bt 8000 b)(V:Bt 8000 c)(J:Bt 8000 d)
  (q:∀u t,Pl (a*d+c*b) 0 (b*d) u 0 t->Q (.tup [.int u,.int t])):z4H.run [.tup [.int a,.int b],.tup [.int c,.int d]] Q X:=by
 obtain⟨g,K⟩:∃g,g=((Int.gcd b d:Nat):Int):=⟨_,rfl⟩
 obtain⟨t,N⟩:∃t,t=a*(d / g)+c*(b / g):=⟨_,rfl⟩
 obtain⟨r,L⟩:∃r,r=((Int.gcd g t:Nat):Int):=⟨_,rfl⟩
 obtain⟨g0,r0,gl,O,pl⟩:=zb0 (x:=a) (y:=0) (z:=b) (a:=c) (b:=0) (c:=d) (v:=0) (r:=r) hb hd (by rw[gcd0];exact h1) (by rw[gcd0];exact h2) K N (by simp) (by rw[L];simp);have Y:Bt 9000 g:=Bt.le (H.of_abs gl);have Z:Bt 9000 r:=Bt.le (H.of_abs O);have b1:Bt 8000 (d / g):=J.of_abs (z1d g0);have b2:Bt 8000 (b / g):=H.of_abs (z1d g0);have R:Bt 8000 (d / r):=J.of_abs (z1d r0);walk_at "fn";ac_nf;refine z3y ?_;rw[<- K];ac_nf;rw[<- N];refine z3y ?_;rw[<- L];ac_nf;have:=Pl.of pl;simp only[Int.zero_ediv,jo,uB] at this;exact q _ _ this
abbrev Sh:=Nat × Int × Int
abbrev shD (s:Sh):D :=.tup [.int (s.1:Int),.tup [.int s.2.1,.int s.2.2]]
def wx (l:List P)(k:Nat):Int:=(Geo.cy l k).1
def wy (l:List P)(k:Nat):Int:=(Geo.cy l k).2
def z0N {c k m:Int}{Q:DK}{X:XP}(hk:0<=k)(H:k<=1000)(hm:0<m)(q:∀r:Int,0<=r->r<m->Q (.int r)):z00.run [.int c,.int k,.int m] Q X:=by
 have J:Bt 640 k:=z05 (by lia);have b1:Bt 700 (c % 170141183460469231731687303715884105727+(k+3)*1000000007):=(Bt.add (z05 (n:=130) (by lia)) (z05 (n:=130) (by lia))).le;walk_at "fn";ac_nf;exact q _ (jF _ (by lia)) (u6 _ hm)
def Ln (d:D):Prop:=d = .non\/∃p:P,d=vec p/\Far 3 p
def zaK {c m:Int}{Q:DK}{X:XP}(hm:0<=m)(hb:m<=1000000000)(q:∀p,Far 1000000000 p->Q (vec p)):z0c.run [.int c,.int m] Q X:=by
 have b2:0<2*m+1:=by lia
 have H:Bt 640 m:=z05 (by lia);have J:Bt 9000 (2*m+1):=Bt.le (m:=40) (z05 (by lia));walk_at "fn";ac_nf;have h1:=jF c (show 2*m+1≠0 by lia);have h2:=u6 c b2;have h3:=jF (c / (2*m+1)) (show 2*m+1≠0 by lia);have h4:=u6 (c / (2*m+1)) b2;exact q (c % (2*m+1) - m,c / (2*m+1) % (2*m+1) - m) ⟨⟨by show _<=c % (2*m+1) - m;lia,by show c % (2*m+1) - m<=_;lia⟩,by show _<=c / (2*m+1) % (2*m+1) - m;lia,by show c / (2*m+1) % (2*m+1) - m<=_;lia⟩
abbrev wtD (x:List P × P):D :=.tup [vecs x.1,vec x.2]
def z93 (x:List P × P):noL (wtD x)=true:=by
 have:=z14 x.1;show noLs [vecs x.1,vec x.2]=true;simpa[noLs,noL] using this
def z94 (x:List P × P):noD (wtD x)=true:=by
 have:=z15 x.1;show noDs [vecs x.1,vec x.2]=true;simpa[noDs,noD] using this
def min2 (a b:Int):(if b<a then b else a)=min a b:=by split <;> lia
def zdn {n d:Nat}{k:Int}(h:0<=k):HT.sIx n d (some k)=min k.toNat n:=by
 show (if k<0 then (k+(n:Int)).toNat else min k.toNat n)=_;rw[if_neg (by lia)]
def zaN {ns:List Int}{Q:DK}{X:XP}(q:∀c,(c % 2=1->ns≠[])->Q (.int c)):z0f.run [.lst (ns.map .int),.int 0] Q X:=by
 walk_at "fn";ac_nf;lge_go
 .ac_nf;rw[wd] at h;obtain⟨v,_,e⟩:=z4j (xs:=ns) (by decide) h;rw[z0P e];exact q v λ_ z=>by rw[z] at h;simp at h
 .ac_nf;exact q 0 λz=>by lia
theorem z3v {α a:Type}{f:α->D}{g:a->D}{P:α->a->Prop}{G:D->(Option D->Prop)->Prop}:∀{l:List α}{M:List D->Prop},(∀x∈l,∀K:Option D->Prop,(∀y,P x y->K (some (g y)))->G (f x) K)->(∀ys:List a,ys.length=l.length->(∀(i:Nat) (h:i<l.length),∃y,ys[i]? = some y/\P l[i] y)->M (ys.map g))->z3g G (l.map f) M
 | [],_,_,q=>q [] rfl (λi h=>absurd h (by simp))
 | x::r,M,h,q=>h x wq _ λy j=>z3v (l:=r) (M:=λt=>M ((some (g y)).toList++t)) (λz k=>h z (wn _ k)) λys e b=>q (y::ys) (by simp[e]) λi d=>by
  cases i with
  | zero=>exact⟨y,rfl,j⟩
  | succ i=>exact b i (by simpa using d)
def most (l:List P)(b:P):Int->Prop:=λm=>m∈l.map (dot · b)/\∀p∈l,dot p b<=m
def zeK {l:List P}{b:P}{m n:Int}(h:most l b m)(k:most l b n):m=n:=by
 obtain⟨p,hp,rfl⟩:=we.mp h.1;obtain⟨r,a,rfl⟩:=we.mp k.1;exact Int.le_antisymm (k.2 p hp) (h.2 r a)
abbrev zc6 (s:P × P):D :=.tup [vec s.1,.int (dot s.2 s.1)]
def ze1 {h:List P}(k:h≠[])(f:Wb 10000000 h){s:P × P}(hs:s∈z04 h):Vb 20000000 s.1/\s.2∈h:=by
 have a:0<h.length:=w4.mpr k
 by_cases g:h.length=1
 .rw[z04,if_pos g] at hs;kgr_on;refine⟨?_,z2v a⟩;show Vb 20000000 b;unfold ways at hb';simp only[wj,wF,vS] at hb'
  rcases hb' with rfl | rfl | rfl | rfl <;> exact⟨(bt_k (by decide +kernel)).le,(bt_k (by decide +kernel)).le⟩
 .obtain⟨j,l,hs⟩:=z2Y g hs;have d:=f _ (z2v (h:=h) (i:=j+h.length - 1) a);have e:=f _ (z2v (h:=h) (i:=j) a);have st:Vb 20000000 (stp (Geo.cy h (j+h.length - 1)) (Geo.cy h j)):=⟨(Bt.sub e.1 d.1).le,(Bt.sub e.2 d.2).le⟩
  unfold z0h at hs
  rcases wj.mp hs with rfl | hs
  .exact⟨⟨st.2,st.1.neg⟩,z2v a⟩
  .split at hs
   .rw[wg.mp hs];exact⟨st,z2v a⟩
   .cases hs
def zax {S:P->Prop}{h:List P}(x:z03 S h){s:P × P}(hs:s∈z04 h):s.1≠(0,0):=by
 by_cases a:h.length=1
 .rw[z04,if_pos a] at hs;kgr_on;show b≠(0,0);unfold ways at hb';simp only[wj,wF,vS] at hb'
  rcases hb' with rfl | rfl | rfl | rfl <;> decide
 .obtain⟨j,g,hs⟩:=z2Y a hs;have e:=z3d x (by lia) (j+h.length - 1);rw[show j+h.length - 1+1=j+h.length by lia,show Geo.cy h (j+h.length)=Geo.cy h j by unfold Geo.cy;rw[uj]] at e;have st:stp (Geo.cy h (j+h.length - 1)) (Geo.cy h j)≠(0,0):=λz=>by
   unfold stp at z
   injection z with d f
   exact e.ne (vG (by lia) (by lia))
  unfold z0h at hs
  rcases wj.mp hs with rfl | hs
  .intro z;unfold rt at z
   injection z with d f
   exact st (vG (by dsimp only;lia) d)
  .split at hs
   .rw[wg.mp hs];exact st
   .cases hs
def z5e (h:List P):(z04 h).length<=2*h.length+4:=by
 unfold z04
 split
 .simp[ways]
 .have:∀a:List Nat,(a.flatMap (z0h h)).length<=2*a.length:=by
   intro a
   induction a with
   | nil=>simp
   | cons k a b=>
    rw[List.flatMap_cons,wB];have:(z0h h k).length<=2:=by unfold z0h;split <;> simp
    simp only[wI];lia
  have:=this (List.range h.length);rw[vK] at this;lia
def z4t {d:D}{l:List P}{Q:DK}{X:XP}(hd:Vs d l)(hb:Wb 10000000 l)(hn:l≠[])(hz:l.length<=2040)(q:∀h,Hd l h->Q (.tup ((z04 h).map zc6))):z1W.run [d] Q X:=by
 walk_at "fn";ac_nf;refine z0F hd hb.le hz λh L =>?_;have x:=L.is hn;have hs:=x.sub;have hl:h.length<=l.length:=z2b x.nodup hs;have H:h≠[]:=by
  obtain⟨m,t,N,_⟩:=x.ex;rw[N];simp
 ac_nf;refine z4T (by lia) H ?_;have R:=z5e h;refine z0w ⟨trivial,trivial,trivial⟩ ?_;ac_rfl;ac_nf;z_go;refine z1b (g:=zc6) (λs J K O =>?_) ?_
 .obtain⟨b1,b2⟩:=ze1 H (λp hp=>hb p (hs p hp)) J;k_one;show Ex.run _ _ _ _;f_are;ac_rfl;ac_nf;refine z3x b1.le ((hb _ (hs _ b2)).le) ?_;ac_nf;have e:s.1.1*s.2.1+s.1.2*s.2.2=dot s.2 s.1:=by unfold dot;grind
  rw[e];exact O
 ac_nf;exact q h L
def zi7 {x y:Bool}{Q:DK}{X:XP}(q:Q (.bl (!decide (x=y)))):pNe.run [.bl x,.bl y] Q X:=q
theorem filterMap_map {α a:Type}{f:α->Option a}{g:α->a}:∀{ks:List α},(∀k∈ks,f k=some (g k))->ks.filterMap f=ks.map g
 | [],_=>rfl
 | k::ks,h=>by rw[jq,h k (by simp),wC,filterMap_map λx b=>h x (by simp[b])]
def zbu {S T:P->Prop}{h:List P}(x:z03 T h)(d:∀p∈h,S p)(g:∀p,S p->∀b:P,∃c,T c/\dot p b<=dot c b):z03 S h:=by
 refine x.fill d λp hp=>z6i (by obtain⟨m,t,e,_⟩:=x.ex;rw[e];simp) λs d =>?_;obtain⟨c,f,a⟩:=g p hp s.1;exact j7 a ((z3R x d).2 c f)
def z2M {p r:P}{Q:DK}{X:XP}(q:Q (vec (p.1+r.1,p.2+r.2))):z0M.run [vec p,vec r] Q X:=by
 walk_at "fn";ac_nf;f_int
def mv (s p:P):P:=(p.1+s.1,p.2+s.2)
def z4u {l:List P}{s:P}{Q:DK}{X:XP}(hb:Wb 600 l)(hs:Vb 600 s)(hz:l.length<=62)(q:∀h,Hd (l.map (mv s)) h->Q (vecs h)):z1C.run [.tup [vecs l,vec s]] Q X:=by
 walk_at "fn";ac_nf;z_go;refine z1b (g:=λp=>vec (mv s p)) (λp hp K J =>?_) ?_
 .ac_nf;exact z2M J
 refine z0F (l:=l.map (mv s)) (.inr (by rw[wR];rfl)) (λp hp =>?_) (by simp;lia) q;obtain⟨v,H,rfl⟩:=we.mp hp;exact⟨(Bt.add (hb v H).1 hs.1).le,(Bt.add (hb v H).2 hs.2).le⟩
end Pu
namespace Geo
def cx (u v:P):Int:=u.1*v.2 - u.2*v.1
def Rs (u:P):Prop:=0<u.1\/(u.1=0/\0<u.2)
instance (u:P):Decidable (Rs u):=inferInstanceAs (Decidable (_\/_))
def Be (u v:P):Prop:=(Rs u/\¬ Rs v)\/((Rs u↔Rs v)/\0<cx u v)
instance (u v:P):Decidable (Be u v):=inferInstanceAs (Decidable (_\/_))
def z7d {u:P}(h:u≠(0,0)):Rs (ng u)↔¬ Rs u:=by
 obtain⟨a,b⟩:=u;have:¬ (a=0/\b=0):=λ⟨d,e⟩=>h (by rw[d,e]);simp only[Rs,ng];lia
def za6 (u v:P):cx (ng u) (ng v)=cx u v:=by simp only[cx,ng];grind
def zdS (u v:P):cx (ng u) v=cx v u:=by simp only[cx,ng];grind
def zbN (u v:P):cx u (ng v) = -cx u v:=by simp only[cx,ng];grind
def zig {u:P}(h:u≠(0,0)):ng u≠(0,0):=λz=>h (by
 have a:=congrArg Prod.fst z;have b:=congrArg Prod.snd z;simp only[ng] at a b;exact vG (by simp;lia) (by simp;lia))
def zbw {u v w:P}(n:Rs u)(f:Rs v)(hw:Rs w)(g:0<cx u v)(h:0<cx v w):0<cx u w:=by
 obtain⟨u1,b⟩:=u;obtain⟨a,d⟩:=v;obtain⟨w1,e⟩:=w;simp only[Rs,cx] at*;have j:(u1*e - b*w1)*a=(u1*d - b*a)*w1+(a*e - d*w1)*u1:=by grind
 rcases f with f | ⟨f,i⟩
 .rcases v4 0 (u1*e - b*w1) with z | z
  .exact z
  .exfalso
   have o:(u1*e - b*w1)*a<=0:=vE z (by lia);have p:0<=(u1*d - b*a)*w1:=wJ (by lia) (by lia);have q:0<=(a*e - d*w1)*u1:=wJ (by lia) (by lia);have l:(u1*d - b*a)*w1=0:=by omega
   have m:(a*e - d*w1)*u1=0:=by omega
   have r:w1=0:=(wK.mp l).resolve_left (by lia);have k:u1=0:=(wK.mp m).resolve_left (by lia);subst k;have:=w3 (show 0<b by lia) f;simp at g;lia
 .subst f;have:0<=d*w1:=wJ (by lia) (by lia);simp at h;lia
def zbv {u v w:P}(m:Rs u)(d:Rs v)(hw:Rs w)(h:0<cx u w):0<cx u v\/0<cx v w:=by
 obtain⟨u1,e⟩:=u;obtain⟨a,b⟩:=v;obtain⟨w1,f⟩:=w;simp only[Rs,cx] at*;have k:(u1*f - e*w1)*a=(u1*b - e*a)*w1+(a*f - b*w1)*u1:=by grind
 rcases v4 0 (u1*b - e*a) with g | g
 .exact .inl g
 rcases v4 0 (a*f - b*w1) with j | j
 .exact .inr j
 exfalso
 have n:(u1*b - e*a)*w1<=0:=vE g (by lia);have o:(a*f - b*w1)*u1<=0:=vE j (by lia)
 rcases d with d | ⟨d,i⟩
 .have:=w3 h d;lia
 .subst d;simp at g;have l:u1=0:=by
   rcases v4 0 u1 with q | q
   .have:=w3 q i;lia
   .lia
  subst l;have:0<=e*w1:=wJ (by lia) (by lia);simp at h;lia
def Be.tr {u v w:P}(g:u≠(0,0))(h:v≠(0,0))(hw:w≠(0,0))(f:Be u v)(e:Be v w):Be u w:=by
 rcases f with ⟨a,b⟩ | ⟨a,b⟩
 .rcases e with ⟨c,d⟩ | ⟨c,d⟩
  .exact absurd c b
  .exact .inl ⟨a,λz=>b (c.mpr z)⟩
 .rcases e with ⟨c,d⟩ | ⟨c,d⟩
  .exact .inl ⟨a.mpr c,d⟩
  .refine .inr ⟨a.trans c,?_⟩
   by_cases r:Rs u
   .exact zbw r (a.mp r) (c.mp (a.mp r)) b d
   .have:=zbw ((z7d g).mpr r) ((z7d h).mpr λz=>r (a.mpr z)) ((z7d hw).mpr λz=>r (a.mpr (c.mpr z))) (by rw[za6];exact b) (by rw[za6];exact d)
    rwa [za6] at this
def Be.wk {u v w:P}(d:u≠(0,0))(e:v≠(0,0))(hw:w≠(0,0))(h:Be u w):Be u v\/Be v w:=by
 rcases h with ⟨a,b⟩ | ⟨a,b⟩
 .by_cases r:Rs v
  .exact .inr (.inl ⟨r,b⟩)
  .exact .inl (.inl ⟨a,r⟩)
 .by_cases r:Rs u
  .by_cases s:Rs v
   .rcases zbv r s (a.mp r) b with z | z
    .exact .inl (.inr ⟨⟨λ_=>s,λ_=>r⟩,z⟩)
    .exact .inr (.inr ⟨⟨λ_=>a.mp r,λ_=>s⟩,z⟩)
   .exact .inl (.inl ⟨r,s⟩)
  .by_cases s:Rs v
   .exact .inr (.inl ⟨s,λz=>r (a.mpr z)⟩)
   .rcases zbv ((z7d d).mpr r) ((z7d e).mpr s) ((z7d hw).mpr λz=>r (a.mpr z)) (by rw[za6];exact b) with z | z
    .rw[za6] at z;exact .inl (.inr ⟨⟨λq=>absurd q r,λq=>absurd q s⟩,z⟩)
    .rw[za6] at z;exact .inr (.inr ⟨⟨λq=>absurd q s,λq=>absurd (a.mpr q) r⟩,z⟩)
def Be.irr {u:P}:¬ Be u u:=by
 rintro(⟨a,b⟩ | ⟨_,b⟩)
 .exact b a
 .have:cx u u=0:=by simp only[cx];grind
  lia
def Dt (t:P)(l:List P):Int:=(l.map (cx · t)).sum
def Dt.app (t:P)(l m:List P):Dt t (l++m)=Dt t l+Dt t m:=by unfold Dt;rw[wv,jG]
theorem Dt.nonneg {t:P}:∀{l:List P},(∀u∈l,0<=cx u t)->0<=Dt t l
 | [],_=>by simp[Dt]
 | u::l,h=>by
  have:=Dt.nonneg (t:=t) (l:=l) λx a=>h x (by simp[a]);have:=h u (by simp);simp[Dt] at*;lia
theorem Dt.nonpos {t:P}:∀{l:List P},(∀u∈l,cx u t<=0)->Dt t l<=0
 | [],_=>by simp[Dt]
 | u::l,h=>by
  have:=Dt.nonpos (t:=t) (l:=l) λx a=>h x (by simp[a]);have:=h u (by simp);simp[Dt] at*;lia
theorem z6p {t:P}{R:P->P->Prop}(d:∀u v:P,R u v->Be v t->Be u t):∀{E:List P},E.Pairwise R->∃F G,E=F++G/\(∀u∈F,Be u t)/\(∀u∈G,¬ Be u t)
 | [],_=>⟨[],[],rfl,λ_ h=>by(cases h),λ_ h=>by(cases h)⟩
 | u::E,h=>by
  rw[w9] at h
  by_cases b:Be u t
  .obtain⟨F,G,e,f,g⟩:=z6p d h.2;exact⟨u::F,G,by rw[e];rfl,λx a=>(wj.mp a).elim (λz=>z ▸ b) (f x),g⟩
  .exact⟨[],u::E,rfl,λ_ h=>by(cases h),λx a=>(wj.mp a).elim (λz=>z ▸ b) λz q=>b (d u x (h.1 x z) q)⟩
def lead {t:P}(o:t≠(0,0)){E F G K L:List P}(i:∀u∈E,u≠(0,0))(j:E.Pairwise Be)(I:Dt t E=0)(e:E=F++G)(x:∀u∈F,Be u t)(n:∀u∈G,¬ Be u t)(k:E=K++L):Dt t K<=Dt t F:=by
 have s:Dt t F+Dt t G=0:=by rw[<- Dt.app, <- e];exact I
 have J:∀u∈F,u≠(0,0):=λu b=>i u (by rw[e];simp[b]);have N:∀u∈G,u≠(0,0):=λu b=>i u (by rw[e];simp[b]);have C:=zig o
 by_cases r:Rs t
 .have y:∀u∈F,0<cx u t:=λu b=>by
   rcases x u b with ⟨_,z⟩ | ⟨_,z⟩
   .exact absurd r z
   .exact z
  have S:0<=Dt t F:=Dt.nonneg λu b=>wE (y u b)
  rcases jR.mp (k.symm.trans e) with ⟨a,d,f⟩ | ⟨c,d,f⟩
  .have:0<=Dt t a:=Dt.nonneg λu b=>wE (y u (by rw[d];simp[b]));rw[d,Dt.app];lia
  .rw[d,Dt.app]
   rcases v4 0 (Dt t c) with z | z
   .exfalso
    obtain⟨u,b,hp⟩:∃u∈c,0<cx u t:=by
     apply wZ;intro q;have:=Dt.nonpos (t:=t) (l:=c) λu b=>by
      rcases v4 0 (cx u t) with w | w
      .exact absurd ⟨u,b,w⟩ q
      .exact w
     lia
    have p:¬ Rs u:=λw=>n u (by rw[f];simp[b]) (.inr ⟨⟨λ_=>r,λ_=>w⟩,hp⟩);have rt:¬ Rs (ng t):=λw=>(z7d o).mp w r;have m:Be (ng t) u :=.inr ⟨⟨λw=>absurd w rt,λw=>absurd w p⟩,by rw[zdS];exact hp⟩;have V:0<=Dt t L:=Dt.nonneg λv h=>by
     have g:Be u v:=by
      rw[k,d,vB] at j;exact j.2.2 u (by simp[b]) v h
     have Q:=i v (by rw[k];simp[h]);have H:=m.tr C (N u (by rw[f];simp[b])) Q g
     rcases H with ⟨w,_⟩ | ⟨_,w⟩
     .exact absurd w rt
     .rw[zdS] at w;lia
    rw[f,Dt.app] at s;lia
   .lia
 .have A:∀u∈G,cx u t<=0:=λu b=>by
   have p:¬ Rs u:=λw=>n u b (.inl ⟨w,r⟩)
   rcases v4 0 (cx u t) with w | w
   .exact absurd (.inr ⟨⟨λq=>absurd q p,λq=>absurd q r⟩,w⟩) (n u b)
   .exact w
  have T:Dt t G<=0:=Dt.nonpos A
  rcases jR.mp (k.symm.trans e) with ⟨a,d,f⟩ | ⟨c,d,f⟩
  .rw[d,Dt.app]
   rcases v4 (Dt t a) 0 with z | z
   .exfalso
    obtain⟨v,h,hp⟩:∃v∈a,cx v t<0:=by
     apply wZ;intro q;have:=Dt.nonneg (t:=t) (l:=a) λu b=>by
      rcases v4 (cx u t) 0 with w | w
      .exact absurd ⟨u,b,w⟩ q
      .exact w
     lia
    have R:Rs v:=by
     rcases x v (by rw[d];simp[h]) with ⟨w,_⟩ | ⟨_,w⟩
     .exact w
     .lia
    have rt:Rs (ng t):=(z7d o).mpr r;have m:Be v (ng t) :=.inr ⟨⟨λ_=>rt,λ_=>R⟩,by rw[zbN];lia⟩;have U:Dt t K<=0:=Dt.nonpos λu b=>by
     have g:Be u v:=by
      rw[k,f,vB] at j;exact j.2.2 u b v (by simp[h])
     have O:=i u (by rw[k];simp[b])
     rcases g.tr O (J v (by rw[d];simp[h])) C m with ⟨_,w⟩ | ⟨_,w⟩
     .exact absurd rt w
     .rw[zbN] at w;lia
    rw[d,Dt.app] at s;lia
   .lia
  .have:Dt t c<=0:=Dt.nonpos λu b=>A u (by rw[f];simp[b]);rw[d,Dt.app];lia
def sb (a b:P):P:=(b.1 - a.1,b.2 - a.2)
def pl (a b:P):P:=(a.1+b.1,a.2+b.2)
def vs (l:List P):P:=((l.map (·.1)).sum,(l.map (·.2)).sum)
def z1S (u:P)(l:List P):vs (u::l)=pl u (vs l):=rfl
def z8E (l m:List P):vs (l++m)=pl (vs l) (vs m):=by
 simp only[vs,pl,wv,jG]
def vs_perm {l m:List P}(h:l.Perm m):vs l=vs m:=by
 induction h with
 | nil=>rfl
 | cons x _ d=>rw[z1S,z1S,d]
 | swap x y l=>simp only[z1S,pl];exact vG (by simp;lia) (by simp;lia)
 | trans _ _ a b=>exact a.trans b
theorem z8v (t:P):∀l:List P,Dt t l=cx (vs l) t
 | []=>by simp[Dt,vs,cx]
 | u::l=>by
  have a:=z8v t l;rw[z1S,show Dt t (u::l)=cx u t+Dt t l by simp[Dt],a];simp only[cx,pl]
  grind
def df:List P->List P
 | a::b::r=>sb a b::df (b::r)
 | _=>[]
theorem z9p:∀{r:List P}{a q:P},q∈a::r->∃K L,df (a::r)=K++L/\vs K=sb a q
 | [],a,q,h=>by
  rw[wg.mp h];exact⟨[],[],rfl,by simp[vs,sb]⟩
 | b::r,a,q,h=>by
  rcases wj.mp h with rfl | h
  .exact⟨[],_,rfl,by simp[vs,sb]⟩
  .obtain⟨K,L,e,v⟩:=z9p h;refine⟨sb a b::K,L,by rw[df,e];rfl,?_⟩;rw[z1S,v];simp only[pl,sb];kcf_m
theorem zhe:∀{r:List P}{a:P}{K L:List P},df (a::r)=K++L->∃q∈a::r,vs K=sb a q
 | [],a,K,L,h=>by
  have:K=[]:=(jB.mp h.symm).1;k_end;exact⟨a,by simp,by simp[vs,sb]⟩
 | b::r,a,[],L,h=>⟨a,by simp,by simp[vs,sb]⟩
 | b::r,a,u::K,L,h=>by
  rw[df,uW] at h;obtain⟨rfl,d⟩:=List.cons.inj h;obtain⟨q,e,v⟩:=zhe d;refine⟨q,wn _ e,?_⟩;rw[z1S,v];simp only[pl,sb];kcf_m
theorem z9r:∀{r:List P}{a z:P},vs (df (a::r++[z]))=sb a z
 | [],a,z=>by simp[df,vs,sb]
 | b::r,a,z=>by
  show vs (sb a b::df (b::r++[z]))=_;rw[z1S,z9r];simp only[pl,sb];kcf_m
theorem zdR:∀{r s:List P}{a m:P},df (a::r++m::s)=df (a::r++[m])++df (m::s)
 | [],s,a,m=>by
  show sb a m::df (m::s)=[sb a m]++df (m::s)
  rfl
 | b::r,s,a,m=>by
  show sb a b::df (b::r++m::s)=sb a b::df (b::r++[m])++df (m::s);rw[zdR]
  rfl
def mg:List P->List P->List P
 | E,[]=>E
 | E,f::F=>E.takeWhile (λu=>decide (Be u f))++f::mg (E.dropWhile (λu=>decide (Be u f))) F
theorem z4E:∀(E F:List P),(mg E F).Perm (E++F)
 | E,[]=>by simp[mg]
 | E,f::F=>by
  have a:=z4E (E.dropWhile (λu=>decide (Be u f))) F;rw[mg];refine(v5 _ (a.cons f)).trans ?_
  conv=>rhs;rw[<- jl (p:=λu=>decide (Be u f)) (l:=E),wS]
  exact v5 _ jT.symm
theorem zdG:∀{E F K L:List P},mg E F=K++L->∃b g d i,E=b++g/\F=d++i/\K.Perm (b++d)
 | E,[],K,L,h=>⟨K,L,[],[],h,rfl,by simp⟩
 | E,f::F,K,L,h=>by
  rw[mg] at h;have k:=jl (p:=λu=>decide (Be u f)) (l:=E);generalize E.takeWhile (λu=>decide (Be u f))=T at*;generalize E.dropWhile (λu=>decide (Be u f))=R at*
  rcases jR.mp h with ⟨a,e,j⟩ | ⟨c,e,j⟩
  .cases a with
   | nil=>exact⟨T,R,[],f::F,k.symm,rfl,by rw[e]⟩
   | cons x a=>
    rw[uW] at j;obtain⟨rfl,m⟩:=List.cons.inj j;obtain⟨b,g,d,i,n,o,q⟩:=zdG m;refine⟨T++b,g,f::d,i,by rw[<- k,n,wS],by rw[o,uW],?_⟩;rw[e,wS];exact v5 _ ((q.cons f).trans jT.symm)
  .exact⟨K,c++R,[],f::F,by rw[<- k,e,wS],rfl,by simp⟩
def Nz (l:List P):Prop:=∀u∈l,u≠(0,0)
def Be.asym {u v:P}(a:u≠(0,0))(b:v≠(0,0))(h:Be u v):¬ Be v u:=λz=>Be.irr (h.tr a b a z)
theorem zgT:∀{E F:List P},Nz E->Nz F->E.Pairwise (λx y=>¬ Be y x)->F.Pairwise (λx y=>¬ Be y x)->(mg E F).Pairwise (λx y=>¬ Be y x)
 | E,[],_,_,h,_=>by rw[mg];exact h
 | E,f::F,C,G,g,k=>by
  have s:=jl (p:=λu=>decide (Be u f)) (l:=E);have A:∀u∈E.takeWhile (λu=>decide (Be u f)),Be u f:=λu a=>by
   have:=List.all_eq_true.mp (List.all_takeWhile (p:=λu=>decide (Be u f)) (l:=E)) u a;k_ne
  have m:∀d r,E.dropWhile (λu=>decide (Be u f))=d::r->¬ Be d f:=λd r e z=>by
   have:=List.head?_dropWhile_not (λu=>decide (Be u f)) E;rw[e] at this;simp at this;exact this z
  rw[mg];have hp:=z4E (E.dropWhile (λu=>decide (Be u f))) F;generalize E.takeWhile (λu=>decide (Be u f))=T at*;generalize E.dropWhile (λu=>decide (Be u f))=R at*;have H:Nz T:=λu a=>C u (by rw[<- s];simp[a]);have n:Nz R:=λu a=>C u (by rw[<- s];simp[a]);have o:=G f (by simp);have j:Nz F:=λu a=>G u (by simp[a]);rw[<- s,vB] at g;rw[w9] at k;have I:=zgT n j g.2.1 k.2;have mem:∀y∈mg R F,y∈R\/y∈F:=λy b=>wp.mp (hp.mem_iff.mp b);rw[vB,w9];refine⟨g.1,⟨λy b =>?_,I⟩,λx i y b =>?_⟩
  .rcases mem y b with z | z
   .cases R with
    | nil=>cases z
    | cons d r=>
     have t:=m d r rfl
     rcases wj.mp z with rfl | z
     .exact t
     .intro w
      rcases w.wk (v:=d) (n y (by simp[z])) (n d (by simp)) o with q | q
      .exact(w9.mp g.2.1).1 y z q
      .exact t q
   .exact k.1 y z
  .rcases wj.mp b with rfl | b
   .exact(A x i).asym (H x i) o
   .rcases mem y b with z | z
    .exact g.2.2 x i y z
    .intro w;exact k.1 y z (w.tr (j y z) (H x i) o (A x i))
def zeL {t:P}(m:t≠(0,0)){E F:List P}(j:Nz E)(k:Nz F)(z:E.Pairwise Be)(C:F.Pairwise Be)(zE:vs E=(0,0))(zF:vs F=(0,0)):
  ∃K L,mg E F=K++L/\∀o G p H,E=o++G->F=p++H->Dt t o+Dt t p<=Dt t K:=by
 have I:∀{l:List P},vs l=(0,0)->Dt t l=0:=λ{l} h=>by rw[z8v,h];simp[cx]
 have wk:∀{l:List P},Nz l->l.Pairwise Be->l.Pairwise (λx y=>¬ Be y x):=λ{l} n h=>by
  have:l.Pairwise λx y=>(x∈l/\y∈l):=jh λx g y i=>⟨g,i⟩
  exact(h.and this).imp λ{x y} ⟨q,g,i⟩=>q.asym (n x g) (n y i)
 have s:∀{l:List P}{R:P->P->Prop},Nz l->l.Pairwise R->l.Pairwise λx y=>(x≠(0,0)/\y≠(0,0))/\R x y:=λ{l R} n h=>by
  have:l.Pairwise λx y=>(x≠(0,0)/\y≠(0,0)):=jh λx g y i=>⟨n x g,n y i⟩
  exact this.and h
 have e:∀u v:P,((u≠(0,0)/\v≠(0,0))/\Be u v)->Be v t->Be u t:=λu v ⟨⟨a,b⟩,c⟩ d=>c.tr a b m d;have weak:∀u v:P,((u≠(0,0)/\v≠(0,0))/\¬ Be v u)->Be v t->Be u t:=λu v ⟨⟨a,b⟩,c⟩ d=>(d.wk b a m).resolve_left c;have nM:Nz (mg E F):=λu f=>(wp.mp ((z4E E F).mem_iff.mp f)).elim (j u) (k u);obtain⟨V,E2,J,Q,T⟩:=z6p e (s j z);obtain⟨F1,F2,N,S,U⟩:=z6p e (s k C);obtain⟨K,L,O,pK,qK⟩:=z6p weak (s nM (zgT j k (wk j z) (wk k C)));refine⟨K,L,O,λo G p H W X =>?_⟩;have a1:=lead m j z (I zE) J Q T W;have a2:=lead m k C (I zF) N S U X;have r:∀{A B:List P},(∀u∈A,Be u t)->(∀u∈B,¬ Be u t)->(A++B).filter (λu=>decide (Be u t))=A:=λ{A B} Y Z=>by
  rw[List.filter_append,List.filter_eq_self.mpr λu f=>vU (Y u f),List.filter_eq_nil_iff.mpr λu f=>by simpa using Z u f,vi]
 have hp:=(z4E E F).filter (λu=>decide (Be u t));rw[O,r pK qK,List.filter_append,J,r Q T,N,r S U] at hp;have:Dt t K=Dt t V+Dt t F1:=by rw[z8v,vs_perm hp, <- z8v,Dt.app]
 lia
def rd (h:List P):List P:=if h.length=1 then [] else df (h++h.take 1)
def zgV {a b c:P}(h:Lx a b)(k:Lx b c):Lx a c:=by
 simp only[Lx] at*;lia
def zeM {a b:P}(h:Lx a b):Rs (sb a b):=by
 simp only[Lx,Rs,sb] at*;lia
def zbj {a b:P}(h:Lx b a):¬ Rs (sb a b):=by
 simp only[Lx,Rs,sb] at*;lia
def zfv {a b:P}(h:a≠b):sb a b≠(0,0):=λz=>h (by
 have d:=congrArg Prod.fst z;have e:=congrArg Prod.snd z;simp only[sb] at d e;exact vG (by lia) (by lia))
theorem zd2 {R:P->P->Prop}(hR:∀a b,R a b->a≠b):∀{p:List P},Path R p->Nz (df p)
 | [],_=>λu d=>by(cases d)
 | [_],_=>λu d=>by(cases d)
 | a::b::r,h=>λu d=>by
  rw[df] at d
  rcases wj.mp d with rfl | d
  .exact zfv (hR a b h.1)
  .exact zd2 hR h.2 u d
theorem z9q {p:List P}{u:P}:u∈df p->∃a b,(∀R:P->P->Prop,Path R p->R a b)/\u=sb a b:=by
 match p with
 | []=>intro h;cases h
 | [_]=>intro h;cases h
 | a::b::r=>
  intro h;rw[df] at h
  rcases wj.mp h with rfl | h
  .exact⟨a,b,λR q=>q.1,rfl⟩
  .obtain⟨x,y,q,e⟩:=z9q h;exact⟨x,y,λR w=>q R w.2,e⟩
theorem z6n {R:P->P->Prop}:∀{p:List P},p.Pairwise R->Path R p
 | [],_=>trivial
 | [_],_=>trivial
 | a::b::r,h=>by
  rw[w9] at h;exact⟨h.1 b (by simp),z6n h.2⟩
theorem zeZ {S:P->Prop}{O:P->P->Prop}(j:∀a b c d:P,O a b->O c d->(Rs (sb a b)↔Rs (sb c d)))(tr:∀a b c:P,O a b->O b c->a≠c):∀{p:List P},Path (Edge S) p->Path O p->(df p).Pairwise Be
 | [],_,_ =>.nil
 | [_],_,_ =>.nil
 | [a,b],_,_=>List.pairwise_singleton _ _
 | a::b::c::r,h,o=>by
  have g:=zeZ j tr h.2 o.2;have i:=zd2 (λ_ _ (e:Edge S _ _)=>e.ne) h.2;rw[df,w9];refine⟨λu f =>?_,g⟩;have first:Be (sb a b) (sb b c) :=.inr ⟨j a b b c o.1 o.2.1,by
   have:=z4e h.1 h.2.1 (tr a b c o.1 o.2.1);have e:cr a b c=cx (sb a b) (sb b c):=by simp only[cr,cx,sb];grind
   rwa [e] at this⟩
  rw[df] at f g i
  rcases wj.mp f with rfl | f
  .exact first
  .exact first.tr (zfv h.1.ne) (i _ (by simp)) (i u (by simp[f])) ((w9.mp g).1 u f)
structure Rnd (h:List P):Prop where
 nz:Nz (rd h)
 up:(rd h).Pairwise Be
 zero:vs (rd h)=(0,0)
def Hd.rnd {l h:List P}(x:Hd l h)(F:l≠[]):Rnd h:=by
 obtain⟨rl,t,C,rfl⟩:=x;have G:rl≠[]:=λz=>by
  obtain⟨p,r,rfl⟩:=List.exists_cons_of_ne_nil F;have:=(C p).mpr (by simp);rw[z] at this
  cases this
 have hp:=w4.mpr G
 rcases vp rl.length 2 with z | z
 .have e:hull rl=rl:=if_pos (by lia);have:rd (hull rl)=[]:=by rw[e];exact if_pos (by lia)
  refine⟨?_,?_,?_⟩ <;> rw[this]
  .exact λu f=>by(cases f)
  .exact .nil
  .rfl
 .obtain⟨m,M,A,B,e,L,K,E,n,k,I,J,o,s⟩:=z64 z t;have i:rd (hull rl)=df (m::A++[M])++df (M::B++[m]):=by
   unfold rd;rw[if_neg (by rw[e];simp),e];show df (m::A++M::B++[m])=_;rw[wS,uW];exact zdR
  have up:=z6n I;have j:=z6n J;have g:∀a b,Edge (· ∈ rl) a b->a≠b:=λa b e=>e.ne;refine⟨?_,?_,?_⟩
  .rw[i];intro u f
   rcases wp.mp f with f | f
   .exact zd2 g o u f
   .exact zd2 g s u f
  .rw[i,vB];refine⟨zeZ (O:=Lx) (λa b c d q w=>⟨λ_=>zeM w,λ_=>zeM q⟩) (λa b c q w z=>by subst z;exact Lx.irr (zgV q w)) o up,zeZ (O:=λx y=>Lx y x) (λa b c d q w=>⟨λz=>absurd z (zbj q),λz=>absurd z (zbj w)⟩) (λa b c q w z=>by subst z;exact Lx.irr (zgV q w)) s j,λu f v H =>?_⟩;obtain⟨a,b,q,rfl⟩:=z9q f;obtain⟨c,d,w,rfl⟩:=z9q H;exact .inl ⟨zeM (q _ up),zbj (w _ j)⟩
  .rw[i,z8E,z9r,z9r];simp only[pl,sb];kcf_m
def zfM {h:List P}{a:P}{r K L:List P}(e:h=a::r)(k:rd h=K++L):∃q∈h,vs K=sb a q:=by
 subst e;unfold rd at k
 split at k
 .have:K=[]:=(jB.mp k.symm).1;k_end;exact⟨a,by simp,by simp[vs,sb]⟩
 .obtain⟨q,b,v⟩:=zhe (r:=r++[a]) (a:=a) k;refine⟨q,?_,v⟩;simp at b ⊢
  rcases b with z | z | z
  .exact .inl z
  .exact .inr z
  .exact .inl z
set_option tactic.hygienic true in
def z8S {h:List P}{a q:P}{r:List P}(e:h=a::r)(b:q∈h):∃K L,rd h=K++L/\vs K=sb a q:=by
 subst e;unfold rd
 split
 .rename_i z
  have:r=[]:=jr.mp (by simpa using z);k_end;rw[wg.mp b];exact⟨[],[],rfl,by simp[vs,sb]⟩
 .exact z9p (r:=r++[a]) (a:=a) (by simp at b ⊢;rcases b with z | z;exact .inl z;exact .inr (.inl z))
def join {r s e f Q R:List P}{a b:P}(S:Hd r e)(T:Hd s f)(H:r≠[])(I:s≠[])(m:e=a::Q)(n:f=b::R):
  (∀K L,mg (rd e) (rd f)=K++L->∃p∈e,∃q∈f,pl (pl a b) (vs K)=pl p q)/\
  ∀p∈e,∀q∈f,∀d:P,∃K L,mg (rd e) (rd f)=K++L/\sc (pl p q) d<=sc (pl (pl a b) (vs K)) d:=by
 have g:=S.rnd H;have h:=T.rnd I;refine⟨λK L k =>?_,λp hp q i d =>?_⟩
 .obtain⟨U,V,W,X,J,N,O⟩:=zdG k;obtain⟨p,hp,j⟩:=zfM m J;obtain⟨q,i,l⟩:=zfM n N;refine⟨p,hp,q,i,?_⟩;rw[vs_perm O,z8E,j,l];simp only[pl,sb];kcf_m
 .by_cases o:d=(0,0)
  .subst o;exact⟨[],_,rfl,by simp[sc]⟩
  .have E:((-d.2,d.1):P)≠(0,0):=λz=>o (by
    have t:=congrArg Prod.fst z;have u:=congrArg Prod.snd z;simp at t u;exact vG u t)
   obtain⟨K,L,k,far⟩:=zeL E g.nz h.nz g.up h.up g.zero h.zero;obtain⟨x,A,F,j⟩:=z8S m hp;obtain⟨y,C,G,l⟩:=z8S n i;refine⟨K,L,k,?_⟩;have:=far x A y C F G;rw[z8v,z8v,z8v,j,l] at this;simp only[cx,sb,sc,pl] at*
   grind
end Geo
namespace Pu
open PySem L2
def zgJ {p r:Int × Int}{Q:DK}{X:XP}(q:Q (.bl (HT.z0B [r.1,r.2] [p.1,p.2]))):pGt.run [vec p,vec r] Q X:=q
def zdL (u:P):HT.z0B [(0:Int),0] [u.1,u.2]=decide (Geo.Rs u):=by
 rw[Bool.eq_iff_iff,decide_eq_true_iff];exact(zdM (a:=(0,0)) (b:=u)).trans ⟨λh=>by simp only[Lx,Geo.Rs] at *;lia,λh=>by simp only[Lx,Geo.Rs] at *;lia⟩
def z7a {u v:P}{Q:DK}{X:XP}(hu:Vb 30000000 u)(J:Vb 30000000 v)(q:Q (.bl (decide (Be u v)))):z2J.run [vec u,vec v] Q X:=by
 walk_at "fn";ac_nf;refine zgJ (p:=u) (r:=(0,0)) ?_;rw[show HT.z0B [((0,0):P).1,((0,0):P).2] [u.1,u.2]=decide (Geo.Rs u) from zdL u];ac_nf;refine zgJ (p:=v) (r:=(0,0)) ?_;rw[show HT.z0B [((0,0):P).1,((0,0):P).2] [v.1,v.2]=decide (Geo.Rs v) from zdL v];ac_nf;refine zi7 ?_;refine z4o (z0Q (λe =>?_) (λe =>?_))
 .ac_nf;refine z3m hu J ?_;ac_nf;have H:Geo.Rs u↔Geo.Rs v:=by rw[<- decide_eq_true_iff (p:=Geo.Rs u),e,decide_eq_true_iff]
  have:decide (0<u.1*v.2 - u.2*v.1)=decide (Be u v):=decide_eq_decide.mpr ⟨λz =>.inr ⟨H,z⟩,λz=>by
   rcases z with ⟨a,b⟩ | ⟨_,b⟩
   .exact absurd (H.mp a) b
   .exact b⟩
  rw[this];f_int
 .ac_nf;have:decide (Geo.Rs u)=decide (Be u v):=decide_eq_decide.mpr ⟨λz =>.inl ⟨z,λw=>e (by rw[vU z,vU w])⟩,λz=>by
   rcases z with ⟨a,_⟩ | ⟨a,_⟩
   .exact a
   .exact absurd (decide_eq_decide.mpr a) e⟩
  rw[this];f_int
def z5C {E F:List P}{Q:DK}{X:XP}(U:Wb 30000000 E)(V:Wb 30000000 F)(Y:E.length<=1000)(Z:F.length<=1000)(q:Q (.lst ((Geo.mg E F).map vec))):z1Z.run [.lst (E.map vec),.lst (F.map vec)] Q X:=by
 walk_at "fn";ac_nf;k_all;ac_rfl;ac_nf;refine z0A (f:=vec) (λL J=>∃(st:List P) (n:Nat) (O:B),(∀G,Geo.mg E (L++G)=st++Geo.mg (E.drop n) G)/\n<=E.length/\st.length=n+L.length/\J=[.s (.lst (E.map vec)),.s (.lst (F.map vec)),.o (.lst (st.map vec)),.s (.int (n:Int)),O]) ⟨[],0,_,λG=>by simp,by simp,by simp,rfl⟩ ?_ ?_
 .rintro L f r J e ⟨st,n,O,hm,hn,hl,rfl⟩;have hf:=V f (by rw[e];simp);have hd:L.length<=1000:=by
   have:=congrArg List.length e;simp at this;lia
  w_up;ac_rfl;refine zaM (λρ'=>∃(st':List P) (H:Nat),st'=st++(E.drop n).takeWhile (λu=>decide (Be u f))/\E.drop H=(E.drop n).dropWhile (λu=>decide (Be u f))/\H<=E.length/\st'.length=H+L.length/\ρ'=[.s (.lst (E.map vec)),.s (.lst (F.map vec)),.o (.lst (st'.map vec)),.s (.int (H:Int)),.s (vec f)]) ?_ ?_
  .refine z58 (λJ=>∃(st':List P) (H:Nat),st'++(E.drop H).takeWhile (λu=>decide (Be u f))=st++(E.drop n).takeWhile (λu=>decide (Be u f))/\(E.drop H).dropWhile (λu=>decide (Be u f))=(E.drop n).dropWhile (λu=>decide (Be u f))/\H<=E.length/\st'.length=H+L.length/\J=[.s (.lst (E.map vec)),.s (.lst (F.map vec)),.o (.lst (st'.map vec)),.s (.int (H:Int)),.s (vec f)]) (λJ=>((E.length:Int) - nI J 3).toNat) ⟨st,n,rfl,rfl,hn,hl,rfl⟩ ?_;rintro J ⟨st',H,h1,h2,h3,h4,rfl⟩;ac_nf;rw[wd];kt_le
   .have K:H<E.length:=by lia
    obtain⟨u,hu,N⟩:=z4j (xs:=E) (i:=(H:Int)) (by lia) (by lia);have ed:E.drop H=u::E.drop (H+1):=by
     rw[vJ K]
     congr 1
     rw[z9x K,wf K] at N;exact wQ N
    ac_nf;refine z1e (z0P N) ?_;ac_nf;refine z7a (U u hu) hf ?_;refine z0Q (λb =>?_) (λb =>?_)
    .l_fitC;ac_nf;refine z1e (z0P N) ?_;kcj_m;ac_rfl;ac_nf;refine⟨⟨st'++[u],H+1,?_,?_,by lia,by simp;lia,by rw[wv];simp⟩,?_⟩
     .rw[<- h1,ed,List.takeWhile_cons,if_pos (by simpa using b),wS]
      rfl
     .rw[<- h2,ed,List.dropWhile_cons,if_pos (by simpa using b)]
     .show ((E.length:Int) - ((H:Int)+1)).toNat<((E.length:Int) - (H:Int)).toNat
      lia
    .rw[ed,List.takeWhile_cons,if_neg (by simpa using b),vi] at h1;rw[ed,List.dropWhile_cons,if_neg (by simpa using b), <- ed] at h2;exact⟨st',H,h1,h2,h3,h4,rfl⟩
   .ac_nf;have ed:E.drop H=[]:=jA (by lia);rw[ed] at h1 h2;simp only[List.takeWhile_nil,vi,List.dropWhile_nil] at h1 h2;exact⟨st',H,h1,by rw[ed];exact h2,h3,h4,rfl⟩
  rintro ρ' ⟨st',H,rfl,h2,h3,h4,rfl⟩;tb_lt;ac_nf;refine⟨by rw[wd,h4];exact szl' (by lia),Safe.of_noL rfl rfl _,?_⟩;ac_rfl;refine⟨st++(E.drop n).takeWhile (λu=>decide (Be u f))++[f],H,_,λG =>?_,h3,by rw[wB,h4];simp;lia,by rw[wv (l₂:=[f])];rfl⟩;rw[wS,List.singleton_append,hm (f::G),Geo.mg,h2];simp
 rintro J ⟨st,n,O,hm,hn,hl,rfl⟩;have R:=hm [];rw[vi,Geo.mg] at R;ac_nf;rw[zdT (by lia)];kd_mem;rw[<- wv,show ((n:Int)).toNat=n by lia, <- R];f_int
def zgy {l m:List D}{Q:DK}{X:XP}(q:Q (.lst ((l.zip m).map λp =>.tup [p.1,p.2]))):z9N.run [.tup l,.tup m] Q X:=q
def z7J {α:Type}{f:α->D}{l:List α}{k:Int}(h:0<=k):cutD (l.map f) none (some k)=(l.take k.toNat).map f:=by
 have a:HT.sIx l.length l.length (some k)=min k.toNat l.length:=by
  show (if k<0 then (k+(l.length:Int)).toNat else min k.toNat l.length)=_;rw[if_neg (by lia)]
 rw[z3e,a];show ((l.drop 0).take (min k.toNat l.length - 0)).map f=_;rw[List.drop_zero,Nat.sub_zero, <- List.take_eq_take_min]
theorem zdb:∀(r:List P) (a z:P),((a::r).zip (r++[z])).map (λp=>Geo.sb p.1 p.2)=df (a::r++[z])
 | [],a,z=>rfl
 | b::r,a,z=>by
  show Geo.sb a b::((b::r).zip (r++[z])).map (λp=>Geo.sb p.1 p.2)=Geo.sb a b::df (b::r++[z]);rw[zdb r b z]
def z3V {h:List P}{Q:DK}{X:XP}(hz:h.length<=1000)(hn:h≠[])(q:Q (.lst ((Geo.rd h).map vec))):z1N.run [vecs h,.fn 2] Q X:=by
 walk_at "fn";ac_nf;rw[wd];kt_le
 .ac_nf;have:Geo.rd h=[]:=if_pos (by lia);rw[this] at q;f_int
 ac_nf;obtain⟨a,r,rfl⟩:=List.exists_cons_of_ne_nil hn;rw[zdT (by decide),z7J (by decide)];refine z92 (by simp;exact szl (by simp at hz;lia)) ?_;rw[<- wv,show (a::r).drop (1:Int).toNat++(a::r).take (1:Int).toNat=r++[a] from rfl];x_go;ac_rfl;ac_nf;refine zgy ?_;rw[List.zip_map,wR];ac_nf;refine⟨by rw[wd];exact szl' (by simp at hz ⊢;lia),?_⟩;refine z1b (g:=λp:P × P=>vec (Geo.sb p.1 p.2)) (λp hp K H =>?_) ?_
 .k_one;show Ex.run _ _ _ _;f_are;ac_rfl;refine z8t rfl ?_;ac_nf;exact z2a H
 have e:Geo.rd (a::r)=df (a::r++[a]):=if_neg (by lia);rw[show (((a::r).zip (r++[a])).map λp=>vec (Geo.sb p.1 p.2))=(((a::r).zip (r++[a])).map λp=>Geo.sb p.1 p.2).map vec by rw[wR];rfl,zdb, <- e];f_int
theorem zdQ:∀(l:List P),(df l).length<=l.length - 1
 | []=>by simp[df]
 | [_]=>by simp[df]
 | a::b::r=>by
  have:=zdQ (b::r);rw[df];simp at this ⊢;lia
def zfK {h:List P}(e:Wb 20000000 h):Wb 30000000 (Geo.rd h):=λu d=>by
 unfold Geo.rd at d
 split at d
 .cases d
 .obtain⟨a,b,R,rfl⟩:=z9q d;have:∀p∈h++h.take 1,p∈h:=λp hp=>(wp.mp hp).elim id wU;have f:=R (λa b=>a∈h/\b∈h) (z6n (jh λx g y i=>⟨this x g,this y i⟩));exact(e a f.1).step (e b f.2)
def Sm2 (d e:List P)(p:P):Prop:=∃a∈d,∃b∈e,p=Geo.pl a b
end Pu
namespace Geo
def In.of_far {S:P->Prop}{h:List P}{p:P}(x:z03 S h)(d:∀b,∃c∈h,sc p b<=sc c b):In h p:=by
 match h,x,d with
 | [],x,_=>obtain⟨m,t,e,_⟩:=x.ex;cases e
 | [m],x,d=>
  have g:∀b,sc p b<=sc m b:=λb=>by
   obtain⟨c,f,le⟩:=d b;rw[wg.mp f] at le;exact le
  have i:=g (1,0);have k:=g (-1,0);have n:=g (0,1);have o:=g (0,-1);simp only[sc] at i k n o;show p=m;exact vG (by omega) (by omega)
 | [a,b],x,d=>
  have g:∀u,sc p u<=sc a u\/sc p u<=sc b u:=λu=>by
   obtain⟨c,f,le⟩:=d u;simp only[wj,wF,vS] at f
   rcases f with rfl | rfl
   .exact .inl le
   .exact .inr le
  have K:=z0d (b.1 - a.1);have L:=z0d (b.2 - a.2);have i:=g (-(b.2 - a.2),b.1 - a.1);have k:=g (b.2 - a.2,-(b.1 - a.1));have n:=g (a.1 - b.1,a.2 - b.2);have o:=g (b.1 - a.1,b.2 - a.2);clear g d x;have q:sc p (-(b.2 - a.2),b.1 - a.1)=sc a (-(b.2 - a.2),b.1 - a.1)+cr a b p:=by simp only[sc,cr];grind
  have r:sc b (-(b.2 - a.2),b.1 - a.1)=sc a (-(b.2 - a.2),b.1 - a.1):=by simp only[sc];grind
  have s:sc p (b.2 - a.2,-(b.1 - a.1))=sc a (b.2 - a.2,-(b.1 - a.1)) - cr a b p:=by simp only[sc,cr];grind
  have y:sc b (b.2 - a.2,-(b.1 - a.1))=sc a (b.2 - a.2,-(b.1 - a.1)):=by simp only[sc];grind
  have z:sc p (a.1 - b.1,a.2 - b.2)=sc a (a.1 - b.1,a.2 - b.2) - dot a b p:=by simp only[sc,dot];grind
  have A:sc b (a.1 - b.1,a.2 - b.2)=sc a (a.1 - b.1,a.2 - b.2) - ((b.1 - a.1)*(b.1 - a.1)+(b.2 - a.2)*(b.2 - a.2)):=by simp only[sc];grind
  have C:sc p (b.1 - a.1,b.2 - a.2)=sc b (b.1 - a.1,b.2 - a.2) - dot b a p:=by simp only[sc,dot];grind
  have E:sc a (b.1 - a.1,b.2 - a.2)=sc b (b.1 - a.1,b.2 - a.2) - ((b.1 - a.1)*(b.1 - a.1)+(b.2 - a.2)*(b.2 - a.2)):=by simp only[sc];grind
  show cr a b p=0/\0<=dot a b p/\0<=dot b a p;generalize cr a b p=N at*;generalize dot a b p=O at*;generalize dot b a p=Q at*;generalize (b.1 - a.1)*(b.1 - a.1)=R at*;generalize (b.2 - a.2)*(b.2 - a.2)=T at*;rw[q,r] at i;rw[s,y] at k;rw[z,A] at n;rw[C,E] at o;refine⟨?_,?_,?_⟩ <;> omega
 | a0::I::J::t,x,d=>
  refine(In.three (by simp)).mpr λj a b H F G =>?_;have e:=x.cyc (by simp) H F G;obtain⟨c,f,le⟩:=d (b.2 - a.2,-(b.1 - a.1));have l:=e.left c (x.sub c f);simp only[sc] at le;simp only[cr] at l ⊢
  grind
def Ms:List (List P)->P->Prop
 | [],p=>p=(0,0)
 | d::a,p=>∃q∈d,∃r,Ms a r/\p=pl q r
def zb2 (a b:P):pl a b=pl b a:=by simp only[pl];exact vG (by simp;omega) (by simp;omega)
def zb1 (a b c:P):pl a (pl b c)=pl b (pl a c):=by simp only[pl];exact vG (by simp;omega) (by simp;omega)
def zbg {l m:List (List P)}(h:l.Perm m):∀p,Ms l p->Ms m p:=by
 induction h with
 | nil=>exact λ_ h=>h
 | cons x _ j=>rintro p ⟨q,a,r,i,e⟩;exact⟨q,a,r,j r i,e⟩
 | swap x y l=>rintro p ⟨q,a,r,⟨k,b,n,d,rfl⟩,rfl⟩;exact⟨k,b,_,⟨q,a,n,d,rfl⟩,zb1 _ _ _⟩
 | trans _ _ f g=>exact λp h=>g p (f p h)
def z6C {ds:List (List P)}{d:List P}{p:P}:Ms (ds++[d]) p↔∃r,Ms ds r/\∃q∈d,p=pl r q:=by
 o_rec
 .intro h;obtain⟨q,a,r,b,e⟩:=zbg (List.perm_append_singleton d ds) p h;exact⟨r,b,q,a,by rw[e,zb2]⟩
 .rintro⟨r,b,q,a,e⟩;exact zbg (List.perm_append_singleton d ds).symm p ⟨q,a,r,b,by rw[e,zb2]⟩
def ze2 (a b u:P):sc (pl a b) u=sc a u+sc b u:=by simp only[sc,pl];grind
def z96 {ds:List (List P)}{k d h h':List P}(x:z03 (Ms ds) h)(j:z03 (· ∈ k) d)(y:z03 (λp=>∃a∈h,∃b∈d,p=pl a b) h'):z03 (Ms (ds++[k])) h':=by
 refine y.fill (λp hp =>?_) (λp hp =>?_)
 .obtain⟨a,n,b,o,e⟩:=y.sub p hp;exact z6C.mpr ⟨a,x.sub a n,b,j.sub b o,e⟩
 .obtain⟨r,z,q,t,rfl⟩:=z6C.mp hp;refine In.of_far y λu =>?_;obtain⟨c,s,le⟩:=x.far (x.in z) u;obtain⟨m,g,A⟩:=j.far (j.in t) u;obtain⟨l,f,i⟩:=y.far (y.in ⟨c,s,m,g,rfl⟩) u;refine⟨l,f,?_⟩;rw[ze2] at i ⊢;omega
def zdE:z03 (Ms []) [(0,0)]:=⟨(0,0),[],rfl,rfl,λp hp=>by(have:p=(0,0):=hp;rw[this];exact Lx.irr),by simp,.inl ⟨rfl,λ_ h=>h⟩⟩
def Far (S:P->Prop)(b:P)(F:Int):Prop:=(∀p,S p->sc p b<=F)/\∃p,S p/\sc p b=F
def z8r {b:P}:Far (Ms []) b 0:=⟨λp hp=>by(have:p=(0,0):=hp;rw[this];simp[sc]),(0,0),rfl,by simp[sc]⟩
end Geo
namespace Pu
open PySem L2
structure Wt4 (x:List P × P)(n:Nat:=140):Prop where
 wb:Wb n x.1
 ne:x.1≠[]
 len:x.1.length<=12
 vb:Vb n x.2
def Wt4.up {x:List P × P}(h:Wt4 x 136):Wt4 x:=⟨λp hp=>⟨(h.wb p hp).1.le,(h.wb p hp).2.le⟩,h.ne,h.len,⟨h.vb.1.le,h.vb.2.le⟩⟩
def zdj {c m:Int}{d:D}{Q:DK}{X:XP}(hm:0<=m)(J:m<=10000000000000000000000000000000000000000)(hd:Ln d)(q:∀p,Far 10000000000000000000000000000000000000000 p->Q (vec p)):z0J.run [.int c,.int m,d] Q X:=by
 have N:Bt 640 m:=z05 (by lia)
 rcases hd with rfl | ⟨⟨a,b⟩,rfl,⟨⟨a1,a2⟩,b1,b2⟩⟩
 .walk_at "fn";ac_nf;refine z4o (z4q rfl ?_);ac_nf;o_src;ac_nf;refine z0N (by decide) (by decide) (by lia) λu R U =>?_;ac_nf;exact q (r - m,u - m) ⟨⟨by show _<=r - m;lia,by show r - m<=_;lia⟩,by show _<=u - m;lia,by show u - m<=_;lia⟩
 .dsimp only at a1 a2 b1 b2;have K:Bt 640 a:=z05 (by lia);have L:Bt 640 b:=z05 (by lia);walk_at "fn";ac_nf;refine z4o (z4r rfl ?_);ac_nf;ksr_p;ac_nf;have O:Bt 640 (r - 3):=z05 (by lia);ac_nf;have H:∀x:Int,-3<=x->x<=3 -> -9<=x*(r - 3)/\x*(r - 3)<=9:=λx h1 h2=>by
   rcases(by lia:x = -3\/x = -2\/x = -1\/x=0\/x=1\/x=2\/x=3) with rfl | rfl | rfl | rfl | rfl | rfl | rfl <;> lia
  have:=H a a1 a2;have:=H b b1 b2;exact q (a*(r - 3),b*(r - 3)) ⟨⟨by show _<=a*(r - 3);lia,by show a*(r - 3)<=_;lia⟩,by show _<=b*(r - 3);lia,by show b*(r - 3)<=_;lia⟩
def z0Y {S:P->Prop}{h:List P}(x:z03 S h):h≠[]:=by obtain⟨m,t,e,_⟩:=x.ex;rw[e];simp
def vs_perm {l m:List P}(h:l.Perm m):Geo.vs l=Geo.vs m:=by
 induction h with
 | nil=>rfl
 | cons x _ a=>rw[z1S,z1S,a]
 | swap x y l=>rw[z1S,z1S,z1S,z1S,zb1]
 | trans _ _ i j=>rw[i,j]
def zfl (h:List P):Geo.vs (Geo.rd h)=(0,0):=by
 unfold Geo.rd
 split
 .rfl
 .cases h with
  | nil=>rfl
  | cons a r=>rw[show (a::r)++(a::r).take 1=a::r++[a] from rfl,z9r];simp[Geo.sb]
set_option tactic.hygienic true in
def zaQ {h:List P}{n:Nat}(k:h.length≠1->h.length<=n):(Geo.rd h).length<=n:=by
 unfold Geo.rd
 split
 .simp
 .rename_i z
  have:=zdQ (h++h.take 1);have:=k z;simp at*;lia
def z5g {l1 l2:List P}{Q:DK}{X:XP}(b1:Wb 600 l1)(b2:Wb 600 l2)(U:z03 (· ∈ l1) l1)(V:z03 (· ∈ l2) l2)(z1:l1.length<=250)(z2:l2.length<=250)(z:(Geo.rd l1).length+(Geo.rd l2).length<=250)
  (q:∀h,z03 (Sm2 l1 l2) h->(Geo.rd h).length<=(Geo.rd l1).length+(Geo.rd l2).length->Q (vecs h)):z2H.run [vecs l1,vecs l2] Q X:=by
 walk_at "fn";ac_nf;have n1:l1≠[]:=z0Y U;have n2:l2≠[]:=z0Y V;refine z0F (.inl rfl) b1.le (by lia) λh1 x1 =>?_;obtain rfl:h1=l1:=(x1.is n1).unique U;x_go;ac_rfl;ac_nf;refine z0F (.inl rfl) b2.le (by lia) λh2 x2 =>?_;obtain rfl:h2=l2:=(x2.is n2).unique V;x_go;ac_rfl;obtain⟨a,r1,e1,_⟩:=U.ex;obtain⟨b,r2,e2,_⟩:=V.ex;have J:=Geo.join x1 x2 n1 n2 e1 e2;have c1:Wb 20000000 h1:=b1.le;have c2:Wb 20000000 h2:=b2.le;ac_nf;refine z1e (d:=vec a) (by rw[e1];exact zbT) ?_;ac_nf;refine z1e (d:=vec b) (by rw[e2];exact zbT) ?_;refine z2M ?_;k_in;ac_rfl;ac_nf;refine z1x (λx hx=>by rw[wg.mp hx];exact Safe.of_noL rfl rfl _) ?_;ac_rfl;ac_nf;refine z3V (by lia) (by rw[e1];simp) ?_;ac_nf;refine z3V (by lia) (by rw[e2];simp) ?_;refine z5C (zfK c1) (zfK c2) (by lia) (by lia) ?_;have km:=(z4E (Geo.rd h1) (Geo.rd h2)).length_eq;rw[wB] at km;have vM:Geo.vs (Geo.mg (Geo.rd h1) (Geo.rd h2))=(0,0):=by
  rw[vs_perm (z4E _ _),z8E,zfl,zfl]
  rfl
 generalize Geo.mg (Geo.rd h1) (Geo.rd h2)=M at*;ac_nf;refine z0A (f:=vec) (λN ρ=>∃(H:List P) (x6:B),H.length=N.length+1/\(∀p,p∈H↔∃K L,N=K++L/\p=Geo.pl (Geo.pl a b) (Geo.vs K))/\ρ=[.s (vecs h1),.s (vecs h2),.s (vecs h1),.s (vecs h2),.s (vec (Geo.pl (Geo.pl a b) (Geo.vs N))),.o (.lst (H.map vec)),x6]) ⟨[Geo.pl a b],_,rfl,λp =>?_,by simp[Geo.vs,Geo.pl];rfl⟩ ?_ ?_
 .o_rec
  .intro h;exact⟨[],[],rfl,by rw[wg.mp h];simp[Geo.vs,Geo.pl]⟩
  .rintro⟨K,L,e,rfl⟩;rw[(jB.mp e.symm).1];simp[Geo.vs,Geo.pl]
 .rintro N u r ρ e ⟨H,x6,hl,R,rfl⟩;have hd:N.length<M.length:=by rw[e];simp
  w_up;ac_rfl;ac_nf;refine z2M ?_;k_in;ac_rfl;tb_lt;ac_nf;kcj_m;ac_rfl;have ev:(((Geo.pl (Geo.pl a b) (Geo.vs N)).1+u.1,(Geo.pl (Geo.pl a b) (Geo.vs N)).2+u.2):P)=Geo.pl (Geo.pl a b) (Geo.vs (N++[u])):=by
   rw[z8E];simp[Geo.pl,Geo.vs,Int.add_assoc]
  rw[ev];refine⟨H++[Geo.pl (Geo.pl a b) (Geo.vs (N++[u]))],_,by simp[hl],λp =>?_,by rw[wv];rfl⟩;rw[wp,R,wg]
  o_rec
  .rintro(⟨K,L,e,rfl⟩ | rfl)
   .exact⟨K,L++[u],by rw[e,wS],rfl⟩
   .exact⟨N++[u],[],by simp,rfl⟩
  .rintro⟨K,L,e,rfl⟩
   rcases List.eq_nil_or_concat L with rfl | ⟨L',w,rfl⟩
   .rw[vi] at e;exact .inr (by rw[e])
   .rw[List.concat_eq_append, <- wS] at e;exact .inl ⟨K,L',(List.append_inj' e rfl).1,rfl⟩
 rintro ρ ⟨H,x6,hl,R,rfl⟩;have O:∀p∈H,Sm2 h1 h2 p:=λp hp=>by
  obtain⟨K,L,e,rfl⟩:=(R p).mp hp;obtain⟨p,hp,q,hq,e⟩:=J.1 K L e;exact⟨p,hp,q,hq,e⟩
 ac_nf;refine z0F (l:=H) (.inr rfl) (λp hp =>?_) (by lia) λh x =>?_
 .obtain⟨u,hu,v,Y,rfl⟩:=O p hp;exact⟨(Bt.add (b1 u hu).1 (b2 v Y).1).le,(Bt.add (b1 u hu).2 (b2 v Y).2).le⟩
 have hn:H≠[]:=λz=>by rw[z] at hl;simp at hl
 have y:=x.is hn;refine q h (zbu y (λp hp=>O p (y.sub p hp)) λp hp w =>?_) (zaQ λn1 =>?_)
 .obtain⟨u,hu,v,Y,rfl⟩:=hp;obtain⟨Z,a0,lu⟩:=U.far (U.in hu) w;obtain⟨cv,a3,lv⟩:=V.far (V.in Y) w;obtain⟨K,L,e,le⟩:=J.2 Z a0 cv a3 w;refine⟨_,(R _).mpr ⟨K,L,e,rfl⟩,?_⟩;have s1:dot (Geo.pl u v) w=Geo.sc u w+Geo.sc v w:=by simp only[dot,Geo.pl,Geo.sc];grind
  have s2:Geo.sc (Geo.pl Z cv) w=Geo.sc Z w+Geo.sc cv w:=by simp only[Geo.pl,Geo.sc];grind
  have s3:dot (Geo.pl (Geo.pl a b) (Geo.vs K)) w=Geo.sc (Geo.pl (Geo.pl a b) (Geo.vs K)) w:=rfl;rw[s1,s3];lia
 .have e0:M≠[]:=λe=>by
   have:=z2b (m:=[Geo.pl a b]) y.nodup λp hp=>by
    obtain⟨K,L,e',rfl⟩:=(R p).mp (y.sub p hp);rw[e] at e';rw[(jB.mp e'.symm).1];simp[Geo.vs,Geo.pl]
   have h0:0<h.length:=w4.mpr (z0Y y);simp at this;lia
  have:=z2b (m:=(List.range M.length).map λk=>Geo.pl (Geo.pl a b) (Geo.vs (M.take k))) y.nodup λp hp=>by
   obtain⟨K,L,e,rfl⟩:=(R p).mp (y.sub p hp);have e1:=congrArg List.length e;rw[wB] at e1;have hM:=w4.mpr e0
   rcases vp K.length M.length with z | z
   .exact we.mpr ⟨K.length,vI.mpr z,by rw[e,List.take_left]⟩
   .have:L=[]:=jr.mp (by lia);rw[this,vi] at e;exact we.mpr ⟨0,vI.mpr hM,by rw[<- e,vM];rfl⟩
  rw[wd,vK] at this;lia
def tl (ws:List (List P × P)):Nat:=(ws.map λx=>x.1.length).sum
def z4n (ws:List (List P × P))(x:List P × P):tl (ws++[x])=tl ws+x.1.length:=by simp[tl]
def ze8 {ns:List Int}{Q:DK}{X:XP}(h0:ns≠[])(hz:ns.length<=63)(q:∀ws:List (List P × P),(∀x∈ws,Wt4 x 136)->ws.length<=12->tl ws<=60->Q (.tup (ws.map wtD))):z0r.run [.lst (ns.map .int)] Q X:=by
 have hp:=w4.mpr h0;obtain⟨c0,_,e0⟩:=z4j (xs:=ns) (i:=0) (by decide) (by lia);walk_at "fn";ac_nf;refine z1e (z0P e0) ?_;ac_nf;refine menu (ns:=[3,12,10 ^ 9]) (by lia) (by show c0 / 2 % 3<3;lia) λm hm =>?_;have H:0<=m/\m<=1000000000:=by
  simp only[wj,wF,vS] at hm;lia
 clear hm;have bm:Bt 640 m:=z05 (by lia);ac_nf;k_all;ac_rfl;ac_nf;refine z58 (λV=>∃(ws:List (List P × P)) (a:Nat) (x4 x5 x6:B),(∀x∈ws,Wt4 x 136)/\ws.length<=12/\1<=a/\a<=100/\tl ws<a/\tl ws<=60/\V=[.s (.lst (ns.map .int)),.s (.int m),.o (.lst (ws.map wtD)),.s (.int (a:Int)),x4,x5,x6]) (λV=>(100 - nI V 3).toNat) ⟨[],1,_,_,_,λ_ z=>by(cases z),by simp,by simp,by simp,by simp[tl],by simp[tl],rfl⟩ ?_;rintro V ⟨ws,a,x4,x5,x6,L,J,a3,ha,a4,U,rfl⟩;ac_nf;rw[wd,min2];lge_go
 .ac_nf;rw[wd];refine z0Q (λY =>?_) (λY =>?_)
  .obtain⟨c,_,R⟩:=z4j (xs:=ns) (i:=(a:Int)) (by lia) (by lia);ac_nf;refine z1e (z0P R) ?_;ac_nf;have hs:0<=c % 12/\c % 12<12:=by lia
   generalize c % 12=sz at*;refine z1e (z0P R) ?_;ac_nf;generalize c / 12=f at*;refine zaK H.1 H.2 λN Z =>?_;ac_nf;refine z1x (λx hx=>by rw[wg.mp hx];exact Safe.of_noL rfl rfl _) ?_;ac_rfl;refine z3W (zfE (z0q rfl ?_));ac_nf;rw[z3e];have a6:((ns.drop (HT.sIx ns.length 0 (some ((a:Int)+1)))).take (HT.sIx ns.length ns.length (some (if 61<(a:Int)+(1+sz) then 61 else (a:Int)+(1+sz))) - HT.sIx ns.length 0 (some ((a:Int)+1)))).length<=min 11 (min sz.toNat (60 - a)):=by
    have e2:0<=(if 61<(a:Int)+(1+sz) then 61 else (a:Int)+(1+sz)):=by split <;> lia
    rw[w8,uY,zdn (k:=(a:Int)+1) (by lia),zdn e2]
    split <;> lia
   generalize (ns.drop (HT.sIx ns.length 0 (some ((a:Int)+1)))).take (HT.sIx ns.length ns.length (some (if 61<(a:Int)+(1+sz) then 61 else (a:Int)+(1+sz))) - HT.sIx ns.length 0 (some ((a:Int)+1)))=a0 at*;z_go;refine z4f (g:=vec) (P:=λ_ p=>Far 1000000000 p) (λc _ K hK =>?_) λO a5 hy =>?_
   .ac_nf;exact zaK H.1 H.2 hK
   refine⟨by simp;exact szl (by lia),λd hd =>?_,?_⟩
   .obtain⟨y,_,rfl⟩:=we.mp hd;exact Safe.of_noL rfl rfl _
   ac_rfl;rw[show vec N::O.map vec=(N::O).map vec from rfl];l_fitC;ac_nf;refine zgB ⟨by decide,by decide,by lia⟩ ?_;have hw:0<(2*m+1) ^ (2:Int).toNat:=by
    show 0<(2*m+1) ^ 2;exact Int.pow_pos (by lia)
   have bw:Bt 9000 ((2*m+1) ^ (2:Int).toNat):=by
    have b1:Bt 40 (2*m+1):=z05 (by lia);show Bt 9000 ((2*m+1) ^ 2);rw[show (2*m+1) ^ 2=(2*m+1)*(2*m+1) by grind];exact(Bt.mul b1 b1).le
   refine zdB hw bw ?_;ac_nf;refine zaK H.1 H.2 λs hs =>?_;ac_nf;refine⟨by rw[wd];exact szl' (by lia),Safe.of_noL (z93 (N::O,s)) (z94 (N::O,s)) _,?_⟩;ac_rfl;ac_nf;refine⟨⟨ws++[(N::O,s)],a+(1+sz.toNat),.s (.int (1+sz)),.s (.int f),.o (.lst ((N::O).map vec)),λx hx =>?_,by simp;lia,by lia,by lia,by rw[z4n];simp;lia,by rw[z4n];simp;lia,?_⟩,?_⟩
   .rcases wp.mp hx with hx | hx
    .exact L x hx
    .rw[wg.mp hx];refine⟨λp hp =>?_,by simp,by show (N::O).length<=12;simp;lia,(hs.vb (n:=30) (by decide)).le⟩
     rcases wj.mp hp with rfl | hp
     .exact(Z.vb (n:=30) (by decide)).le
     .obtain⟨_,_,hf⟩:=hy p hp;exact(hf.vb (n:=30) (by decide)).le
   .rw[wv,show ((a+(1+sz.toNat):Nat):Int)=(a:Int)+(1+sz) by lia]
    rfl
   .show (100 - ((a:Int)+(1+sz))).toNat<(100 - (a:Int)).toNat
    lia
  .ac_nf;exact q ws L J U
 .ac_nf;exact q ws L J U
def tr (x:List P × P):List P:=x.1.map (mv x.2)
abbrev MS (ws:List (List P × P)):P->Prop:=Ms (ws.map tr)
def z54 {ds:List (List P)}{d:List P}{b:P}{F M:Int}(h:Geo.Far (Ms ds) b F)(k:Geo.Far (· ∈ d) b M):Geo.Far (Ms (d::ds)) b (M+F):=by
 refine⟨λp hp =>?_,?_⟩
 .obtain⟨q,a,r,e,rfl⟩:=hp;have:=h.1 r e;have:=k.1 q a;rw[ze2];lia
 .obtain⟨r,e,f⟩:=h.2;obtain⟨q,a,g⟩:=k.2;exact⟨Geo.pl q r,⟨q,a,r,e,rfl⟩,by rw[ze2,f,g]⟩
theorem zeJ:∀{ds:List (List P)}{p:P},(∀d∈ds,Wb 150 d)->Ms ds p->Vb (150+ds.length) p
 | [],p,_,h=>by
  have:p=(0,0):=h;rw[this];exact⟨Bt.le (m:=1) (z05 (by decide)),Bt.le (m:=1) (z05 (by decide))⟩
 | d::ds,p,g,⟨q,i,r,j,e⟩=>by
  have b:=g d (by simp) q i;have f:=zeJ (λd a=>g d (by simp[a])) j;rw[e];exact⟨Bt.le (Bt.add b.1 f.1) (by simp;lia),Bt.le (Bt.add b.2 f.2) (by simp;lia)⟩
def zao {x:List P × P}(h:Wt4 x):Wb 150 (tr x):=λp hp=>by
 obtain⟨v,a,rfl⟩:=we.mp hp;exact⟨Bt.le (Bt.add (h.wb v a).1 h.vb.1),Bt.le (Bt.add (h.wb v a).2 h.vb.2)⟩
def ziH {ws:List (List P × P)}{p:P}(hw:∀x∈ws,Wt4 x)(e:ws.length<=20)(h:MS ws p):Vb 200 p:=by
 have:=zeJ (λd a=>by obtain⟨x,b,rfl⟩:=we.mp a;exact zao (hw x b)) h;rw[wd] at this;exact⟨this.1.le (by lia),this.2.le (by lia)⟩
def z81 (ws:List (List P × P))(n:Nat):tl (ws.take n)<=tl ws:=by
 have:=congrArg tl (vH n ws);simp only[tl,wv,jG] at this ⊢;lia
def zcj (h:List P):h.length<=(Geo.rd h).length+1:=by
 unfold Geo.rd
 split
 .simp;lia
 .have:∀l:List P,l.length<=(df l).length+1:=λl=>by
   induction l with
   | nil=>simp
   | cons a r d=>cases r with
    | nil=>simp
    | cons b r=>rw[df];simp at d ⊢;lia
  have:=this (h++h.take 1);simp at this;lia
def z3U {S:P->Prop}{h:List P}(x:z03 S h):z03 (· ∈ h) h:=x.of x.sub λ_ hp=>hp
def z78 {ws:List (List P × P)}{ys:List (List P)}{Q:DK}{X:XP}(hw:∀x∈ws,Wt4 x)(hz:ws.length<=12)(ht:tl ws<=240)(hl:ys.length=ws.length)(hd:∀(i:Nat) (h:i<ws.length),∃y,ys[i]? = some y/\Hd (tr ws[i]) y)(q:∀h,z03 (MS ws) h->h.length<=241->Q (vecs h)):z2G.run [.lst (ys.map vecs)] Q X:=by
 walk_at "fn";ac_nf;refine z0A (f:=vecs) (λH U=>∃(h:List P) (R:B),z03 (MS (ws.take H.length)) h/\(Geo.rd h).length<=tl (ws.take H.length)/\U=[.s (.lst (ys.map vecs)),.s (vecs h),R]) ⟨[(0,0)],_,zdE,by simp[Geo.rd],rfl⟩ ?_ ?_
 .rintro H y r U e ⟨h,R,K,J,rfl⟩;k_data;rw[wB,wI] at le;have N:H.length<ws.length:=by lia
  obtain⟨y',V,hy⟩:=hd H.length N;have:y'=y:=by
   rw[e] at V;simpa using V.symm
  k_end;have wx:=hw _ (uv N);have tn:tr ws[H.length]≠[]:=λz=>wx.ne (jt.mp z);have L:=hy.is tn;have yl:=z2b L.nodup L.sub;have a0:(tr ws[H.length]).length=ws[H.length].1.length:=by unfold tr;rw[wd]
  have Z:tl (ws.take (H.length+1))=tl (ws.take H.length)+ws[H.length].1.length:=by
   rw[jf,wf N];exact z4n _ _
  have t2:=z81 ws (H.length+1);have h1:=zcj h;have h2:(Geo.rd y').length<=ws[H.length].1.length:=zaQ λ_=>by lia
  have wl:=wx.len;have hb:Wb 200 h:=λp hp=>ziH (λx hx=>hw x (wU hx)) (by rw[w8];lia) (K.sub p hp);have yb:Wb 150 y':=λp hp=>zao wx p (L.sub p hp);w_up;ac_rfl;ac_nf;refine z5g hb.le yb.le (z3U K) (z3U L) (by lia) (by lia) (by lia) λh' O Y =>?_;x_go;ac_rfl;refine⟨h',_,?_,by rw[wB,uC,Z];lia,rfl⟩;rw[wB,uC,jf,wf N];show z03 (Ms ((ws.take H.length++[ws[H.length]]).map tr)) h';rw[wv];exact z96 K L O
 rintro U ⟨h,R,K,J,rfl⟩;ac_nf;rw[ud (by lia)] at K J;have h1:=zcj h;exact q h K (by lia)
def z5X {ws:List (List P × P)}{Q:DK}{X:XP}(hw:∀x∈ws,Wt4 x)(hz:ws.length<=12)(L:tl ws<=240)(q:∀h,z03 (MS ws) h->h.length<=241->Q (vecs h)):z2Z.run [.tup (ws.map wtD)] Q X:=by
 walk_at "fn";ac_nf;z_go;refine z3v (f:=wtD) (g:=vecs) (P:=λx y=>Hd (tr x) y) (λx hx K H =>?_) λN hl hd =>?_
 .have wx:=hw x hx;ac_nf;exact z4u wx.wb.le ⟨wx.vb.1.le,wx.vb.2.le⟩ (by have:=wx.len;lia) λh J=>H h J
 exact z78 hw hz L hl hd q
def z2i:Fn:=Fn.mkN 3 3 (.ret (.op pGt [.op pAdd [.op z0a [.op pIx [.v 1,.c (.int 0)],.op pIx [.v 0,.c (.int 0)]],.op z0a [.op pIx [.v 1,.c (.int 1)],.op pIx [.v 0,.c (.int 1)]]],.op z0a [.v 2,.op pIx [.v 0,.c (.int 2)]]]))
end Pu
namespace Geo
def zdY {a b p:P}(ne:a≠b):(cr a b p=0/\0<=dot a b p/\0<=dot b a p)↔(0<=cr a b p/\0<=cr b a p/\(a.1 - p.1)*(b.1 - p.1)+(a.2 - p.2)*(b.2 - p.2)<=0):=by
 k_accS;k_keys;obtain⟨d,e⟩:=p;simp only[cr,dot];have i:(b1 - a1)*(e - a2) - (b2 - a2)*(d - a1)=(a1 - d)*(b2 - e) - (a2 - e)*(b1 - d):=by grind
 have j:(a1 - b1)*(e - b2) - (a2 - b2)*(d - b1) = -((a1 - d)*(b2 - e) - (a2 - e)*(b1 - d)):=by grind
 have k:(d - a1)*(b1 - a1)+(e - a2)*(b2 - a2)=((a1 - d)*(a1 - d)+(a2 - e)*(a2 - e)) - ((a1 - d)*(b1 - d)+(a2 - e)*(b2 - e)):=by grind
 have l:(d - b1)*(a1 - b1)+(e - b2)*(a2 - b2)=((b1 - d)*(b1 - d)+(b2 - e)*(b2 - e)) - ((a1 - d)*(b1 - d)+(a2 - e)*(b2 - e)):=by grind
 have h:¬ (a1 - d=b1 - d/\a2 - e=b2 - e):=λz=>ne (vG (by simp;lia) (by simp;lia));rw[i,j,k,l];generalize a1 - d=A at*;generalize a2 - e=B at*;generalize b1 - d=C at*;generalize b2 - e=E at*;clear i j k l ne;have g:∀x:Int,0<=x*x:=λx=>by
  rcases Int.le_total 0 x with z | z
  .exact wJ z z
  .exact vT z z
 o_rec
 .rintro⟨o,q,r⟩;refine⟨by lia,by lia,?_⟩
  rcases v4 0 (A*C+B*E) with z | z
  .exfalso
   have f:(A*C+B*E)*(A*C+B*E)+(A*E - B*C)*(A*E - B*C)=(A*A+B*B)*(C*C+E*E):=by grind
   rw[o,jo,uB] at f;have df:(A - C)*(A - C)+(B - E)*(B - E)=(A*A+B*B)+(C*C+E*E) - 2*(A*C+B*E):=by grind
   have G:=g (A - C);have H:=g (B - E);generalize A*C+B*E=s at*;generalize A*A+B*B=m at*;generalize C*C+E*E=n at*;have t:m=s:=by
    rcases v4 s m with w | w
    .have:=jH w (show 0<n by lia);have:=wM (show s<=n by lia) (show 0<=s by lia);lia
    .lia
   have F:n=s:=by
    rw[t] at f;exact(Int.eq_of_mul_eq_mul_left (by lia) f).symm
   have u:(A - C)*(A - C)=0:=by omega
   have y:(B - E)*(B - E)=0:=by omega
   have I:=wK.mp u;have J:=wK.mp y;exact h ⟨by lia,by lia⟩
  .exact z
 .rintro⟨o,q,r⟩;have:=g A;have:=g B;have:=g C;have:=g E;exact⟨by lia,by lia,by lia⟩
end Geo
namespace Pu
open PySem L2 Mth
abbrev Rs:=Int × Int × Int
abbrev pcD (x y t:Int):D :=.tup [.int x,.int y,.int t]
structure Pc (x y t:Int):Prop where
 pos:0<t
 bx:Bt 800 x
 bY:Bt 800 y
 bt:Bt 110 t
 cop:Int.gcd ((Int.gcd x y:Nat):Int) t=1
def Pl.pc {x y b u v t:Int}(h:Pl x y b u v t)(f:0<b)(d:Bt 110 b)(e:Bt 800 x)(a:Bt 800 y):Pc u v t:=by
 obtain⟨g,i,j⟩:=h.bt f d e a;exact⟨h.pos,i,j,g,h.cop⟩
def deq3 (a b c x y z:Int):deq (pcD a b c) (pcD x y z)=decide (a=x/\b=y/\c=z):=by
 show PyData.eqv (.tuple [.int a,.int b,.int c]) (.tuple [.int x,.int y,.int z])=_;simp[PyData.eqv,PyData.eqvAll]
 by_cases d:a=x <;> by_cases e:b=y <;> by_cases f:c=z <;> simp[d,e,f]
def Da3 (a b c:Int){n:Nat}:Da (n+1) (pcD a b c):=Da.tup.mpr λd e=>by
 simp only[wj,wF,vS] at e
 rcases e with rfl | rfl | rfl <;> exact Da.int
def zd1 {l:List P}{b:P}{m:Int}(f:Wb 600 l)(a:Vb 700 b)(h:m∈l.map (dot · b)):Bt 1400 m:=by
 obtain⟨p,hp,rfl⟩:=we.mp h;obtain⟨d,e⟩:=f p hp;exact Bt.le (Bt.add (Bt.mul d a.1) (Bt.mul e a.2))
def zcb {x y t m:Int}{b:P}{Q:DK}{X:XP}(pc:Pc x y t)(J:Vb 700 b)(N:Bt 1400 m)(q:Q (.bl (decide (m*t<dot (x,y) b)))):z2i.run [pcD x y t,vec b,.int m] Q X:=by
 obtain⟨K,O,L,H,_⟩:=pc;obtain⟨R,U⟩:=J;walk_at "fn";ac_nf;rw[show b.1*x+b.2*y=dot (x,y) b by simp only[dot];rw[ve b.1,ve b.2]];f_int
def zic {x y:Str}{Q:DK}{X:XP}(q:Q (.bl (decide (x=y)))):pEq.run [.str x,.str y] Q X:=q
end Pu
namespace Pu
open PySem L2
def z1l:Fn:=Fn.mkN 2 4 (.seq (.for_ [] (.tp [2,3]) (.op z1W [.v 0]) (.ifs (.op z2i [.v 1,.v 2,.v 3]) (.ret (.v 2)) .skip))
 (.ret (.c .non)))
def z3C:Fn:=Fn.mkN 2 2 (.ret (.op pTup [.op pSub [.op pIx [.v 1,.c (.int 0)],.op z0a [.op pIx [.v 0,.c (.int 0)],.op pIx [.v 1,.c (.int 2)]]],.op pSub [.op pIx [.v 1,.c (.int 1)],.op z0a [.op pIx [.v 0,.c (.int 1)],.op pIx [.v 1,.c (.int 2)]]]]))
def z2F:Fn:=Fn.mkN 2 5 (.seq (.set 2 (.op z0v [.op pIx [.v 0,.c (.int 0)],.op pIx [.v 0,.c (.int 1)]]))
 (.seq (.set 3 (.op z0a [.op z17 [.v 2,.v 2],.op pIx [.v 1,.c (.int 2)]]))
 (.seq (.set 4 (.op z17 [.op z3C [.op pIx [.v 0,.c (.int 0)],.v 1],.v 2]))
 (.ret (.op pTup [.op pSub [.v 3,.v 4],.v 4])))))
def z0H:Fn:=Fn.mkN 2 8 (.seq (.set 2 (.op z0v [.op pIx [.v 0,.c (.int 0)],.op pIx [.v 0,.c (.int 1)]]))
 (.seq (.set 3 (.op z0v [.op pIx [.v 0,.c (.int 0)],.op pIx [.v 0,.c (.int 2)]]))
 (.seq (.set 4 (.op z3C [.op pIx [.v 0,.c (.int 0)],.v 1]))
 (.seq (.set 5 (.op z0a [.op z1s [.v 2,.v 3],.op pIx [.v 1,.c (.int 2)]]))
 (.seq (.set 6 (.op z1s [.v 4,.v 3]))
 (.seq (.set 7 (.op z1s [.v 2,.v 4]))
 (.ret (.op pTup [.op pSub [.op pSub [.v 5,.v 6],.v 7],.v 6,.v 7]))))))))
def z1h:Fn:=Fn.mkN 2 4 (.seq (.set 2 (.c (.int 2)))
 (.seq (.set 3 (.sl (.v 0) none (some (.c (.int 3)))))
 (.seq (.wh (.op pLt [.op zgk [.op z0H [.v 3,.v 1]],.c (.int 0)]) (.seq (.set 2 (.op pAdd [.v 2,.c (.int 1)]))
 (.set 3 (.op pTup [.op pIx [.v 0,.c (.int 0)],.op pIx [.v 0,.op pSub [.v 2,.c (.int 1)]],.op pIx [.v 0,.v 2]]))))
 (.ret (.v 3)))))
def z2h:Fn:=Fn.mkN 2 3 (.seq (.ifs (.op pEq [.v 1,.c (.int 0)]) .never .skip)
 (.seq (.set 2 (.op z09 [.v 1,.v 0]))
 (.seq (.ifs (.op pLt [.v 1,.c (.int 0)]) (.set 2 (.op pNeg [.v 2])) .skip)
 (.ret (.op pTup [.op z1U [.v 0,.v 2],.op z1U [.v 1,.v 2]])))))
def z0Z:Fn:=Fn.mkN 3 5 (.seq (.set 3 (.op zgj [.v 2]))
 (.seq (.set 4 (.comp 2 [3,0] (.tp [0,1]) (.op z9N [.v 1,.v 2]) (some (.op pGt [.v 1,.c (.int 0)])) (.op pTup [.op zb4 [.v 3,.v 0],.op z2h [.v 1,.v 2]])))
 (.ret (.op z12 [.op zdz [.v 4]]))))
def z3a:Fn:=Fn.mkN 2 6 (.seq (.set 2 (.op z07 [.v 0]))
 (.seq (.set 3 (.op z1l [.v 2,.v 1]))
 (.seq (.ifs (.op z7l [.v 3,.c .non]) (.ret (.op pTup [.c (.str "barred"),.v 3])) .skip)
 (.seq (.set 4 (.v 2))
 (.seq (.set 5 (.op pTup [.c (.int 1)]))
 (.seq (.ifs (.op pEq [.op pLen [.v 2],.c (.int 2)]) (.set 5 (.op z2F [.v 4,.v 1])) .skip)
 (.seq (.ifs (.op pGt [.op pLen [.v 2],.c (.int 2)]) (.seq (.set 4 (.op z1h [.v 2,.v 1]))
 (.set 5 (.op z0H [.v 4,.v 1]))) .skip)
 (.ret (.op pTup [.c (.str "sailed"),.op z0Z [.v 0,.v 4,.v 5]])))))))))
end Pu
namespace Geo
def zbf {a b c d:Int}(g:0<a)(h:0<=b)(i:c<0)(j:0<=d)(e:a*b=c*d):d=0:=by
 have k:=wJ (wE g) h;have l:=vE (wE i) j;have f:c*d=0:=by lia
 rcases wK.mp f with z | z
 .lia
 .exact z
def sqp {a b:Int}(h:¬ (a=0/\b=0)):0<a*a+b*b:=by
 have d:∀x:Int,0<=x*x:=λx=>by
  rcases Int.le_total 0 x with z | z
  .exact wJ z z
  .exact vT z z
 have e:=d a;have f:=d b
 rcases uG (Int.add_nonneg e f) with z | z
 .exact z
 .exfalso
  have g:a*a=0:=by omega
  have i:b*b=0:=by omega
  have j:=wK.mp g;have k:=wK.mp i;exact h ⟨by lia,by lia⟩
def zgL {S:P->Prop}{a b o c:P}(j:Edge S a b)(k:Edge S o c)(F:a≠o)(G:b≠o):0<cr a b o:=by
 rcases uG (j.left o k.sa) with z | z
 .exact z
 exfalso
 have z:=z.symm;have bt:=j.btw o k.sa z;have L:=((zdY j.ne).mp ⟨z,bt.1,bt.2⟩).2.2;have I:=k.left a j.sa;have J:=k.left b j.sb;have x:=k.btw a j.sa;have y:=k.btw b j.sb;have K:=k.ne;k_accS;k_keys;obtain⟨l,m⟩:=o;obtain⟨A,E⟩:=c;simp only[cr,dot] at z L I J x y;have q:¬ (a1 - l=0/\a2 - m=0):=λw=>F (vG (by simp;lia) (by simp;lia));have r:¬ (b1 - l=0/\b2 - m=0):=λw=>G (vG (by simp;lia) (by simp;lia));have s:¬ (A - l=0/\E - m=0):=λw=>K (vG (by simp;lia) (by simp;lia));have N:(a1 - l)*(b2 - m) - (a2 - m)*(b1 - l)=0:=by rw[<- z];grind
 clear z F G K bt j k;generalize a1 - l=d at*;generalize a2 - m=e at*;generalize b1 - l=h at*;generalize b2 - m=i at*;generalize A - l=f at*;generalize E - m=g at*;have U:=sqp q;have V:=sqp r;have C:=sqp s;have n:(d*h+e*i)*(d*h+e*i)+(d*i - e*h)*(d*i - e*h)=(d*d+e*e)*(h*h+i*i):=by grind
 have p:(d*d+e*e)*(f*i - g*h)=(d*h+e*i)*(f*e - g*d)+(d*i - e*h)*(f*d+g*e):=by grind
 have H:(d*d+e*e)*(h*f+i*g)=(d*h+e*i)*(d*f+e*g) - (d*i - e*h)*(f*e - g*d):=by grind
 have O:(d*f+e*g)*(d*f+e*g)+(f*e - g*d)*(f*e - g*d)=(d*d+e*e)*(f*f+g*g):=by grind
 rw[N,jo,uB] at n p;rw[N,jo,Int.sub_zero] at H;have W:=w3 U V;have neg:d*h+e*i<0:=by
  rcases uG L with w | w
  .exact w
  .rw[w] at n;lia
 have t:f*e - g*d=0:=zbf U J neg I p;have u:f*i - g*h=0:=by
  rw[t,Int.mul_zero] at p
  rcases wK.mp p with w | w
  .lia
  .exact w
 have Q:=(x t).1;have R:=(y u).1;have T:d*f+e*g=0:=zbf U R neg Q H;rw[t,T] at O;have:=w3 U C;lia
def ed (a b:P)(x y t:Int):Int:=(b.1 - a.1)*(y - a.2*t) - (b.2 - a.2)*(x - a.1*t)
def zbI (a b:P)(x y t:Int):ed b a x y t = -ed a b x y t:=by simp only[ed];grind
def z7I {h:List P}(k:h.Nodup){i j:Nat}(a:i<h.length)(b:j<h.length)(ne:i≠j):cy h i≠cy h j:=λe=>by
 have f:=z13 (h:=h) (i:=i) (by lia);have g:=z13 (h:=h) (i:=j) (by lia);rw[wP a,wf a] at f;rw[wP b,wf b] at g;have d:h[i]=h[j]:=by
  rw[wQ f,wQ g];exact e
 rcases Nat.lt_or_gt_of_ne ne with z | z
 .exact(vh.mp k i j a b z) d
 .exact(vh.mp k j i b a z) d.symm
def zcY {S:P->Prop}{h:List P}(x:z03 S h){k:Nat}(a:1<=k)(b:k+1<h.length):0<cr (cy h k) (cy h (k+1)) (cy h 0):=
 zgL (z3d x (by lia) k) (z3d x (by lia) 0) (z7I x.nodup (by lia) (by lia) (by lia)) (z7I x.nodup (by lia) (by lia) (by lia))
end Geo
namespace Pu
open PySem L2 Mth
def cyw {h:List P}{n:Nat}(b:h≠[])(a:Wb n h)(k:Nat):Vb n (Geo.cy h k):=a _ (wu (z13 (w4.mpr b)))
def zay {h:List P}(f:h≠[])(e:Wb 600 h){s:P × P}(hs:s∈z04 h):Vb 700 s.1:=by
 unfold z04 at hs
 split at hs
 .kgr_on;unfold ways at hb';simp only[wj,wF,vS] at hb'
  rcases hb' with rfl | rfl | rfl | rfl <;> exact⟨Bt.le (m:=1) (z05 (by dsimp only;decide)),Bt.le (m:=1) (z05 (by dsimp only;decide))⟩
 .obtain⟨j,_,hs⟩:=List.mem_flatMap.mp hs;obtain⟨g,i⟩:=cyw f e (j+h.length - 1);obtain⟨k,l⟩:=cyw f e j;have a:Bt 601 ((Geo.cy h j).1 - (Geo.cy h (j+h.length - 1)).1):=Bt.le (Bt.sub k g);have d:Bt 601 ((Geo.cy h j).2 - (Geo.cy h (j+h.length - 1)).2):=Bt.le (Bt.sub l i);unfold z0h at hs
  rcases wj.mp hs with rfl | hs
  .exact⟨d.le,Bt.le (Bt.neg a)⟩
  .split at hs
   .rw[wg.mp hs];exact⟨a.le,d.le⟩
   .cases hs
def Wthn (h:List P)(x y t:Int):Prop:=∀s∈z04 h,dot (x,y) s.1<=dot s.2 s.1*t
def zaO {l h:List P}{x y t:Int}{Q:DK}{X:XP}(J:z03 (· ∈ l) h)(hb:Wb 600 h)(hz:h.length<=250)(pc:Pc x y t)
  (q1:∀b,b≠(0,0)->Vb 700 b->(∀p∈l,dot p b*t<dot (x,y) b)->Q (vec b)) (Y:Wthn h x y t->Q .non):z1l.run [vecs h,pcD x y t] Q X:=by
 obtain⟨m,tl,V,_⟩:=J.ex;have hn:h≠[]:=by rw[V];simp
 walk_at "fn";ac_nf;refine z4t (.inl rfl) hb.le hn (by lia) λh' L =>?_;have K:z03 (· ∈ h) h:=J.of (λp hp=>J.sub p hp) λp hp=>hp;obtain rfl:h'=h:=(L.is hn).unique K;ac_nf;refine z0A (f:=zc6) (λU R=>∃N O:B,(∀s∈U,dot (x,y) s.1<=dot s.2 s.1*t)/\R=[.s (vecs h'),.s (pcD x y t),N,O]) ⟨_,_,by simp,rfl⟩ ?_ ?_
 .rintro U s r R e ⟨N,O,hd,rfl⟩;have hs:s∈z04 h':=by rw[e];simp
  have sb:=zay hn hb hs;obtain⟨Z,sf⟩:=z3R J hs;k_one;w_up;f_are;ac_rfl;ac_nf;refine zcb pc sb (zd1 hb sb (we.mpr ⟨s.2,Z,rfl⟩)) ?_;kt_le
  .ac_nf;refine q1 s.1 (zax J hs) sb λp hp =>?_;have:=wA (sf p hp) (wE pc.pos);lia
  .ac_nf;refine⟨_,_,λs' H =>?_,rfl⟩
   rcases wp.mp H with H | H
   .exact hd s' H
   .rw[wg.mp H];lia
 rintro R ⟨N,O,hd,rfl⟩;ac_nf;exact Y hd
def z7X {h:List P}{x y t:Int}(f:2<=h.length)(w:Wthn h x y t){k:Nat}(e:k<h.length):0<=Geo.ed (Geo.cy h k) (Geo.cy h (k+1)) x y t:=by
 have key:∀j,j<h.length->0<=Geo.ed (Geo.cy h (j+h.length - 1)) (Geo.cy h j) x y t:=λj d=>by
  have:=w _ (z1r (by lia) d (wq ..));simp only[dot,rt,stp] at this;simp only[Geo.ed];generalize Geo.cy h (j+h.length - 1)=a at*;generalize Geo.cy h j=b at*
  grind
 rcases vp (k+1) h.length with z | z
 .have:=key (k+1) z;rw[show k+1+h.length - 1=k+h.length by lia] at this
  rwa [show Geo.cy h (k+h.length)=Geo.cy h k by unfold Geo.cy;rw[uj]] at this
 .have:=key 0 (by lia);rw[show 0+h.length - 1=k by lia] at this
  rwa [show Geo.cy h 0=Geo.cy h (k+1) by unfold Geo.cy;rw[show k+1=h.length by lia,Nat.mod_self,Nat.zero_mod]] at this
def z8M {a:P}{x y t:Int}{Q:DK}{X:XP}(J:Vb 600 a)(pc:Pc x y t)(q:Q (vec (x - a.1*t,y - a.2*t))):z3C.run [vec a,pcD x y t] Q X:=by
 obtain⟨K,N,L,H,_⟩:=pc;obtain⟨a1,a2⟩:=J;walk_at "fn";ac_nf;f_int
def zdc {a:P}{x y t:Int}(b:Vb 600 a)(pc:Pc x y t):Vb 900 (x - a.1*t,y - a.2*t):=⟨Bt.le (Bt.sub pc.bx (Bt.mul b.1 pc.bt)),Bt.le (Bt.sub pc.bY (Bt.mul b.2 pc.bt))⟩
def z5S {a b:P}(d:Vb 600 a)(e:Vb 600 b):Vb 601 (b.1 - a.1,b.2 - a.2):=⟨Bt.le (Bt.sub e.1 d.1),Bt.le (Bt.sub e.2 d.2)⟩
def zfx {a b c:P}{x y t:Int}{Q:DK}{X:XP}(K:Vb 600 a)(hb:Vb 600 b)(hc:Vb 600 c)(pc:Pc x y t)(q:Q (.tup ([Geo.ed b c x y t,Geo.ed c a x y t,Geo.ed a b x y t].map .int))):z0H.run [vecs [a,b,c],pcD x y t] Q X:=by
 have H:=z5S K hb;have J:=z5S K hc;have L:=zdc K pc;have N:=pc.bt;walk_at "fn";ac_nf;refine z2a ?_;ac_nf;refine z2a ?_;ac_nf;refine z8M K pc ?_;ac_nf;refine z3m ⟨H.1.le,H.2.le⟩ ⟨J.1.le,J.2.le⟩ ?_;have U:Bt 1203 ((b.1 - a.1)*(c.2 - a.2) - (b.2 - a.2)*(c.1 - a.1)):=Bt.le (Bt.sub (Bt.mul H.1 J.2) (Bt.mul H.2 J.1));ac_nf;refine z3m ⟨L.1.le,L.2.le⟩ ⟨J.1.le,J.2.le⟩ ?_;ac_nf;refine z3m ⟨H.1.le,H.2.le⟩ ⟨L.1.le,L.2.le⟩ ?_;ac_nf;have e1:((b.1 - a.1)*(c.2 - a.2) - (b.2 - a.2)*(c.1 - a.1))*t - ((x - a.1*t)*(c.2 - a.2) - (y - a.2*t)*(c.1 - a.1)) - ((b.1 - a.1)*(y - a.2*t) - (b.2 - a.2)*(x - a.1*t))=Geo.ed b c x y t:=by simp only[Geo.ed];grind
 have O:(x - a.1*t)*(c.2 - a.2) - (y - a.2*t)*(c.1 - a.1)=Geo.ed c a x y t:=by simp only[Geo.ed];grind
 have R:(b.1 - a.1)*(y - a.2*t) - (b.2 - a.2)*(x - a.1*t)=Geo.ed a b x y t:=rfl;rw[e1,O,R];f_int
structure Fan (h:List P)(x y t:Int)(k:Nat):Prop where
 lo:1<=k
 hi:k+1<h.length
 a:0<=Geo.ed (Geo.cy h k) (Geo.cy h (k+1)) x y t
 b:0<=Geo.ed (Geo.cy h (k+1)) (Geo.cy h 0) x y t
 c:0<=Geo.ed (Geo.cy h 0) (Geo.cy h k) x y t
def zhz {h:List P}(d:3<=h.length):h.take 3=[Geo.cy h 0,Geo.cy h 1,Geo.cy h 2]:=by
 match h,d with
 | a::b::c::r,_=>
  have e:∀k,k<3->k % (a::b::c::r).length=k:=λk f=>wP (by simp;lia);simp only[Geo.cy];rw[e 0 (by lia),e 1 (by lia),e 2 (by lia)]
  rfl
def zcd {h:List P}{x y t:Int}{Q:DK}{X:XP}(hb:Wb 600 h)(h3:3<=h.length)(hz:h.length<=250)(pc:Pc x y t)(w:Wthn h x y t)
  (q:∀k,Fan h x y t k->Q (vecs [Geo.cy h 0,Geo.cy h k,Geo.cy h (k+1)])):z1h.run [vecs h,pcD x y t] Q X:=by
 have hn:h≠[]:=List.ne_nil_of_length_pos (by lia);have K:=λ{k:Nat}(hk:k<h.length)=>z7X (by lia) w hk;have J:0<=Geo.ed (Geo.cy h (h.length - 1)) (Geo.cy h 0) x y t:=by
  have:=K (k:=h.length - 1) (by lia)
  rwa [show Geo.cy h (h.length - 1+1)=Geo.cy h 0 by unfold Geo.cy;rw[show h.length - 1+1=h.length by lia,Nat.mod_self,Nat.zero_mod]] at this
 have c3:cutD (h.map vec) none (some 3)=(h.take 3).map vec:=by
  rw[z3e,show HT.sIx h.length h.length (some (3:Int))=min 3 h.length by
   show (if (3:Int)<0 then ((3:Int)+(h.length:Int)).toNat else min (3:Int).toNat h.length)=_;rw[if_neg (by decide)]
   rfl]
  show (h.take (min 3 h.length)).map vec=_;rw[show min 3 h.length=3 by lia]
 walk_at "fn";ac_nf;rw[c3,zhz h3];ac_nf;refine z3W (z58 (λH=>∃k:Nat,1<=k/\k+1<h.length/\0<=Geo.ed (Geo.cy h 0) (Geo.cy h k) x y t/\H=[.s (vecs h),.s (pcD x y t),.s (.int ((k:Int)+1)),.s (vecs [Geo.cy h 0,Geo.cy h k,Geo.cy h (k+1)])]) (λH=>(400 - nI H 2).toNat) ⟨1,by lia,by lia,K (k:=0) (by lia),rfl⟩ ?_);rintro H ⟨k,k1,R,hc,rfl⟩;have O:=K (k:=k) (by lia);ac_nf;refine zfx (cyw hn hb _) (cyw hn hb _) (cyw hn hb _) pc ?_;refine⟨_,rfl,by simp,λm hm N =>?_⟩;ac_nf;have U:=N _ (wn _ (wq ..));kt_le
 .have hb':Geo.ed (Geo.cy h (k+1)) (Geo.cy h 0) x y t<0:=by
   simp only[wj,wF,vS] at hm;lia
  have ne:k+1≠h.length - 1:=λe=>by rw[e] at hb';lia
  have L:0<=Geo.ed (Geo.cy h 0) (Geo.cy h (k+1)) x y t:=by rw[zbI];lia
  ac_nf;refine z1e (z0P (z8w (k:=0) (by lia))) ?_;ac_nf;rw[show (k:Int)+1+1 - 1=((k+1:Nat):Int) by lia];refine z1e (z0P (z8w (k:=k+1) (by lia))) ?_;ac_nf;rw[show (k:Int)+1+1=((k+2:Nat):Int) by lia];refine z1e (z0P (z8w (k:=k+2) (by lia))) ?_;ac_nf;refine⟨⟨k+1,by lia,by lia,L,rfl⟩,?_⟩;show (400 - ((k+2:Nat):Int)).toNat<(400 - ((k:Int)+1)).toNat
  lia
 .ac_nf;refine q k ⟨k1,R,O,by lia,hc⟩
def z8P {p W:Int}{Q:DK}{X:XP}(H:0<W)(J:Bt 1400 W)(q:Q (vec (p / (Int.gcd p W:Int),W / (Int.gcd p W:Int)))):z2h.run [.int p,.int W] Q X:=by
 obtain⟨g0,_,_,_,_⟩:=z3u (t:=p) H;have L:(Int.gcd p W:Int)<=W:=Int.le_of_dvd H (jM ..);have K:Bt 9000 (Int.gcd p W:Int):=Bt.le (J.of_abs (by lia));walk_at "fn";ac_nf;refine t_no (by lia) ?_;ac_nf;refine z3y ?_;rw[Int.gcd_comm];ac_nf;refine t_no (by lia) ?_;ac_nf;f_int
def idx (l:List P)(c:P):Nat:=l.findIdx λp=>decide (p=c)
def z6H {l:List P}{c:P}(h:c∈l):l[idx l c]? = some c:=by
 have a:idx l c<l.length:=List.findIdx_lt_length_of_exists ⟨c,h,by simp⟩;rw[wf a];have:=List.findIdx_getElem (w:=a);exact congrArg some (ux this)
def z9d {l:List P}{c:P}(h:c∈l):idx l c<l.length:=List.findIdx_lt_length_of_exists ⟨c,h,by simp⟩
def zeS {l:List P}{c d:P}(b:c∈l)(f:d∈l)(e:idx l c=idx l d):c=d:=by
 have a:=z6H b;rw[e,z6H f] at a;exact(wQ a).symm
def zh7 {l:List P}{c:P}(h:c∈l):Geo.cy l (idx l c)=c:=by
 have b:=z6H h;have a:=z13 (h:=l) (i:=idx l c) (by have:=z9d h;lia);rw[wP (z9d h),b] at a;exact(wQ a).symm
def zeC {l:List P}{c:P}{Q:DK}{X:XP}(h:c∈l)(q:Q (.int (idx l c:Int))):zb4.run [vecs l,vec c] Q X:=by
 refine⟨Da.vec c,λd g =>?_,⟨vec c,uy h,by rw[z3J];simp⟩,λi d a b e =>?_⟩
 .obtain⟨p,_,rfl⟩:=we.mp g;exact Da.vec p
 .rw[wN] at a
  cases z:l[i]? with
  | none=>rw[z] at a;cases a
  | some p=>
   rw[z] at a
   cases a
   rw[z3J] at b;have f:=ux b;subst f;have:i=idx l p:=by
    rcases uN i (idx l p) with w | w | w
    .have j:i<l.length:=Nat.lt_trans w (z9d h);have:=List.not_of_lt_findIdx (show i<l.findIdx λq=>decide (q=p) from w);rw[wf j] at z;rw[wQ z] at this;simp at this
    .exact w
    .have:=e (idx l p) (vec p) w (by rw[wN,z6H h];rfl);rw[z3J] at this;simp at this
   rw[this];f_int
def shOf (l:List P)(W:Int)(x:P × Int):Sh:=(idx l x.1,x.2 / (Int.gcd x.2 W:Int),W / (Int.gcd x.2 W:Int))
def rwOf (l:List P)(W:Int)(x:P × Int):Int × D:=((idx l x.1:Int),vec (x.2 / (Int.gcd x.2 W:Int),W / (Int.gcd x.2 W:Int)))
def back:Int × D->Sh
 | (n,.tup [.int a,.int b])=>(n.toNat,a,b)
 | (n,_)=>(n.toNat,0,1)
def z6S (l:List P)(W:Int)(x:P × Int):back (rwOf l W x)=shOf l W x:=by
 simp only[rwOf,shOf,back,vec];simp
def z7i {f:Sh->Int}{a b:List Sh}(h:a.Perm b):(a.map f).sum=(b.map f).sum:=by
 induction h with
 | nil=>rfl
 | cons x _ g=>simp[g]
 | swap x y l=>simp;lia
 | trans _ _ d e=>rw[d,e]
set_option tactic.hygienic true in
theorem z9n {f:P × Int->Int}:∀{l:List (P × Int)},(∀x∈l,0<=x.2)->(∀x,x.2=0->f x=0)->((l.filter λx=>decide (0<x.2)).map f).sum=(l.map f).sum
 | [],_,_=>rfl
 | x::l,h,a=>by
  have b:=z9n (l:=l) (λy d=>h y (by simp[d])) a;rw[List.filter_cons]
  split
  .rw[wC,wC,vc,vc,b]
  .rename_i z
   have e:=h x (by simp);have:x.2=0:=by simp at z;lia
   rw[wC,vc,a x this,Int.zero_add,b]
def zgz {l m:List D}{Q:DK}{X:XP}(q:Q (.lst ((l.zip m).map λp =>.tup [p.1,p.2]))):z9N.run [.tup l,.tup m] Q X:=q
def zfB {a b:P}{x y t:Int}{Q:DK}{X:XP}(J:Vb 600 a)(hb:Vb 600 b)(pc:Pc x y t)
  (q:Q (.tup ([((b.1 - a.1)*(b.1 - a.1)+(b.2 - a.2)*(b.2 - a.2))*t - ((x - a.1*t)*(b.1 - a.1)+(y - a.2*t)*(b.2 - a.2)),(x - a.1*t)*(b.1 - a.1)+(y - a.2*t)*(b.2 - a.2)].map .int))):z2F.run [vecs [a,b],pcD x y t] Q X:=by
 have H:=z5S J hb;have K:=zdc J pc;have L:=pc.bt;walk_at "fn";ac_nf;refine z2a ?_;ac_nf;refine z3x ⟨H.1.le,H.2.le⟩ ⟨H.1.le,H.2.le⟩ ?_;have N:Bt 1203 ((b.1 - a.1)*(b.1 - a.1)+(b.2 - a.2)*(b.2 - a.2)):=Bt.le (Bt.add (Bt.mul H.1 H.1) (Bt.mul H.2 H.2));ac_nf;refine z8M J pc ?_;ac_nf;refine z3x ⟨K.1.le,K.2.le⟩ ⟨H.1.le,H.2.le⟩ ?_;ac_nf;f_int
abbrev swD (sh:List Sh):D :=.tup [.str (Str.ofString "sailed"),.tup (sh.map shD)]
abbrev brD (b:P):D :=.tup [.str (Str.ofString "barred"),vec b]
structure Prt (l:List P)(x y t:Int)(xs:List (P × Int)):Prop where
 mem:∀z∈xs,z.1∈l
 nd:(xs.map (·.1)).Nodup
 few:xs.length<=3
 nn:∀z∈xs,0<=z.2
 pos:0<(xs.map (·.2)).sum
 bt:Bt 1400 (xs.map (·.2)).sum
 ex:(xs.map λz=>z.1.1*z.2).sum*t=(xs.map (·.2)).sum*x
 ey:(xs.map λz=>z.1.2*z.2).sum*t=(xs.map (·.2)).sum*y
def zev {l:List P}{m:P}{x y t:Int}(o:m∈l)(w:Wthn [m] x y t):Prt l x y t [(m,1)]:=by
 have f:∀b,b∈ways->dot (x,y) b<=dot m b*t:=λb k=>w (b,m) (by
  unfold z04;rw[if_pos (show [m].length=1 from rfl)];exact we.mpr ⟨b,k,rfl⟩)
 have a:=f (1,0) (by decide);have d:=f (0,1) (by decide);have e:=f (-1,0) (by decide);have g:=f (0,-1) (by decide);simp[dot,Int.neg_mul] at a d e g;have h:m.1*t=x:=by lia
 have j:m.2*t=y:=by omega
 exact⟨by simpa using o,by simp,by simp,by simp,by simp,by simpa using z05 (n:=1400) (i:=1) (u7 (by decide:(1:Int).natAbs<2 ^ 1) (jP (by decide) (by decide))),by simpa using h,by simpa using j⟩
def zeu {S:P->Prop}{l:List P}{a b:P}{x y t:Int}(pc:Pc x y t)(u:z03 S [a,b])(r:a∈l)(s:b∈l)(F:Vb 600 a)(vb:Vb 600 b)(w:Wthn [a,b] x y t):
  Prt l x y t [(a,((b.1 - a.1)*(b.1 - a.1)+(b.2 - a.2)*(b.2 - a.2))*t - ((x - a.1*t)*(b.1 - a.1)+(y - a.2*t)*(b.2 - a.2))),(b,(x - a.1*t)*(b.1 - a.1)+(y - a.2*t)*(b.2 - a.2))]:=by
 have i:=u.nodup;have ne:a≠b:=λe=>by rw[e] at i;simp at i
 have o:=z7X (h:=[a,b]) (by simp) w (k:=0) (by simp);have d:=z7X (h:=[a,b]) (by simp) w (k:=1) (by simp);have o:0<=Geo.ed a b x y t:=o;have n:Geo.cy [a,b] 2=a:=by simp[Geo.cy]
 have d:0<=Geo.ed b a x y t:=by rw[show (1+1:Nat)=2 from rfl,n] at d;exact d
 rw[zbI] at d;have q:Geo.ed a b x y t=0:=by lia
 have A:=w (stp a b,b) (z1r (by simp) (j:=1) (by simp) (by unfold z0h;rw[if_pos (show [a,b].length=2 from rfl),show 1+[a,b].length - 1=2 from rfl,n];exact wn _ (wg.mpr rfl)));have C:=w (stp b a,a) (z1r (by simp) (j:=0) (by simp) (by unfold z0h;rw[if_pos (show [a,b].length=2 from rfl)];exact wn _ (wg.mpr rfl)));have g:=z5S F vb;have m:=pc.pos;have E:0<(b.1 - a.1)*(b.1 - a.1)+(b.2 - a.2)*(b.2 - a.2):=sqp λz=>ne (vG (by lia) (by lia));have f:((b.1 - a.1)*(b.1 - a.1)+(b.2 - a.2)*(b.2 - a.2))*t - ((x - a.1*t)*(b.1 - a.1)+(y - a.2*t)*(b.2 - a.2))+((x - a.1*t)*(b.1 - a.1)+(y - a.2*t)*(b.2 - a.2))=((b.1 - a.1)*(b.1 - a.1)+(b.2 - a.2)*(b.2 - a.2))*t:=by lia
 simp only[dot,stp] at A C;simp only[Geo.ed] at q;refine⟨by simp[r,s],i,by simp,?_,?_,?_,?_,?_⟩
 .intro z p;simp only[wj,wF,vS] at p
  rcases p with rfl | rfl
  .show 0<=_ - _
   grind
  .show 0<=_+_
   grind
 .l_idx;rw[f];exact w3 E m
 .l_idx;rw[f];exact Bt.le (Bt.mul (Bt.add (Bt.mul g.1 g.1) (Bt.mul g.2 g.2)) pc.bt)
 .l_idx;rw[f]
  grind
 .l_idx;rw[f]
  grind
def zaU {S:P->Prop}{l h:List P}{x y t:Int}{k:Nat}(pc:Pc x y t)(d:z03 S h)(E:∀p∈h,p∈l)(g:Wb 600 h)(F:Fan h x y t k):
  Prt l x y t [(Geo.cy h 0,Geo.ed (Geo.cy h k) (Geo.cy h (k+1)) x y t),(Geo.cy h k,Geo.ed (Geo.cy h (k+1)) (Geo.cy h 0) x y t),(Geo.cy h (k+1),Geo.ed (Geo.cy h 0) (Geo.cy h k) x y t)]:=by
 obtain⟨G,H,u,A,C⟩:=F;have e:h≠[]:=List.ne_nil_of_length_pos (by lia);have Q:=zcY d G H;have L:=z7I d.nodup (i:=0) (j:=k) (by lia) (by lia) (by lia);have N:=z7I d.nodup (i:=0) (j:=k+1) (by lia) (by lia) (by lia);have O:=z7I d.nodup (i:=k) (j:=k+1) (by lia) (by lia) (by lia);have m:∀j,Geo.cy h j∈l:=λj=>E _ (wu (z13 (w4.mpr e)));have I:=m 0;have J:=m k;have K:=m (k+1);have R:=cyw e g 0;have s:=cyw e g k;have T:=cyw e g (k+1);generalize Geo.cy h 0=a at*;generalize Geo.cy h k=b at*;generalize Geo.cy h (k+1)=c at*;have n:=pc.pos;have f:Geo.ed b c x y t+(Geo.ed c a x y t+Geo.ed a b x y t)=Geo.cr b c a*t:=by simp only[Geo.ed,Geo.cr];grind
 refine⟨by simp[I,J,K],by simp[L,N,O],by simp,?_,?_,?_,?_,?_⟩
 .intro z r;simp only[wj,wF,vS] at r
  rcases r with rfl | rfl | rfl
  .exact u
  .exact A
  .exact C
 .l_idx;rw[f];exact w3 Q n
 .l_idx;rw[f];have o:=z5S s T;have q:=z5S s R;exact Bt.le (Bt.mul (Bt.sub (Bt.mul o.1 q.2) (Bt.mul o.2 q.1)) pc.bt)
 .l_idx;rw[f];simp only[Geo.ed,Geo.cr]
  grind
 .l_idx;rw[f];simp only[Geo.ed,Geo.cr]
  grind
end Pu
namespace Pu
open PySem L2
def z2I:Fn:=Fn.mkN 2 4 (.seq (.set 2 (.op z2m [.v 1]))
 (.seq (.set 3 (.comp 1 [2,1] (.nm 0) (.v 0) none (.op pTup [.op z17 [.v 0,.v 1],.op z17 [.v 0,.v 2]])))
 (.ret (.op z8X [.v 3]))))
def z1j:Fn:=Fn.mkN 3 7 (.seq (.own 3 (.op zgm []))
 (.seq (.for_ [] (.tp [4,5]) (.v 2) (.seq (.set 6 (.op z2I [.v 0,.op z0v [.op pIx [.v 1,.op pSub [.v 4,.c (.int 1)]],.op pIx [.v 1,.v 4]]]))
 (.dput 3 (.v 6) (.op z4H [.dget2 (.v 3) (.v 6) (.op pTup [.c (.int 0),.c (.int 1)]),.v 5]))))
 (.ret (.op z12 [.op z61 [.v 3]]))))
def z02:Fn:=Fn.mkN 1 5 (.seq (.set 1 (.c (.int 0)))
 (.seq (.for_ [] (.nm 2) (.v 0) (.seq (.set 3 (.op pAbs [.v 2]))
 (.wh (.op pGt [.v 3,.c (.int 0)]) (.seq (.set 4 (.op pMod [.v 1,.v 3]))
 (.seq (.set 1 (.v 3))
 (.set 3 (.v 4)))))))
 (.ret (.op z12 [.comp 1 [1] (.nm 0) (.v 0) none (.op z1U [.v 0,.v 1])]))))
def z0z:Fn:=Fn.mkN 3 6 (.seq (.set 3 (.op pIx [.v 2,.c (.int 0)]))
 (.seq (.set 4 (.op pAdd [.op z0a [.op pIx [.v 0,.c (.int 0)],.op pIx [.v 2,.c (.int 1)]],.op z0a [.op z0a [.op pIx [.v 1,.c (.int 0)],.v 3],.op pIx [.v 0,.c (.int 2)]]]))
 (.seq (.set 5 (.op pAdd [.op z0a [.op pIx [.v 0,.c (.int 1)],.op pIx [.v 2,.c (.int 1)]],.op z0a [.op z0a [.op pIx [.v 1,.c (.int 1)],.v 3],.op pIx [.v 0,.c (.int 2)]]]))
 (.ret (.op z02 [.op pLst [.v 4,.v 5,.op z0a [.op pIx [.v 0,.c (.int 2)],.op pIx [.v 2,.c (.int 1)]]]])))))
def z1O:Fn:=Fn.mkN 2 2 (.ret (.op z02 [.op pLst [.op pAdd [.op z0a [.op pIx [.v 0,.c (.int 0)],.op pIx [.v 1,.c (.int 1)]],.op z0a [.op pIx [.v 1,.c (.int 0)],.op pIx [.v 0,.c (.int 1)]]],.op z0a [.op pIx [.v 0,.c (.int 1)],.op pIx [.v 1,.c (.int 1)]]]]))
def z11:Fn:=Fn.mkN 2 7 (.seq (.set 2 (.op pTup [.c (.int 0),.c (.int 0),.c (.int 1)]))
 (.seq (.forr [.op pLen [.v 1]] (.nm 3) (.seq (.set 4 (.op pTup [.c (.int 0),.c (.int 1)]))
 (.seq (.for_ [] (.tp [5,6]) (.op pIx [.v 1,.v 3]) (.seq (.set 2 (.op z0z [.v 2,.op pIx [.op pIx [.op pIx [.v 0,.v 3],.c (.int 0)],.v 5],.v 6]))
 (.set 4 (.op z1O [.v 4,.v 6]))))
 (.set 2 (.op z0z [.v 2,.op pIx [.op pIx [.v 0,.v 3],.c (.int 1)],.v 4])))))
 (.ret (.v 2))))
def z0e:Fn:=Fn.mkN 2 5 (.seq (.set 2 (.op pAdd [.op z0a [.c (.int 80),.op pAdd [.v 1,.c (.int 1)]],.c (.int 1)]))
 (.seq (.set 3 (.op pSub [.op pMod [.v 0,.v 2],.op z1U [.v 2,.c (.int 2)]]))
 (.seq (.set 4 (.op pSub [.op pMod [.op z1U [.v 0,.v 2],.v 2],.op z1U [.v 2,.c (.int 2)]]))
 (.ret (.op z02 [.op pLst [.v 3,.v 4,.op pAdd [.c (.int 1),.op pMod [.op z1U [.op z1U [.v 0,.v 2],.v 2],.c (.int 60)]]]])))))
def z1k:Fn:=Fn.mkN 3 9 (.seq (.set 3 (.op z00 [.v 0,.c (.int 31),.op pAdd [.v 2,.c (.int 1)]]))
 (.seq (.set 4 (.op z00 [.v 0,.c (.int 32),.v 1]))
 (.seq (.set 5 (.op z00 [.v 0,.c (.int 33),.v 1]))
 (.seq (.set 6 (.op z00 [.v 0,.c (.int 34),.v 1]))
 (.seq (.set 7 (.op z00 [.v 0,.c (.int 35),.op pAdd [.op pSub [.v 2,.v 3],.c (.int 1)]]))
 (.seq (.own 8 (.comp 1 [] (.nm 0) (.op z5i [.v 1]) none (.c (.int 0))))
 (.seq (.put 8 (.v 4) (.op pAdd [.op pIx [.v 8,.v 4],.v 3]))
 (.seq (.put 8 (.v 5) (.op pAdd [.op pIx [.v 8,.v 5],.v 7]))
 (.seq (.put 8 (.v 6) (.op pSub [.op pSub [.op pAdd [.op pIx [.v 8,.v 6],.v 2],.v 3],.v 7]))
 (.ret (.v 8)))))))))))
def z0s:Fn:=Fn.mkN 2 6 (.seq (.own 2 (.op pLst []))
 (.seq (.forr [.op pLen [.v 0]] (.nm 3) (.seq (.set 4 (.op pAdd [.c (.int 1),.op z00 [.v 1,.op pAdd [.c (.int 40),.v 3],.op pIx [.op pLst [.c (.int 1),.c (.int 6),.c (.int 60)],.op z00 [.v 1,.c (.int 39),.c (.int 3)]]]]))
 (.seq (.setx [] 5 (.op z1k [.op pAdd [.v 1,.op z0a [.c (.int 7),.v 3]],.op pLen [.op pIx [.op pIx [.v 0,.v 3],.c (.int 0)]],.v 4]))
 (.seq (.ifs (.op pEq [.op z00 [.op pAdd [.v 1,.v 3],.c (.int 38),.c (.int 4)],.c (.int 0)]) (.seq (.setx [] 5 (.comp 1 [1,3] (.nm 0) (.op z5i [.op pLen [.op pIx [.op pIx [.v 0,.v 3],.c (.int 0)]]]) none (.op pAdd [.c (.int 1),.op z00 [.op pAdd [.v 1,.v 2],.op pAdd [.c (.int 120),.v 0],.c (.int 5)]])))
 (.set 4 (.op pSum [.v 5]))) .skip)
 (.app 2 (.op z12 [.comp 1 [4,5] (.nm 0) (.op z5i [.op pLen [.v 5]]) (some (.op pGt [.op pIx [.v 2,.v 0],.c (.int 0)])) (.op pTup [.v 0,.op z02 [.op pLst [.op pIx [.v 2,.v 0],.v 1]]])]))))))
 (.ret (.op z12 [.v 2]))))
def z1v:Fn:=Fn.mkN 3 7 (.seq (.ifs (.op pEq [.op pMod [.v 1,.c (.int 2)],.c (.int 1)]) (.ret (.op z0e [.op z1U [.v 1,.c (.int 2)],.v 2])) .skip)
 (.seq (.set 3 (.op z11 [.v 0,.op z0s [.v 0,.v 1]]))
 (.seq (.set 4 (.op z00 [.v 1,.c (.int 61),.c (.int 6)]))
 (.seq (.ifs (.op pLt [.v 4,.c (.int 3)]) (.ret (.v 3)) .skip)
 (.seq (.set 5 (.op pIx [.op pLst [.c (.int 1),.op pAdd [.c (.int 1),.v 2],.op z0a [.c (.int 40),.op pAdd [.c (.int 1),.v 2]]],.op pSub [.v 4,.c (.int 3)]]))
 (.seq (.set 6 (.op pTup [.op pSub [.op z00 [.v 1,.c (.int 62),.op pAdd [.op z0a [.c (.int 2),.v 5],.c (.int 1)]],.v 5],.op pSub [.op z00 [.v 1,.c (.int 63),.op pAdd [.op z0a [.c (.int 2),.v 5],.c (.int 1)]],.v 5]]))
 (.ret (.op z0z [.v 3,.v 6,.op z02 [.op pLst [.c (.int 1),.op pAdd [.c (.int 1),.op z00 [.v 1,.c (.int 64),.c (.int 3)]]]]]))))))))
open Mth
def gl:Nat->List Int->Nat
 | g,[]=>g
 | g,x::l=>gl (Nat.gcd g x.natAbs) l
def zdl {row:List Int}{Q:DK}{X:XP}(hz:row.length<=1000)(h0:gl 0 row≠0)(hb:Bt 9000 (gl 0 row:Int))(q:Q (.tup (row.map λx =>.int (x / (gl 0 row:Int))))):z02.run [.lst (row.map .int)] Q X:=by
 walk_at "fn";ac_nf;refine z0A (f :=.int) (λV J=>∃(g:Nat) (O R U:B),(∀H,row=V++H->gl 0 row=gl g H)/\J=[.s (.lst (row.map .int)),.s (.int (g:Int)),O,R,U]) ⟨0,_,_,_,λH e=>by rw[e];rfl,rfl⟩ ?_ ?_
 .rintro V x r J e ⟨g,O,R,U,N,rfl⟩;w_up;ac_rfl;ac_nf;rw[zbV];refine z58 (λJ=>∃(a s:Nat) (y:B),Nat.gcd a s=Nat.gcd g x.natAbs/\J=[.s (.lst (row.map .int)),.s (.int (a:Int)),.s (.int x),.s (.int (s:Int)),y]) (λJ=>(nI J 3).toNat) ⟨g,x.natAbs,_,rfl,rfl⟩ ?_;rintro J ⟨a,s,y,L,rfl⟩;ac_nf;kt_le
  .ac_nf;have hm:(a:Int) % (s:Int)=((a % s:Nat):Int):=by simp
   refine⟨⟨s,a % s,_,by rw[<- L,j0 a s,Nat.gcd_rec s a,j0],by rw[hm]⟩,?_⟩;show ((a:Int) % (s:Int)).toNat<((s:Nat):Int).toNat
   rw[hm];have:=uX a (show 0<s by lia);lia
  .have:s=0:=by lia
   k_end;rw[Nat.gcd_zero_right] at L;refine⟨a,_,_,_,λrest' Y =>?_,rfl⟩;have:r=rest':=by
    rw[e,wS] at Y;have:=List.append_cancel_left Y;k_ne
   rw[N _ e, <- this,L]
   rfl
 rintro J ⟨g,O,R,U,N,rfl⟩;have Z:gl 0 row=g:=N [] (by simp);rw[Z] at h0 hb q;ac_nf;refine⟨by rw[wd];exact szl (by lia),?_⟩;refine z1b (g:=λx =>.int (x / (g:Int))) (λx _ K k =>?_) ?_
 .have:(0:Int)<(g:Int):=by lia
  ac_nf;exact k
 ac_nf;f_int
def gl2 (t b:Int):gl 0 [t,b]=Int.gcd t b:=by
 show Nat.gcd (Nat.gcd 0 t.natAbs) b.natAbs=_;rw[Nat.gcd_zero_left]
 rfl
def zaI {t b:Int}{Q:DK}{X:XP}(d:0<b)(a:Bt 8000 b)(q:Q (.tup [.int (t / (Int.gcd t b:Int)),.int (b / (Int.gcd t b:Int))])):z02.run [.lst [.int t,.int b]] Q X:=by
 obtain⟨e,_,_,_,_⟩:=z3u (t:=t) d;refine zdl (row:=[t,b]) (by show 2<=1000;decide) (by rw[gl2];lia) (by
  rw[gl2];exact Bt.le (a.of_abs (by
   have:=Nat.le_of_dvd (by lia) (Int.gcd_dvd_natAbs_right t b);lia))) ?_
 rw[gl2];f_int
def z8Q {t b:Int}{Q:DK}{X:XP}(a:0<b)(d:Bt 8000 b)(q:∀u w,Pl t 0 b u 0 w->Q (.tup [.int u,.int w])):z02.run [.lst [.int t,.int b]] Q X:=zaI a d (q _ _ (Pl.low a))
def zaH {x y b:Int}{Q:DK}{X:XP}(a:0<b)(e:Bt 8000 b)(q:∀u v t,Pl x y b u v t->Q (.tup [.int u,.int v,.int t])):z02.run [.lst [.int x,.int y,.int b]] Q X:=by
 have d:((gl 0 [x,y,b]:Nat):Int)=g3 x y b:=by
  show ((Nat.gcd (Nat.gcd (Nat.gcd 0 x.natAbs) y.natAbs) b.natAbs:Nat):Int)=_;unfold g3;rw[z2C,Nat.gcd_zero_left]
  congr 1
  rw[j0, <- Nat.gcd_assoc]
 have hp:=zdw (x:=x) (y:=y) a;have g:=z9i (x:=x) (y:=y) a;have f:Bt 9000 (g3 x y b):=Bt.le (e.of_abs (by
  have:=vZ.mpr (z53 x y b);exact Nat.le_of_dvd (by lia) this))
 refine zdl (row:=[x,y,b]) (by show 3<=1000;decide) (by lia) (by rw[d];exact f) ?_;rw[d];exact q _ _ _ (Pl.of hp)
def zaJ {u v t a c:Int}{p:P}{Q:DK}{X:XP}(V:0<t)(hc:0<c)(Z:Bt 3000 u)(bv:Bt 3000 v)(K:Bt 3000 t)(L:Bt 3000 a)(R:Bt 3000 c)(U:Vb 150 p)(q:∀N O t',Pl (u*c+p.1*a*t) (v*c+p.2*a*t) (t*c) N O t'->Q (.tup [.int N,.int O,.int t'])):z0z.run [.tup [.int u,.int v,.int t],vec p,.tup [.int a,.int c]] Q X:=by
 obtain⟨Y,py⟩:=p;obtain⟨H,J⟩:=U;dsimp only at H J;have m1:Bt 3150 (Y*a):=Bt.mul H L;have m2:Bt 3150 (py*a):=Bt.mul J L;walk_at "fn";ac_nf;refine zaH (w3 V hc) (Bt.le (Bt.mul K R)) q
def zfz {a b c d:Int}{Q:DK}{X:XP}(hb:0<b)(hd:0<d)(K:Bt 3000 a)(H:Bt 3000 b)(L:Bt 3000 c)(J:Bt 3000 d)(q:∀u t,Pl (a*d+c*b) 0 (b*d) u 0 t->Q (.tup [.int u,.int t])):z1O.run [.tup [.int a,.int b],.tup [.int c,.int d]] Q X:=by
 walk_at "fn";ac_nf;refine z8Q (w3 hb hd) (Bt.le (Bt.mul H J)) q
def wsh (ws:List Int):List Sh:=((List.range ws.length).filter λk=>decide (0<ws.getD k 0)).map λk=>(k,ws.getD k 0 / (Int.gcd (ws.getD k 0) ws.sum:Int),ws.sum / (Int.gcd (ws.getD k 0) ws.sum:Int))
theorem z5a:∀{l:List Int}{i:Nat}{d:Int},i<l.length->(l.set i (l.getD i 0+d)).sum=l.sum+d
 | [],i,d,h=>by simp at h
 | x::l,0,d,_=>by simp;lia
 | x::l,i+1,d,h=>by
  have:=z5a (l:=l) (i:=i) (d:=d) (by simpa using h);simp only[List.getD_cons_succ,List.set_cons_succ,vc];lia
def zcN {α:Type}{l:List α}{i:Nat}{a x:α}(h:x∈l.set i a):x∈l\/x=a:=by
 rcases List.mem_or_eq_of_mem_set h with z | z
 .exact .inl z
 .exact .inr z
def z6I {l:List Int}{i:Nat}(h:i<l.length):l.getD i 0∈l:=by
 rw[wG,wf h];exact uv _
def z5t {n:Nat}{k:Int}(a:0<=k)(b:k<n):ixN n k=some k.toNat:=by
 unfold ixN;rw[if_pos a,if_pos b]
def z7R {ws:List Int}{k:Int}(a:0<=k)(b:k<ws.length):atI (ws.map D.int) k=some (.int (ws.getD k.toNat 0)):=by
 unfold atI;rw[wd,z5t a b];show (ws.map D.int)[k.toNat]? = _;rw[wN,wG,wf (by lia)]
 rfl
def z52 {k:Int}{Q:DK}{X:XP}(h : -(2 ^ 62)<=k)(h':k<2 ^ 62)(q:Q (.lst ((List.range k.toNat).map λ(j:Nat)=>D.int (j:Int)))):z5i.run [.int k] Q X:=⟨⟨h,h'⟩,q⟩
def ze6 {c:Int}{n:Nat}{m:Int}{Q:DK}{X:XP}(hn:0<n)(a4:n<=100)(hm:0<m)(a3:m<=100)(q:∀H:List Int,H.length=n->(∀t∈H,0<=t)->H.sum=m->Q (.lst (H.map .int))):z1k.run [.int c,.int (n:Int),.int m] Q X:=by
 walk_at "fn";ac_nf;refine z0N (by decide) (by decide) (by lia) λcut Z c1 =>?_;ac_nf;refine z0N (by decide) (by decide) (by lia) λa V a1 =>?_;ac_nf;refine z0N (by decide) (by decide) (by lia) λb Y b1 =>?_;ac_nf;refine z0N (by decide) (by decide) (by lia) λe e0 e1 =>?_;ac_nf;o_src;ac_nf;refine z52 (by lia) (by lia) ?_;ac_nf;rw[show ((n:Nat):Int).toNat=n by simp];k_memK;refine z1b (g:=λ_ =>.int 0) (λx _ K k =>?_) ?_
 .ac_nf;exact k
 rw[show (List.range n).map (λ_=>D.int 0)=((List.range n).map λ_=>(0:Int)).map .int by rw[wR];rfl];obtain⟨H,J,h1,h2,h3⟩:∃H:List Int,H=(List.range n).map (λ_=>(0:Int))/\H.length=n/\(∀t∈H,0<=t)/\H.sum=0:=⟨_,rfl,by simp,λt N=>by(obtain⟨_,_,rfl⟩:=we.mp N;decide),by
  have:∀l:List Nat,(l.map λ_=>(0:Int)).sum=0:=λl=>by
   induction l with
   | nil=>rfl
   | cons a l ih=>simp[ih]
  exact this _⟩
 rw[<- J];clear J;refine z1x (λx hx =>?_) ?_
 .obtain⟨w,_,rfl⟩:=we.mp hx;exact Safe.of_noL rfl rfl _
 ac_rfl;have one:∀{H:List Int}{k:Int}{d:Int},H.length=n->(∀t∈H,0<=t)->0<=k->k<n->0<=d->(H.set k.toNat (H.getD k.toNat 0+d)).length=n/\(∀t∈H.set k.toNat (H.getD k.toNat 0+d),0<=t)/\(H.set k.toNat (H.getD k.toNat 0+d)).sum=H.sum+d:=λ{H k d} h1 h2 k0 k1 hd=>by
  refine⟨by rw[List.length_set];exact h1,λt N =>?_,z5a (by lia)⟩
  rcases zcN N with z | z
  .exact h2 t z
  .have:=h2 _ (z6I (l:=H) (i:=k.toNat) (by lia));lia
 have s1:=one h1 h2 V a1 Z;refine z3W (ze4 (z0q rfl ?_));ac_nf;gn_on;ac_nf;rw[wd,z5t (by lia) (by lia)];w_up;ac_rfl;rw[<- List.map_set];generalize H.set a.toNat (H.getD a.toNat 0+cut)=U at*;obtain⟨p1,p2,p3⟩:=s1;have s2:=one p1 p2 Y b1 r0;refine z3W (ze4 (z0q rfl ?_));ac_nf;gn_on;ac_nf;rw[wd,z5t (by lia) (by lia)];w_up;ac_rfl;rw[<- List.map_set];generalize U.set b.toNat (U.getD b.toNat 0+r)=L at*;obtain⟨q1,q2,q3⟩:=s2;have s3:=one q1 q2 e0 e1 (show 0<=m - cut - r by lia);refine z3W (ze4 (z0q rfl ?_));ac_nf;gn_on;ac_nf;rw[wd,z5t (by lia) (by lia)];w_up;ac_rfl;rw[<- List.map_set,show L.getD e.toNat 0+m - cut - r=L.getD e.toNat 0+(m - cut - r) by lia];generalize L.set e.toNat (L.getD e.toNat 0+(m - cut - r))=t3 at*;obtain⟨O,R,a5⟩:=s3;ac_nf;exact q t3 O R (by lia)
abbrev shsD (sh:List Sh):D :=.tup (sh.map shD)
theorem zdN:∀{ws:List Int},(∀w∈ws,0<=w)->∀w∈ws,w<=ws.sum
 | [],_,w,h=>by cases h
 | x::ws,h,w,f=>by
  have d:=zdN (ws:=ws) λy b=>h y (by simp[b]);have e:=h x (by simp);have g:0<=ws.sum:=by
   have:∀(l:List Int),(∀w∈l,0<=w)->0<=l.sum:=λl=>by
    induction l with
    | nil=>intro _;simp
    | cons a l d=>
     intro k;have:=d λx e=>k x (by simp[e]);have:=k a (by simp);rw[vc];lia
   exact this ws λy b=>h y (by simp[b])
  rw[vc]
  rcases wj.mp f with z | z
  .lia
  .have:=d w z;lia
def z7r (l:List Sh):noL (shsD l)=true:=z37 λd a=>by(obtain⟨x,_,rfl⟩:=we.mp a;rfl)
def z7s (l:List Sh):noD (shsD l)=true:=z38 λd a=>by(obtain⟨x,_,rfl⟩:=we.mp a;rfl)
def zd5 {a:List Int}{Q:DK}{X:XP}{b:Pu.Env}{m:Int}(z:b.get 4=some (.int m))(o:b.get 5=some (.lst (a.map .int)))(i:b[4]? = some (.s (.int m)))(l:b[5]? = some (.s (.lst (a.map .int))))(A:a.length<=100)(u:a.sum=m)(r:0<m)(t:m<1000)(q:Q (shsD (wsh a))):
  Ex.run (.op z12 [(.comp 1 [4,5] (.nm 0) (.op z5i [(.op pLen [(.v 5)])]) (some (.op pGt [(.op pIx [(.v 2),(.v 0)]),(.c (.int 0))])) (.op pTup [(.v 0),(.op z02 [(.op pLst [(.op pIx [(.v 2),(.v 0)]),(.v 1)])])]))]) b Q X:=by
 refine zd0 (zdP (zd0 (zd0 (e_v ?_))));rw[o];refine z91 ?_;ac_nf;rw[wd];refine z52 (by lia) (by lia) ?_;rw[show ((a.length:Nat):Int).toNat=a.length by simp];ac_nf;k_memK;rw[show z1Q 1 [4,5] b=[.n,.s (.int m),.s (.lst (a.map .int))] by unfold z1Q;simp[i,l]];refine z2K (f:=λ(j:Nat)=>D.int (j:Int)) (p:=λk=>decide (0<a.getD k 0)) (g:=λk=>shD (k,a.getD k 0 / (Int.gcd (a.getD k 0) a.sum:Int),a.sum / (Int.gcd (a.getD k 0) a.sum:Int))) (λk e K x y =>?_) ?_
 .have h:k<a.length:=vI.mp e;ac_nf;gn_on;rw[show ((k:Nat):Int).toNat=k by simp];ac_nf;refine z0Q (λd =>?_) (λd =>?_)
  .ac_nf;gn_on;rw[show ((k:Nat):Int).toNat=k by simp];ac_nf;refine zaI r (Bt.le (m:=10) (z05 (by lia))) ?_;ac_nf;rw[<- u];exact x (vU d)
  .exact y (vz d)
 ac_nf;rw[show ∀rs:List Nat,rs.map (λk=>shD (k,a.getD k 0 / (Int.gcd (a.getD k 0) a.sum:Int),a.sum / (Int.gcd (a.getD k 0) a.sum:Int)))=(rs.map λk=>((k,a.getD k 0 / (Int.gcd (a.getD k 0) a.sum:Int),a.sum / (Int.gcd (a.getD k 0) a.sum:Int)):Sh)).map shD from λrs=>by rw[wR];rfl];f_int
theorem z4W {α d:Type}{x:α}{y:d}:∀{m:List d}{l:List α},l[m.length]? = some x->l.zip (m++[y])=l.zip m++[(x,y)]
 | [],l,h=>by
  cases l with
  | nil=>simp at h
  | cons a l=>simp at h;subst h;simp
 | b::m,l,h=>by
  cases l with
  | nil=>simp at h
  | cons a l=>
   have:=z4W (m:=m) (l:=l) (y:=y) (by simpa using h);rw[uW,List.zip_cons_cons,this]
   rfl
def Pl.more {x y W u v t a c p vx vy b f t':Int}(j:0<c)(h:Pl x y W u v t)(e:a*W=p*c)(s:Pl (u*c+vx*a*t) (v*c+vy*a*t) (t*c) b f t'):Pl (x+vx*p) (y+vy*p) W b f t':=by
 have k:t*c≠0:=by have:=w3 h.pos j;lia
 have d:∀{b u x vx:Int},b*(t*c)=(u*c+vx*a*t)*t'->u*W=x*t->b*W=(x+vx*p)*t':=λ{b u x vx} g i=>by
  apply wY k
  calc b*W*(t*c)=(b*(t*c))*W:=by grind
   _=((u*W)*c+vx*(a*W)*t)*t':=by rw[g];grind
   _=(x+vx*p)*t'*(t*c):=by rw[i,e];grind
 exact⟨s.pos,s.cop,d s.cx h.cx,d s.cy h.cy⟩
structure Sw (W:Int)(n:Nat)(s:Sh):Prop where
 top:0<s.2.1
 bot:0<s.2.2
 le:s.2.1<=2*s.2.2
 dv:s.2.2 ∣ W
 ix:s.1<n
def pt (W:Int)(s:Sh):Int:=s.2.1*(W / s.2.2)
def z9L {W:Int}{s:Sh}(h:s.2.2 ∣ W):s.2.1*W=pt W s*s.2.2:=by unfold pt;rw[u4,Int.ediv_mul_cancel h]
def Sw.pt_le {W:Int}{n:Nat}{s:Sh}(h:Sw W n s)(a:0<W):0<pt W s/\pt W s<=2*W:=by
 have e:=Int.ediv_mul_cancel h.dv;have k0:0<W / s.2.2:=Int.ediv_pos_of_pos_of_dvd a (wE h.bot) h.dv;unfold pt;generalize W / s.2.2=k at*;refine⟨w3 h.top k0,?_⟩;rw[<- e,ve k, <- u4];exact wA h.le (by lia)
def Sw.mul {W m:Int}{n:Nat}{s:Sh}(h:Sw W n s):Sw (W*m) n s:=⟨h.top,h.bot,h.le,Wa h.dv (Int.dvd_mul_right _ _),h.ix⟩
def bt2 {k:Nat}{W:Int}(b:Bt k W):Bt (k+1) (W+W):=Bt.le (Bt.add b b) (by lia)
def Sw.bits {W:Int}{n k:Nat}{s:Sh}(h:Sw W n s)(a:0<W)(b:Bt k W):Bt (k+1) s.2.1/\Bt k s.2.2:=by
 have:=h.top;have:=h.bot;have:=h.le;have:=Int.le_of_dvd a h.dv;exact⟨(bt2 b).of_abs (by lia),b.of_abs (by lia)⟩
def sw (w:Nat->Int)(W:Int)(l:List Sh):Int:=(l.map λs=>w s.1*pt W s).sum
def z6e {w:Nat->Int}{W:Int}(l:List Sh)(s:Sh):sw w W (l++[s])=sw w W l+w s.1*pt W s:=by simp[sw]
theorem z6E {m:Nat}:∀{l:List Int},(∀x∈l,Bt m x)->Bt (m+l.length) l.sum
 | [],_=>Bt.le (m:=0) (z05 (by decide)) (by lia)
 | x::l,h=>by
  rw[vc];exact Bt.le (Bt.add (h x (by simp)) (z6E λy a=>h y (by simp[a]))) (by simp;lia)
def z9z {w:Nat->Int}{W:Int}{n k m:Nat}{l:List Sh}(f:l.length<=14)(a:0<W)(b:Bt k W)(h:∀s∈l,Sw W n s)(hw:∀i,Bt m (w i)):Bt (m+k+15) (sw w W l):=by
 refine Bt.le (z6E (m:=m+k+1) λx e =>?_) (by rw[wd];lia);obtain⟨s,d,rfl⟩:=we.mp e;have:=(h s d).pt_le a;exact Bt.le (Bt.mul (hw _) ((bt2 b).of_abs (by lia))) (by lia)
def cX (W:Int)(p:(List P × P) × List Sh):Int:=sw (wx p.1.1) W p.2+p.1.2.1*sw (λ_=>1) W p.2
def cY (W:Int)(p:(List P × P) × List Sh):Int:=sw (wy p.1.1) W p.2+p.1.2.2*sw (λ_=>1) W p.2
def zdV {n:Nat}:Bt (n+1) 1:=Bt.le (m:=1) (z05 (by decide)) (by lia)
def cyb {n:Nat}{l:List P}(h:l≠[])(a:Wb n l)(k:Nat):Vb n (Geo.cy l k):=a _ (wu (z13 (w4.mpr h)))
def zit {W:Int}{k:Nat}{p:(List P × P) × List Sh}(d:0<W)(b:Bt k W)(a:Wt4 p.1)(e:p.2.length<=14)(h:∀s∈p.2,Sw W p.1.1.length s):Bt (k+160) (cX W p)/\Bt (k+160) (cY W p):=by
 have f:=z9z (w:=λ_=>1) (m:=1) e d b h λ_=>zdV;exact⟨Bt.le (Bt.add (z9z e d b h λi=>(cyb a.ne a.wb i).1) (Bt.mul a.vb.1 f)) (by lia),Bt.le (Bt.add (z9z e d b h λi=>(cyb a.ne a.wb i).2) (Bt.mul a.vb.2 f)) (by lia)⟩
def zfi {b:List Int}(o:∀t∈b,0<=t)(x:0<b.sum):(wsh b≠[]/\(wsh b).length<=b.length)/\∀s∈wsh b,Sw b.sum b.length s/\s.2.1<=s.2.2:=by
 refine⟨⟨λz =>?_,by unfold wsh;rw[wd];exact vd (List.length_filter_le _ _) (by simp)⟩,λs m =>?_⟩
 .have no:=jt.mp z;rw[List.filter_eq_nil_iff] at no;have:b.sum=0:=by
   have e:∀l:List Int,(∀t∈l,0<=t)->(∀t∈l,¬ 0<t)->l.sum=0:=λl=>by
    induction l with
    | nil=>intros;rfl
    | cons a l y=>
     intro p q;have:=p a (by simp);have:=q a (by simp);rw[vc,y (λt i=>p t (by simp[i])) (λt i=>q t (by simp[i]))];lia
   refine e b o λt i =>?_;obtain⟨k,j,rfl⟩:=uP i;have:=no k (vI.mpr j);rw[wG,wf j] at this;k_ne
  lia
 obtain⟨k,j,rfl⟩:=we.mp m;obtain⟨d,h⟩:=List.mem_filter.mp j;have d:=vI.mp d;have h:=ux h;have f:=zdN o _ (z6I d);obtain⟨n,A,u,C,E⟩:=z3u (t:=b.getD k 0) x;generalize (Int.gcd (b.getD k 0) b.sum:Int)=g at*;have f:=Int.ediv_le_ediv n f;have r:0<b.sum / g:=by lia
 refine⟨⟨?_,r,by show b.getD k 0 / g<=2*(b.sum / g);lia,⟨g,?_⟩,d⟩,f⟩
 .show 0<b.getD k 0 / g
  rcases v4 0 (b.getD k 0 / g) with z | z
  .exact z
  .have:=w7 (wE n) z;lia
 .show b.sum=b.sum / g*g;rw[ve];exact u
def Pl.eq0 {x p W u t:Int}(h:Pl (x+1*p) (0+0*p) W u 0 t):Pl (x+1*p) 0 W u 0 t:=by simpa using h
structure Gd (W:Int)(n:Nat)(sh:List Sh):Prop where
 each:∀s∈sh,Sw W n s/\Int.gcd s.2.1 s.2.2=1
 up:sh.Pairwise (λa b=>a.1<b.1)
 few:sh.length<=3
def z83 {l:List P}{xs:List (P × Int)}{Q:DK}{X:XP}(hl:∀x∈xs,x.1∈l)(hz:l.length<=250)(nd:(xs.map (·.1)).Nodup)(h3:xs.length<=3)(h0:∀x∈xs,0<=x.2)(V:0<(xs.map (·.2)).sum)(bW:Bt 1400 (xs.map (·.2)).sum)
  (q:∀sh,Gd (xs.map (·.2)).sum l.length sh->(∀(w:Nat->Int) (f:P->Int),(∀k,w k=f (Geo.cy l k))->sw w (xs.map (·.2)).sum sh=(xs.map λx=>f x.1*x.2).sum)->Q (.tup (sh.map shD))):z0Z.run [vecs l,vecs (xs.map (·.1)),.tup ((xs.map (·.2)).map .int)] Q X:=by
 walk_at "fn";ac_nf;refine⟨_,rfl,?_⟩;generalize eW:(xs.map (·.2)).sum=W at*;ac_nf;refine zgz ?_;rw[wR,wR,List.zip_map',wR];ac_nf;z_go;refine z2K (f:=λx:P × Int=>D.tup [vec x.1,.int x.2]) (p:=λx=>decide (0<x.2)) (g:=λx=>pdD (rwOf l W x)) (λx hx K k1 k2 =>?_) ?_
 .k_one;show Ex.run _ _ _ _;f_are;ac_rfl;ac_nf;kt_le
  .ac_nf;refine zeC (hl x hx) ?_;ac_nf;refine z8P V bW ?_;ac_nf;exact k1 (vU z)
  .exact k2 (vz z)
 generalize O:(xs.filter λx=>decide (0<x.2))=F;have R:∀x∈F,x∈xs/\0<x.2:=λx hx=>by
  rw[<- O] at hx;obtain⟨h1,h2⟩:=List.mem_filter.mp hx;exact⟨h1,ux h2⟩
 have lF:F.length<=3:=by
  rw[<- O];exact vd (List.length_filter_le _ _) h3
 rw[show (F.map λx=>pdD (rwOf l W x))=(F.map (rwOf l W)).map pdD by rw[wR];rfl];refine⟨⟨trivial,trivial,trivial,trivial,trivial,trivial⟩,?_⟩;ac_rfl;ac_nf;refine⟨F.map (rwOf l W),rfl,?_,by rw[wd];lia,λN pm pw =>?_⟩
 .rw[wR];have n1:(F.map (·.1)).Nodup:=by
   rw[<- O];exact(List.filter_sublist.map _).nodup nd
  unfold List.Nodup at n1 ⊢;rw[vf] at n1 ⊢;refine n1.imp_of_mem λ{a b} Y hb H e =>?_;have e:((idx l a.1:Nat):Int)=(idx l b.1:Nat):=e;exact H (zeS (hl a (R a Y).1) (hl b (R b hb).1) (by lia))
 ac_nf;have J:∀y∈N,∃x∈F,y=rwOf l W x:=λy hy=>by
  obtain⟨x,hx,e⟩:=we.mp (pm.mem_iff.mp hy);exact⟨x,hx,e.symm⟩
 have e1:N.map pdD=(N.map back).map shD:=by
  rw[wR];apply v7;intro y hy;obtain⟨x,hx,rfl⟩:=J y hy;show pdD (rwOf l W x)=shD (back (rwOf l W x));rw[z6S]
  rfl
 have L:(N.map back).Perm (F.map (shOf l W)):=by
  have:=pm.map back
  rwa [wR,show back ∘ rwOf l W=shOf l W from funext λx=>z6S l W x] at this
 rw[e1];have hs:∀s∈N.map back,∃x∈F,s=shOf l W x:=λs hs=>by
  obtain⟨x,hx,e⟩:=we.mp (L.mem_iff.mp hs);exact⟨x,hx,e.symm⟩
 have sg:∀s∈N.map back,Sw W l.length s/\Int.gcd s.2.1 s.2.2=1:=λs Z=>by
  obtain⟨x,hx,rfl⟩:=hs s Z;obtain⟨U,x2⟩:=R x hx;obtain⟨g0,f1,f2,f3,f4⟩:=z3u (t:=x.2) V;have xW:x.2<=W:=by
   rw[<- eW];exact(z4F λy hy=>by obtain⟨z,hz,rfl⟩:=we.mp hy;exact h0 z hz).2 _ (uy U)
  have le:=Int.ediv_le_ediv g0 xW;refine⟨⟨?_,by show 0<W / (Int.gcd x.2 W:Int);lia,by show x.2 / (Int.gcd x.2 W:Int)<=2*(W / (Int.gcd x.2 W:Int));lia,⟨_,f2.trans (ve _ _)⟩,z9d (hl x U)⟩,f4⟩;show 0<x.2 / (Int.gcd x.2 W:Int)
  rcases v4 0 (x.2 / (Int.gcd x.2 W:Int)) with z | z
  .exact z
  .have:=w7 (wE g0) z;lia
 refine q _ ⟨sg,?_,by rw[L.length_eq,wd];exact lF⟩ λw f hw =>?_
 .rw[vf];refine pw.imp_of_mem λ{a b} Y hb H =>?_;obtain⟨x,_,rfl⟩:=J a Y;obtain⟨y,_,rfl⟩:=J b hb;rw[z6S,z6S];have H:((idx l x.1:Nat):Int)<(idx l y.1:Nat):=H;show idx l x.1<idx l y.1;lia
 .unfold sw;rw[z7i L,wR, <- z9n (l:=xs) h0 (λx hx=>by rw[hx,Int.mul_zero]),O]
  congr 1
  apply v7;intro x hx;obtain⟨U,x2⟩:=R x hx;obtain⟨g0,f1,f2,f3,f4⟩:=z3u (t:=x.2) V;show w (idx l x.1)*(x.2 / (Int.gcd x.2 W:Int)*(W / (W / (Int.gcd x.2 W:Int))))=f x.1*x.2;rw[hw,zh7 (hl x U)];have e2:W / (W / (Int.gcd x.2 W:Int))=(Int.gcd x.2 W:Int):=Int.ediv_eq_of_eq_mul_left (by lia) f2;rw[e2,ve (x.2 / _), <- f1]
structure LedW (l:List P)(x y t W:Int)(sh:List Sh):Prop where
 pos:0<W
 bt:Bt 1400 W
 gd:Gd W l.length sh
 one:sw (λ_=>1) W sh=W
 ex:sw (wx l) W sh*t=W*x
 ey:sw (wy l) W sh*t=W*y
def zaL {l:List P}{x y t:Int}{xs:List (P × Int)}{Q:DK}{X:XP}(b:l.length<=250)(g:Prt l x y t xs)(d:∀a W,LedW l x y t W a->Q (.tup (a.map shD))):
  z0Z.run [vecs l,vecs (xs.map (·.1)),.tup ((xs.map (·.2)).map .int)] Q X:=by
 refine z83 g.mem b g.nd g.few g.nn g.pos g.bt λa G k=>d a _ ⟨g.pos,g.bt,G,?_,?_,?_⟩
 .rw[k (λ_=>1) (λ_=>1) λ_=>rfl]
  congr 1
  exact v7 λx _=>Int.one_mul _
 .rw[k (wx l) (λp=>p.1) λ_=>rfl];exact g.ex
 .rw[k (wy l) (λp=>p.2) λ_=>rfl];exact g.ey
def z76 {l:List P}{x y t:Int}{Q:DK}{X:XP}(hn:l≠[])(hz:l.length<=250)(hb:Wb 600 l)(pc:Pc x y t)
  (q1:∀b,b≠(0,0)->Vb 700 b->(∀p∈l,dot p b*t<dot (x,y) b)->Q (brD b)) (V:∀N W,LedW l x y t W N->Q (swD N)):z3a.run [vecs l,pcD x y t] Q X:=by
 walk_at "fn";ac_nf;refine z0F (.inl rfl) hb.le (by lia) λh U =>?_;have J:=U.is hn;have hl:=z2b J.nodup J.sub;have H:Wb 600 h:=λp hp=>hb p (J.sub p hp);have K:h≠[]:=by obtain⟨m,tl,em,_⟩:=J.ex;rw[em];simp
 have a0:=pc.pos;x_go;ac_rfl;ac_nf;refine zaO J H (by lia) pc (λb Z bb O =>?_) λw =>?_
 .ac_nf;x_run;ac_nf;exact q1 b Z bb O
 ac_nf;k_get;ac_nf;rw[wd];kt_le
 .obtain⟨a,b,rfl⟩:∃a b,h=[a,b]:=by
   match h,z with
   | [a,b],_=>exact⟨a,b,rfl⟩
  have Y:=H a (by simp);have vb:=H b (by simp);ac_nf;refine zfB Y vb pc ?_;ac_nf;refine t_no (by simp) ?_;ac_nf;refine zaL hz (zeu pc J (J.sub a (by simp)) (J.sub b (by simp)) Y vb w) λN W L =>?_;ac_nf;exact V N W L
 ac_nf;rw[wd];refine z0Q (λR =>?_) (λR =>?_)
 .ac_nf;refine zcd H (by lia) (by lia) pc w λk F =>?_;x_go;ac_rfl;ac_nf;refine zfx (cyw K H _) (cyw K H _) (cyw K H _) pc ?_;ac_nf;refine zaL hz (zaU pc J J.sub H F) λN W L =>?_;ac_nf;exact V N W L
 .obtain⟨m,rfl⟩:∃m,h=[m]:=by
   match h,K,z,R with
   | [m],_,_,_=>exact⟨m,rfl⟩
   | _::_::r,_,z,R=>simp at z R;lia
  ac_nf;refine zaL hz (zev (J.sub m (by simp)) w) λN W L =>?_;ac_nf;exact V N W L
def ky (st v:P):P:=(dot v (rt st),dot v st)
def Top (S:P->Prop)(st q:P):Prop:=S q/\∀r,S r->LxG (ky st q) (ky st r)
def z79 {l:List P}{st:P}{Q:DK}{X:XP}(hn:l≠[])(hz:l.length<=12)(hb:Wb 140 l)(hs:Vb 700 st)(q:∀i,i<l.length->Top (· ∈ l) st (Geo.cy l i)->Q (.int (i:Int))):z2I.run [vecs l,vec st] Q X:=by
 have hr:Vb 700 (rt st):=⟨hs.2,hs.1.neg⟩
 walk_at "fn";ac_nf;refine z5W ?_;k_in;ac_rfl;ac_nf;z_go;refine z1b (g:=λp=>vec (ky st p)) (λp hp K L =>?_) ?_
 .ac_nf;refine z3x (hb p hp).le hr.le ?_;ac_nf;refine z3x (hb p hp).le hs.le ?_;ac_nf;exact L
 ac_rfl;ac_nf;refine⟨l.map (ky st),by rw[wR];rfl,by simpa using hn,by rw[wd];lia,λi m e hm =>?_⟩;rw[wN] at e
 cases z:l[i]? with
 | none=>rw[z] at e;cases e
 | some v=>
  rw[z] at e
  cases e
  have H:i<l.length:=(wo.mp z).1;have J:Geo.cy l i=v:=by
   have:=z13 (h:=l) (i:=i) (by lia);rw[wP H,z] at this;exact(wQ this).symm
  refine q i H ?_;rw[J];exact⟨wu z,λu hu=>hm _ (uy hu)⟩
def stq (h:List P)(s:Sh):P:=stp (Geo.cy h (s.1+h.length - 1)) (Geo.cy h s.1)
abbrev enD (s:Sh):Int × D:=((s.1:Int),vec s.2)
abbrev foD (fs:List Sh):D:=dkI (fs.map enD)
def zet {a:List Sh}{s:Sh}(h:∀x∈a,x.1≠s.1):putD ((a.map enD).map λr=>(Sum.inl r.1,r.2)) (.inl (s.1:Int)) (vec s.2)=((a++[s]).map enD).map λr=>(Sum.inl r.1,r.2):=by
 unfold putD;rw[if_neg]
 .simp
 .simp only[List.any_eq_true,not_exists,not_and];intro p hp;obtain⟨r,b,rfl⟩:=we.mp hp;obtain⟨x,d,rfl⟩:=we.mp b;have:=h x d;simp;lia
def zbY {a:List Sh}{i:Nat}(h:∀x∈a,x.1≠i):valD ((a.map enD).map λr=>(Sum.inl r.1,r.2)) (.inl (i:Int))=none:=by
 unfold valD;rw[List.find?_eq_none.mpr]
 .rfl
 .intro p hp;obtain⟨r,b,rfl⟩:=we.mp hp;obtain⟨x,d,rfl⟩:=we.mp b;have:=h x d;simp;lia
def zbX {A C:List Sh}{s:Sh}(h:∀x∈A,x.1≠s.1):valD (((A++s::C).map enD).map λr=>(Sum.inl r.1,r.2)) (.inl (s.1:Int))=some (vec s.2):=by
 unfold valD;rw[wv,wv,List.find?_append,List.find?_eq_none.mpr]
 .simp
 .intro p hp;obtain⟨r,a,rfl⟩:=we.mp hp;obtain⟨x,b,rfl⟩:=we.mp a;have:=h x b;simp;lia
def zes {A C:List Sh}{s s':Sh}(e:s'.1=s.1)(h:∀x∈A++C,x.1≠s.1):putD (((A++s::C).map enD).map λr=>(Sum.inl r.1,r.2)) (.inl (s.1:Int)) (vec s'.2)=((A++s'::C).map enD).map λr=>(Sum.inl r.1,r.2):=by
 unfold putD;rw[if_pos (by simp)];have b:∀l:List Sh,(∀x∈l,x.1≠s.1)->(((l.map enD).map λr=>((Sum.inl r.1,r.2):Key × D)).map λp=>if p.1=(.inl (s.1:Int)) then (p.1,vec s'.2) else p)=(l.map enD).map λr=>(Sum.inl r.1,r.2):=λl d=>by
  rw[wR,wR,wR];apply v7;intro x a;have:=d x a;show (if (Sum.inl (x.1:Int):Key)=Sum.inl (s.1:Int) then _ else _)=_;rw[if_neg (by intro z;have:=Sum.inl.inj z;lia)]
  rfl
 simp only[wv,wC];rw[b A λx a=>h x (by simp[a]),b C λx a=>h x (by simp[a])];simp[e]
def Sw.pl {W:Int}{n:Nat}{s:Sh}(h:Sw W n s)(g:Int.gcd s.2.1 s.2.2=1):Pl (pt W s) 0 W s.2.1 0 s.2.2:=⟨h.bot,by rw[gcd0];exact g,z9L h.dv,by simp⟩
def zbl {W p u t:Int}{n i:Nat}(d:0<W)(h:Pl p 0 W u 0 t)(j:0<p)(l:p<=W)(g:i<n):(Sw W n (i,u,t)/\Int.gcd u t=1)/\pt W (i,u,t)=p:=by
 obtain⟨k,o⟩:=h.dvd;have a:=h.pos;have e:=h.cx;have b:=h.cop;rw[gcd0] at b;have m:0<u:=by
  rcases v4 0 u with z | z
  .exact z
  .have:=vE z (wE d);have:=w3 j a;lia
 have r:u<=t:=by
  rcases v4 t u with z | z
  .have f:=jH z d;have q:=wA l (wE a);rw[ve t] at f;lia
  .exact z
 refine⟨⟨⟨m,a,by show u<=2*t;lia,h.dvd,g⟩,b⟩,?_⟩;show u*(W / t)=p;apply wY (show t≠0 by lia);rw[u4,Int.ediv_mul_cancel h.dvd,e]
def zeY {x k e:Ex}{d:Pu.Env}{Q:DK}{X:XP}(q:x.run d (λa=>∃kvs,a=dk kvs/\k.run d (λb=>∃j,b=kD j/\e.run d (λc=>Q ((valD kvs j).getD c)) X) X) X):(Ex.dget2 x k e).run d Q X:=q
def zgO {A C:List Sh}{y:Sh}(h:((A++y::C).map (·.1)).Nodup):∀z∈A++C,z.1≠y.1:=λz a e=>by
 rw[wv,wC] at h;have:=(jT.nodup_iff.mp h)
 rw[vP, <- wv] at this;exact this.1 (we.mpr ⟨z,a,e⟩)
def z8J {w:Nat->Int}{W:Int}(A C:List Sh)(y:Sh):sw w W (A++y::C)=sw w W A+w y.1*pt W y+sw w W C:=by
 simp[sw];lia
def zc4 {W:Int}{n:Nat}{l:List Sh}(a:0<W)(h:∀s∈l,Sw W n s):0<=sw (λ_=>1) W l:=by
 refine(z4F λy d =>?_).1;obtain⟨s,b,rfl⟩:=we.mp d;have:=(h s b).pt_le a;show 0<=1*pt W s;lia
def z8z (s:Sh):back (enD s)=s:=by
 simp only[back,vec];simp
def z9G {x:List P × P}{h:List P}{L:List Sh}{W:Int}{Q:DK}{X:XP}(hx:Wt4 x)(hb:Wb 600 h)(hn:h≠[])(K:0<W)(bW:Bt 1400 W)(G:Gd W h.length L)(one:sw (λ_=>1) W L=W)
  (q:∀(Y:List Sh) (φ:Sh->P),(∀s∈L,Top (· ∈ x.1) (stq h s) (φ s))->Gd W x.1.length Y->sw (wx x.1) W Y=(L.map λs=>(φ s).1*pt W s).sum->sw (wy x.1) W Y=(L.map λs=>(φ s).2*pt W s).sum->sw (λ_=>1) W Y=W->Q (shsD Y)):z1j.run [vecs x.1,vecs h,shsD L] Q X:=by
 have zero:Pl 0 0 W 0 0 1:=⟨by decide,by decide,by simp,by simp⟩
 walk_at "fn";refine z3W (zc9 ?_);refine⟨λ_ h=>by(cases h),?_⟩;ac_rfl;ac_nf;refine z0A (f:=shD) (λdn ρ=>∃(fs:List Sh) (N:Sh->Nat) (x4 x5 x6:B),(∀s∈dn,Top (· ∈ x.1) (stq h s) (Geo.cy x.1 (N s)))/\(∀w:Nat->Int,sw w W fs=(dn.map λs=>w (N s)*pt W s).sum)/\(∀s∈fs,Sw W x.1.length s/\Int.gcd s.2.1 s.2.2=1)/\(fs.map (·.1)).Nodup/\fs.length<=dn.length/\ρ=[.s (vecs x.1),.s (vecs h),.s (shsD L),.o (foD fs),x4,x5,x6]) ⟨[],λ_=>0,_,_,_,λ_ h=>by(cases h),λ_=>rfl,λ_ h=>by(cases h),.nil,ww _,rfl⟩ ?_ ?_
 .rintro dn s r ρ e ⟨fs,N,x4,x5,x6,h1,h2,h3,h4,h5,rfl⟩;obtain⟨V,sg⟩:=G.each s (by rw[e];simp);have sc:=V.bot;obtain⟨b1,b2⟩:=V.bits K bW;have a3:=G.few;k_data;rw[wB,wI] at le;have Z:∀s'∈dn,s'≠s:=λs' H z=>by
   have up:=G.up;rw[e,vB] at up;have:=up.2.2 s' H s (by simp);rw[z] at this;lia
  have v1:=cyb hn hb (s.1+h.length - 1);have v2:=cyb hn hb s.1;k_one;w_up;f_are;ac_rfl;ac_nf;refine z1e (z0P (zhg V.ix)) ?_;ac_nf;refine z1e (z0P (z8w V.ix)) ?_;ac_nf;refine z2a ?_;ac_nf;refine z79 (st:=stq h s) hx.ne hx.len hx.wb ⟨Bt.le (Bt.sub v2.1 v1.1),Bt.le (Bt.sub v2.2 v1.2)⟩ λi hi top =>?_;ac_nf;refine⟨_,rfl,zhc (zeY ?_)⟩;ac_nf;refine⟨_,rfl,?_⟩;ac_nf;refine⟨.inl (i:Int),rfl,?_⟩;ac_nf;have p0:=(V.pt_le K).1;have a4:sw (λ_=>1) W fs+pt W s<=W:=by
   have e1:=h2 λ_=>1;have e2:=z8J (w:=λ_=>1) (W:=W) dn r s;rw[<- e,one] at e2;have e3:(dn.map λs=>(1:Int)*pt W s).sum=sw (λ_=>1) W dn:=rfl;have e4:=zc4 (l:=r) K λs' H=>(G.each s' (by rw[e];simp[H])).1;lia
  have fin:∀J:List Sh,(∀w:Nat->Int,sw w W J=sw w W fs+w i*pt W s)->(∀s∈J,Sw W x.1.length s/\Int.gcd s.2.1 s.2.2=1)->(J.map (·.1)).Nodup->J.length<=fs.length+1->
    ∃(fs:List Sh) (N:Sh->Nat) (x4 x5 x6:B),(∀a0∈dn++[s],Top (· ∈ x.1) (stq h a0) (Geo.cy x.1 (N a0)))/\(∀w:Nat->Int,sw w W fs=((dn++[s]).map λs=>w (N s)*pt W s).sum)/\(∀s∈fs,Sw W x.1.length s/\Int.gcd s.2.1 s.2.2=1)/\(fs.map (·.1)).Nodup/\fs.length<=(dn++[s]).length/\[.s (vecs x.1),.s (vecs h),.s (shsD L),.o (foD J),.s (.int (s.1:Int)),.s (.tup [.int s.2.1,.int s.2.2]),.s (.int (i:Int))]=[.s (vecs x.1),.s (vecs h),.s (shsD L),.o (foD fs),x4,x5,x6]:=λJ k1 k2 k3 k4=>by
   refine⟨J,λs'=>if s'=s then i else N s',_,_,_,λs' H =>?_,λw =>?_,k2,k3,by simp;lia,rfl⟩
   .rcases wp.mp H with z | z
    .kt_k;rw[if_neg (Z s' z)];exact h1 s' z
    .ks_is;kt_k;rw[if_pos rfl];exact top
   .rw[k1,h2,wv,jG]
    congr 1
    .congr 1
     refine v7 λs' H =>?_;kt_k;rw[if_neg (Z s' H)]
    .simp
  by_cases hy:∃y∈fs,y.1=i
  .obtain⟨y,hy,rfl⟩:=hy;obtain⟨A,C,eA⟩:=List.append_of_mem hy;subst eA;obtain⟨ys,yg⟩:=h3 y (by simp);have yc:=ys.bot;obtain⟨c1,c2⟩:=ys.bits K bW;have nd:=zgO h4;rw[zbX λz hz=>nd z (by simp[hz])];refine z85 yc sc yg sg c1.le c2.le b1.le b2.le λu t hp =>?_;have hp:=((ys.pl yg).more (vx:=1) (vy:=0) sc (z9L V.dv) (by simpa using hp)).eq0;have a1:=zc4 (l:=A) K λs' H=>(h3 s' (by simp[H])).1;have a2:=zc4 (l:=C) K λs' H=>(h3 s' (by simp[H])).1;rw[z8J] at a4;have y0:=(ys.pt_le K).1;obtain⟨n1,n2⟩:=zbl (i:=y.1) K hp (by lia) (by lia) ys.ix;refine⟨Safe.of_noL rfl rfl _,?_⟩;ac_nf;refine⟨.inl (y.1:Int),rfl,?_,?_⟩
   .rw[wd,wd];exact szl' (by lia)
   have pe:putD (((A++y::C).map enD).map λr=>(Sum.inl r.1,r.2)) (.inl (y.1:Int)) (.tup [.int u,.int t])=_:=zes (s':=(y.1,u,t)) rfl nd;rw[pe];refine fin (A++(y.1,u,t)::C) (λw =>?_) (λs' H =>?_) ?_ (by simp)
   .rw[z8J,z8J,n2];show _+w y.1*(_+1*_)+_=_
    grind
   .rcases wp.mp H with z | z
    .exact h3 s' (by simp[z])
    .rcases wj.mp z with z | z
     .rw[z];exact n1
     .exact h3 s' (by simp[z])
   .simpa using h4
  .have nd:∀z∈fs,z.1≠i:=λz hz e=>hy ⟨z,hz,e⟩;rw[zbY nd];refine z85 (by decide) sc (by decide) sg (Bt.le (m:=1) (z05 (by decide))) (Bt.le (m:=1) (z05 (by decide))) b1.le b2.le λu t hp =>?_;have hp:=(zero.more (vx:=1) (vy:=0) sc (z9L V.dv) (by simpa using hp)).eq0;have a1:=zc4 (l:=fs) K λs' H=>(h3 s' H).1;obtain⟨n1,n2⟩:=zbl (i:=i) K hp (by lia) (by lia) hi;refine⟨Safe.of_noL rfl rfl _,?_⟩;ac_nf;refine⟨.inl (i:Int),rfl,?_,?_⟩
   .rw[wd,wd];exact szl' (by lia)
   have pe:putD ((fs.map enD).map λr=>(Sum.inl r.1,r.2)) (.inl (i:Int)) (.tup [.int u,.int t])=_:=zet (s:=(i,u,t)) nd;rw[pe];refine fin (fs++[(i,u,t)]) (λw =>?_) (λs' H =>?_) ?_ (by simp)
   .rw[z6e,n2];show _+w i*(0+1*_)=_
    grind
   .rcases wp.mp H with z | z
    .exact h3 s' z
    .ks_is;exact n1
   .rw[wv];refine List.nodup_append.mpr ⟨h4,by simp,λa ha b hb =>?_⟩;obtain⟨z,hz,rfl⟩:=we.mp ha;rw[wg.mp hb];exact nd z hz
 rintro ρ ⟨fs,N,x4,x5,x6,h1,h2,h3,h4,h5,rfl⟩;have a3:=G.few;ac_nf;have nd:((fs.map enD).map (·.1)).Nodup:=by
  rw[show (fs.map enD).map (·.1)=(fs.map (·.1)).map λk:Nat=>(k:Int) by rw[wR,wR];rfl];unfold List.Nodup at h4 ⊢;rw[vf];exact h4.imp λ{a b} h=>by lia
 refine⟨fs.map enD,rfl,nd,by rw[wd];lia,λrl pm pw =>?_⟩;ac_nf;have U:(rl.map back).Perm fs:=by
  have:=pm.map back
  rwa [wR,show (back ∘ enD)=id from funext λs=>z8z s,List.map_id] at this
 have R:∀y∈rl,y=enD (back y):=λy hy=>by
  obtain⟨s,_,rfl⟩:=we.mp (pm.mem_iff.mp hy);rw[z8z]
 rw[show rl.map pdD=(rl.map back).map shD by
  rw[wR];refine v7 λy hy =>?_;rw[R y hy];show _=shD (back (enD (back y)));rw[z8z]]
 have sp:∀w:Nat->Int,sw w W (rl.map back)=(L.map λs=>w (N s)*pt W s).sum:=λw=>by rw[<- h2];exact z7i U
 refine q _ (λs=>Geo.cy x.1 (N s)) h1 ⟨λs hs=>h3 s (U.mem_iff.mp hs),?_,by rw[U.length_eq];lia⟩ (sp _) (sp _) ?_
 .rw[vf];refine pw.imp_of_mem λ{a b} ha hb O =>?_;rw[R a ha,R b hb] at O;have O:((back a).1:Int)<(back b).1:=O;lia
 .rw[sp];exact one
def Al (s b:P):Prop:=∃i j:Int,0<i/\0<j/\i*s.1=j*b.1/\i*s.2=j*b.2
def Al.refl (b:P):Al b b:=⟨1,1,by decide,by decide,rfl,rfl⟩
def zf0 {h:List P}{a:P}(f:a∈h):∃j,j<h.length/\Geo.cy h (j+h.length - 1)=a:=by
 obtain⟨i,d,e⟩:=uP f;have b:∀k,k % h.length=i->Geo.cy h k=a:=λk g=>by
  unfold Geo.cy;rw[g,wG,wf d,e];rfl
 by_cases c:i+1<h.length
 .exact⟨i+1,c,b _ (by rw[show i+1+h.length - 1=i+h.length by lia,uj,wP d])⟩
 .exact⟨0,by lia,b _ (by rw[wP (by lia)];lia)⟩
def z3Y {S:P->Prop}{h:List P}(x:z03 S h)(b:2<=h.length){j:Nat}(a:j<h.length):Edge S (Geo.cy h (j+h.length - 1)) (Geo.cy h j):=
 x.cyc b a (z13 (by lia)) (by rw[<- z13 (h:=h) (i:=j) (by lia),wP a])
def z5o {a d e:Int}(n:(d,e)≠((0:Int),(0:Int)))(f:a*d=0)(g:a*e=0):a=0:=by
 rcases wK.mp f with z | z
 .exact z
 rcases wK.mp g with b | b
 .exact b
 exact absurd (by rw[z,b]) n
def z4K {b:P}(h:b≠(0,0)):0<b.1*b.1+b.2*b.2:=by
 have e:0<=b.1*b.1:=by rcases Int.le_total 0 b.1 with z | z;exact wJ z z;exact vT z z
 have f:0<=b.2*b.2:=by rcases Int.le_total 0 b.2 with z | z;exact wJ z z;exact vT z z
 rcases uG (Int.add_nonneg e f) with z | z
 .exact z
 .have a:b.1*b.1=0:=by omega
  have d:b.2*b.2=0:=by omega
  exact absurd (vG ((wK.mp a).elim id id) ((wK.mp d).elim id id)) h
def zdv {a b:Int}(h:0<a*b)(d:0<a):0<b:=by
 by_cases z:0<b
 .exact z
 .have:=wM (Int.not_lt.mp z) (wE d);rw[Int.mul_zero] at this;exact absurd (Int.lt_of_lt_of_le h this) (Int.lt_irrefl _)
def z7H {S:P->Prop}{h:List P}(x:z03 S h){a c b:P}(f:a∈h)(g:c∈h)(ne:a≠c)(A:b≠(0,0))(m:∀p∈h,dot p b<=dot a b)(e:dot c b=dot a b):∃s∈z04 h,Al s.1 b:=by
 have N:2<=h.length:=by
  rcases h with _ | ⟨u,_ | ⟨v,r⟩⟩
  .simp at f
  .rw[wg] at f g;exact absurd (f.trans g.symm) ne
  .simp
 have d:∀{a c:P},a∈h->c∈h->a≠c->(∀p∈h,dot p b<=dot a b)->dot c b=dot a b->0<b.1*(c.2 - a.2) - b.2*(c.1 - a.1)->∃s∈z04 h,Al s.1 b:=λ{a c} f g ne m e k=>by
  obtain⟨j,F,C⟩:=zf0 f;have E:=z3Y x N F;generalize G:Geo.cy h j=v at E;rw[C] at E;have O:v∈h:=G ▸ z2v (by lia);have U:=E.left c (x.sub c g);have V:=m v O;have l:(c.1 - a.1,c.2 - a.2)≠((0:Int),(0:Int)):=λz=>ne (by
   have q:=congrArg Prod.fst z;have t:=congrArg Prod.snd z;dsimp only at q t;exact vG (by lia) (by lia))
  have K:b.1*(c.1 - a.1)+b.2*(c.2 - a.2)=0:=by simp only[dot] at e;grind
  have W:0<=Geo.cr a c v:=by
   have i:=z4K (b:=(c.1 - a.1,c.2 - a.2)) l;have key:(b.1*(c.2 - a.2) - b.2*(c.1 - a.1))*Geo.cr a c v=((c.1 - a.1)*(c.1 - a.1)+(c.2 - a.2)*(c.2 - a.2))*(dot a b - dot v b):=by
    simp only[dot,Geo.cr];grind
   have H:0<=((c.1 - a.1)*(c.1 - a.1)+(c.2 - a.2)*(c.2 - a.2))*(dot a b - dot v b):=wJ (wE i) (by lia);rw[<- key] at H;exact uf (by simpa using H) k
  have z:Geo.cr a v c=0:=by
   have:Geo.cr a v c = - Geo.cr a c v:=by simp only[Geo.cr];grind
   lia
  obtain⟨J,Y⟩:=E.btw c (x.sub c g) z;have T:(v.1 - a.1)*(c.2 - a.2)=(v.2 - a.2)*(c.1 - a.1):=by simp only[Geo.cr] at z;lia
  have R:b.1*(v.1 - a.1)+b.2*(v.2 - a.2)=0:=z5o l (by grind) (by grind);have L:0<(c.1 - a.1)*(v.1 - a.1)+(c.2 - a.2)*(v.2 - a.2):=by
   simp only[Geo.dot] at J
   rcases uG J with y | y
   .exact y
   .exfalso
    have Q:(v.1 - a.1,v.2 - a.2)≠((0:Int),(0:Int)):=λw=>E.ne (by
     have q:=congrArg Prod.fst w;have t:=congrArg Prod.snd w;dsimp only at q t;exact vG (by lia) (by lia))
    have i:=z4K (b:=(v.1 - a.1,v.2 - a.2)) Q;dsimp only at i;have n:((v.1 - a.1)*(v.1 - a.1)+(v.2 - a.2)*(v.2 - a.2))*(c.1 - a.1)=0:=by grind
    have o:((v.1 - a.1)*(v.1 - a.1)+(v.2 - a.2)*(v.2 - a.2))*(c.2 - a.2)=0:=by grind
    have:=z5o l n o;lia
  have kf:0<b.1*(v.2 - a.2) - b.2*(v.1 - a.1):=by
   have i:=z4K (b:=(c.1 - a.1,c.2 - a.2)) l;dsimp only at i;have key:((c.1 - a.1)*(c.1 - a.1)+(c.2 - a.2)*(c.2 - a.2))*(b.1*(v.2 - a.2) - b.2*(v.1 - a.1))=(b.1*(c.2 - a.2) - b.2*(c.1 - a.1))*((c.1 - a.1)*(v.1 - a.1)+(c.2 - a.2)*(v.2 - a.2)):=by grind
   have I:=w3 k L;rw[<- key] at I;exact zdv I i
  refine⟨(rt (stp a v),v),z1r (by lia) F (by rw[<- C, <- G];exact wq ..),b.1*b.1+b.2*b.2,b.1*(v.2 - a.2) - b.2*(v.1 - a.1),z4K A,kf,?_,?_⟩
  .simp only[rt,stp];grind
  .simp only[rt,stp];grind
 rcases Int.lt_trichotomy 0 (b.1*(c.2 - a.2) - b.2*(c.1 - a.1)) with k | k | k
 .exact d f g ne m e k
 .exfalso
  have K:b.1*(c.1 - a.1)+b.2*(c.2 - a.2)=0:=by simp only[dot] at e;grind
  have X:=z4K A;have n:(c.1 - a.1)*(b.1*b.1+b.2*b.2)=0:=by grind
  have o:(c.2 - a.2)*(b.1*b.1+b.2*b.2)=0:=by grind
  refine ne (vG ?_ ?_)
  .rcases wK.mp n with z | z <;> omega
  .rcases wK.mp o with z | z <;> omega
 .exact d g f (jX ne) (λp hp=>by rw[e];exact m p hp) e.symm (by grind)
def zbK (a c b:P):dot (Geo.pl a c) b=dot a b+dot c b:=by simp only[dot,Geo.pl];grind
def zdy {f d:P}(a:d≠(0,0))(h:f.1*d.2=f.2*d.1)(k:0<f.1*d.1+f.2*d.2):Al f d:=⟨d.1*d.1+d.2*d.2,f.1*d.1+f.2*d.2,z4K a,k,by grind,by grind⟩
def z7v {l:List P}(x:z03 (· ∈ l) l){a c d:P}(h:a∈l)(o:c∈l)(ne:a≠c)(g:d≠(0,0))(b:∀p∈l,d.1*(p.2 - a.2)=d.2*(p.1 - a.1)):∃s∈z04 l,Al s.1 d:=by
 have i:2<=l.length:=by
  rcases l with _ | ⟨u,_ | ⟨v,r⟩⟩
  .simp at h
  .rw[wg] at h o;exact absurd (h.trans o.symm) ne
  .simp
 have mem:∀k,Geo.cy l k∈l:=λk=>z2v (by lia);have J:=z4K g
 by_cases C:3<=l.length
 .exfalso
  have t:=z4e (z3d x i 0) (z3d x i 1) (zbL x C 0);have G:=b _ (mem 0);have H:=b _ (mem 1);have I:=b _ (mem 2);have:Geo.cr (Geo.cy l 0) (Geo.cy l (0+1)) (Geo.cy l (1+1))*(d.1*d.1+d.2*d.2)=0:=by
   simp only[Geo.cr];generalize Geo.cy l 0=u at*;rw[show (0+1:Nat)=1 from rfl,show (1+1:Nat)=2 from rfl];generalize Geo.cy l 1=v at*;generalize Geo.cy l 2=w at*
   grind
  rcases wK.mp this with z | z <;> omega
 have f:l.length=2:=by lia
 have E:=z3Y x i (j:=0) (by lia);have e:∀j,j<2->(stp (Geo.cy l (j+l.length - 1)) (Geo.cy l j),Geo.cy l j)∈z04 l:=λj F=>z1r (by rw[f];decide) (by rw[f];exact F) (by unfold z0h;rw[if_pos f];exact wn _ (wg.mpr rfl));have m:=e 0 (by decide);have n:=e 1 (by decide);rw[f] at m n E;have y:Geo.cy l (1+2 - 1)=Geo.cy l 0:=by unfold Geo.cy;rw[f]
 rw[y] at n;rw[show 0+2 - 1=1 from rfl] at m E;have G:=b _ (mem 0);have H:=b _ (mem 1);generalize Geo.cy l 0=u at*;generalize Geo.cy l 1=v at*;have q:(u.1 - v.1)*d.2=(u.2 - v.2)*d.1:=by grind
 rcases Int.lt_trichotomy 0 ((u.1 - v.1)*d.1+(u.2 - v.2)*d.2) with k | k | k
 .exact⟨_,m,zdy g (by simp only[stp];exact q) (by simp only[stp];exact k)⟩
 .exfalso
  have A:(u.1 - v.1)*(d.1*d.1+d.2*d.2)=0:=by grind
  have f:(u.2 - v.2)*(d.1*d.1+d.2*d.2)=0:=by grind
  refine E.ne (vG ?_ ?_)
  .rcases wK.mp A with z | z <;> omega
  .rcases wK.mp f with z | z <;> omega
 .exact⟨_,n,zdy g (by simp only[stp];grind) (by simp only[stp];grind)⟩
section
variable {l1 l2 R:List P}(x1:z03 (· ∈ l1) l1)(x2:z03 (· ∈ l2) l2)(x:z03 (Sm2 l1 l2) R)
include x1 x2 x
theorem zdX {u v b:P}(q:u∈R)(r:v∈R)(ne:u≠v)(i:b≠(0,0))(m:∀p,Sm2 l1 l2 p->dot p b<=dot u b)(e:dot v b=dot u b):∃s∈z04 l1++z04 l2,Al s.1 b:=by
 obtain⟨a,j,c,l,rfl⟩:=x.sub u q;obtain⟨h,d,c',f,rfl⟩:=x.sub v r;simp only[zbK] at m e;have n:∀p∈l1,dot p b<=dot a b:=λp hp=>by
  have:=m _ ⟨p,hp,c,l,rfl⟩;rw[zbK] at this;lia
 have o:∀p∈l2,dot p b<=dot c b:=λp hp=>by
  have:=m _ ⟨a,j,p,hp,rfl⟩;rw[zbK] at this;lia
 have y:=n h d;have A:=o c' f
 by_cases z:a=h
 .have t:c≠c':=λw=>ne (by rw[z,w]);obtain⟨s,g,k⟩:=z7H x2 l f t i o (by lia);exact⟨s,List.mem_append_right _ g,k⟩
 .obtain⟨s,g,k⟩:=z7H x1 j d z i n (by lia);exact⟨s,ur _ g,k⟩
set_option tactic.hygienic true in
theorem zas {s:P × P}(f:s∈z04 R):∃s'∈z04 l1++z04 l2,Al s'.1 s.1:=by
 have o:=zax x f;obtain⟨X,L⟩:=z3R x f
 by_cases i:R.length=1
 .have one:l1.length=1:=by
   obtain⟨m,t,e,_,_,_,k⟩:=x.ex;have N:t=[]:=by rw[e] at i;simpa using i
   rcases k with ⟨_,k⟩ | ⟨k,_⟩
   .obtain⟨c,h⟩:=List.exists_mem_of_ne_nil _ (z0Y x2);have all:∀a∈l1,∀a'∈l1,a=a':=λa n a' g=>by
     have C:=(k _ ⟨a,n,c,h,rfl⟩).trans (k _ ⟨a',g,c,h,rfl⟩).symm;have T:=congrArg Prod.fst C;have U:=congrArg Prod.snd C;simp only[Geo.pl] at T U;exact vG (by lia) (by lia)
    have H:=x1.nodup
    rcases l1 with _ | ⟨u,_ | ⟨v,r⟩⟩
    .exact absurd rfl (z0Y x1)
    .rfl
    .have:=all u (by simp) v (by simp);rw[this] at H;simp at H
   .exact absurd N k
  unfold z04 at f;rw[if_pos i] at f;obtain⟨b,K,rfl⟩:=we.mp f;refine⟨(b,Geo.cy l1 0),ur _ ?_,Al.refl _⟩;unfold z04;rw[if_pos one];exact we.mpr ⟨b,K,rfl⟩
 .obtain⟨j,F,d⟩:=z2Y i f;have G:2<=R.length:=by
   have:=w4.mpr (z0Y x);lia
  have E:=z3Y x G F;have O:Geo.cy R (j+R.length - 1)∈R:=z2v (by lia);have Q:Geo.cy R j∈R:=z2v (by lia)
  rcases wj.mp d with rfl | d
  .refine zdX x1 x2 x Q O (jX E.ne) o L ?_;simp only[dot,rt,stp]
   grind
  .split at d
   .rename_i l
    rw[wg] at d;subst d;have J:Edge (Sm2 l1 l2) (Geo.cy R j) (Geo.cy R (j+R.length - 1)):=by
     have k:=z3Y x G (j:=(j+1) % 2) (by rw[l];exact uX _ (by decide));rw[l] at F k ⊢;have A:j=0\/j=1:=by lia
     rcases A with rfl | rfl
     .have q:Geo.cy R ((0+1) % 2+2 - 1)=Geo.cy R 0:=by unfold Geo.cy;rw[l]
      rw[q] at k;exact k
     .have q:Geo.cy R (1+2 - 1)=Geo.cy R 0:=by unfold Geo.cy;rw[l]
      rw[q];exact k
    generalize Geo.cy R (j+R.length - 1)=u at*;generalize Geo.cy R j=v at*;have I:∀p,Sm2 l1 l2 p->Geo.cr u v p=0:=λp hp=>by
     have V:=E.left p hp;have W:=J.left p hp;have:Geo.cr v u p = - Geo.cr u v p:=by simp only[Geo.cr];grind
     lia
    obtain⟨a,n,c,h,rfl⟩:=E.sa;obtain⟨a',g,c',y,rfl⟩:=E.sb
    by_cases z:a=a'
    .have S:c≠c':=λw=>E.ne (by rw[z,w]);obtain⟨s,f,k⟩:=z7v x2 h y S o λp hp=>by
      have:=I _ ⟨a,n,p,hp,rfl⟩;simp only[Geo.cr,Geo.pl,stp] at this ⊢
      grind
     exact⟨s,List.mem_append_right _ f,k⟩
    .obtain⟨s,f,k⟩:=z7v x1 n g z o λp hp=>by
      have:=I _ ⟨p,hp,c,h,rfl⟩;simp only[Geo.cr,Geo.pl,stp] at this ⊢
      grind
     exact⟨s,ur _ f,k⟩
   .simp at d
end
def Al.trans {a b c:P}(h:Al a b)(k:Al b c):Al a c:=by
 obtain⟨i,j,f,g,n,o⟩:=h;obtain⟨l,m,d,e,p,q⟩:=k;exact⟨i*l,j*m,w3 f d,w3 g e,by grind,by grind⟩
def Al.le {s b u v:P}(h:Al s b)(k:dot u s<=dot v s):dot u b<=dot v b:=by
 obtain⟨i,j,d,f,g,l⟩:=h;have a:=wM k (wE d);have e:∀w:P,i*dot w s=j*dot w b:=λw=>by simp only[dot];grind
 rw[e,e] at a;exact uf a f
def zbM {h:List P}(b:h≠[])(f:P->P)(k:Nat):Geo.cy (h.map f) k=f (Geo.cy h k):=by
 have a:=w4.mpr b;have:=z13 (h:=h.map f) (i:=k) (by rw[wd];exact a);rw[wd,wN,z13 a] at this;exact(wQ this).symm
set_option tactic.hygienic true in
def z4Y {h:List P}{m:Int}(i:0<m)(g:h≠[]){s:P × P}(e:s∈z04 (h.map (Geo.sca m))):∃s'∈z04 h,Al s'.1 s.1/\s.2=Geo.sca m s'.2:=by
 by_cases d:h.length=1
 .unfold z04 at e;rw[if_pos (by rw[wd];exact d)] at e;obtain⟨b,l,rfl⟩:=we.mp e;refine⟨(b,Geo.cy h 0),?_,Al.refl _,zbM g _ _⟩;unfold z04;rw[if_pos d];exact we.mpr ⟨b,l,rfl⟩
 .obtain⟨j,f,a⟩:=z2Y (by rw[wd];exact d) e;rw[wd] at f;unfold z0h at a;rw[wd,zbM g,zbM g] at a
  rcases wj.mp a with rfl | a
  .exact⟨_,z1r d f (wq ..),⟨m,1,i,by decide,by simp only[rt,stp,Geo.sca];grind,by simp only[rt,stp,Geo.sca];grind⟩,rfl⟩
  .split at a
   .rename_i k
    rw[wg] at a;subst a;exact⟨_,z1r d f (by unfold z0h;rw[if_pos k];exact wn _ (wg.mpr rfl)),⟨m,1,i,by decide,by simp only[stp,Geo.sca];grind,by simp only[stp,Geo.sca];grind⟩,rfl⟩
   .simp at a
def zbt {S:P->Prop}{h:List P}(x:z03 S h):z03 (· ∈ h) h:=x.of x.sub λ_ hp=>hp
def zch {h d R:List P}{n m X Y T:Int}(u:z03 (· ∈ h) h)(t:z03 (· ∈ d) d)(q:0<n)(p:0<m)(i:0<T)(x:z03 (Sm2 (h.map (Geo.sca n)) (d.map (Geo.sca m))) R)
  (F:∀s∈z04 h++z04 d,∃a∈h,∃c∈d,dot (X,Y) s.1<=dot (Geo.sca T (Geo.pl (Geo.sca n a) (Geo.sca m c))) s.1) (b:P):∃c∈R,dot (X,Y) b<=dot c b*T:=by
 have N:=z03.sca i (zbt x);have o:=z0Y x;have C:∀s∈z04 (R.map (Geo.sca T)),dot (X,Y) s.1<=dot s.2 s.1:=λs l=>by
  obtain⟨O,r,k0,A⟩:=z4Y i o l;obtain⟨L,K,G⟩:=zas (z03.sca q u) (z03.sca p t) x r;have:∃e∈z04 h++z04 d,Al e.1 L.1:=by
   rcases wp.mp K with z | z
   .obtain⟨e,g,f,_⟩:=z4Y q (z0Y u) z;exact⟨e,ur _ g,f⟩
   .obtain⟨e,g,f,_⟩:=z4Y p (z0Y t) z;exact⟨e,List.mem_append_right _ g,f⟩
  obtain⟨e,g,f⟩:=this;obtain⟨a,E,c,j,le⟩:=F e g;have H:=((f.trans G).trans k0).le le;have I:=k0.le ((z3R x r).2 _ ⟨_,we.mpr ⟨a,E,rfl⟩,_,we.mpr ⟨c,j,rfl⟩,rfl⟩);have J:=wA I (wE i);rw[A];refine j7 H ?_;simp only[dot,Geo.sca,Geo.pl] at J ⊢
  grind
 obtain⟨c,j,le⟩:=N.far (z6i (by simpa using o) C) b;obtain⟨y,k,rfl⟩:=we.mp j;refine⟨y,k,?_⟩;simp only[Geo.sc,Geo.sca,dot] at le ⊢
 grind
def z3b:Fn:=Fn.mkN 3 7 (.seq (.own 3 (.op pLst []))
 (.seq (.for_ [] (.tp [4,5]) (.op pAdd [.op z1W [.v 0],.op z1W [.v 1]]) (.seq (.set 6 (.op pSub [.op z17 [.v 4,.v 2],.op z0a [.op pIx [.v 2,.c (.int 2)],.op z2n [.v 0,.v 4]]]))
 (.app 3 (.op pTup [.v 4,.v 6,.op z0a [.op pIx [.v 2,.c (.int 2)],.op z2n [.v 1,.v 4]]]))))
 (.ret (.v 3))))
def z0j:Fn:=Fn.mkN 1 3 (.seq (.set 1 (.c .non))
 (.seq (.for_ [] (.nm 2) (.v 0) (.ifs (.and (.op pGt [.op pIx [.v 2,.c (.int 1)],.c (.int 0)]) (.or (.op pIs [.v 1,.c .non]) (.op pGt [.op z0a [.op pIx [.v 2,.c (.int 1)],.op pIx [.v 1,.c (.int 2)]],.op z0a [.op pIx [.v 1,.c (.int 1)],.op pIx [.v 2,.c (.int 2)]]]))) (.set 1 (.v 2)) .skip))
 (.ret (.v 1))))
def z1u:Fn:=Fn.mkN 1 3 (.seq (.set 1 (.c .non))
 (.seq (.for_ [] (.nm 2) (.v 0) (.ifs (.and (.op pGt [.op pIx [.v 2,.c (.int 1)],.op pIx [.v 2,.c (.int 2)]]) (.or (.op pIs [.v 1,.c .non]) (.op pLt [.op z0a [.op pIx [.v 2,.c (.int 1)],.op pIx [.v 1,.c (.int 2)]],.op z0a [.op pIx [.v 1,.c (.int 1)],.op pIx [.v 2,.c (.int 2)]]]))) (.set 1 (.v 2)) .skip))
 (.ret (.v 1))))
def z1Y:Fn:=Fn.mkN 1 6 (.seq (.for_ [] (.tp [1,2,3]) (.v 0) (.ifs (.and (.op pGt [.v 2,.c (.int 0)]) (.op pGt [.v 2,.v 3])) (.ret (.op pTup [.v 1])) .skip))
 (.seq (.set 4 (.op z0j [.v 0]))
 (.seq (.set 5 (.op z1u [.v 0]))
 (.seq (.ifs (.and (.op z7l [.v 5,.c .non]) (.op pLt [.op z0a [.op pIx [.v 4,.c (.int 1)],.op pIx [.v 5,.c (.int 2)]],.op z0a [.op pIx [.v 5,.c (.int 1)],.op pIx [.v 4,.c (.int 2)]]])) (.ret (.op pTup [.op pIx [.v 4,.c (.int 0)],.op pIx [.v 5,.c (.int 0)]])) .skip)
 (.ret (.c .non))))))
def z2c:Fn:=Fn.mkN 2 2 (.ret (.op z12 [.comp 1 [1] (.nm 0) (.v 0) none (.op pTup [.op z0a [.op pIx [.v 0,.c (.int 0)],.v 1],.op z0a [.op pIx [.v 0,.c (.int 1)],.v 1]])]))
def z2E:Fn:=Fn.mkN 2 2 (.ret (.op z2h [.op z0a [.op pIx [.v 0,.c (.int 0)],.op pIx [.v 1,.c (.int 0)]],.op z0a [.op pIx [.v 0,.c (.int 1)],.op pIx [.v 1,.c (.int 1)]]]))
def z1i:Fn:=Fn.mkN 4 9 (.seq (.set 4 (.op z1C [.op pIx [.v 0,.op pNeg [.c (.int 1)]]]))
 (.seq (.set 5 (.op z2H [.op z2c [.v 1,.op pIx [.v 2,.c (.int 1)]],.op z2c [.v 4,.op pIx [.v 2,.c (.int 0)]]]))
 (.seq (.set 6 (.op pIx [.op z3a [.v 5,.op z2g [.v 3,.op pTup [.op pIx [.v 2,.c (.int 1)],.c (.int 1)]]],.c (.int 1)]))
 (.seq (.own 7 (.comp 1 [5,6] (.nm 0) (.v 0) none (.op z1j [.op pIx [.v 0,.c (.int 0)],.v 1,.v 2])))
 (.seq (.popTo 8 7)
 (.seq (.app 7 (.op z12 [.comp 2 [2] (.tp [0,1]) (.v 8) none (.op pTup [.v 0,.op z2E [.v 1,.v 2]])]))
 (.ret (.op z12 [.v 7]))))))))
def z4a:Fn:=Fn.mkN 2 11 (.seq (.ifs (.op pEq [.v 1,.op pTup [.c (.int 0),.c (.int 0),.c (.int 1)]]) (.ret (.op pTup [.c (.str "at"),.op pTup [.c (.int 0),.c (.int 1)],.op pTup [],.op pTup []])) .skip)
 (.seq (.own 2 (.op pLst []))
 (.seq (.set 3 (.op pTup [.op pTup [.c (.int 0),.c (.int 0)]]))
 (.seq (.forr [.op pLen [.v 0]] (.nm 4) (.seq (.set 5 (.op z1C [.op pIx [.v 0,.v 4]]))
 (.seq (.setx [] 6 (.op z3b [.v 3,.v 5,.v 1]))
 (.seq (.set 7 (.op z1Y [.v 6]))
 (.seq (.ifs (.op pIs [.v 7,.c .non]) (.seq (.set 8 (.op z0j [.v 6]))
 (.seq (.set 9 (.op z2h [.op pIx [.v 8,.c (.int 1)],.op pIx [.v 8,.c (.int 2)]]))
 (.seq (.set 10 (.op z1i [.sl (.v 0) none (some (.op pAdd [.v 4,.c (.int 1)])),.v 3,.v 9,.v 1]))
 (.ret (.op pTup [.c (.str "at"),.op z4H [.op pTup [.v 4,.c (.int 1)],.v 9],.v 10,.op pAdd [.op z12 [.v 2],.op pTup [.op pTup [.op pIx [.v 8,.c (.int 0)]]]]]))))) .skip)
 (.seq (.app 2 (.v 7))
 (.set 3 (.op z2H [.v 3,.v 5]))))))))
 (.ret (.op pTup [.c (.str "never"),.op z12 [.v 2]]))))))
def z10:Fn:=Fn.mkN 2 6 (.seq (.set 2 (.sl (.v 0) none (some (.op z00 [.v 1,.c (.int 81),.op pAdd [.op pLen [.v 0],.c (.int 1)]]))))
 (.seq (.ifs (.op pEq [.v 2,.op pTup []]) (.ret (.v 2)) .skip)
 (.seq (.set 3 (.op pAdd [.c (.int 1),.op z00 [.v 1,.c (.int 82),.c (.int 7)]]))
 (.seq (.set 4 (.op pTup [.op pAdd [.c (.int 1),.op z00 [.v 1,.c (.int 83),.v 3]],.v 3]))
 (.seq (.set 5 (.op z12 [.comp 2 [4] (.tp [0,1]) (.op pIx [.v 2,.op pNeg [.c (.int 1)]]) none (.op pTup [.v 0,.op z02 [.op pLst [.op z0a [.op pIx [.v 1,.c (.int 0)],.op pIx [.v 2,.c (.int 0)]],.op z0a [.op pIx [.v 1,.c (.int 1)],.op pIx [.v 2,.c (.int 1)]]]]])]))
 (.ret (.op pAdd [.sl (.v 2) none (some (.op pNeg [.c (.int 1)])),.op pTup [.v 5]])))))))
open Mth
def sup:List P->P->Int
 | [],_=>0
 | [p],b=>dot p b
 | p::q::r,b=>max (dot p b) (sup (q::r) b)
theorem z1M {b:P}:∀{l:List P},l≠[]->most l b (sup l b)
 | [],h=>absurd rfl h
 | [p],_=>⟨by simp[sup],λq f=>by rw[wg.mp f];exact uw _⟩
 | p::q::r,_=>by
  obtain⟨d,e⟩:=z1M (b:=b) (l:=q::r) (by simp);show most _ _ (max (dot p b) (sup (q::r) b));refine⟨?_,λu a =>?_⟩
  .rcases Int.le_total (dot p b) (sup (q::r) b) with z | z
   .rw[Int.max_eq_right z];exact wn _ d
   .rw[Int.max_eq_left z];exact wq ..
  .rcases wj.mp a with rfl | a
   .exact Int.le_max_left _ _
   .exact j7 (e u a) (Int.le_max_right _ _)
def zfD {l:List P}{b:P}{Q:DK}{X:XP}(f:Vb 30000000 b)(g:Wb 30000000 l)(a:l≠[])(h:l.length<=250)(q:Q (.int (sup l b))):z2n.run [vecs l,vec b] Q X:=
 z9H f g a (szl' (by lia)) λm d e=>by rw[zeK (l:=l) (b:=b) ⟨d,e⟩ (z1M a)];exact q
abbrev Lm:=P × Int × Int
abbrev lmD (m:Lm):D :=.tup [vec m.1,.int m.2.1,.int m.2.2]
def lim (h d:List P)(x y t:Int)(s:P × P):Lm:=(s.1,dot (x,y) s.1 - t*sup h s.1,t*sup d s.1)
def lims (h d:List P)(x y t:Int):List Lm:=(z04 h++z04 d).map (lim h d x y t)
def z8K {l:List P}{b:P}{n m:Nat}(f:l≠[])(d:Wb n l)(a:Vb m b):Bt (n+m+1) (sup l b):=by
 obtain⟨p,hp,e⟩:=we.mp (z1M (b:=b) f).1;rw[<- e];exact Bt.le (Bt.add (Bt.mul (d p hp).1 a.1) (Bt.mul (d p hp).2 a.2)) (by lia)
def zaw {h:List P}{n:Nat}(i:h≠[])(d:Wb (n+1) h){s:P × P}(hs:s∈z04 h):Vb (n+2) s.1:=by
 have one:∀b∈ways,Vb (n+2) b:=λb d=>by
  simp only[ways,wj,wF,vS] at d
  rcases d with rfl | rfl | rfl | rfl <;> exact⟨Bt.le (m:=1) (z05 (by decide)) (by lia),Bt.le (m:=1) (z05 (by decide)) (by lia)⟩
 by_cases g:h.length=1
 .unfold z04 at hs;rw[if_pos g] at hs;kgr_on;exact one b hb'
 .obtain⟨j,k,a⟩:=z2Y g hs;have e:=cyb i d (j+h.length - 1);have f:=cyb i d j;unfold z0h at a
  rcases wj.mp a with rfl | a
  .exact⟨Bt.le (Bt.sub f.2 e.2) (by lia),Bt.le (Bt.sub f.1 e.1).neg (by lia)⟩
  .split at a
   .rw[wg] at a;subst a;exact⟨Bt.le (Bt.sub f.1 e.1) (by lia),Bt.le (Bt.sub f.2 e.2) (by lia)⟩
   .simp at a
def zfF {b:P}{x y t:Int}{n:Nat}{Q:DK}{X:XP}(hb:Vb n b)(hn:n<=3000)(pc:Pc x y t)(q:Q (.int (dot (x,y) b))):z17.run [vec b,pcD x y t] Q X:=by
 have H:Bt 3000 b.1:=Bt.le hb.1 hn;have J:Bt 3000 b.2:=Bt.le hb.2 hn;have c3:=pc.bx;have K:=pc.bY;walk_at "fn";ac_nf;rw[show b.1*x+b.2*y=dot (x,y) b by simp only[dot];grind];f_int
structure Twh (h d:List P):Prop where
 xh:z03 (· ∈ h) h
 xd:z03 (· ∈ d) d
 bh:Wb 165 h
 bd:Wb 165 d
 zh:h.length<=250
 zd:d.length<=250
def Twh.vb {h d:List P}(T:Twh h d){s:P × P}(a:s∈z04 h++z04 d):Vb 166 s.1:=by
 rcases wp.mp a with z | z
 .exact zaw (z0Y T.xh) T.bh z
 .exact zaw (z0Y T.xd) T.bd z
def z84 {h d:List P}{x y t:Int}{Q:DK}{X:XP}(T:Twh h d)(pc:Pc x y t)(q:Q (.lst ((lims h d x y t).map lmD))):z3b.run [vecs h,vecs d,pcD x y t] Q X:=by
 have n1:=z0Y T.xh;have H:=z0Y T.xd;have b1:Wb 10000000 h:=T.bh.le;have b2:Wb 10000000 d:=T.bd.le;have z1:=T.zh;have U:=T.zd;have s1:=z5e h;have s2:=z5e d;have V:=pc.bt;walk_at "fn";ac_nf;k_all;ac_rfl;ac_nf;refine z4t (.inl rfl) b1 n1 (by lia) λh' J =>?_;obtain rfl:h'=h:=(J.is n1).unique T.xh;ac_nf;refine z4t (.inl rfl) b2 H (by lia) λd' J =>?_;obtain rfl:d'=d:=(J.is H).unique T.xd;refine z92 (by rw[wd,wd];exact Wk (szl' (by lia))) ?_;rw[<- wv];ac_nf;refine z0A (f:=zc6) (λR O=>∃K L N:B,O=[.s (vecs h'),.s (vecs d'),.s (pcD x y t),.o (.lst ((R.map (lim h' d' x y t)).map lmD)),K,L,N]) ⟨_,_,_,rfl⟩ ?_ ?_
 .rintro R s r O e ⟨K,L,N,rfl⟩;have hs:s∈z04 h'++z04 d':=by rw[e];simp
  have vb:=T.vb hs;have Y:Bt 400 (sup h' s.1):=Bt.le (z8K n1 T.bh vb);have Z:Bt 400 (sup d' s.1):=Bt.le (z8K H T.bd vb);k_data;rw[wB,wB,wI] at le;k_one;w_up;f_are;ac_rfl;ac_nf;refine zfF vb (by decide) pc ?_;ac_nf;refine zfD vb.le T.bh.le n1 z1 ?_;ac_nf;tb_lt;ac_nf;refine zfD vb.le T.bd.le H U ?_;ac_nf;refine⟨by rw[wd,wd];exact szl' (by lia),Safe.of_noL rfl rfl _,?_⟩;ac_rfl;exact⟨_,_,_,by rw[wv,wv];rfl⟩
 rintro O ⟨K,L,N,rfl⟩;ac_nf;f_int
abbrev Rr (a f:Lm):Prop:=a.2.1*f.2.2<=f.2.1*a.2.2
def Rr.tr {a b c:Lm}(h:Rr a b)(k:Rr b c)(s:(0<a.2.2/\0<b.2.2/\0<c.2.2)\/(a.2.2<0/\b.2.2<0/\c.2.2<0)):Rr a c:=by
 rcases s with ⟨d,f,e⟩ | ⟨d,f,e⟩
 .have g:=wA h (wE e);have i:=wA k (wE d);exact uf (a:=b.2.2) (by grind) f
 .have g:=vN h (wE e);have i:=vN k (wE d);exact uf (a := - b.2.2) (by grind) (by lia)
def zfC {ls:List Lm}{Q:DK}{X:XP}(bt:∀m∈ls,Bt 1400 m.2.1/\Bt 1400 m.2.2)(pos:∀m∈ls,0<m.2.1->0<m.2.2)(q1:(∀m∈ls,m.2.1<=0)->Q .non)
  (V:∀f∈ls,0<f.2.1->(∀m∈ls,0<m.2.1->Rr m f)->Q (lmD f)):z0j.run [.lst (ls.map lmD)] Q X:=by
 walk_at "fn";ac_nf;refine z0A (f:=lmD) (λH L=>∃J K:B,((J = .s .non/\∀m∈H,m.2.1<=0)\/∃f∈H,J = .s (lmD f)/\0<f.2.1/\∀m∈H,0<m.2.1->Rr m f)/\L=[.s (.lst (ls.map lmD)),J,K]) ⟨_,_,.inl ⟨rfl,λm hm=>by cases hm⟩,rfl⟩ ?_ ?_
 .rintro H m r L e ⟨J,K,hx,rfl⟩;have hm:m∈ls:=by rw[e];simp
  have sub:∀{k},k∈H->k∈ls:=λhk=>by rw[e];simp[hk]
  obtain⟨R,U⟩:=bt m hm;w_up
  rcases hx with ⟨rfl,hn⟩ | ⟨f,hf,rfl,f0,best⟩
  .ac_rfl;ac_nf;o_new
   .ac_nf;x_run;ac_nf;l_fit
    rcases wp.mp hk with z | z
    .have:=hn k z;lia
    .ks_is;exact uw _
   .ac_nf;refine⟨_,_,.inl ⟨rfl,λk hk =>?_⟩,rfl⟩
    rcases wp.mp hk with z | z
    .exact hn k z
    .ks_is;lia
  .obtain⟨N,O⟩:=bt f (sub hf);ac_rfl;ac_nf;o_new
   .ac_nf;k_get;ac_nf;refine z0Q (λg1 =>?_) (λg1 =>?_)
    .ac_nf;l_fit
     rcases wp.mp hk with z | z
     .exact(best k z k0).tr (wE g1) (.inl ⟨pos k (sub z) k0,pos f (sub hf) f0,pos m hm g0⟩)
     .ks_is;exact uw _
    .ac_nf;k_not
     rcases wp.mp hk with z | z
     .exact best k z k0
     .ks_is;exact Int.not_lt.mp g1
   .ac_nf;k_not
    rcases wp.mp hk with z | z
    .exact best k z k0
    .rw[wg.mp z] at k0;exact absurd k0 g0
 rintro L ⟨J,K,hx,rfl⟩
 rcases hx with ⟨rfl,hn⟩ | ⟨f,hf,rfl,f0,best⟩
 .ac_nf;exact q1 hn
 .ac_nf;exact V f hf f0 best
def zhD {ls:List Lm}{Q:DK}{X:XP}(bt:∀m∈ls,Bt 1400 m.2.1/\Bt 1400 m.2.2)(pos:∀m∈ls,m.2.2<m.2.1->m.2.2<0)(q1:(∀m∈ls,m.2.1<=m.2.2)->Q .non)
  (V:∀f∈ls,f.2.2<f.2.1->(∀m∈ls,m.2.2<m.2.1->Rr f m)->Q (lmD f)):z1u.run [.lst (ls.map lmD)] Q X:=by
 walk_at "fn";ac_nf;refine z0A (f:=lmD) (λH L=>∃J K:B,((J = .s .non/\∀m∈H,m.2.1<=m.2.2)\/∃f∈H,J = .s (lmD f)/\f.2.2<f.2.1/\∀m∈H,m.2.2<m.2.1->Rr f m)/\L=[.s (.lst (ls.map lmD)),J,K]) ⟨_,_,.inl ⟨rfl,λm hm=>by cases hm⟩,rfl⟩ ?_ ?_
 .rintro H m r L e ⟨J,K,hx,rfl⟩;have hm:m∈ls:=by rw[e];simp
  have sub:∀{k},k∈H->k∈ls:=λhk=>by rw[e];simp[hk]
  obtain⟨R,U⟩:=bt m hm;w_up
  rcases hx with ⟨rfl,hn⟩ | ⟨f,hf,rfl,f0,best⟩
  .ac_rfl;ac_nf;o_new
   .ac_nf;x_run;ac_nf;l_fit
    rcases wp.mp hk with z | z
    .have:=hn k z;lia
    .ks_is;exact uw _
   .ac_nf;refine⟨_,_,.inl ⟨rfl,λk hk =>?_⟩,rfl⟩
    rcases wp.mp hk with z | z
    .exact hn k z
    .ks_is;lia
  .obtain⟨N,O⟩:=bt f (sub hf);ac_rfl;ac_nf;o_new
   .ac_nf;k_get;ac_nf;refine z0Q (λg1 =>?_) (λg1 =>?_)
    .ac_nf;l_fit
     rcases wp.mp hk with z | z
     .exact Rr.tr (wE g1) (best k z k0) (.inr ⟨pos m hm g0,pos f (sub hf) f0,pos k (sub z) k0⟩)
     .ks_is;exact uw _
    .ac_nf;k_not
     rcases wp.mp hk with z | z
     .exact best k z k0
     .ks_is;exact Int.not_lt.mp g1
   .ac_nf;k_not
    rcases wp.mp hk with z | z
    .exact best k z k0
    .rw[wg.mp z] at k0;exact absurd k0 g0
 rintro L ⟨J,K,hx,rfl⟩
 rcases hx with ⟨rfl,hn⟩ | ⟨f,hf,rfl,f0,best⟩
 .ac_nf;exact q1 hn
 .ac_nf;exact V f hf f0 best
def Fits (p q:Int)(a:List Lm):Prop:=∀m∈a,m.2.1*q<=p*m.2.2
def z7C {ls:List Lm}{f l:Lm}(k:∀m∈ls,0<m.2.1->m.2.1<=m.2.2)(i:0<f.2.1)(j:f.2.1<=f.2.2)(a:∀m∈ls,0<m.2.1->Rr m f)(last:∀m∈ls,m.2.2<m.2.1->m.2.2<0/\Rr m f):Fits f.2.1 f.2.2 ls:=λm e=>by
 by_cases c:0<m.2.1
 .exact a m e c
 by_cases g:m.2.2<m.2.1
 .exact(last m e g).2
 by_cases h:0<=m.2.2
 .have b:=wJ (wE i) h;have d:=wA (Int.not_lt.mp c) (show 0<=f.2.2 by lia);rw[jo] at d;exact j7 d b
 .have b:=wA (show m.2.1<=m.2.2 by lia) (show 0<=f.2.2 by lia);have d:=vN j (show m.2.2<=0 by lia);rw[ve m.2.2] at b;exact j7 b d
def zeH {ls:List Lm}{m:Lm}(g:m∈ls)(d:0<m.2.1)(f:m.2.2<m.2.1)(p q:Int)(j:0<=p)(l:p<=q)(b:0<q):¬ Fits p q ls:=λh=>by
 have k:=h m g;have e:=w3 d b
 by_cases c:0<=m.2.2
 .have a:=wA l c;have i:=Int.mul_lt_mul_of_pos_left f b;rw[ve q m.2.1] at i;omega
 .have a:=wM (show m.2.2<=0 by lia) j;rw[Int.mul_zero] at a;omega
def zeG {ls:List Lm}{f l:Lm}(b:f∈ls)(d:l∈ls)(a:0<f.2.2)(e:l.2.2<0)(h:f.2.1*l.2.2<l.2.1*f.2.2)(p q:Int)(g:0<q):¬ Fits p q ls:=λk=>by
 have i:=vN (k f b) (wE e);have j:=wA (k l d) (wE a);have m:=Int.mul_lt_mul_of_pos_left h g
 grind
def zcc {ls:List Lm}{Q:DK}{X:XP}(bt:∀m∈ls,Bt 1400 m.2.1/\Bt 1400 m.2.2)(ex:∃m∈ls,0<m.2.1)(q1:∀bs:List P,(∀p q,0<=p->p<=q->0<q->¬ Fits p q ls)->Q (.tup (bs.map vec)))
  (q2:(∀m∈ls,0<m.2.1->m.2.1<=m.2.2)->(∀f∈ls,0<f.2.1->(∀m∈ls,0<m.2.1->Rr m f)->Fits f.2.1 f.2.2 ls)->Q .non):z1Y.run [.lst (ls.map lmD)] Q X:=by
 walk_at "fn";ac_nf;refine z0A (f:=lmD) (λO Y=>∃R U V:B,(∀m∈O,0<m.2.1->m.2.1<=m.2.2)/\Y=[.s (.lst (ls.map lmD)),R,U,V,.n,.n]) ⟨_,_,_,(λm hm=>by cases hm),rfl⟩ ?_ ?_
 .rintro O m r Y e ⟨R,U,V,hd,rfl⟩;have hm:m∈ls:=by rw[e];simp
  k_one;w_up;unfold z0l z0l z0l z0l;ac_rfl;ac_nf;have snoc:(0<m.2.1->m.2.1<=m.2.2)->∀k∈O++[m],0<k.2.1->k.2.1<=k.2.2:=λz k hk=>by
   rcases wp.mp hk with w | w
   .exact hd k w
   .rw[wg.mp w];exact z
  o_new
  .ac_nf;refine z0Q (λg1 =>?_) (λg1 =>?_)
   .ac_nf;exact q1 [m.1] (zeH hm g0 g1)
   .ac_nf;exact⟨_,_,_,snoc λ_=>Int.not_lt.mp g1,rfl⟩
  .ac_nf;exact⟨_,_,_,snoc λz=>absurd z g0,rfl⟩
 rintro Y ⟨R,U,V,nb,rfl⟩;have neg:∀m∈ls,m.2.2<m.2.1->m.2.2<0:=λm hm h=>by
  by_cases c:0<m.2.1
  .have:=nb m hm c;lia
  .lia
 ac_nf;refine zfC bt (λm hm h=>by have:=nb m hm h;lia) (λz =>?_) λf hf f0 best =>?_
 .obtain⟨m,hm,h⟩:=ex;have:=z m hm;lia
 have f1:=nb f hf f0;ac_nf;obtain⟨a0,a4⟩:=bt f hf;have N:∀g∈ls,0<g.2.1->(∀m∈ls,0<m.2.1->Rr m g)->Rr f g/\Rr g f:=λg J g0 K=>⟨K f hf f0,best g J g0⟩
 refine zhD bt neg (λz =>?_) λl hl Z L =>?_
 .ac_nf;k_get;ac_nf;refine q2 nb λg J g0 K=>z7C (l:=g) nb g0 (nb g J g0) K λm hm h =>?_;have:=z m hm;lia
 .obtain⟨a5,a6⟩:=bt l hl;ac_nf;x_run;ac_nf;o_new
  .ac_nf;exact q1 [f.1,l.1] λp q _ _ q0=>zeG hf hl (by lia) (neg l hl Z) g0 p q q0
  .ac_nf;refine q2 nb λg J H K=>z7C (l:=g) nb H (nb g J H) K λm hm h=>⟨neg m hm h,?_⟩
   have g1:=nb g J H;have gm:=neg m hm h;have gl:=neg l hl Z;have r1:Rr l m:=L m hm h;have r2:l.2.1*f.2.2<=f.2.1*l.2.2:=Int.not_lt.mp g0;have r3:=(N g J H K).2;have a1:=wA r2 (show 0<=g.2.2 by lia);have a2:=vN r3 (wE gl);have a3:l.2.1*g.2.2<=g.2.1*l.2.2:=uf (a:=f.2.2) (by grind) (by lia);have b1:=wA r1 (show 0<=g.2.2 by lia);have b2:=vN a3 (wE gm);exact uf (a := - l.2.2) (by grind) (by lia)
def z4N {l:List P}{m:Int}{Q:DK}{X:XP}(hb:Wb 165 l)(hz:l.length<=250)(H:Bt 1000 m)(q:Q (vecs (l.map (Geo.sca m)))):z2c.run [vecs l,.int m] Q X:=by
 walk_at "fn";ac_nf;z_go;refine z1b (f:=vec) (g:=λp=>vec (Geo.sca m p)) (λp hp K k =>?_) ?_
 .obtain⟨J,L⟩:=hb p hp;ac_nf;exact k
 ac_nf;rw[show l.map (λp=>vec (Geo.sca m p))=(l.map (Geo.sca m)).map vec by rw[wR];rfl];f_int
def z77 {a b p r:Int}{Q:DK}{X:XP}(hb:0<b)(hr:0<r)(N:Bt 3000 a)(J:Bt 3000 b)(R:Bt 3000 p)(K:Bt 3000 r)(q:∀u w,Q (.tup [.int u,.int w])):z2E.run [.tup [.int a,.int b],.tup [.int p,.int r]] Q X:=by
 have L:=w3 hb hr;have H:Bt 6000 (b*r):=Bt.le (Bt.mul J K);have U:(Int.gcd (b*r) (a*p):Int)<=b*r:=Int.le_of_dvd L (jw ..);have g0:0<(Int.gcd (b*r) (a*p):Int):=by
  have:=Int.gcd_pos_of_ne_zero_left (a*p) (show b*r≠0 by omega);omega
 have O:Bt 9000 (Int.gcd (b*r) (a*p):Int):=Bt.le (H.of_abs (by lia));walk_at "fn";ac_nf;generalize b*r=W at*;generalize a*p=v at*;walk_at "fn";ac_nf;refine t_no (by lia) ?_;ac_nf;refine z3y ?_;ac_nf;refine t_no (by lia) ?_;ac_nf;exact q _ _
theorem zhd:∀l:List P,l.length<=(df l).length+1
 | []=>by simp
 | [_]=>by simp
 | a::b::r=>by
  have:=zhd (b::r);simp only[df,wI] at*;lia
def zdr (h:List P)(m:Int):(Geo.rd (h.map (Geo.sca m))).length<=(Geo.rd h).length:=by
 by_cases c:h.length=1
 .exact zaQ λz=>absurd (by rw[wd];exact c) z
 .refine zaQ λ_ =>?_;rw[wd];unfold Geo.rd;rw[if_neg c];have:=zhd (h++h.take 1);rw[wB,w8] at this;omega
structure Pd (x y t:Int)(n:Nat:=300):Prop where
 pc:Pc x y t
 bx:Bt n x
 bY:Bt n y
 bt:Bt 100 t
def zcX {h d:List P}{x y t p r:Int}(n:h≠[])(m:d≠[])(f:Fits p r (lims h d x y t)):∀s∈z04 h++z04 d,∃a∈h,∃c∈d,dot (x*r,y*r) s.1<=dot (Geo.sca t (Geo.pl (Geo.sca r a) (Geo.sca p c))) s.1:=λs l=>by
 obtain⟨a,i,e⟩:=we.mp (z1M (b:=s.1) n).1;obtain⟨c,j,g⟩:=we.mp (z1M (b:=s.1) m).1;refine⟨a,i,c,j,?_⟩;have k:=f _ (we.mpr ⟨s,l,rfl⟩);simp only[lim] at k;rw[<- e, <- g] at k;simp only[dot,Geo.sca,Geo.pl] at k ⊢
 grind
def ze3 {ws ws0:List (List P × P)}{w:List P × P}{h d:List P}{x y t p r:Int}{Q:DK}{X:XP}(hw:∀x∈ws,Wt4 x)(hz:ws.length<=12)(hl:ws=ws0++[w])(hd:z03 (· ∈ tr w) d)(T:Twh h d)(zl:(Geo.rd h).length+(Geo.rd d).length<=249)
  (pd:Pd x y t) (p0:0<p) (r0:0<r) (Y:Bt 434 p) (O:Bt 434 r) (f:Fits p r (lims h d x y t)) (q:(∀b,r*dot (x,y) b<=t*(r*sup h b+p*sup d b))->∀ds,noLs ds=true->noDs ds=true->Q (.tup ds)):z1i.run [.tup (ws.map wtD),vecs h,.tup [.int p,.int r],pcD x y t] Q X:=by
 have nh:=z0Y T.xh;have nd:=z0Y T.xd;have pc:=pd.pc;have b1:=pd.bx;have b2:=pd.bY;have b3:=pc.bt;have t0:=pc.pos;have N:Wt4 w:=hw w (by rw[hl];simp);have ew:atI (ws.map wtD) (-1)=some (wtD w):=by
  have e:=zf9 (l:=ws.map wtD) (k:=0) (by rw[hl];simp);rw[show (((0:Nat):Int) - 1) = -1 by decide] at e;rw[e,wP (by rw[hl];simp),hl];simp
 walk_at "fn";ac_nf;refine z1e ew ?_;ac_nf;refine z4u N.wb.le N.vb.le (by have:=N.len;lia) λd' x' =>?_;obtain rfl:d'=d:=(x'.is (by simpa using N.ne)).unique hd;x_go;ac_rfl;ac_nf;refine z4N T.bh T.zh O.le ?_;ac_nf;refine z4N T.bd T.zd Y.le ?_;ac_nf;have w1:Wb 600 (h.map (Geo.sca r)):=λv hv=>by
  obtain⟨u,hu,rfl⟩:=we.mp hv;exact⟨Bt.le (Bt.mul (T.bh u hu).1 O),Bt.le (Bt.mul (T.bh u hu).2 O)⟩
 have w2:Wb 600 (d'.map (Geo.sca p)):=λv hv=>by
  obtain⟨u,hu,rfl⟩:=we.mp hv;exact⟨Bt.le (Bt.mul (T.bd u hu).1 Y),Bt.le (Bt.mul (T.bd u hu).2 Y)⟩
 have y1:=zdr h r;have y2:=zdr d' p;refine z5g w1 w2 (z03.sca r0 T.xh) (z03.sca p0 T.xd) (by rw[wd];exact T.zh) (by rw[wd];exact T.zd) (by lia) λR xR zR =>?_;have nR:=z0Y xR;have lR:=zcj R;have bR:Wb 600 R:=λv hv=>by
  obtain⟨a,ha,c,hc,rfl⟩:=xR.sub v hv;obtain⟨u,hu,rfl⟩:=we.mp ha;obtain⟨u',a0,rfl⟩:=we.mp hc;exact⟨Bt.le (Bt.add (Bt.mul (T.bh u hu).1 O) (Bt.mul (T.bd u' a0).1 Y)),Bt.le (Bt.add (Bt.mul (T.bh u hu).2 O) (Bt.mul (T.bd u' a0).2 Y))⟩
 have a4:=zch T.xh T.xd r0 p0 t0 xR (zcX nh nd f);x_go;ac_rfl;ac_nf;have a8:∀{Q:DK}{X:XP},(∀u v t',Pl (x*r) (y*r) t u v t'->Q (pcD u v t'))->z2g.run [pcD x y t,.tup [.int r,.int 1]] Q X:=λ{Q X} k=>by
  walk_at "fn";ac_nf;rw[Int.mul_one];exact z5D t0 b3.le k
 refine a8 λu v t' pl =>?_;have a5:Pc u v t':=pl.pc t0 b3 (Bt.le (Bt.mul b1 O)) (Bt.le (Bt.mul b2 O));ac_nf;refine z76 nR (by lia) bR a5 (λb _ _ Z =>?_) λsh W L =>?_
 .exfalso
  obtain⟨c,hc,le⟩:=a4 b;have k:=Z c hc;have e:dot (u,v) b*t=dot (x*r,y*r) b*t':=by
   have e1:=pl.cx;have e2:=pl.cy;simp only[dot]
   grind
  have k1:=jH k t0;have k2:=wA le (wE a5.pos);rw[e] at k1
  grind
 ac_nf;z_go;refine z3v (f:=wtD) (g:=shsD) (P:=λx gs=>Gd W x.1.length gs) (λx hx K hK =>?_) λys J hy =>?_
 .ac_nf;refine z9G (hw x hx) bR nR L.pos L.bt L.gd L.one λgs φ _ k2 _ _ _ =>?_;exact hK gs k2
 have a3:ys≠[]:=λz=>by rw[z,hl] at J;simp at J
 obtain⟨V,H,rfl⟩:∃V H,ys=V++[H]:=⟨ys.dropLast,ys.getLast a3,(List.dropLast_concat_getLast a3).symm⟩
 have U:∀s∈H,0<s.2.2/\Bt 3000 s.2.1/\Bt 3000 s.2.2:=λs hs=>by
  obtain⟨y,e,G⟩:=hy V.length (by rw[<- J];simp);rw[wV (ww _),Nat.sub_self] at e;obtain rfl:H=y:=by simpa using e
  obtain⟨ss,_⟩:=G.each s hs;obtain⟨c1,c2⟩:=ss.bits L.pos L.bt;exact⟨ss.bot,c1.le,c2.le⟩
 have a9:H.length<=3:=by
  obtain⟨y,e,G⟩:=hy V.length (by rw[<- J];simp);rw[wV (ww _),Nat.sub_self] at e;obtain rfl:H=y:=by simpa using e
  exact G.few
 ac_nf;refine z1x (λz hz=>by obtain⟨g,_,rfl⟩:=we.mp hz;exact Safe.of_noL (z7r g) (z7s g) _) ?_;ac_rfl;ac_nf;refine ze5 (z0q rfl ?_);unfold popL;rw[wv,wB,wd];simp only[wC,uM,wI,uO,j6,Nat.add_sub_cancel];rw[wV (by simp),wd,Nat.sub_self];simp only[List.getElem?_cons_zero,List.dropLast_concat];ac_rfl;ac_nf;tb_lt;ac_nf;z_go;refine z3v (f:=shD) (g:=shD) (P:=λ_ _=>True) (λs hs K hK =>?_) λzs b0 _ =>?_
 .obtain⟨c0,c1,c2⟩:=U s hs;k_one;f_are;ac_rfl;ac_nf;refine z77 c0 r0 c1 c2 Y.le O.le λu w =>?_;ac_nf;exact hK (s.1,u,w) trivial
 ac_nf;have yz:V.length<=12:=by simp at J;lia
 refine⟨by rw[wd];exact szl' (by lia),Safe.of_noL (z7r zs) (z7s zs) _,?_⟩;ac_rfl;ac_nf;rw[show V.map shsD++[.tup (zs.map shD)]=(V++[zs]).map shsD by simp];refine q (λb =>?_) _ (z37 λd hd=>by(obtain⟨g,_,rfl⟩:=we.mp hd;exact z7r g)) (z38 λd hd=>by(obtain⟨g,_,rfl⟩:=we.mp hd;exact z7s g));obtain⟨c,hc,le⟩:=a4 b;obtain⟨a',a6,e',a7,rfl⟩:=xR.sub c hc;obtain⟨a,ha,rfl⟩:=we.mp a6;obtain⟨e,he,rfl⟩:=we.mp a7;have k1:=wM ((z1M (b:=b) nh).2 a ha) (wE r0);have k2:=wM ((z1M (b:=b) nd).2 e he) (wE p0);have k3:=wM (Int.add_le_add k1 k2) (wE t0);refine j7 ?_ k3;simp only[dot,Geo.sca,Geo.pl] at le ⊢
 grind
def z59 {S:P->Prop}{h:List P}(x:z03 S h)(b:P):Geo.Far S b (sup h b):=by
 obtain⟨a,d⟩:=z1M (b:=b) (z0Y x);obtain⟨c,f,e⟩:=we.mp a;refine⟨λp hp =>?_,c,x.sub c f,e⟩;obtain⟨u,g,le⟩:=x.far (x.in hp) b;exact j7 le (d u g)
def z9o {S:P->Prop}{b:P}{F G:Int}(h:Geo.Far S b F)(k:Geo.Far S b G):F=G:=by
 obtain⟨g,u,e,a⟩:=h;obtain⟨i,v,f,d⟩:=k;exact Int.le_antisymm (by rw[<- a];exact i u e) (by rw[<- d];exact g v f)
def Rw (a d:P->Prop)(x y t p r:Int):Prop:=∀b F G,Geo.Far a b F->Geo.Far d b G->r*dot (x,y) b<=t*(r*F+p*G)
def Rw.fits {a b:P->Prop}{h d:List P}{x y t p r:Int}(f:z03 a h)(g:z03 b d)(k:Rw a b x y t p r):Fits p r (lims h d x y t):=λm e=>by
 obtain⟨s,_,rfl⟩:=we.mp e;have:=k s.1 _ _ (z59 f s.1) (z59 g s.1);simp only[lim]
 grind
def zcB {h:List P}{x y t:Int}{b:P}(l:z03 (· ∈ h) h)(f:0<t)(E:t*sup h b<dot (x,y) b):∃s∈z04 h,t*sup h s.1<dot (x,y) s.1:=by
 by_cases c:∃s∈z04 h,t*sup h s.1<dot (x,y) s.1
 .exact c
 exfalso
 have d:=z0Y l;have far:∀s∈z04 h,dot (x,y) s.1<=dot (Geo.sca t s.2) s.1:=λs a=>by
  have o:¬ t*sup h s.1<dot (x,y) s.1:=λz=>c ⟨s,a,z⟩;obtain⟨F,q⟩:=z3R l a;obtain⟨u,j,e⟩:=we.mp (z1M (b:=s.1) d).1;have m:=wM (q u j) (wE f);rw[e] at m;have C:dot (Geo.sca t s.2) s.1=t*dot s.2 s.1:=by simp only[dot,Geo.sca];grind
  omega
 have r:=z03.sca f l;have k:In (h.map (Geo.sca t)) (x,y):=z6i (by simpa using d) λs a=>by
  obtain⟨p,i,n,e⟩:=z4Y f d a;rw[e];exact n.le (far p i)
 obtain⟨A,g,le⟩:=r.far k b;obtain⟨u,j,rfl⟩:=we.mp g;have o:=wM ((z1M (b:=b) d).2 u j) (wE f);have m:dot (Geo.sca t u) b=t*dot u b:=by simp only[dot,Geo.sca];grind
 have le:dot (x,y) b<=dot (Geo.sca t u) b:=le;omega
def z6K {ws:List (List P × P)}{k:Nat}{w:List P × P}{b:P}{F G:Int}(l:ws[k]? = some w)(g:Geo.Far (MS (ws.take k)) b F)(h:Geo.Far (· ∈ tr w) b G):Geo.Far (MS (ws.take (k+1))) b (F+G):=by
 rw[jf,l];show Geo.Far (Ms ((ws.take k++[w]).map tr)) b (F+G);rw[wv];have e:∀u v:P,Geo.sc (Geo.pl u v) b=Geo.sc u b+Geo.sc v b:=λu v=>by simp only[Geo.sc,Geo.pl];grind
 obtain⟨o,a,i,d⟩:=g;obtain⟨q,c,j,f⟩:=h;refine⟨λp hp =>?_,Geo.pl a c,z6C.mpr ⟨a,i,c,j,rfl⟩,by rw[e,d,f]⟩;obtain⟨u,m,v,n,rfl⟩:=z6C.mp hp;have:=o u m;have:=q v n;rw[e];lia
def zfA {g n:Int}{Q:DK}{X:XP}(l:0<g)(m:g<=n)(b:Bt 432 n)(q:∀p r,0<p->p<=r->Int.gcd p r=1->(∃c,0<c/\g=p*c/\n=r*c)->Bt 434 p->Bt 434 r->Q (.tup [.int p,.int r])):z2h.run [.int g,.int n] Q X:=by
 have k:0<n:=by lia
 refine z8P k b.le ?_;obtain⟨d,i,j,_,e⟩:=z3u (t:=g) k;have f:g / ((Int.gcd g n:Nat):Int)*((Int.gcd g n:Nat):Int)=g:=by rw[ve];exact i.symm
 have h:n / ((Int.gcd g n:Nat):Int)*((Int.gcd g n:Nat):Int)=n:=by rw[ve];exact j.symm
 clear i j;generalize g / ((Int.gcd g n:Nat):Int)=p at*;generalize n / ((Int.gcd g n:Nat):Int)=r at*;generalize ((Int.gcd g n:Nat):Int)=c at*;have o:0<p:=zdv (a:=c) (by rw[ve,f];exact l) d;have s:p<=r:=uT (by rw[f,h];exact m) d;have u:r<=n:=by
  have:=wM (show 1<=c by omega) (show 0<=r by omega);omega
 exact q p r o s e ⟨c,d,f.symm,h.symm⟩ (Bt.le (b.of_abs (by omega))) (Bt.le (b.of_abs (by omega)))
def Fits.low {g n p r:Int}{ls:List Lm}(h:Fits g n ls)(c:∃c,0<c/\g=p*c/\n=r*c):Fits p r ls:=λm f=>by
 obtain⟨c,b,d,e⟩:=c;have:=h m f;rw[d,e] at this;exact uT (a:=c) (by grind) b
abbrev atD (u v:Int)(ds es:List D):D :=.tup [.str (Str.ofString "at"),.tup [.int u,.int v],.tup ds,.tup es]
abbrev nvD (es:List D):D :=.tup [.str (Str.ofString "never"),.tup es]
def Shut (ws:List (List P × P))(x y t:Int)(j:Nat):Prop:=∀w,ws[j]? = some w->∀p r,0<=p->p<=r->0<r->¬ Rw (MS (ws.take j)) (· ∈ tr w) x y t p r
theorem z6A:∀{l:List D},noLs l=true->∀{d},d∈l->noL d=true
 | a::l,h,d,b=>by
  rw[noLs,vF] at h
  rcases wj.mp b with rfl | b
  .exact h.1
  .exact z6A h.2 b
theorem z6B:∀{l:List D},noDs l=true->∀{d},d∈l->noD d=true
 | a::l,h,d,b=>by
  rw[noDs,vF] at h
  rcases wj.mp b with rfl | b
  .exact h.1
  .exact z6B h.2 b
def zaF {ws:List (List P × P)}{x y t:Int}{Q:DK}{X:XP}(hw:∀x∈ws,Wt4 x)(hz:ws.length<=12)(ht:tl ws<=240)(pd:Pd x y t)(q0:x=0->y=0->t=1->Q (atD 0 1 [] []))
  (q1:∀(k:Nat) w p r u v ds es,ws[k]? = some w->(x,y)≠((0:Int),(0:Int))->0<p->p<=r->Int.gcd p r=1->Bt 434 p/\Bt 434 r->Rw (MS (ws.take k)) (· ∈ tr w) x y t p r->(∀j,j<k->Shut ws x y t j)->(∀p' r',0<=p'->p'<=r'->0<r'->Rw (MS (ws.take k)) (· ∈ tr w) x y t p' r'->p*r'<=p'*r)->Pl ((k:Int)*r+p*1) 0 (1*r) u 0 v->noLs ds=true->noDs ds=true->noLs es=true->noDs es=true->Q (atD u v ds es))
  (q2:(x,y)≠((0:Int),(0:Int))->(∀j,Shut ws x y t j)->∀es,noLs es=true->noDs es=true->Q (nvD es)):z4a.run [.tup (ws.map wtD),pcD x y t] Q X:=by
 have pc:=pd.pc;have t0:=pc.pos;walk_at "fn";ac_nf;refine zeD (l:=[.int x,.int y,.int t]) (r:=[.int 0,.int 0,.int 1]) (Da3 x y t) (Da3 0 0 1) ?_;rw[show deq (.tup [.int x,.int y,.int t]) (.tup [.int 0,.int 0,.int 1])=decide (x=0/\y=0/\t=1) from deq3 x y t 0 0 1];kt_le
 .ac_nf;exact q0 z.1 z.2.1 z.2.2
 have ne:(x,y)≠((0:Int),(0:Int)):=λe=>by
  have e1:=congrArg Prod.fst e;have V:=congrArg Prod.snd e;dsimp only at e1 V;have c:=pc.cop;rw[e1,V] at c;simp at c;exact z ⟨e1,V,by omega⟩
 ac_nf;k_all;ac_rfl;ac_nf;rw[wd];kmb_kw;rw[show ((ws.length:Nat):Int).toNat=ws.length by simp];refine z0A (f:=λ(j:Nat)=>D.int (j:Int)) (λL ρ=>∃(h:List P) (H:List D) (x4 x5 x6 x7 x8 x9 R:B),z03 (MS (ws.take L.length)) h/\(Geo.rd h).length<=tl (ws.take L.length)/\H.length=L.length/\noLs H=true/\noDs H=true/\(∃b,t*sup h b<dot (x,y) b)/\(∀j,j<L.length->Shut ws x y t j)/\
  ρ=[.s (.tup (ws.map wtD)),.s (pcD x y t),.o (.lst H),.s (vecs h),x4,x5,x6,x7,x8,x9,R]) ⟨[(0,0)],[],_,_,_,_,_,_,_,zdE,by simp[Geo.rd],rfl,rfl,rfl,⟨(x,y),?_⟩,λj hj=>absurd hj (by simp),rfl⟩ ?_ ?_
 .have:=z4K ne;simp only[sup,dot];dsimp only at this;omega
 .rintro L k0 rr ρ e ⟨h,H,x4,x5,x6,x7,x8,x9,R,O,Z,bl,bn,bD,⟨b,hb⟩,J,rfl⟩;k_data;rw[vK,wB,wI] at le;have hi:L.length<ws.length:=by lia
  obtain rfl:k0=L.length:=by
   have:=congrArg (λl=>l[L.length]?) e;simp only[jY hi] at this;simpa using this.symm
  generalize hk:L.length=k at*;obtain⟨w,N⟩:∃w,ws[k]? = some w:=⟨_,wf hi⟩
  have wx:Wt4 w:=hw w (wu N);have tn:tr w≠[]:=λz=>wx.ne (jt.mp z);have b0:(tr w).length=w.1.length:=by unfold tr;rw[wd]
  have t1:tl (ws.take (k+1))=tl (ws.take k)+w.1.length:=by
   rw[jf,N];exact z4n _ _
  have t2:=z81 ws (k+1);have wl:=wx.len;have h1:=zcj h;have hb':Wb 165 h:=λp hp=>by
   obtain⟨c1,c2⟩:=zeJ (λd hd=>by obtain⟨x,hx,rfl⟩:=we.mp hd;exact zao (hw x (wU hx))) (O.sub p hp);rw[wd,w8] at c1 c2;exact⟨Bt.le c1 (by lia),Bt.le c2 (by lia)⟩
  w_up;ac_rfl;ac_nf;refine z1e (z0P ((z9x hi).trans N)) ?_;ac_nf;refine z4u wx.wb.le ⟨wx.vb.1.le,wx.vb.2.le⟩ (by lia) λd hd =>?_;have K:z03 (· ∈ tr w) d:=hd.is tn;have yl:=z2b K.nodup K.sub;have h2:(Geo.rd d).length<=w.1.length:=zaQ λ_=>by lia
  have T:Twh h d:=⟨z3U O,z3U K,hb',λp hp=>⟨(zao wx p (K.sub p hp)).1.le,(zao wx p (K.sub p hp)).2.le⟩,by lia,by lia⟩
  x_go;ac_rfl;ac_nf;refine z84 T pc ?_;ac_rfl;ac_nf;have nh:=z0Y T.xh;have nd:=z0Y T.xd;have bm:∀m∈lims h d x y t,Bt 1400 m.2.1/\Bt 432 m.2.2:=λm hm=>by
   obtain⟨s,hs,rfl⟩:=we.mp hm;have vb:=T.vb hs;exact⟨Bt.le (Bt.sub (Bt.add (Bt.mul pd.bx vb.1) (Bt.mul pd.bY vb.2)) (Bt.mul pd.bt (z8K nh T.bh vb))),Bt.le (Bt.mul pd.bt (z8K nd T.bd vb))⟩
  have bt:∀m∈lims h d x y t,Bt 1400 m.2.1/\Bt 1400 m.2.2:=λm hm=>⟨(bm m hm).1,(bm m hm).2.le⟩
  have ex:∃m∈lims h d x y t,0<m.2.1:=by
   obtain⟨s,hs,k⟩:=zcB T.xh t0 hb;exact⟨_,we.mpr ⟨s,ur _ hs,rfl⟩,by simp only[lim];omega⟩
  refine zcc bt ex (λbs nf =>?_) λnb best =>?_
  .have a0:Shut ws x y t k:=λw' a4 p r p0 pr r0 c=>by
    obtain rfl:w=w':=wQ (N.symm.trans a4);exact nf p r p0 pr r0 (c.fits O K)
   x_go;ac_rfl;ac_nf;k_get;ac_nf;tb_lt;ac_nf;refine⟨szl' (by lia),Safe.of_noL (z14 _) (z15 _) _,?_⟩;ac_rfl;ac_nf;refine z5g hb'.le T.bd.le T.xh T.xd T.zh T.zd (by lia) λh' a6 a9 =>?_;x_go;ac_rfl;have Y:z03 (MS (ws.take (k+1))) h':=by
    rw[jf,N];show z03 (Ms ((ws.take k++[w]).map tr)) h';rw[wv];exact z96 O K a6
   have out:∃b,t*sup h' b<dot (x,y) b:=by
    by_cases c:∃b,t*sup h' b<dot (x,y) b
    .exact c
    .refine absurd (λb F G f1 f2 =>?_) (a0 w N 1 1 (by decide) (by decide) (by decide));have h3:¬ t*sup h' b<dot (x,y) b:=λz=>c ⟨b,z⟩;obtain⟨m1,u,hu,eu⟩:=z6K N f1 f2;obtain⟨m2,v,hv,ev⟩:=z59 Y b;have e:sup h' b=F+G:=Int.le_antisymm (by rw[<- ev];exact m1 v hv) (by rw[<- eu];exact m2 u hu);rw[e] at h3;rw[Int.one_mul,Int.one_mul,Int.one_mul];exact Int.not_lt.mp h3
   rw[wB,uC,hk];refine⟨h',H++[.tup (bs.map vec)],_,_,_,_,_,_,_,Y,by lia,by simp[bl],?_,?_,out,λj hj =>?_,rfl⟩
   .refine z37 λd hd =>?_
    rcases wp.mp hd with z | z
    .exact z6A bn z
    .ks_is;exact z14 bs
   .refine z38 λd hd =>?_
    rcases wp.mp hd with z | z
    .exact z6B bD z
    .ks_is;exact z15 bs
   .by_cases z:j=k
    .rw[z];exact a0
    .exact J j (by lia)
  .ac_nf;x_run;ac_nf;refine zfC bt (λm hm z=>by have:=nb m hm z;lia) (λz =>?_) λf hf f0 bf =>?_
   .exfalso
    obtain⟨m,hm,z'⟩:=ex;have:=z m hm;lia
   ac_nf;refine zfA f0 (nb f hf f0) (bm f hf).2 λp r p0 pr U c bp br =>?_;ac_nf;have a5:=(best f hf f0 bf).low c;rw[z7J (by lia),show ((k:Int)+1).toNat=k+1 by lia];refine ze3 (ws0:=ws.take k) (λx hx=>hw x (wU hx)) (by rw[w8];lia) (by rw[jf,N];rfl) K T (by lia) pd p0 (by lia) bp br a5 λa8 ds n1 n2 =>?_;refine z0w (Safe.of_noL (show noL (.tup ds)=true from n1) (show noD (.tup ds)=true from n2) _) ?_;ac_rfl;ac_nf;refine z85 (by decide) (by lia) (by simp) U (Bt.le (m:=64) (z05 (by omega))) (Bt.le (m:=1) (z05 (by decide))) bp.le br.le λu v pl =>?_;ac_nf;refine z92 (by simp[bl];exact Wk (szl' (by lia))) ?_;ac_nf;refine q1 k w p r u v ds _ N ne p0 pr U ⟨bp,br⟩ (λb F G f1 f2=>by rw[z9o f1 (z59 O b),z9o f2 (z59 K b)];exact a8 b) J (λp' r' a1 a2 a3 c' =>?_) pl n1 n2 (z37 λd hd =>?_) (z38 λd hd =>?_)
   .obtain⟨c,c0,e1,V⟩:=c;have k':=(c'.fits O K) f hf;rw[e1,V] at k';exact uT (a:=c) (by grind) c0
   .rcases wp.mp hd with z | z
    .exact z6A bn z
    .ks_is;rfl
   .rcases wp.mp hd with z | z
    .exact z6B bD z
    .ks_is;rfl
 rintro ρ ⟨h,H,x4,x5,x6,x7,x8,x9,R,O,Z,bl,bn,bD,hb,J,rfl⟩;ac_nf;refine q2 ne (λj w hj =>?_) H bn bD;obtain⟨a7,_⟩:=wo.mp hj;exact J j (by simpa using a7) w hj
structure CrsS (W:Int)(ws:List (List P × P))(co:List (List Sh)):Prop where
 len:co.length<=ws.length
 ok:∀p∈ws.zip co,p.2.length<=14/\∀s∈p.2,Sw W p.1.1.length s
def z6f {W:Int}{k n:Nat}{ws:List (List P × P)}{a:List (List Sh)}(hw:∀x∈ws,Wt4 x)(i:ws.length<=12)(g:0<W)(b:Bt k W)(f:CrsS W ws a):Bt (k+180) (((ws.zip a).take n).map (cX W)).sum/\Bt (k+180) (((ws.zip a).take n).map (cY W)).sum:=by
 have h:((ws.zip a).take n).length<=12:=by rw[w8,uQ];lia
 have e:∀p∈(ws.zip a).take n,Bt (k+160) (cX W p)/\Bt (k+160) (cY W p):=λp hp=>by
  have hp:=wU hp;exact zit g b (hw _ (j8 hp).1) (f.ok p hp).1 (f.ok p hp).2
 o_rec
 .refine Bt.le (z6E (m:=k+160) λx d =>?_) (by rw[wd];lia);obtain⟨p,hp,rfl⟩:=we.mp d;exact(e p hp).1
 .refine Bt.le (z6E (m:=k+160) λx d =>?_) (by rw[wd];lia);obtain⟨p,hp,rfl⟩:=we.mp d;exact(e p hp).2
def zgg {W m:Int}{s:Sh}(h:s.2.2 ∣ W):pt (W*m) s=pt W s*m:=by
 unfold pt;rw[ve W m,Int.mul_ediv_assoc _ h]
 grind
theorem z8I {w:Nat->Int}{W m:Int}:∀{l:List Sh},(∀s∈l,s.2.2 ∣ W)->sw w (W*m) l=sw w W l*m
 | [],_=>by simp[sw]
 | s::l,h=>by
  have b:=z8I (w:=w) (W:=W) (m:=m) (l:=l) λs a=>h s (by simp[a]);unfold sw at*;rw[wC,vc,wC,vc,b,zgg (h s (by simp))]
  grind
theorem z67 {f:Nat->Int}{g:Nat->Bool}:∀{l:List Nat},(∀k∈l,g k=false->f k=0)->((l.filter g).map f).sum=(l.map f).sum
 | [],_=>rfl
 | a::l,h=>by
  have b:=z67 (f:=f) (g:=g) (l:=l) λk d=>h k (by simp[d])
  cases c:g a with
  | true=>rw[List.filter_cons_of_pos c,wC,vc,b,wC,vc]
  | false=>rw[List.filter_cons_of_neg (by simp[c]),b,wC,vc,h a (by simp) c,Int.zero_add]
def zfs {a:List Int}(f:∀t∈a,0<=t)(m:0<a.sum):sw (λ_=>1) a.sum (wsh a)=a.sum:=by
 unfold sw wsh;rw[wR];have e:∀l:List Nat,l.map ((λs:Sh=>1*pt a.sum s) ∘ λk=>(k,a.getD k 0 / (Int.gcd (a.getD k 0) a.sum:Int),a.sum / (Int.gcd (a.getD k 0) a.sum:Int)))=l.map λk=>a.getD k 0:=λl=>v7 λk _=>by
  obtain⟨o,b,d,n,_⟩:=z3u (t:=a.getD k 0) m;simp only[Function.comp,pt,Int.one_mul];generalize (Int.gcd (a.getD k 0) a.sum:Int)=g at*;have:a.sum / (a.sum / g)=g:=by
   generalize a.sum / g=q at*;rw[d];exact Int.mul_ediv_cancel _ (by omega)
  rw[this,ve];exact b.symm
 rw[e,z67 λk j z =>?_]
 .congr 1
  refine List.ext_getElem (by simp) λi p h =>?_;simp[wG,h]
 .have:=f _ (z6I (vI.mp j));have z:=u5 z;omega
def z7c {ws:List (List P × P)}{c:Int}{Q:DK}{X:XP}(hw:∀x∈ws,Wt4 x)(hz:ws.length<=12)(q:∀J W,0<W->Bt 85 W->CrsS W ws J->J.length=ws.length->(∀p∈ws.zip J,(p.2.length<=12/\∀s∈p.2,s.2.1<=s.2.2)/\sw (λ_=>1) W p.2=W)->Q (.tup (J.map shsD))):z0s.run [.tup (ws.map wtD),.int c] Q X:=by
 walk_at "fn";ac_nf;k_all;ac_rfl;ac_nf;rw[wd];kmb_kw;rw[show ((ws.length:Nat):Int).toNat=ws.length by simp];refine z0A (f:=λ(j:Nat)=>D.int (j:Int)) (λO Z=>∃(J:List (List Sh)) (x3 x4 x5:B),J.length=O.length/\(∃W,0<W/\Bt (1+7*O.length) W/\∀p∈ws.zip J,(sw (λ_=>1) W p.2=W/\p.2.length<=12)/\∀s∈p.2,Sw W p.1.1.length s/\s.2.1<=s.2.2)/\Z=[.s (.tup (ws.map wtD)),.s (.int c),.o (.lst (J.map shsD)),x3,x4,x5]) ⟨[],_,_,_,rfl,⟨1,by decide,z05 (by decide),λp hp=>by(simp at hp)⟩,rfl⟩ ?_ ?_
 .rintro O k r Z e ⟨J,x3,x4,x5,hl,⟨W,W0,V,H⟩,rfl⟩;have hk:k=O.length/\k<ws.length:=by
   have h4:=congrArg List.length e;have h5:(List.range ws.length)[O.length]? = some k:=by rw[e];simp
   rw[jY (by simp at h4;lia)] at h5;simp at h4 h5;lia
  obtain⟨x,hx,ex⟩:=z4j (xs:=ws) (i:=(k:Int)) (by lia) (by lia);obtain⟨wb,ne,len,vb⟩:=hw x hx;have hp:=w4.mpr ne;w_up;ac_rfl;ac_nf;refine z0N (by decide) (by decide) (by decide) λr0 a5 a6 =>?_;ac_nf;refine menu (ns:=[1,6,60]) a5 (by show r0<3;exact a6) λm hm =>?_;have a3:0<m/\m<=60:=by
   simp only[wj,wF,vS] at hm;lia
  clear hm;refine z0N (by lia) (by lia) a3.1 λb b0 b1 =>?_;ac_nf;ac_rfl;ac_nf;refine z1e (z0P ex) ?_;ac_nf;rw[wd];refine ze6 hp (by lia) (by lia) (by lia) λL h1 h2 h3 =>?_;ac_rfl;refine zaM (λρ'=>∃(L:List Int) (m:Int),L.length=x.1.length/\(∀t∈L,0<=t)/\L.sum=m/\0<m/\m<=60/\ρ'=[.s (.tup (ws.map wtD)),.s (.int c),.o (.lst (J.map shsD)),.s (.int (k:Int)),.s (.int m),.s (.lst (L.map .int))]) ?_ ?_
  .ac_nf;refine z0N (by decide) (by decide) (by decide) λr1 a7 a8 =>?_;ac_nf;w_tab
   .ac_nf;ac_rfl;ac_nf;refine z1e (z0P ex) ?_;ac_nf;rw[wd];refine z52 (by lia) (by lia) ?_;rw[show ((x.1.length:Nat):Int).toNat=x.1.length by simp];ac_nf;k_memK;refine z4f (f:=λ(j:Nat)=>D.int (j:Int)) (g:=D.int) (P:=λ_ y=>1<=y/\y<=5) (λj hj K hK =>?_) λY N hy =>?_
    .have:=vI.mp hj;ac_nf;refine z0N (by lia) (by lia) (by decide) λv v0 v1 =>?_;ac_nf;exact hK _ ⟨by lia,by lia⟩
    ac_rfl;ac_nf;refine zi2 ?_;have U:∀y∈Y,1<=y/\y<=5:=λy a4=>(hy y a4).choose_spec.2;have N:Y.length=x.1.length:=by rw[N,vK]
    have bd:∀l:List Int,(∀y∈l,1<=y/\y<=5)->(l.length:Int)<=l.sum/\l.sum<=5*(l.length:Int):=λl=>by
     induction l with
     | nil=>intro _;simp
     | cons a l ih=>
      intro h;have:=ih λy hy=>h y (by simp[hy]);have:=h a (by simp);rw[vc,wI];lia
    have:=bd Y U;ac_nf;exact⟨Y,_,N,λy hy=>by have:=U y hy;lia,rfl,by lia,by lia,rfl⟩
   .ac_nf;exact⟨L,_,h1,h2,h3,by lia,by lia,rfl⟩
  rintro Z ⟨L,m,h1,h2,h3,m0,m1,rfl⟩;tb_lt;refine zd5 rfl rfl rfl rfl (by lia) h3 m0 (by lia) ?_;refine⟨by rw[wd];exact szl' (by lia),Safe.of_noL (z7r _) (z7s _) _,?_⟩;ac_rfl;refine⟨J++[wsh L],_,_,_,by simp[hl],⟨W*m,w3 W0 m0,Bt.le (Bt.mul V (z05 (n:=6) (by lia))) (by simp;lia),λp R =>?_⟩,by rw[wv];rfl⟩;have ok:=zfi h2 (by lia);rw[h1,h3] at ok;have a0:ws[J.length]? = some x:=by
   unfold atI at ex;rw[z5t (by lia) (by lia)] at ex;have ex:ws[((k:Nat):Int).toNat]? = some x:=ex;rw[show ((k:Nat):Int).toNat=J.length by lia] at ex;exact ex
  rw[z4W a0] at R
  rcases wp.mp R with z | z
  .exact⟨⟨by rw[z8I λs hs=>((H p z).2 s hs).1.dv,(H p z).1.1],(H p z).1.2⟩,λs hs=>⟨((H p z).2 s hs).1.mul,((H p z).2 s hs).2⟩⟩
  .ks_is;refine⟨⟨by show sw (λ_=>1) (W*m) (wsh L)=W*m;rw[ve W m,z8I λs hs=>(ok.2 s hs).1.dv, <- h3,zfs h2 (by lia)],by have:=ok.1.2;show (wsh L).length<=12;lia⟩,λs hs=>⟨?_,(ok.2 s hs).2⟩⟩;rw[ve];exact(ok.2 s hs).1.mul
 rintro Z ⟨J,x3,x4,x5,hl,⟨W,W0,V,H⟩,rfl⟩;ac_nf;rw[vK] at hl V;exact q J W W0 (V.le (by lia)) ⟨Nat.le_of_eq hl,λp hp=>⟨by have:=(H p hp).1.2;lia,λs hs=>((H p hp).2 s hs).1⟩⟩ hl λp hp=>⟨⟨(H p hp).1.2,λs hs=>((H p hp).2 s hs).2⟩,(H p hp).1.1⟩
def zdW {α g:Type}{l:List α}{m:List g}(h:m.length<=l.length){a:List Nat}{k:Nat}{r:List Nat}(e:List.range m.length=a++k::r):∃x y,k=a.length/\atI l (k:Int)=some x/\atI m (k:Int)=some y/\(l.zip m)[k]? = some (x,y):=by
 have b:=congrArg List.length e;have d:(List.range m.length)[a.length]? = some k:=by rw[e];simp
 rw[jY (by simp at b;lia)] at d;simp at b d;have f:k<m.length:=by lia
 refine⟨l[k],m[k],by lia,?_,?_,?_⟩
 .unfold atI;rw[z5t (by lia) (by lia)];show l[((k:Nat):Int).toNat]? = _;rw[show ((k:Nat):Int).toNat=k by simp,wf (by lia)]
 .unfold atI;rw[z5t (by lia) (by lia)];show m[((k:Nat):Int).toNat]? = _;rw[show ((k:Nat):Int).toNat=k by simp,wf f]
 .rw[wf (by rw[uQ];lia),jU]
def zdm {ws:List (List P × P)}{H:List (List Sh)}{W:Int}{Q:DK}{X:XP}(hw:∀x∈ws,Wt4 x)(hz:ws.length<=12)(hW:0<W)(U:Bt 1900 W)(hc:CrsS W ws H)(q:∀u v t,Pl ((ws.zip H).map (cX W)).sum ((ws.zip H).map (cY W)).sum W u v t->Q (.tup [.int u,.int v,.int t])):z11.run [.tup (ws.map wtD),.tup (H.map shsD)] Q X:=by
 have hl:=hc.len;have a7:(ws.zip H).length=H.length:=by rw[uQ];lia
 have zero:Pl 0 0 W 0 0 1:=⟨by decide,by decide,by simp,by simp⟩
 walk_at "fn";ac_nf;rw[wd];kmb_kw;rw[show ((H.length:Nat):Int).toNat=H.length by simp];refine z0A (f:=λ(j:Nat)=>D.int (j:Int)) (λN ρ=>∃(u v t:Int) (x3 x4 x5 x6:B),Pl (((ws.zip H).take N.length).map (cX W)).sum (((ws.zip H).take N.length).map (cY W)).sum W u v t/\ρ=[.s (.tup (ws.map wtD)),.s (.tup (H.map shsD)),.s (.tup [.int u,.int v,.int t]),x3,x4,x5,x6]) ⟨0,0,1,_,_,_,_,zero,rfl⟩ ?_ ?_
 .rintro N k r ρ e ⟨u,v,t,x3,x4,x5,x6,hp,rfl⟩;obtain⟨x,sh,ek,e1,e2,e3⟩:=zdW hl e;have hm:=wu e3;have hx:Wt4 x:=hw x (j8 hm).1;obtain⟨O,hs⟩:=hc.ok _ hm;dsimp only at O hs;obtain⟨bA,bB⟩:=z6f (n:=N.length) hw hz hW U hc;have nx:(ws.zip H).take (N++[k]).length=(ws.zip H).take N.length++[(x,sh)]:=by rw[wB,uC,jf, <- ek,e3];rfl
  rw[nx,wv,jG,wv,jG];generalize (((ws.zip H).take N.length).map (cX W)).sum=A at hp bA ⊢;generalize (((ws.zip H).take N.length).map (cY W)).sum=C at hp bB ⊢;have bits:∀l:List Sh,(∀s∈l,s∈sh)->l.length<=14->∀{u v t a b:Int},Pl (A+sw (wx x.1) W l) (C+sw (wy x.1) W l) W u v t->Pl (sw (λ_=>1) W l) 0 W a 0 b->Bt 1900 t/\Bt 2100 u/\Bt 2100 v/\Bt 1900 b/\Bt 1920 a:=λl hl a0 {u v t a b} h1 h2=>by
   have a3:∀s∈l,Sw W x.1.length s:=λs h=>hs s (hl s h);obtain⟨c1,c2,c3⟩:=h1.bt (n:=1900) (m:=2100) hW U (Bt.le (Bt.add bA (z9z a0 hW U a3 λi=>(cyb hx.ne hx.wb i).1))) (Bt.le (Bt.add bB (z9z a0 hW U a3 λi=>(cyb hx.ne hx.wb i).2)));obtain⟨c4,c5,_⟩:=h2.bt (n:=1900) (m:=1920) hW U (Bt.le (z9z (w:=λ_=>1) (m:=1) a0 hW U a3 λ_=>zdV)) (Bt.le (m:=0) (z05 (by decide)));exact⟨c1,c2,c3,c4,c5⟩
  w_up;ac_rfl;ac_nf;refine z1e (z0P e2) ?_;ac_nf;refine z0A (f:=shD) (λJ ρ=>∃(u v t a b:Int) (x5 x6:B),Pl (A+sw (wx x.1) W J) (C+sw (wy x.1) W J) W u v t/\Pl (sw (λ_=>1) W J) 0 W a 0 b/\ρ=[.s (.tup (ws.map wtD)),.s (.tup (H.map shsD)),.s (.tup [.int u,.int v,.int t]),.s (.int (k:Int)),.s (.tup [.int a,.int b]),x5,x6]) ⟨u,v,t,0,1,_,_,by simpa[sw] using hp,zero,rfl⟩ ?_ ?_
  .rintro J s r' ρ e' ⟨u,v,t,a,b,x5,x6,hp,R,rfl⟩;have K:=hs s (by rw[e'];simp);have L:=K.bot;obtain⟨a4,a5⟩:=K.bits hW U;have a6:J.length<=14:=by have:=congrArg List.length e';simp at this;lia
   obtain⟨Z,bu,bv,Y,V⟩:=bits J (λs h=>by rw[e'];simp[h]) a6 hp R;k_one;w_up;f_are;ac_rfl;ac_nf;refine z1e (z0P e1) ?_;ac_nf;refine z1e (z0P (z8w K.ix)) ?_;ac_nf;refine zaJ hp.pos L bu.le bv.le Z.le a4.le a5.le ⟨(cyb hx.ne hx.wb s.1).1.le,(cyb hx.ne hx.wb s.1).2.le⟩ λu' v' t' h' =>?_;k_in;ac_rfl;ac_nf;refine zfz R.pos L V.le Y.le a4.le a5.le λa' b' h2 =>?_;k_in;ac_rfl;refine⟨u',v',t',a',b',_,_,?_,?_,rfl⟩
   .rw[z6e,z6e, <- Int.add_assoc, <- Int.add_assoc];exact hp.more L (z9L K.dv) h'
   .rw[z6e];exact(R.more (vx:=1) (vy:=0) L (z9L K.dv) (by simpa using h2)).eq0
  rintro ρ ⟨u,v,t,a,b,x5,x6,hp,R,rfl⟩;obtain⟨Z,bu,bv,Y,V⟩:=bits sh (λs h=>h) O hp R;ac_nf;refine z1e (z0P e1) ?_;ac_nf;refine zaJ hp.pos R.pos bu.le bv.le Z.le V.le Y.le ⟨hx.vb.1.le,hx.vb.2.le⟩ λu' v' t' h' =>?_;k_in;ac_rfl;refine⟨u',v',t',_,_,_,_,?_,rfl⟩;have:=hp.more R.pos R.cx h';simpa[cX,cY,Int.add_assoc] using this
 rintro ρ ⟨u,v,t,x3,x4,x5,x6,hp,rfl⟩;rw[vK,ud (by lia)] at hp;ac_nf;exact q u v t hp
def z1a:Fn:=Fn.mkN 1 1 (.seq (.ifs (.op pEq [.op pMod [.op z0f [.v 0,.c (.int 0)],.c (.int 2)],.c (.int 1)]) (.ret (.op pIx [.op pLst [.c (.int 3),.c (.int 12),.op pPow [.c (.int 10),.c (.int 9)]],.op pMod [.op z1U [.op pIx [.v 0,.c (.int 0)],.c (.int 2)],.c (.int 3)]])) .skip)
 (.ret (.op pIx [.op pLst [.c (.int 3),.c (.int 3),.c (.int 12),.op pPow [.c (.int 10),.c (.int 9)]],.op z00 [.op z0f [.v 0,.c (.int 0)],.c (.int 1),.c (.int 4)]])))
open Mth
def z9F {ns:List Int}{Q:DK}{X:XP}(hz:ns.length<=63)(q:∀ws:List (List P × P),(∀x∈ws,Wt4 x 136)->ws.length<=12->tl ws<=60->Q (.tup (ws.map wtD))):z16.run [.lst (ns.map .int)] Q X:=by
 walk_at "fn";ac_nf;refine zaN (λb hb =>?_);ac_nf;refine z0Q (λh =>?_) (λ_ =>?_)
 .ac_nf;exact ze8 (hb h) hz q
 clear hb;ac_nf;ksr_p;ac_nf;refine menu (ns:=[3,3,12,10 ^ 9]) r0 r1 λm hm =>?_;have H:0<=m/\m<=10000000000000000000000000000000000000000:=by
  simp only[wj,wF,vS] at hm;lia
 clear hm;ac_nf;refine z0N (by decide) (by decide) (by decide) λr2 b0 b3 =>?_;ac_nf;refine zfr (λρ'=>∃d,Ln d/\ρ'=[.s (.lst (ns.map .int)),.s (.int b),.s (.int m),.s d,.n,.n,.n,.n,.n,.n]) ?_ ?_
 .w_tab
  .ac_nf;refine z0N (by decide) (by decide) (by decide) λu u0 u1 =>?_;ac_nf;refine z0N (by decide) (by decide) (by decide) λv v0 v1 =>?_;ac_nf;exact⟨_,.inr ⟨(u - 3,v - 3),rfl,⟨by show -3<=u - 3;lia,by show u - 3<=3;lia⟩,by show -3<=v - 3;lia,by show v - 3<=3;lia⟩,rfl⟩
  .ac_nf;exact⟨_,.inl rfl,rfl⟩
 rintro ρ' ⟨d,hd,rfl⟩;ac_nf;refine z0N (by decide) (by decide) (by decide) λr3 a4 a5 =>?_;ac_nf;refine menu (ns:=[3,3,5,12]) a4 a5 λmo U =>?_;have V:0<mo/\mo<=12:=by
  simp only[wj,wF,vS] at U;lia
 clear U;ac_nf;k_all;ac_rfl;ac_nf;refine z58 (λρ=>∃(ws:List (List P × P)) (a:Nat) (x7 x8 x9:B),(∀x∈ws,Wt4 x 136)/\ws.length<=12/\1<=a/\a<=100/\tl ws<a/\tl ws<=60/\ρ=[.s (.lst (ns.map .int)),.s (.int b),.s (.int m),.s d,.s (.int mo),.o (.lst (ws.map wtD)),.s (.int (a:Int)),x7,x8,x9]) (λρ=>(100 - nI ρ 6).toNat) ⟨[],1,_,_,_,λ_ z=>by(cases z),by simp,by simp,by simp,by simp[tl],by simp[tl],rfl⟩ ?_;rintro ρ ⟨ws,a,x7,x8,x9,O,J,a8,ha,a9,Z,rfl⟩;ac_nf;rw[wd,min2];lge_go
 .ac_nf;rw[wd];refine z0Q (λa0 =>?_) (λa0 =>?_)
  .obtain⟨c,_,N⟩:=z4j (xs:=ns) (i:=(a:Int)) (by lia) (by lia);ac_nf;refine z1e (z0P N) ?_;ac_nf;refine z0N (by decide) (by decide) V.1 λsz b6 b7 =>?_;ac_nf;obtain⟨k2,R,a6⟩:∃k2:Int,k2=(if 61<(a:Int)+(1+sz) then 61 else (a:Int)+(1+sz))/\(a:Int)<k2:=⟨_,rfl,by split <;> lia⟩
   rw[<- R,z3e];have e1:HT.sIx ns.length 0 (some (a:Int))=a:=by
    show (if (a:Int)<0 then ((a:Int)+(ns.length:Int)).toNat else min (a:Int).toNat ns.length)=_;rw[if_neg (by lia)];lia
   have e2:HT.sIx ns.length ns.length (some k2)=min k2.toNat ns.length:=by
    show (if k2<0 then (k2+(ns.length:Int)).toNat else min k2.toNat ns.length)=_;rw[if_neg (by lia)]
   rw[e1,e2];have Y:(ns.drop a).take (min k2.toNat ns.length - a)≠[]/\((ns.drop a).take (min k2.toNat ns.length - a)).length<=min 12 (min (1+sz.toNat) (61 - a)):=by
    refine⟨λw =>?_,by rw[w8,uY];split at R <;> lia⟩;have:=congrArg List.length w;rw[w8,uY,uO] at this;lia
   generalize (ns.drop a).take (min k2.toNat ns.length - a)=a7 at*;z_go;refine z4f (g:=vec) (P:=λ_ p=>Far 10000000000000000000000000000000000000000 p) (λc _ K hK =>?_) λL a3 hy =>?_
   .ac_nf;exact zdj H.1 H.2 hd hK
   refine z1x (λx hx =>?_) ?_
   .obtain⟨y,_,rfl⟩:=we.mp hx;exact Safe.of_noL rfl rfl _
   ac_rfl;ac_nf;refine z1e (z0P N) ?_;ac_nf;refine z0N (by decide) (by decide) (by decide) λr4 b4 b5 =>?_;ac_nf;refine zfr (λρ'=>∃s,Far 10000000000000000000000000000000000000000 s/\ρ'=[.s (.lst (ns.map .int)),.s (.int b),.s (.int m),.s d,.s (.int mo),.o (.lst (ws.map wtD)),.s (.int (a:Int)),.s (.int (1+sz)),.o (.lst (L.map vec)),.s (vec s)]) ?_ ?_
   .w_tab
    .ac_nf;refine z1e (z0P N) ?_;ac_nf;refine zdj H.1 H.2 hd λs hs =>?_;k_in;exact⟨s,hs,rfl⟩
    .ac_nf;exact⟨(0,0),by unfold Far;decide,rfl⟩
   rintro ρ' ⟨s,hs,rfl⟩;l_fitC;ac_nf;refine⟨by rw[wd];exact szl' (by lia),Safe.of_noL (z93 (L,s)) (z94 (L,s)) _,?_⟩;ac_rfl;ac_nf;refine⟨⟨ws++[(L,s)],a+(1+sz.toNat),.s (.int (1+sz)),.o (.lst (L.map vec)),.s (vec s),λx hx =>?_,by simp;lia,by lia,by lia,by rw[z4n];show _+L.length<_;lia,by rw[z4n];show _+L.length<=_;lia,?_⟩,?_⟩
   .rcases wp.mp hx with hx | hx
    .exact O x hx
    .rw[wg.mp hx];refine⟨λp hp =>?_,λz=>Y.1 (jr.mp (by rw[<- a3];exact congrArg List.length z)),by show L.length<=12;lia,(hs.vb (n:=134) (by decide)).le⟩;obtain⟨_,_,hf⟩:=hy p hp;exact(hf.vb (n:=134) (by decide)).le
   .rw[wv,show ((a+(1+sz.toNat):Nat):Int)=(a:Int)+(1+sz) by lia]
    rfl
   .show (100 - ((a:Int)+(1+sz))).toNat<(100 - (a:Int)).toNat
    lia
  .ac_nf;exact q ws O J Z
 .ac_nf;exact q ws O J Z
theorem zip_map {α d:Type}{f:α->D}{g:d->D}:∀{l:List α}{m:List d},((l.map f).zip (m.map g)).map (λp=>D.tup [p.1,p.2])=(l.zip m).map λp=>D.tup [f p.1,g p.2]
 | [],_=>by simp
 | _::_,[]=>by simp
 | a::l,b::m=>by
  have:=zip_map (f:=f) (g:=g) (l:=l) (m:=m);simp only[wC,List.zip_cons_cons];rw[this]
abbrev one:Nat->Int:=λ_=>1
def zar {w:Nat->Int}{W:Int}(s:Sh)(l:List Sh):sw w W (s::l)=w s.1*pt W s+sw w W l:=by simp[sw]
def zap {w:List P × P}(h:w.1≠[])(b:P):∃G,Geo.Far (· ∈ tr w) b G:=by
 obtain⟨a,d⟩:=z1M (l:=tr w) (b:=b) λz=>h (jt.mp z);obtain⟨c,f,e⟩:=we.mp a;exact⟨_,d,c,f,e⟩
def zgM (a:List (List Sh)):noL (.tup (a.map shsD))=true:=z37 λd b=>by(obtain⟨g,_,rfl⟩:=we.mp b;exact z7r g)
def zgN (a:List (List Sh)):noD (.tup (a.map shsD))=true:=z38 λd b=>by(obtain⟨g,_,rfl⟩:=we.mp b;exact z7s g)
def zhf (b:List (List Sh)){n:Nat}:Da (n+4) (.tup (b.map shsD)):=Da.tup.mpr λd a=>by
 obtain⟨g,_,rfl⟩:=we.mp a;refine Da.tup.mpr λd a =>?_;obtain⟨s,_,rfl⟩:=we.mp a;refine Da.tup.mpr λd a =>?_;simp only[wj,wF,vS] at a
 rcases a with rfl | rfl
 .exact Da.int
 .exact Da.vec s.2
def zhh {α:Type}{f:α->D}{l:List α}{x:α}:cutD ((l++[x]).map f) none (some (-1))=l.map f:=by
 rw[z3e,z6O];simp
def Tms (a b:Int)(s y:Sh):Prop:=y.1=s.1/\Pl (s.2.1*a) 0 (s.2.2*b) y.2.1 0 y.2.2
def ze0 {W a b:Int}{n:Nat}{s y:Sh}(d:0<W)(g:0<a)(m:a<=b)(h:Sw W n s)(le:s.2.1<=s.2.2)(k:Tms a b s y):Sw (W*b) n y/\pt (W*b) y=a*pt W s:=by
 obtain⟨e,pl⟩:=k;obtain⟨j,u,t⟩:=y;dsimp only at e pl;subst e;have o:0<b:=by lia
 have l:=z9L h.dv;obtain⟨r,_⟩:=h.pt_le d;have z:=h.bot;have x:pt W s<=W:=by
  have f:=wA le (wE d);rw[l,ve s.2.2] at f;exact uT f z
 have c:Pl (a*pt W s) 0 (W*b) u 0 t:=by
  refine⟨pl.pos,pl.cop,?_,by simp⟩;have p:=pl.cx;apply wY (show s.2.2≠0 by omega)
  calc u*(W*b)*s.2.2=u*(s.2.2*b)*W:=by grind
   _=s.2.1*a*t*W:=by rw[p]
   _=(s.2.1*W)*a*t:=by grind
   _=a*pt W s*t*s.2.2:=by rw[l];grind
 obtain⟨⟨f,_⟩,q⟩:=zbl (n:=n) (i:=s.1) (w3 d o) c (w3 g r) (by
  have:=wM x (wE g);have:=wA m (wE d)
  grind) h.ix
 exact⟨f,q⟩
theorem zaq {W a b:Int}(o:0<W)(j:0<a)(m:a<=b){n:Nat}:∀{l ys:List Sh},ys.length=l.length->(∀(i:Nat) (h:i<l.length),∃y,ys[i]? = some y/\Tms a b l[i] y)->(∀s∈l,Sw W n s/\s.2.1<=s.2.2)->(∀s∈ys,Sw (W*b) n s)/\∀w,sw w (W*b) ys=a*sw w W l
 | [],[],_,_,_=>⟨(λs d=>by cases d),λw=>by simp[sw]⟩
 | s::l,y::ys,r,h,d=>by
  obtain⟨y',e,k⟩:=h 0 (by simp);obtain rfl:y=y':=by simpa using e
  have k:Tms a b s y:=k;obtain⟨t,u⟩:=zaq o j m (n:=n) (l:=l) (ys:=ys) (by simpa using r) (λi A=>by
   obtain⟨y',e,k⟩:=h (i+1) (by simp;lia);exact⟨y',by simpa using e,by simpa using k⟩) λx f=>d x (by simp[f])
  obtain⟨p,q⟩:=ze0 o j m (d s (by simp)).1 (d s (by simp)).2 k;refine⟨λz g =>?_,λw =>?_⟩
  .rcases wj.mp g with rfl | g
   .exact p
   .exact t z g
  .rw[zar,zar,u,q,k.1]
   grind
def zca {H:List (List Sh)}{W c:Int}{Q:DK}{X:XP}(hz:H.length<=12)(R:0<W)(V:Bt 90 W)(hc:∀g∈H,g.length<=12/\∃n,∀s∈g,Sw W n s/\s.2.1<=s.2.2)(q0:Q (.tup (([]:List (List Sh)).map shsD)))
  (q1:∀m g a b g',H[m]? = some g->0<a->a<=b->b<=7->g'.length=g.length->(∀n,(∀s∈g,Sw W n s/\s.2.1<=s.2.2)->(∀s∈g',Sw (W*b) n s)/\∀w,sw w (W*b) g'=a*sw w W g)->Q (.tup ((H.take m++[g']).map shsD))):z10.run [.tup (H.map shsD),.int c] Q X:=by
 walk_at "fn";ac_nf;rw[wd];o_src;ac_nf;rw[z7J r0];refine zeD (l:=(H.take r.toNat).map shsD) (r:=[]) (zhf _) (zhf []) ?_
 rcases List.eq_nil_or_concat (H.take r.toNat) with e | ⟨co0,g,e⟩
 .rw[e];x_run;ac_nf;exact q0
 rw[List.concat_eq_append] at e;obtain⟨m,O⟩:∃m,r.toNat=m+1:=by
  cases h:r.toNat with
  | zero=>rw[h] at e;simp at e
  | succ m=>exact⟨m,rfl⟩
 have L:H[m]? = some g/\H.take m=co0:=by
  have hl:=congrArg List.length e;rw[w8,wB,uC,O] at hl;have hm:m<H.length:=by lia
  rw[O,jf,wf hm] at e;obtain⟨h1,h2⟩:=List.append_inj' e rfl;exact⟨by rw[wf hm];exact congrArg some (by simpa using h2),h1⟩
 rw[e];have hg:=wu L.1;obtain⟨gl,n,gs⟩:=hc g hg;rw[show deq (.tup ((co0++[g]).map shsD)) (.tup [])=false by cases co0 <;> rfl];refine z4p ?_;ac_nf;refine z0N (by decide) (by decide) (by decide) λb b0 b1 =>?_;ac_nf;refine z0N (by decide) (by decide) (by lia) λa a0 a1 =>?_;ac_nf;have el:atI ((co0++[g]).map shsD) (-1)=some (shsD g):=by
  have e:=zf9 (l:=(co0++[g]).map shsD) (k:=0) (by simp);rw[show (((0:Nat):Int) - 1) = -1 by decide] at e;rw[e,wP (by simp)];simp
 refine z1e el ?_;ac_nf;z_go;refine z3v (f:=shD) (g:=shD) (P:=Tms (1+a) (1+b)) (λs hs K hK =>?_) λN J hy =>?_
 .obtain⟨U,_⟩:=gs s hs;have s0:=U.bot;obtain⟨c1,Y⟩:=U.bits R V;have c3:Bt 64 (1+a):=z05 (by omega);have Z:Bt 64 (1+b):=z05 (by omega);k_one;f_are;ac_rfl;ac_nf;refine z8Q (w3 s0 (by lia)) (Bt.le (Bt.mul Y Z)) λu w pl =>?_;ac_nf;exact hK (s.1,u,w) ⟨rfl,pl⟩
 ac_nf;rw[zhh];refine z92 (by rw[wd];have:=congrArg List.length L.2;rw[w8] at this;exact Wk (szl' (by simp;lia))) ?_;rw[show co0.map shsD++[.tup (N.map shD)]=(H.take m++[N]).map shsD by rw[L.2];simp];exact q1 m g (1+a) (1+b) N L.1 (by lia) (by lia) (by lia) J λn hn=>zaq R (by lia) (by lia) J hy hn
def z1P:Fn:=Fn.mkN 3 5 (.seq (.ifs (.op pEq [.op pMod [.v 1,.c (.int 2)],.c (.int 1)]) (.ret (.op z0e [.op z1U [.v 1,.c (.int 2)],.v 2])) .skip)
 (.seq (.set 3 (.op z10 [.op z0s [.v 0,.v 1],.v 1]))
 (.seq (.set 4 (.op z11 [.v 0,.v 3]))
 (.seq (.ifs (.op pEq [.op z00 [.v 1,.c (.int 65),.c (.int 3)],.c (.int 0)]) (.set 4 (.op z1v [.sl (.v 0) none (some (.op pLen [.v 3])),.op pAdd [.v 1,.c (.int 5)],.v 2])) .skip)
 (.ret (.v 4))))))
open Mth
def Pl.pd {x y b u v t:Int}(h:Pl x y b u v t)(f:0<b)(d:Bt 100 b)(e:Bt 290 x)(a:Bt 290 y):Pd u v t 290:=by
 obtain⟨g,i,j⟩:=h.bt f d e a;exact⟨h.pc f d.le e.le a.le,i,j,g⟩
def z3X {c m:Int}{Q:DK}{X:XP}(U:0<m)(h1:m<=10000000000000000000000000000000000000000)(q:∀u v t,Pd u v t 290->Q (.tup [.int u,.int v,.int t])):z0e.run [.int c,.int m] Q X:=by
 have O:Bt 135 (m+1):=z05 (by lia);walk_at "fn";ac_nf;obtain⟨w,H,J,V⟩:∃w,w=80*(m+1)+1/\0<w/\w<100000000000000000000000000000000000000000000:=⟨_,rfl,by lia,by lia⟩
 rw[<- H];clear H;have R:Bt 9000 w:=Bt.le (m:=150) (z05 (by lia));ac_nf;have a1:=jF c (show w≠0 by lia);have a2:=u6 c J;have K:=jF (c / w) (show w≠0 by lia);have L:=u6 (c / w) J;have N:0<=c / w / w % 60/\c / w / w % 60<60:=by lia
 generalize c % w=x at*;generalize c / w % w=y at*;generalize c / w / w % 60=z at*;refine zaH (by lia) (Bt.le (m:=10) (z05 (by lia))) λu v t h =>?_;exact q u v t (h.pd (by lia) (Bt.le (m:=10) (z05 (by lia))) (Bt.le (m:=150) (z05 (by lia))) (Bt.le (m:=150) (z05 (by lia))))
def ze7 {ws:List (List P × P)}{c m:Int}{Q:DK}{X:XP}(hw:∀x∈ws,Wt4 x)(hz:ws.length<=12)(Y:0<m)(h1:m<=10000000000000000000000000000000000000000)(q:∀u v t,Pd u v t 290->Q (.tup [.int u,.int v,.int t])):z1v.run [.tup (ws.map wtD),.int c,.int m] Q X:=by
 have bm:Bt 135 (1+m):=z05 (by lia);walk_at "fn";ac_nf;w_tab
 .ac_nf;exact z3X Y h1 q
 ac_nf;refine z7c hw hz λco W K L hc _ _ =>?_;obtain⟨N,O⟩:=z6f (n:=100) hw hz K L hc;rw[ud (by rw[uQ];lia)] at N O;refine zdm hw hz K L.le hc λu v t hp =>?_;k_in;ac_rfl;have R:Pd u v t 290:=hp.pd K L.le N.le O.le;obtain⟨H,U,V⟩:=hp.bt K L N O;ac_nf;ksr_p;ac_nf;refine z0Q (λ_ =>?_) (λhr =>?_)
 .ac_nf;exact q u v t R
 ac_nf;refine menu (ns:=[1,1+m,40*(1+m)]) (by lia) (by show r - 3<3;lia) λs hs =>?_;have Z:0<s/\s<=10000000000000000000000000000000000000000000:=by
  simp only[wj,wF,vS] at hs;lia
 clear hs;have bs:Bt 145 s:=z05 (by lia);ac_nf;refine z0N (by decide) (by decide) (by lia) λx x0 x1 =>?_;ac_nf;refine z0N (by decide) (by decide) (by lia) λy y0 y1 =>?_;ac_nf;refine z0N (by decide) (by decide) (by decide) λz z0 z1 =>?_;ac_nf;refine z8Q (by lia) (Bt.le (m:=10) (z05 (by lia))) λa b J =>?_;obtain⟨b1,b2,_⟩:=J.bt (n:=10) (m:=10) (by lia) (z05 (by lia)) (z05 (by decide)) (z05 (by decide));have vs:Vb 149 (x - s,y - s):=⟨z05 (by show (x - s).natAbs<2 ^ 149;lia),z05 (by show (y - s).natAbs<2 ^ 149;lia)⟩
 refine zaJ (p:=(x - s,y - s)) R.pc.pos J.pos U.le V.le H.le b2.le b1.le ⟨vs.1.le,vs.2.le⟩ λu' v' t' h' =>?_;refine q u' v' t' (h'.pd (w3 R.pc.pos J.pos) (Bt.le (Bt.mul H b1)) (Bt.le (Bt.add (Bt.mul U b1) (Bt.mul (Bt.mul vs.1 b2) H))) (Bt.le (Bt.add (Bt.mul V b1) (Bt.mul (Bt.mul vs.2 b2) H))))
def Whl (W:Int)(b:List (List Sh)):Prop:=b=[]\/∃a g,b=a++[g]/\(∀d∈a,sw one W d=W)/\sw one W g<=W
def zc7 {ws:List (List P × P)}{co:List (List Sh)}{W c:Int}{Q:DK}{X:XP}(hz:ws.length<=12)(C:0<W)(F:Bt 85 W)(o:CrsS W ws co)(hl:co.length=ws.length)(t:∀p∈ws.zip co,(p.2.length<=12/\∀s∈p.2,s.2.1<=s.2.2)/\sw one W p.2=W)
  (q:∀d u,0<u->Bt 95 u->CrsS u ws d->Whl u d->Q (.tup (d.map shsD))):z10.run [.tup (co.map shsD),.int c] Q X:=by
 have f:∀g∈co,∃w,(w,g)∈ws.zip co:=λg r=>by
  obtain⟨i,L,e⟩:=uP r;exact⟨ws[i],wu (i:=i) (by rw[wf (by rw[uQ];lia),jU,e])⟩
 have all:∀g∈co,sw one W g=W:=λg r=>by
  obtain⟨w,hp⟩:=f g r;exact(t _ hp).2
 refine zca (by lia) C F.le (λg r =>?_) ?_ λm g a b A I Z N b7 gl V =>?_
 .obtain⟨w,hp⟩:=f g r;exact⟨(t _ hp).1.1,_,λs h=>⟨(o.ok _ hp).2 s h,(t _ hp).1.2 s h⟩⟩
 .exact q [] W C F.le ⟨by simp,by simp⟩ (.inl rfl)
 .have O:0<b:=by lia
  obtain⟨hm,T⟩:=wo.mp I;obtain⟨w,G⟩:∃w,ws[m]? = some w:=⟨_,wf (by lia)⟩
  have E:(co.take m).length=m:=by rw[w8];lia
  have U:=z4W (y:=A) (l:=ws) (m:=co.take m) (x:=w) (by rw[E];exact G);have sub:∀p∈ws.zip (co.take m),p∈ws.zip co:=λp hp=>by
   have k:=z4W (y:=g) (l:=ws) (m:=co.take m) (x:=w) (by rw[E];exact G);obtain⟨i,L,e⟩:=uP hp;rw[uQ,E] at L;refine wu (i:=i) ?_;rw[wf (by rw[uQ];lia), <- e,jU,jU,List.getElem_take]
  have j:(w,g)∈ws.zip co:=by
   refine wu (i:=m) ?_;have Y:=(wo.mp G).2;rw[wf (by rw[uQ];lia),jU,Y,T]
  obtain⟨R,S⟩:=V w.1.length λs h=>⟨(o.ok _ j).2 s h,(t _ j).1.2 s h⟩
  refine q (co.take m++[A]) (W*b) (w3 C O) (Bt.le (Bt.mul F (z05 (n:=3) (by omega)))) ⟨by rw[wB,E,uC];lia,λp hp =>?_⟩ (.inr ⟨co.take m,A,rfl,λJ H =>?_,?_⟩)
  .rw[U] at hp
   rcases wp.mp hp with z | z
   .exact⟨(o.ok p (sub p z)).1,λs h=>((o.ok p (sub p z)).2 s h).mul⟩
   .ks_is;have:=(t _ j).1.1;exact⟨by show A.length<=14;lia,R⟩
  .have K:=wU H;obtain⟨w2,hp⟩:=f J K;rw[z8I λs h=>((o.ok _ hp).2 s h).dv,all J K]
  .rw[S,all g (wu I),ve];exact wM N (wE C)
def zfG {ws:List (List P × P)}{c m:Int}{Q:DK}{X:XP}(hw:∀x∈ws,Wt4 x)(hz:ws.length<=12)(Z:0<m)(h1:m<=10000000000000000000000000000000000000000)(q:∀u v t,Pd u v t 290->Q (pcD u v t)):z1P.run [.tup (ws.map wtD),.int c,.int m] Q X:=by
 walk_at "fn";ac_nf;w_tab
 .ac_nf;exact z3X Z h1 q
 ac_nf;refine z7c hw hz λa0 W0 N J O R U =>?_;ac_nf;refine zc7 hz N J O R U λK W L H hc _ =>?_;refine z0w (Safe.of_noL (zgM _) (zgN _) _) ?_;ac_rfl;ac_nf;refine zdm hw hz L H.le hc λu v t pl =>?_;obtain⟨V,Y⟩:=z6f (n:=(ws.zip K).length) hw hz L H hc;rw[List.take_length] at V Y;have pd:Pd u v t 290:=pl.pd L H.le V.le Y.le;ac_nf;refine z0N (by decide) (by decide) (by decide) λr _ _ =>?_;ac_nf;w_tab
 .ac_nf;rw[wd,z7J (by omega),show ((K.length:Nat):Int).toNat=K.length by simp];refine ze7 (λx hx=>hw x (wU hx)) (by rw[w8];lia) Z h1 λu v t pd =>?_;k_in;ac_rfl;ac_nf;exact q u v t pd
 .ac_nf;exact q u v t pd
def z0K:Fn:=Fn.mkN 2 3 (.seq (.set 2 (.op z4a [.v 0,.v 1]))
 (.seq (.ifs (.and (.op (pIsi "tuple") [.v 2]) (.and (.op pEq [.op pLen [.v 2],.c (.int 2)]) (.op pEq [.op pIx [.v 2,.c (.int 0)],.c (.str "never")]))) (.ret (.op pTup [.c (.int 0),.c (.int 0)])) .skip)
 (.seq (.ifs (.or (.not (.op (pIsi "tuple") [.v 2])) (.or (.op pNe [.op pLen [.v 2],.c (.int 4)]) (.op pNe [.op pIx [.v 2,.c (.int 0)],.c (.str "at")]))) (.ret (.c .non)) .skip)
 (.ret (.op pIx [.v 2,.c (.int 1)])))))
def z0y:Fn:=Fn.mkN 1 1 (.ret (.op pTup [.op z0a [.c (.int 2),.op pIx [.v 0,.c (.int 0)]],.op z0a [.c (.int 2),.op pIx [.v 0,.c (.int 1)]]]))
def z3c:Fn:=Fn.mkN 1 11 (.seq (.set 1 (.sl (.op z16 [.v 0]) none (some (.c (.int 5)))))
 (.seq (.ifs (.op pGt [.op z1a [.v 0],.c (.int 12)]) (.set 1 (.op pTup [])) .skip)
 (.seq (.own 2 (.op pLst []))
 (.seq (.own 3 (.op pLst []))
 (.seq (.for_ [] (.tp [4,5]) (.v 1) (.seq (.app 2 (.op pTup [.op z12 [.comp 1 [] (.nm 0) (.v 4) none (.op z0y [.v 0])],.op z0y [.v 5]]))
 (.ext 3 (.op pLst [.op pTup [.v 4,.v 5],.op pTup [.v 4,.v 5]]))))
 (.seq (.ifs (.not (.op z0m [.op z2Z [.op z12 [.v 3]],.op z2Z [.op z12 [.v 2]]])) (.ret (.c (.bl false))) .skip)
 (.seq (.for_ [] (.nm 6) (.sl (.op pAdd [.op pLst [.c (.int 0)],.v 0]) (some (.op pNeg [.c (.int 3)])) none) (.seq (.set 7 (.op z1P [.v 1,.v 6,.op z1a [.v 0]]))
 (.seq (.set 8 (.op z02 [.op pLst [.op z0a [.c (.int 2),.op pIx [.v 7,.c (.int 0)]],.op z0a [.c (.int 2),.op pIx [.v 7,.c (.int 1)]],.op pIx [.v 7,.c (.int 2)]]]))
 (.seq (.set 9 (.op z0K [.op z12 [.v 2],.v 8]))
 (.seq (.set 10 (.op z0K [.op z12 [.v 3],.v 8]))
 (.seq (.ifs (.or (.op pIs [.v 9,.c .non]) (.op pIs [.v 10,.c .non])) (.ret (.c (.bl false))) .skip)
 (.ifs (.op pEq [.v 9,.op pTup [.c (.int 0),.c (.int 0)]]) (.ifs (.op pNe [.v 10,.op pTup [.c (.int 0),.c (.int 0)]]) (.ret (.c (.bl false))) .skip) (.ifs (.not (.op z0m [.v 10,.op z02 [.op pLst [.op z0a [.c (.int 2),.op pIx [.v 9,.c (.int 0)]],.op pIx [.v 9,.c (.int 1)]]]])) (.ret (.c (.bl false))) .skip))))))))
 (.ret (.c (.bl true))))))))))
open Mth
def Rk (ws:List (List P × P))(x y t:Int)(k:Nat)(p r:Int):Prop:=∃w,ws[k]? = some w/\Rw (MS (ws.take k)) (· ∈ tr w) x y t p r
def Mo (ws:List (List P × P))(x y t a n:Int):Prop:=∃(k:Nat) (p:Int),0<=p/\p<=n/\a=(k:Int)*n+p/\Rk ws x y t k p n
def dw (x:List P × P):List P × P:=(x.1.map (Geo.sca 2),Geo.sca 2 x.2)
def twc:List (List P × P)->List (List P × P)
 | []=>[]
 | x::l=>x::x::twc l
theorem zai:∀(l m:List (List P × P)),twc (l++m)=twc l++twc m
 | [],_=>rfl
 | x::l,m=>by simp only[twc,uW,zai l m]
theorem z80:∀l:List (List P × P),(twc l).length=2*l.length
 | []=>rfl
 | x::l=>by simp only[twc,wI,z80 l];omega
theorem zde:∀l:List (List P × P),tl (twc l)=2*tl l
 | []=>rfl
 | x::l=>by
  have:=zde l;simp only[tl,twc,wC,vc] at*;omega
def zhy (l:List (List P × P)):tl (l.map dw)=tl l:=by
 unfold tl;rw[wR]
 congr 1
 exact v7 λx _=>wd _
theorem zah:∀{l:List (List P × P)}{x},x∈twc l->x∈l
 | y::l,x,h=>by
  rcases wj.mp h with rfl | h
  .simp
  rcases wj.mp h with rfl | h
  .simp
  exact wn _ (zah h)
theorem z4X:∀(l:List (List P × P)) (k:Nat),(twc l).take (2*k)=twc (l.take k)
 | [],k=>by simp[twc]
 | x::l,0=>by simp[twc]
 | x::l,k+1=>by
  rw[show 2*(k+1)=2*k+1+1 by omega];simp only[twc,List.take_succ_cons,z4X l k]
theorem z6Z:∀(l:List (List P × P)) (k:Nat),(twc l)[2*k]? = l[k]? /\ (twc l)[2*k+1]? = l[k]?
 | [],k=>by simp[twc]
 | x::l,0=>by simp[twc]
 | x::l,k+1=>by
  have:=z6Z l k;rw[show 2*(k+1)=2*k+1+1 by omega];simpa only[twc,uJ] using this
def zdi (p b:P):Geo.sc (Geo.sca 2 p) b=2*Geo.sc p b:=by simp only[Geo.sc,Geo.sca];grind
def zbG {x:List P × P}{b:P}{G:Int}(h:Geo.Far (· ∈ tr x) b G):Geo.Far (· ∈ tr (dw x)) b (2*G):=by
 have e:∀a:P,mv (Geo.sca 2 x.2) (Geo.sca 2 a)=Geo.sca 2 (mv x.2 a):=λa=>by
  simp only[mv,Geo.sca];exact vG (by grind) (by grind)
 obtain⟨g,p,hp,f⟩:=h;refine⟨λq j =>?_,Geo.sca 2 p,?_,by rw[zdi,f]⟩
 .obtain⟨c,i,rfl⟩:=we.mp j;obtain⟨a,d,rfl⟩:=we.mp i;show Geo.sc (mv (Geo.sca 2 x.2) (Geo.sca 2 a)) b<=_;rw[e,zdi];have:=g _ (uy d);omega
 .obtain⟨a,d,rfl⟩:=we.mp hp;exact we.mpr ⟨_,uy d,e a⟩
theorem tri (b:P):∀(ws:List (List P × P)),(∀x∈ws,x.1≠[])->∃F,Geo.Far (MS ws) b F/\Geo.Far (MS (ws.map dw)) b (2*F)/\Geo.Far (MS (twc ws)) b (2*F)
 | [],_=>⟨0,z8r,z8r,z8r⟩
 | w::ws,h=>by
  obtain⟨F,a,d,e⟩:=tri b ws λx f=>h x (wn _ f);obtain⟨G,g⟩:=zap (h w wq) b;refine⟨G+F,z54 a g,?_,?_⟩
  .rw[Int.mul_add];exact z54 d (zbG g)
  .rw[show 2*(G+F)=G+(G+2*F) by omega];exact z54 (z54 e g) g
def zce {a d:P->Prop}{x y t p r:Int}(h:∀b,∃F G,Geo.Far a b F/\Geo.Far d b G/\r*dot (x,y) b<=t*(r*F+p*G)):Rw a d x y t p r:=λb F G f g=>by
 obtain⟨k,l,i,j,e⟩:=h b;rw[z9o f i,z9o g j];exact e
def zdF {ws:List (List P × P)}{x y t a n:Int}(hw:∀x∈ws,x.1≠[])(h:Mo (ws.map dw) x y t a n):Mo (twc ws) x y t (2*a) n:=by
 obtain⟨k,p,r,s,rfl,u,d,h⟩:=h;rw[wN] at d
 cases z:ws[k]? with
 | none=>rw[z] at d;cases d
 | some w=>
  rw[z] at d;obtain rfl:=wQ d;have i:∀x∈ws.take k,x.1≠[]:=λx q=>hw x (wU q);have key:∀b,∃F G,Geo.Far (MS (twc (ws.take k))) b (2*F)/\Geo.Far (· ∈ tr w) b G/\n*dot (x,y) b<=t*(n*(2*F)+p*(2*G)):=λb=>by
   obtain⟨F,_,m,o⟩:=tri b _ i;obtain⟨G,g⟩:=zap (hw w (wu z)) b;exact⟨F,G,o,g,h b _ _ (by rw[<- List.map_take];exact m) (zbG g)⟩
  obtain⟨j,l⟩:=z6Z ws k
  by_cases c:2*p<=n
  .refine⟨2*k,2*p,by omega,c,by grind,w,j.trans z,zce λb =>?_⟩;obtain⟨F,G,f,g,e⟩:=key b;exact⟨_,G,by rw[z4X];exact f,g,by rw[show n*(2*F)+2*p*G=n*(2*F)+p*(2*G) by grind];exact e⟩
  .refine⟨2*k+1,2*p - n,by omega,by omega,by grind,w,l.trans z,zce λb =>?_⟩;obtain⟨F,G,f,g,e⟩:=key b;exact⟨_,G,z6K (j.trans z) (by rw[z4X];exact f) g,g,by rw[show n*(2*F+G)+(2*p - n)*G=n*(2*F)+p*(2*G) by grind];exact e⟩
def zgQ {ws:List (List P × P)}{x y t a n:Int}(hw:∀x∈ws,x.1≠[])(h:Mo (twc ws) x y t a n):Mo (ws.map dw) x y t a (2*n):=by
 obtain⟨j,p,s,u,rfl,w,m,h⟩:=h;have d:∀{k:Nat},ws[k]? = some w->(ws.map dw)[k]? = some (dw w):=λe=>by rw[wN,e];rfl
 have key:∀{k:Nat},ws[k]? = some w->∀b,∃F G,Geo.Far (MS ((ws.map dw).take k)) b (2*F)/\Geo.Far (MS ((twc ws).take (2*k))) b (2*F)/\Geo.Far (· ∈ tr w) b G/\Geo.Far (· ∈ tr (dw w)) b (2*G):=λ{k} e b=>by
  obtain⟨F,_,f,i⟩:=tri b (ws.take k) λx r=>hw x (wU r);obtain⟨G,g⟩:=zap (hw w (wu e)) b;exact⟨F,G,by rw[<- List.map_take];exact f,by rw[z4X];exact i,g,zbG g⟩
 rcases Nat.mod_two_eq_zero_or_one j with z | z
 .obtain⟨k,rfl⟩:∃k,j=2*k:=⟨j / 2,by omega⟩
  have e:=(z6Z ws k).1.symm.trans m;refine⟨k,p,s,by omega,by grind,_,d e,zce λb =>?_⟩;obtain⟨F,G,f,i,g,l⟩:=key e b;refine⟨_,_,f,l,?_⟩;have:=h b _ _ i g;have o:2*n*dot (x,y) b=2*(n*dot (x,y) b):=by grind
  have q:t*(2*n*(2*F)+p*(2*G))=2*(t*(n*(2*F)+p*G)):=by grind
  omega
 .obtain⟨k,rfl⟩:∃k,j=2*k+1:=⟨j / 2,by omega⟩
  have e:=(z6Z ws k).2.symm.trans m;refine⟨k,n+p,by omega,by omega,by grind,_,d e,zce λb =>?_⟩;obtain⟨F,G,f,i,g,l⟩:=key e b;refine⟨_,_,f,l,?_⟩;have:=h b _ _ (z6K ((z6Z ws k).1.trans e) i g) g;have o:2*n*dot (x,y) b=2*(n*dot (x,y) b):=by grind
  have q:t*(2*n*(2*F)+(n+p)*(2*G))=2*(t*(n*(2*F+G)+p*G)):=by grind
  omega
theorem zdD:∀{ws:List (List P × P)}{q:P},MS (ws.map dw) q->MS (twc ws) q
 | [],_,h=>h
 | w::ws,q,⟨a,d,r,i,e⟩=>by
  obtain⟨c,g,rfl⟩:=we.mp d;obtain⟨v,b,rfl⟩:=we.mp g;refine⟨_,uy (f:=mv w.2) b,_,⟨_,uy (f:=mv w.2) b,r,zdD i,rfl⟩,?_⟩;rw[e];simp only[mv,dw,Geo.sca,Geo.pl];exact vG (by grind) (by grind)
def zci {ws:List (List P × P)}{a h2:List P}(hw:∀x∈ws,x.1≠[])(i:z03 (MS (twc ws)) a)(d:z03 (MS (ws.map dw)) h2):a=h2:=by
 refine i.unique (zbu d (λp hp=>zdD (d.sub p hp)) λp hp b =>?_);obtain⟨F,_,f,g⟩:=tri b ws hw;obtain⟨_,c,h,e⟩:=f;refine⟨c,h,?_⟩;have:=g.1 p hp;show Geo.sc p b<=Geo.sc c b;omega
def zi6 {x y:Str}{Q:DK}{X:XP}(q:Q (.bl (!decide (x=y)))):pNe.run [.str x,.str y] Q X:=q
def Pl.eqv {x y b u v t x' y' b':Int}(f:0<b)(h:Pl x y b u v t)(a:x*b'=x'*b)(d:y*b'=y'*b):Pl x' y' b' u v t:=by
 have e:∀{u x x':Int},u*b=x*t->x*b'=x'*b->u*b'=x'*t:=λ{u x x'} a d=>by
  apply wY (show b≠0 by omega)
  calc u*b'*b=(u*b)*b':=by grind
   _=(x*b')*t:=by rw[a];grind
   _=x'*t*b:=by rw[d];grind
 exact⟨h.pos,h.cop,e h.cx a,e h.cy d⟩
inductive Oc (M:Int->Int->Prop) (z:Prop):Int->Int->Prop
 | zero (h:z):Oc M z 0 1
 | att (a n u v:Int) (h:¬ z) (a0:0<a) (n0:0<n) (i:M a n) (b:∀a' n',0<n'->M a' n'->a*n'<=a'*n) (pl:Pl a 0 n u 0 v) (ba:Bt 500 a) (bn:Bt 500 n):Oc M z u v
 | never (h:¬ z) (s:∀a n,0<n->¬ M a n):Oc M z 0 0
def z8O {ws:List (List P × P)}{x y t:Int}{Q:DK}{X:XP}(hw:∀x∈ws,Wt4 x)(hz:ws.length<=12)(ht:tl ws<=120)(pd:Pd x y t)(q:∀u v,Oc (Mo ws x y t) (x=0/\y=0) u v->Q (vec (u,v))):z0K.run [.tup (ws.map wtD),pcD x y t] Q X:=by
 have nz:(x,y)≠((0:Int),(0:Int))->¬ (x=0/\y=0):=λn z=>n (by rw[z.1,z.2]);walk_at "fn";refine zaM (λρ'=>∃u v N H,noLs N=true/\noDs N=true/\noLs H=true/\noDs H=true/\((Q (vec (u,v))/\ρ'=[.s (.tup (ws.map wtD)),.s (pcD x y t),.s (atD u v N H)])\/Q (vec (0,0))/\ρ'=[.s (.tup (ws.map wtD)),.s (pcD x y t),.s (nvD H)])) ?_ ?_
 .ac_nf;refine zaF hw hz (vd ht (by decide)) pd (λe1 e2 e3 =>?_) (λk w p r u v N H Z ne p0 pr a3 O a0 K best pl n1 R n3 n4 =>?_) λne K H n1 R =>?_
  .exact⟨Safe.of_noL rfl rfl _,0,1,[],[],rfl,rfl,rfl,rfl,.inl ⟨q _ _ (.zero ⟨e1,e2⟩),rfl⟩⟩
  .refine⟨Safe.of_noL ?_ ?_ _,u,v,N,H,n1,R,n3,n4,.inl ⟨q _ _ (.att ((k:Int)*r+p) r u v (nz ne) ?_ (by omega) ⟨k,p,by omega,pr,rfl,w,Z,a0⟩ ?_ (by rw[Int.mul_one,Int.one_mul] at pl;exact pl) ?_ O.2.le),rfl⟩⟩
   .show (true && ((true && (true && true)) && (noLs N && (noLs H && true))))=true;rw[n1,n3];rfl
   .show (true && ((true && (true && true)) && (noDs N && (noDs H && true))))=true;rw[R,n4];rfl
   .have:=wJ (show 0<=(k:Int) by omega) (show 0<=r by omega);omega
   .rintro _ n U ⟨j,V,J,Y,rfl,w',L,h⟩
    rcases uN j k with z | z | z
    .exact absurd h (K j z w' L V n J Y U)
    .subst z;obtain rfl:w=w':=wQ (Z.symm.trans L);have:=best V n J Y U h
     grind
    .have h1:((k:Int)+1)*r<=(j:Int)*r:=wA (by omega) (by omega);have h2:(k:Int)*r+p<=(j:Int)*r:=by grind
     have h3:=wA h2 (wE U);have h4:=wJ J (show 0<=r by omega)
     grind
   .have:=(wo.mp Z).1;exact Bt.le (Bt.add (Bt.mul (z05 (n:=8) (by omega)) O.2) O.1)
  .refine⟨Safe.of_noL ?_ ?_ _,0,1,[],H,rfl,rfl,n1,R,.inr ⟨q _ _ (.never (nz ne) ?_),rfl⟩⟩
   .show (true && (noLs H && true))=true;rw[n1];rfl
   .show (true && (noDs H && true))=true;rw[R];rfl
   .rintro _ n U ⟨j,V,J,Y,rfl,w',L,h⟩;exact K j w' L V n J Y U h
 rintro ρ ⟨u,v,N,H,n1,R,n3,n4,⟨h,rfl⟩ | ⟨h,rfl⟩⟩
 .ac_nf;x_run;ac_nf;refine t_no (by simp) ?_;ac_nf;refine z4o (z4q rfl ?_);ac_nf;refine z4o (z71 rfl ?_);ac_nf;refine zi6 ?_;refine z4o (z71 rfl ?_);ac_nf;exact h
 .ac_nf;x_run;ac_nf;refine z71 rfl ?_;ac_nf;refine zic ?_;refine z71 rfl ?_;ac_nf;exact h
def z4Z {n:Nat}{a:Int}{Q:DK}{X:XP}(q:Q (.bl true)):(z01 (n+1)).run [.int a,.int a] Q X:=by
 walk_at "fn";ac_nf;k_get;ac_nf;k_get;ac_nf;k_get;ac_nf;k_get;ac_nf;x_run;ac_nf;refine z4o (z4r rfl ?_);ac_nf;rw[vU (show a=a from rfl)];f_int
def z6j {n:Nat}{l:List D}{Q:DK}{X:XP}(hz:l.length<=1000)(H:∀d∈l,∀(Q:DK) (X:XP),Q (.bl true)->(z01 n).run [d,d] Q X)(q:Q (.bl true)):(z01 (n+1)).run [.tup l,.tup l] Q X:=by
 walk_at "fn";ac_nf;x_run;ac_nf;refine z4o (z4q rfl ?_);ac_nf;refine z4o (z71 rfl ?_);ac_nf;refine z52 (by omega) (by omega) ?_;rw[show ((l.length:Nat):Int).toNat=l.length by simp];ac_nf;refine⟨by rw[wd,vK];exact szl (by omega),?_⟩;refine z1b (f:=λ(j:Nat)=>D.int (j:Int)) (g:=λ_ =>.bl true) (λk hk K h =>?_) ?_
 .have hk:=vI.mp hk;obtain⟨d,hd,ed⟩:=z4j (xs:=l) (i:=(k:Int)) (by omega) (by omega);ac_nf;refine z1e ed ?_;ac_nf;refine z1e ed ?_;ac_nf;exact H d hd _ _ h
 rw[show (List.range l.length).map (λ_=>D.bl true)=((List.range l.length).map λ_=>true).map .bl by rw[wR];rfl];refine zid ?_;rw[show ((List.range l.length).map λ_=>true).all id=true by simp];f_int
def z8N {ns:List Int}{Q:DK}{X:XP}(q:∀m,0<m->m<=10000000000000000000000000000000000000000->Q (.int m)):z1a.run [.lst (ns.map .int)] Q X:=by
 walk_at "fn";ac_nf;refine zaN λc hc =>?_;ac_nf;lge_go
 .have hp:=w4.mpr (hc h);obtain⟨v,_,e⟩:=z4j (xs:=ns) (i:=0) (by decide) (by lia);ac_nf;refine z1e (z0P e) ?_;ac_nf;refine menu (ns:=[3,12,10 ^ 9]) (by lia) (by show v / 2 % 3<3;lia) λm hm =>?_;simp only[wj,wF,vS] at hm;exact q m (by lia) (by lia)
 .ac_nf;refine zaN λc hc =>?_;ac_nf;ksr_p;ac_nf;refine menu (ns:=[3,3,12,10 ^ 9]) r0 (by show r<4;exact r1) λm hm =>?_;simp only[wj,wF,vS] at hm;exact q m (by lia) (by lia)
def z7b {p:P}{Q:DK}{X:XP}(hp:Vb 140 p)(q:Q (vec (Geo.sca 2 p))):z0y.run [vec p] Q X:=by
 rw[show Geo.sca 2 p=(2*p.1,2*p.2) from vG (ve ..) (ve ..)] at q;obtain⟨h1,h2⟩:=hp;have b2:Bt 8 2:=z05 (by decide);walk_at "fn";ac_nf;f_int
def zaG {h:List P}{Q:DK}{X:XP}(b:h.length<=1000)(q:Q (.bl true)):z0m.run [vecs h,vecs h] Q X:=by
 refine z6j (n:=3) (by rw[wd];exact b) (λd a Q X q =>?_) q;obtain⟨p,_,rfl⟩:=we.mp a;refine z6j (n:=2) (by simp) (λd a Q X q =>?_) q
 rcases wj.mp a with rfl | a
 .exact z4Z (n:=1) q
 .rw[wg.mp a];exact z4Z (n:=1) q
def zc8 {u v:Int}{Q:DK}{X:XP}(q:Q (.bl true)):z0m.run [vec (u,v),vec (u,v)] Q X:=by
 refine z6j (n:=3) (by simp) (λd a Q X q =>?_) q
 rcases wj.mp a with rfl | a
 .exact z4Z (n:=2) q
 .rw[wg.mp a];exact z4Z (n:=2) q
def zfh {x:List P × P}(a:Wt4 x 136):Wt4 (dw x):=
 ⟨λp hp=>by(obtain⟨q,b,rfl⟩:=we.mp hp;exact⟨(Bt.mul (a.wb q b).1 (z05 (n:=2) (by decide))).le,(Bt.mul (a.wb q b).2 (z05 (n:=2) (by decide))).le⟩),λz=>a.ne (jt.mp z),by simpa[dw] using a.len,⟨(Bt.mul a.vb.1 (z05 (n:=2) (by decide))).le,(Bt.mul a.vb.2 (z05 (n:=2) (by decide))).le⟩⟩
def zgr {ws:List (List P × P)}{x y t u v q r:Int}{z:Prop}(hw:∀x∈ws,x.1≠[])(h:Oc (Mo (ws.map dw) x y t) z u v)(k:Oc (Mo (twc ws) x y t) z q r):
  (u=0/\v=0/\q=0/\r=0)\/(0<v/\Bt 500 v/\Bt 500 u/\∀a b,Pl (2*u) 0 v a 0 b->q=a/\r=b):=by
 cases h with
 | zero z=>
  cases k with
  | zero _=>
   refine .inr ⟨by decide,Bt.le (m:=1) (z05 (by decide)),Bt.le (m:=1) (z05 (by decide)),λa b pl =>?_⟩;have A:=pl.cx;have C:=pl.cop;rw[gcd0] at C;obtain rfl:a=0:=by omega
   have:=pl.pos;simp at C;exact⟨rfl,by omega⟩
  | att=>contradiction
  | never=>contradiction
 | att a n _ _ h N o i b pl E F=>
  cases k with
  | zero _=>contradiction
  | never _ s=>exact absurd (zdF hw i) (s _ _ o)
  | att f n' _ _ _ j g l b' p=>
   have K:=b' _ _ o (zdF hw i);have O:=b _ _ (by omega) (zgQ hw l);have key:f*n=2*a*n':=Int.le_antisymm K (by grind);obtain⟨G,H,_⟩:=pl.bt (m:=500) o F E (Bt.le (m:=0) (z05 (by decide)));refine .inr ⟨pl.pos,G,H,λc d L =>?_⟩;have J:=pl.cx;have e:2*u*n'=f*v:=by
    refine wY (a:=n) (by omega) ?_
    calc 2*u*n'*n=2*(u*n)*n':=by grind
     _=2*a*n'*v:=by rw[J];grind
     _=f*v*n:=by rw[<- key,Int.mul_right_comm]
   obtain⟨A,_,I⟩:=p.eq g (L.eqv pl.pos (x':=f) (y':=0) (b':=n') e (by simp));exact⟨A,I⟩
 | never h s=>
  cases k with
  | zero _=>contradiction
  | att f n' _ _ _ j g l=>exact absurd (zgQ hw l) (s _ _ (by omega))
  | never=>exact .inl ⟨rfl,rfl,rfl,rfl⟩
def zeN (ns:List Int)(h:ns.length<=63):z3c.run [.lst (ns.map .int)] (λd=>d = .bl true) (λ_=>False):=by
 walk_at "fn";kj_on
 .ac_nf;refine z9F h λb5 a8 b7 a5 =>?_;ac_nf;rw[z7J (by decide)];exact⟨_,λx hx=>a8 x (wU hx),by rw[w8];exact Nat.min_le_left _ _,vd (z81 b5 _) a5,rfl⟩
 rintro J ⟨b6,a9,b0,a6,rfl⟩;kj_on
 .ac_nf;refine z8N λm m0 m1 =>?_;ac_nf
  by_cases c:12<m
  .rw[vU c];ac_nf;exact⟨[],by simp,by simp,by simp[tl],rfl⟩
  .rw[vz c];ac_nf;exact⟨b6,a9,b0,a6,rfl⟩
 rintro J ⟨ws,R,b3,ht,rfl⟩;have hw:∀x∈ws,Wt4 x:=λx hx=>(R x hx).up;have hz:ws.length<=12:=vd b3 (by decide);have hn:∀x∈ws,x.1≠[]:=λx hx=>(hw x hx).ne;have V:∀x∈twc ws,Wt4 x:=λx hx=>hw x (zah hx);have Z:(twc ws).length<=12:=by rw[z80];omega
 have Q:tl (twc ws)<=120:=by rw[zde];omega
 have U:∀x∈ws.map dw,Wt4 x:=λx hx=>by(obtain⟨w,a7,rfl⟩:=we.mp hx;exact zfh (R w a7))
 have Y:(ws.map dw).length<=12:=by rw[wd];exact hz
 have O:tl (ws.map dw)<=120:=by rw[zhy];omega
 ac_nf;k_all;ac_rfl;ac_nf;k_all;ac_rfl;ac_nf;refine z0A (f:=wtD) (λL J=>∃x4 x5:B,J=[.s (.lst (ns.map .int)),.s (.tup (ws.map wtD)),.o (.lst ((L.map dw).map wtD)),.o (.lst ((twc L).map wtD)),x4,x5,.n,.n,.n,.n,.n]) ⟨_,_,rfl⟩ ?_ ?_
 .rintro L w r J e ⟨x4,x5,rfl⟩;have hx:=hw w (by rw[e];simp);k_data;rw[wB,wI] at le;k_one;w_up;f_are;ac_rfl;refine z3W (z4v (l:=(L.map dw).map wtD) (z0q rfl ?_));ac_nf;refine⟨by rw[wd];exact szl' (by have:=hx.len;lia),?_⟩;refine z1b (g:=λp=>vec (Geo.sca 2 p)) (λp hp K hK =>?_) ?_
  .ac_nf;exact z7b (hx.wb p hp) hK
  ac_nf;refine z7b hx.vb ?_;ac_nf;have el:D.tup [D.tup (w.1.map λp=>vec (Geo.sca 2 p)),vec (Geo.sca 2 w.2)]=wtD (dw w):=by simp only[dw,wtD,vecs,wR];rfl
  rw[el];refine⟨by rw[wd,wd];exact szl' (by lia),Safe.of_noL (z93 _) (z94 _) _,?_⟩;ac_rfl;refine zfE (z0q rfl ?_);ac_nf;refine⟨by rw[wd,z80];exact szl (show 2*L.length+2<=1000000 by lia),λx hx =>?_,_,_,by rw[wv,wv,zai,wv];rfl⟩;have:x=wtD w:=by
   rcases wj.mp hx with rfl | hx
   .rfl
   .exact wg.mp hx
  rw[this];exact Safe.of_noL (z93 _) (z94 _) _
 rintro J ⟨x4,x5,rfl⟩;ac_nf;refine z5X V Z (vd Q (by decide)) λh1 a3 l1 =>?_;ac_nf;refine z5X U Y (vd O (by decide)) λh2 a4 l2 =>?_;obtain rfl:=zci hn a3 a4;ac_nf;refine zaG (by lia) ?_;ac_nf;refine z4o (z72 ?_);ac_nf;kd_mem;rw[show D.int 0::([]:List D)++ns.map D.int=(0::ns).map .int by simp];ac_nf;rw[z3e];generalize ((0::ns).drop (HT.sIx (0::ns).length 0 (some (-3)))).take (HT.sIx (0::ns).length (0::ns).length none - HT.sIx (0::ns).length 0 (some (-3)))=cs;refine z0A (f :=.int) (λL J=>∃x6 x7 x8 x9 N:B,J=[.s (.lst (ns.map .int)),.s (.tup (ws.map wtD)),.o (.lst ((ws.map dw).map wtD)),.o (.lst ((twc ws).map wtD)),x4,x5,x6,x7,x8,x9,N]) ⟨_,_,_,_,_,rfl⟩ ?_ ?_
 .rintro L c r J e ⟨x6,x7,x8,x9,N,rfl⟩;w_up;ac_rfl;ac_nf;refine z8N λm m0 m1 =>?_;ac_nf;refine zfG hw hz m0 m1 λu v t pd =>?_;k_in;ac_rfl;have b1:=pd.bx;have b2:=pd.bY;have H:Bt 2 2:=z05 (by decide);have t0:=pd.pc.pos;ac_nf;refine zaH t0 pd.bt.le λu' v' t' pl =>?_;k_in;ac_rfl;obtain⟨c1,c2,c3⟩:=pl.bt (n:=100) (m:=298) t0 pd.bt (Bt.mul H b1).le (Bt.mul H b2).le;have a0:Pd u' v' t':=⟨pl.pc t0 pd.bt.le (Bt.mul H b1).le (Bt.mul H b2).le,c2.le,c3.le,c1⟩
  ac_nf;refine z8O U Y O a0 λa b oc =>?_;k_in;ac_rfl;ac_nf;refine z8O V Z Q a0 λa' b' b4 =>?_;k_in;ac_rfl;ac_nf;k_get;ac_nf;k_get;ac_nf;refine zeD (l:=[.int a,.int b]) (r:=[.int 0,.int 0]) (Da.vec (a,b)) (Da.vec (0,0)) ?_;rw[show deq (.tup [.int a,.int b]) (.tup [.int 0,.int 0])=decide ((a,b)=(0,0)) from z3J (a,b) (0,0)]
  rcases zgr hn oc b4 with ⟨rfl,rfl,rfl,rfl⟩ | ⟨v0,bv,bu,un⟩
  .refine z71 rfl ?_;ac_nf;refine zi5 (l:=[.int 0,.int 0]) (r:=[.int 0,.int 0]) (Da.vec (0,0)) (Da.vec (0,0)) ?_;rw[show deq (.tup [.int 0,.int 0]) (.tup [.int 0,.int 0])=decide (((0,0):P)=(0,0)) from z3J (0,0) (0,0)];refine z4o (z71 rfl ?_);ac_nf;exact⟨_,_,_,_,_,rfl⟩
  .refine t_no (λe =>?_) ?_
   .have:=congrArg Prod.snd e;dsimp only at this;omega
   ac_nf;refine z8Q v0 bv.le λu w pm =>?_;obtain⟨rfl,rfl⟩:=un u w pm;refine zc8 ?_;refine z4o (z72 ?_);ac_nf;exact⟨_,_,_,_,_,rfl⟩
 rintro J ⟨x6,x7,x8,x9,N,rfl⟩;ac_nf
 rfl
open PySem.Spec PyProof.Rows
abbrev WvP:=Value->Shared->Prop
abbrev WmP:=Str->Option Value
def z5w:Nat->Str
 | 0=>"turn_by" | 1=>"turn_among" | 2=>"step_of" | 3=>"step_among" | _=>""
abbrev Hp:=Addr->Obj->Prop
abbrev AP:=Addr->Prop
structure Rm where
 P:Program
 w:World
 mg:WmP
abbrev hp (O:AP)(h:Heap):Hp:=λa o=>h.get? a=some o/\¬ O a
def Sq (T:String)(o:Obj)(vs:List Value):Prop:=o.cls = .type T/\o.dict=none/\vs.length<=sizeLine/\∃n,o.data = .seq vs.toArray n
def DctO (mg:Rm)(a:Addr)(o:Obj)(b:List (Key × Value)):Prop:=(a == sysModules)=false/\b.length<=sizeLine/\o.IsDictOf (z2e mg.P mg.w) b
mutual
def RD (mg:Rm)(G:Hp):D->Value->Prop
 | .non,v=>v = .none
 | .bl b,v=>v = .bool b
 | .int i,v=>∃t,v = .int i t
 | .str x,v=>∃t,v = .str x t
 | .tup d,v=>∃a o vs,v = .ref a/\G a o/\Sq "tuple" o vs/\RDs mg G d vs
 | .lst d,v=>∃a o vs,v = .ref a/\G a o/\Sq "list" o vs/\RDs mg G d vs
 | .dct g d,v=>∃a o e,v = .ref a/\G a o/\DctO mg a o e/\g=e.map (λp=>kD p.1)/\RDs mg G d (e.map (·.2))
 | .fn n,v=>∃f,v = .ref f/\mg.mg (z5w n)=some v
def RDs (mg:Rm)(G:Hp):List D->List Value->Prop
 | [],vs=>vs=[]
 | d::a,vs=>∃v r,vs=v::r/\RD mg G d v/\RDs mg G a r
end
section
variable {mg:Rm}{G G':Hp}{B B':Prop}{d:D}{ds es:List D}{v:Value}{vs us:List Value}
mutual
theorem RD.ch (l:∀a o vs,G a o->Sq "tuple" o vs->G' a o)(j:(∀a o vs,G a o->Sq "list" o vs->G' a o)\/B)(i:(∀a o p,G a o->DctO mg a o p->G' a o)\/B'):∀(d:D) {v:Value},(B->noL d=true)->(B'->noD d=true)->RD mg G d v->RD mg G' d v
 | .non,_,_,_,h=>by simpa[RD] using h
 | .bl _,_,_,_,h=>by simpa[RD] using h
 | .int _,_,_,_,h=>by simpa[RD] using h
 | .str _,_,_,_,h=>by simpa[RD] using h
 | .fn _,_,_,_,h=>by rw[RD] at h ⊢;exact h
 | .dct t f,_,n,m,h=>by
  rw[RD] at h ⊢;obtain⟨a,o,p,e,g,q,s,r⟩:=h;have k:G' a o:=i.elim (λk=>k a o p g q) λb=>by have:=m b;rw[noD] at this;cases this
  exact⟨a,o,p,e,k,q,s,RDs.ch l j i f (λb=>by have:=n b;rwa [noL] at this) (λb=>by have:=m b;rw[noD] at this;cases this) r⟩
 | .tup f,_,n,m,h=>by
  rw[RD] at h ⊢;obtain⟨a,o,vs,e,g,q,r⟩:=h;exact⟨a,o,vs,e,l a o vs g q,q,RDs.ch l j i f (λb=>by have:=n b;rwa [noL] at this) (λb=>by have:=m b;rwa [noD] at this) r⟩
 | .lst f,_,n,m,h=>by
  rw[RD] at h ⊢;obtain⟨a,o,vs,e,g,q,r⟩:=h;have k:G' a o:=j.elim (λk=>k a o vs g q) λb=>by have:=n b;rw[noL] at this;cases this
  exact⟨a,o,vs,e,k,q,RDs.ch l j i f (λb=>by have:=n b;rw[noL] at this;cases this) (λb=>by have:=m b;rwa [noD] at this) r⟩
theorem RDs.ch (i:∀a o vs,G a o->Sq "tuple" o vs->G' a o)(g:(∀a o vs,G a o->Sq "list" o vs->G' a o)\/B)(f:(∀a o l,G a o->DctO mg a o l->G' a o)\/B'):∀(ds:List D) {vs:List Value},(B->noLs ds=true)->(B'->noDs ds=true)->RDs mg G ds vs->RDs mg G' ds vs
 | [],_,_,_,h=>by simpa[RDs] using h
 | d::ds,_,n,m,h=>by
  rw[RDs] at h ⊢;obtain⟨v,r,e,j,k⟩:=h;exact⟨v,r,e,RD.ch i g f d (λb=>by have:=n b;rw[noLs,vF] at this;exact this.1) (λb=>by have:=m b;rw[noDs,vF] at this;exact this.1) j,RDs.ch i g f ds (λb=>by have:=n b;rw[noLs,vF] at this;exact this.2) (λb=>by have:=m b;rw[noDs,vF] at this;exact this.2) k⟩
end
def RD.mono (h:RD mg G d v)(k:∀a o,G a o->G' a o):RD mg G' d v:=RD.ch (B:=False) (B':=False) (λa o _ g _=>k a o g) (.inl λa o _ g _=>k a o g) (.inl λa o _ g _=>k a o g) d False.elim False.elim h
def RDs.mono (h:RDs mg G ds vs)(k:∀a o,G a o->G' a o):RDs mg G' ds vs:=RDs.ch (B:=False) (B':=False) (λa o _ g _=>k a o g) (.inl λa o _ g _=>k a o g) (.inl λa o _ g _=>k a o g) ds False.elim False.elim h
abbrev Rws (mg:Rm)(G:Hp):List D->List Value->Prop:=Paired (RD mg G)
theorem RDs.iff:∀{ds:List D}{vs:List Value},RDs mg G ds vs↔Rws mg G ds vs
 | [],vs=>by rw[RDs];exact⟨λe=>e ▸ .nil,λh=>by cases h;rfl⟩
 | d::ds,vs=>by
  rw[RDs];exact⟨λ⟨v,r,e,a,b⟩=>e ▸ .cons a (RDs.iff.1 b),λh=>by cases h with | cons a b=>exact⟨_,_,rfl,a,RDs.iff.2 b⟩⟩
def z0O:RD mg G (.tup ds) v↔∃a o vs,v = .ref a/\G a o/\Sq "tuple" o vs/\Rws mg G ds vs:=by rw[RD];simp only[RDs.iff]
def z1L:RD mg G (.lst ds) v↔∃a o vs,v = .ref a/\G a o/\Sq "list" o vs/\Rws mg G ds vs:=by rw[RD];simp only[RDs.iff]
def zaR {ks ds:List D}:RD mg G (.dct ks ds) v↔∃a o b,v = .ref a/\G a o/\DctO mg a o b/\ks=b.map (λp=>kD p.1)/\Rws mg G ds (b.map (·.2)):=by rw[RD];simp only[RDs.iff]
def z0x {i:Int}:RD mg G (.int i) v↔∃t,v = .int i t:=by rw[RD]
def z4U {i:Bool}:RD mg G (.bl i) v↔v = .bool i:=by rw[RD]
def z5h {i:Str}:RD mg G (.str i) v↔∃t,v = .str i t:=by rw[RD]
def z5Z:RD mg G .non v↔v = .none:=by rw[RD]
def RD.int' {i:Int}{t:Tok}:RD mg G (.int i) (.int i t):=z0x.2 ⟨t,rfl⟩
def RD.bl' {i:Bool}:RD mg G (.bl i) (.bool i):=z4U.2 rfl
def RD.str' {i:Str}{t:Tok}:RD mg G (.str i) (.str i t):=z5h.2 ⟨t,rfl⟩
def RD.non':RD mg G .non .none:=z5Z.2 rfl
theorem Rws.mono (h:Rws mg G ds vs)(k:∀a o,G a o->G' a o):Rws mg G' ds vs:=RDs.iff.1 (RDs.mono (RDs.iff.2 h) k)
end
end Pu
namespace PySem
section
variable {α β:Type}{R:α->β->Prop}{l l':List α}{m m':List β}{a:α}{b:β}{i:Nat}
def Paired.len (h:Paired R l m):m.length=l.length:=h.length.symm
def Paired.app (h:Paired R l m)(k:Paired R l' m'):Paired R (l++l') (m++m'):=by
 induction h with
 | nil=>exact k
 | cons r _ a=>exact .cons r a
theorem Paired.drop (h:Paired R l m):∀n,Paired R (l.drop n) (m.drop n):=by
 induction h with
 | nil=>intro n;simp;exact .nil
 | cons r t a=>intro n;cases n with
  | zero=>exact .cons r t
  | succ n=>exact a n
theorem Paired.take (h:Paired R l m):∀n,Paired R (l.take n) (m.take n):=by
 induction h with
 | nil=>intro n;simp;exact .nil
 | cons r t a=>intro n;cases n with
  | zero=>exact .nil
  | succ n=>exact .cons r (a n)
def Paired.get (h:Paired R l m):∀{i:Nat},l[i]? = some a->∃b,m[i]? = some b/\R a b:=by
 induction h with
 | nil=>intro i e;cases e
 | cons r t d=>intro i e;cases i with
  | zero=>cases e;exact⟨_,rfl,r⟩
  | succ i=>exact d e
def Paired.getR (h:Paired R l m):∀{i:Nat},m[i]? = some b->∃a,l[i]? = some a/\R a b:=by
 induction h with
 | nil=>intro i e;cases e
 | cons r t d=>intro i e;cases i with
  | zero=>cases e;exact⟨_,rfl,r⟩
  | succ i=>exact d e
def Paired.rev (h:Paired R l m):Paired R l.reverse m.reverse:=by
 induction h with
 | nil=>exact .nil
 | cons r _ a=>rw[jk,jk];exact a.app (.cons r .nil)
theorem Paired.set (r:R a b)(h:Paired R l m):∀i,Paired R (l.set i a) (m.set i b):=by
 induction h with
 | nil=>intro i;exact .nil
 | cons q t d=>intro i;cases i with
  | zero=>exact .cons r t
  | succ i=>exact .cons q (d i)
def Paired.one (h:Paired R [a] m):∃b,m=[b]/\R a b:=by
 cases h with | cons r t=>cases t;exact⟨_,rfl,r⟩
def Paired.two {d:α}(h:Paired R [a,d] m):∃b b',m=[b,b']/\R a b/\R d b':=by
 cases h with | cons r t=>obtain⟨b,rfl,q⟩:=t.one;exact⟨_,_,rfl,r,q⟩
end
end PySem
namespace Pu
open PySem PySem.Spec PyProof.Rows L2
structure Gx (s s':Shared):Prop where
 e:∃h t,s'={ s with heap:=h,toks:=t }
 k:∀b o,s.heap.get? b=some o->s'.heap.get? b=some o
section
variable {s s' s2:Shared}{h':Heap}{t':Nat}{mg:Rm}{O:AP}{d:D}{v:Value}{ds:List D}{vs:List Value}
def Gx.refl:Gx s s:=⟨⟨s.heap,s.toks,rfl⟩,λ_ _ e=>e⟩
def Gx.tok:Gx s { s with toks:=t' }:=⟨⟨s.heap,t',rfl⟩,λ_ _ e=>e⟩
theorem Gx.heap (k:∀b o,s.heap.get? b=some o->h'.get? b=some o):Gx s { s with heap:=h',toks:=t' }:=⟨⟨_,_,rfl⟩,k⟩
def Gx.heap' (k:∀b o,s.heap.get? b=some o->h'.get? b=some o):Gx s { s with heap:=h' }:=⟨⟨_,s.toks,rfl⟩,k⟩
def Gx.trans (g:Gx s s')(a:Gx s' s2):Gx s s2:=by
 obtain⟨h,t,rfl⟩:=g.e;obtain⟨d,f,rfl⟩:=a.e;exact⟨⟨d,f,rfl⟩,λb o e=>a.k b o (g.k b o e)⟩
theorem Gx.none (g:Gx s s'){a:Addr}(h:s'.heap.get? a=none):s.heap.get? a=none:=by
 cases e:s.heap.get? a with
 | none=>rfl
 | some o=>rw[g.k a o e] at h;cases h
def RD.up (r:RD mg (hp O s.heap) d v)(g:Gx s s'):RD mg (hp O s'.heap) d v:=r.mono λa o q=>⟨g.k a o q.1,q.2⟩
def Rws.up (r:Rws mg (hp O s.heap) ds vs)(g:Gx s s'):Rws mg (hp O s'.heap) ds vs:=Rws.mono r λa o q=>⟨g.k a o q.1,q.2⟩
end
def Po (mg:Rm)(O:AP)(s:Shared)(Q0:DK)(Q:WvP):Prop:=∀d v a,Q0 d->Gx s a->RD mg (hp O a.heap) d v->Q v a
def Po.le {mg:Rm}{O:AP}{s s1:Shared}{Q0:DK}{Q:WvP}(k:Po mg O s Q0 Q)(g:Gx s s1):Po mg O s1 Q0 Q:=λd v b q a r=>k d v b q (g.trans a) r
structure Mod (K:W.Frag)(mg:WmP)(h:Heap):Prop where
 kin:K.In h
 glob:h.Ns mainGlobals mg
 blt:∃mb,h.Ns builtinsNs mb/\∀x:Str,x≠"__name__"->mb x=bootBuiltins x
 nolimit:h.NoLimit
def Mod.up {K:W.Frag}{mg:WmP}{h h':Heap}(m:Mod K mg h)(k:∀b o,h.get? b=some o->h'.get? b=some o):Mod K mg h':=
 ⟨m.kin.keeps k,m.glob.keeps k,m.blt.imp λ_ q=>⟨q.1.keeps k,q.2⟩,m.nolimit.keeps k⟩
structure Cx where
 prog:Program
 w:World
 K:W.Frag
 mg:WmP
 A:Around
 N:List Str
 env:PySem.Env
 fn:Bool
 s₀:Shared
abbrev Cx.rm (X:Cx):Rm:=⟨X.prog,X.w,X.mg⟩
def Look (X:Cx)(m a:WmP)(x:Str)(v:Value):Prop:=(X.env.kindOf x=some .local/\m x=some v)\/((X.env.kindOf x=some .cell\/X.env.kindOf x=some .free)/\∃c,X.env.cells.lookup x=some c/\a x=some v)
structure Cx.Ok (X:Cx):Prop where
 kind:X.env.scope.kind = .function
 glob:X.env.globals=mainGlobals
 blt:X.env.builtins=builtinsNs
 hd:X.A.handled=none
 un:X.A.units+64<cLine
 inj:∀x y c,X.env.cells.lookup x=some c->X.env.cells.lookup y=some c->x=y
 has:∀x,(X.env.kindOf x=some .cell\/X.env.kindOf x=some .free)->∃c,X.env.cells.lookup x=some c
def z8C (X:Cx)(h:Heap)(m a:WmP):Prop:=h.Ns X.env.locals m/\∀n c,X.env.cells.lookup n=some c->h.IsCell c (a n)
def z8C.up {X:Cx}{h h':Heap}{m cm:WmP}(n:z8C X h m cm)(k:∀b o,h.get? b=some o->h'.get? b=some o):z8C X h' m cm:=⟨n.1.keeps k,λx c e=>(n.2 x c e).keeps k⟩
def Hid (K:W.Frag)(O:AP)(h:Heap):Prop:=∀a,O a->(∃o,h.get? a=some o)/\K.lookup a=none
def Hid.up {K:W.Frag}{O:AP}{h h':Heap}(H:Hid K O h)(k:∀b o,h.get? b=some o->h'.get? b=some o):Hid K O h':=λa q=>⟨(H a q).1.imp λo e=>k a o e,(H a q).2⟩
def Hid.no {K:W.Frag}{O:AP}{h:Heap}(H:Hid K O h){a:Addr}(e:h.get? a=none):¬ O a:=λz=>by
 obtain⟨⟨o,b⟩,_⟩:=H a z;rw[e] at b;cases b
structure St (X:Cx)(O:AP)(ρ:Pu.Env)(s:Shared):Prop where
 ok:X.Ok
 mod:Mod X.K X.mg s.heap
 ob:Hid X.K O s.heap
 loc:∃m cm,z8C X s.heap m cm/\∀i x d,X.N[i]? = some x->ρ.get i=some d->∃v,Look X m cm x v/\RD X.rm (hp O s.heap) d v
theorem St.up {X:Cx}{O:AP}{f:Pu.Env}{s s':Shared}(I:St X O f s)(g:Gx s s'):St X O f s':=
 ⟨I.ok,I.mod.up g.k,I.ob.up g.k,let ⟨m,h,n,l⟩:=I.loc;⟨m,h,n.up g.k,λi x d e q=>let ⟨v,a,b⟩:=l i x d e q;⟨v,a,b.up g⟩⟩⟩
abbrev NE:Value->Shared->Prop:=λ_ _=>False
abbrev NX:XP:=λ_=>False
abbrev Cx.M (X:Cx):Model:=model X.prog X.w
structure QX (X:Cx)(e:Expr)(x:Ex):Prop where
 p:∀{O ρ s Q0 Q},St X O ρ s->x.run ρ Q0 NX->Po X.rm O s Q0 Q->wpAny X.M X.A (eval e X.env) Q NE s
def Ptt (s:Shared)(Q0:DK)(Q:Bool->Shared->Prop):Prop:=∀d a,Q0 d->Gx s a->∃b,d = .bl b/\Q b a
structure QT (X:Cx)(e:Expr)(x:Ex):Prop where
 p:∀{O ρ s Q0 Q},St X O ρ s->x.run ρ Q0 NX->Ptt s Q0 Q->wpAny X.M X.A (isTrue e X.env (eval e X.env)) Q NE s
structure QW (X:Cx)(e:Expr)(x:Ex):Prop where
 p:∀{w O ρ s Q0 Q},St X O ρ s->x.run ρ Q0 NX->Ptt s Q0 Q->wpAny X.M X.A (isTrue e X.env w) Q NE s
structure QA (X:Cx)(es:List Expr)(xs:List Ex):Prop where
 p:∀{pos O ρ s} {Q0:List D->Prop}{Q:List Value->Shared->Prop},St X O ρ s->runs xs ρ Q0 NX->(∀ds vs s',Q0 ds->Gx s s'->Rws X.rm (hp O s'.heap) ds vs->Q vs s')->wpAny X.M X.A (spliced (backTo pos (starEach es X.env))) Q NE s
def Op2 (X:Cx)(f:Value->Value->Sem Value)(F:Fn):Prop:=∀{O g s a b d e Q0 Q},St X O g s->RD X.rm (hp O s.heap) a d->RD X.rm (hp O s.heap) b e->F.run [a,b] Q0 NX->Po X.rm O s Q0 Q->wpAny X.M X.A (f d e) Q NE s
def Op1 (X:Cx)(f:Value->Sem Value)(F:Fn):Prop:=∀{O a s d v Q0 Q},St X O a s->RD X.rm (hp O s.heap) d v->F.run [d] Q0 NX->Po X.rm O s Q0 Q->wpAny X.M X.A (f v) Q NE s
def z4l (X:Cx)(f:Value)(F:Fn):Prop:=∀{O a s ds vs Q0 Q},St X O a s->Rws X.rm (hp O s.heap) ds vs->F.run ds Q0 NX->Po X.rm O s Q0 Q->wpAny X.M X.A (call f vs) Q NE s
def z70 {s:Shared}{A B:Prop}{Q:Bool->Shared->Prop}(f:A->∀s',Gx s s'->Q true s')(h:B->∀s',Gx s s'->Q false s'):Ptt s (λd=>tst d A B) Q:=λd s' q g=>by
 obtain⟨b,rfl,a,e⟩:=zdf q
 cases b with
 | true=>exact⟨_,rfl,f (a rfl) s' g⟩
 | false=>exact⟨_,rfl,h (e rfl) s' g⟩
def Ptt.le {s s1:Shared}{Q0:DK}{Q:Bool->Shared->Prop}(k:Ptt s Q0 Q)(g:Gx s s1):Ptt s1 Q0 Q:=λd b q a=>k d b q (g.trans a)
def Ptt.at {s s1:Shared}{Q0:DK}{Q:Bool->Shared->Prop}(k:Ptt s Q0 Q){b:Bool}(q:Q0 (.bl b))(g:Gx s s1):Q b s1:=by
 obtain⟨_,e,q⟩:=k _ _ q g;cases e;exact q
section
variable {X:Cx}{e a b c:Expr}{x y z:Ex}{pos:Pos}{es rest:List Expr}{xs:List Ex}{n:Str}{i:Nat}
def zbH {s:Shared}{Q:WvP}{m f:WmP}{v:Value}(ok:X.Ok)(d:z8C X s.heap m f)(l:Look X m f n v)(q:Q v s)(b:(n == ("__debug__":Str))=false)(g:(n == ("__classdict__":Str))=false):wpAny X.M X.A (eval (.Name n pos) X.env) Q NE s:=by
 rcases l with ⟨h,e⟩ | ⟨h | h,c,a,e⟩
 .exact wpAny_Name (wpAny_loadName_local ok.kind h d.1 e q) b
 .exact wpAny_Name (wpAny_loadName_cell ok.kind h a (e ▸ d.2 n c a) q) b
 .exact wpAny_Name (wpAny_loadName_free ok.kind h a (e ▸ d.2 n c a) q g) b
def qx_v (f:X.N[i]? = some n)(a:(n == ("__debug__":Str))=false)(b:(n == ("__classdict__":Str))=false):QX X (.Name n pos) (.v i):=⟨λI r k=>by
 obtain⟨d,e,q⟩:=z3A r;obtain⟨m,h,g,l⟩:=I.loc;obtain⟨v,l,rd⟩:=l i n d f e;exact zbH I.ok g l (k d v _ q Gx.refl rd) a b⟩
def zg5 {i:Int}{j:Nat}:QX X (.Constant (.int i) j pos) (.c (.int i)):=⟨λI r k=>wpAny_Constant_int (k _ _ _ r Gx.tok .int')⟩
def zhO {i:Bool}{j:Nat}:QX X (.Constant (.bool i) j pos) (.c (.bl i)):=⟨λI r k=>Constant_bool (k _ _ _ r Gx.refl .bl')⟩
def zg3 {j:Nat}:QX X (.Constant .none j pos) (.c .non):=⟨λI r k=>Constant_none (k _ _ _ r Gx.refl .non')⟩
def zg0 {i:Str}{j:Nat}:QX X (.Constant (.str i) j pos) (.c (.str i)):=⟨λI r k=>Calls.Constant_str (k _ _ _ r Gx.tok .str')⟩
def zg9 {op:Operator}{F:Fn}(j:Op2 X (binaryOp op) F)(h:QX X a x)(i:QX X b y):QX X (.BinOp a op b pos) (.op F [x,y]):=⟨λI r k=>
 wpAny_BinOp (h.p I r λd v m r g rd=>i.p (I.up g) r λl o n r e f=>j ((I.up g).up e) (rd.up e) f r ((k.le g).le e))⟩
def zhI {op:UnaryOp}{F:Fn}(e:Op1 X (unaryOp op) F)(b:QX X a x):QX X (.UnaryOp op a pos) (.op F [x]):=⟨λI r k=>
 UnaryOp_ (b.p I r λd v f r g rd=>e (I.up g) rd r (k.le g))⟩
def zg8 {op:CmpOp}{F:Fn}(l:Op2 X (compareOp op) F)(h:QX X a x)(i:QX X b y)(j:behindInMarks op b=false):QX X (.Compare a [op] [b] pos) (.op F [x,y]):=⟨λI r k=>
 wpAny_Compare1 (h.p I r λd v n r g rd=>i.p (I.up g) r λm q o r e f=>l ((I.up g).up e) (rd.up e) f r ((k.le g).le e)) j⟩
def zgd {op:CmpOp}{F:Fn}(l:Op2 X (compareOp op) F)(h:QX X a x)(i:QX X b y)(j:behindInMarks op b=false):QT X (.Compare a [op] [b] pos) (.op F [x,y]):=⟨λI r k=>
 wpAny_isTrue_Compare1 (h.p I r λd v s r g rd=>i.p (I.up g) r λo u t r e f=>l ((I.up g).up e) (rd.up e) f r λd v n q g3 rd=>by
  obtain⟨b,rfl,m⟩:=((k.le g).le e) d n q g3
  cases z4U.1 rd
  exact jm m) j⟩
def zel (h:QX X e x)(a:∀w,isTrue e X.env w=(do let v <- w;standAt e.pos;holding [v] (truthy v))):QT X e x:=⟨λI r k=>isTrue_plain (h.p I r λd v s q g rd=>by
 obtain⟨b,rfl,f⟩:=k d s q g
 cases z4U.1 rd
 exact jm f) (a _)⟩
def zg2 (e:QX X a x):QX X (.UnaryOp .Not a pos) (.not x):=⟨λI r k=>UnaryOp_ (e.p I r λd v f q g rd=>by
 cases d with
 | bl b=>
  cases z4U.1 rd
  exact not_of (jm (k _ _ _ q g .bl'))
 | _=>exact q.elim)⟩
def zek (e:QT X a x):QT X (.UnaryOp .Not a pos) (.not x):=⟨λI r k=>isTrue_not (e.p I r λd f q g=>by
 cases d with
 | bl b=>exact⟨b,rfl,k.at q g⟩
 | _=>exact q.elim)⟩
def zg1 {op}(h:QX X a x):QX X (.BoolOp op [a] pos) x:=⟨λI r k=>BoolOp_one (h.p I r k)⟩
def zga (h:QX X a x)(i:QX X (.BoolOp .And (b::rest) pos) y):QX X (.BoolOp .And (a::b::rest) pos) (.and x y):=⟨λI r k=>BoolOp_and (h.p I r λd v j q g rd=>by
 obtain⟨b,rfl,e,f⟩:=zdf q
 cases z4U.1 rd
 refine jm ?_
 cases b with
 | true=>exact i.p (I.up g) (e rfl) (k.le g)
 | false=>exact k _ _ _ (f rfl) g .bl')⟩
def zcs (f:QT X a x):QW X (.BoolOp .And [a] pos) x:=⟨λI r k=>isTrue_and (f.p I r λd h q g=>by
 obtain⟨b,rfl,e⟩:=k d h q g
 cases b with
 | true=>exact⟨_,rfl,isTrue_and_nil e⟩
 | false=>exact⟨_,rfl,e⟩)⟩
def zei (f:QT X a x):QW X (.BoolOp .Or [a] pos) x:=⟨λI r k=>isTrue_or (f.p I r λd h q g=>by
 obtain⟨b,rfl,e⟩:=k d h q g
 cases b with
 | false=>exact⟨_,rfl,isTrue_or_nil e⟩
 | true=>exact⟨_,rfl,e⟩)⟩
def zej (d:QT X a x)(e:QW X (.BoolOp .And (b::rest) pos) y):QW X (.BoolOp .And (a::b::rest) pos) (.and x y):=⟨λI r k=>
 isTrue_and (d.p I r (z70 (λq s g=>e.p (I.up g) q (k.le g)) λq s g=>k.at q g))⟩
def zgb (d:QT X a x)(e:QW X (.BoolOp .Or (b::rest) pos) y):QW X (.BoolOp .Or (a::b::rest) pos) (.or x y):=⟨λI r k=>
 isTrue_or (d.p I r (z70 (λq s g=>k.at q g) λq s g=>e.p (I.up g) q (k.le g)))⟩
def zhP (h:QW X e x):QT X e x:=⟨h.p⟩
def zeh:QA X [] []:=⟨λI r k=>uz (k _ _ _ r Gx.refl .nil)⟩
def zcp (b:QX X e x)(f:QA X es xs)(h:starEach (e::es) X.env=(false,eval e X.env)::starEach es X.env):QA X (e::es) (x::xs):=⟨λI r k=>by
 rw[h];exact vX (b.p I r λd v j q g rd=>f.p (I.up g) q λi vs l q a rs=>k _ _ _ q (g.trans a) (.cons (rd.up a) rs))⟩
end
end Pu
namespace HT
open PySem PyProof.Rows
section
open PySem.SeqAt
open PySem.AutoSeq1 (wpAny_loadPart')
open PySem.MeetsSeq PySem.MeetsSeq2 PySem.MeetsSeq3
def zcl (A:Around)(s:Shared)(a:Int)(t:Tok)(c:Int)(u:Tok)(prog:Program)(w:World)(E:Value->Shared->Prop)(Q:Value->Shared->Prop)(h:Q (.bool (decide (c<a))) s):
  wpAny (model prog w) A (richCompare .Gt (.int a t) (.int c u)) Q E s:=
 (PyProof.Rows.gt_int h)
def zak:∃C:String->CmpOp->Builtin,Builtin.«tuple.__lt__»=C "__lt__" .Lt/\Builtin.«tuple.__gt__»=C "__gt__" .Gt/\∀(op:CmpOp) (L:List Int->List Int->Bool),(op = .Lt/\L=z0B)\/(op = .Gt/\L=λn m=>z0B m n)->∀(f:String) (l b:Addr) (items i:Array Value) (n n2:Nat) (dd N:Option Addr) (sl U:Array (Option Value)) (ns S:List Int),IntsAre items.toList ns->IntsAre i.toList S->Meets (C f op ⟨[.ref l,.ref b],[]⟩) (λ_ R s=>s.heap.get? l=some { cls :=.type "tuple",dict:=dd,data :=.seq items n,slots:=sl }/\s.heap.get? b=some { cls :=.type "tuple",dict:=N,data :=.seq i n2,slots:=U }/\R (.ok (.ret (.bool (L ns S)))) s):=by
 refine⟨_,rfl,rfl,λop L X f l b items i n n2 dd N sl U ns S hi hj =>.of_wp λr w A R s h =>?_⟩;obtain⟨hp,g,d,V,T⟩:=s;obtain⟨hl,hb,h⟩:=h;have f2:=AutoSeq1.sub_tuple_tuple;have z1:items.size=ns.length:=by rw[<- hi.length];simp
 have z2:i.size=S.length:=by rw[<- hj.length];simp
 wp_walk using wpAny_loadPart' hl,wpAny_loadPart' hb,jV _ (λG b s'=>b.1=none/\s'=⟨hp,g,d,V,T⟩/\(∃(vs W:List Value) (o j:List Int),G=vs.zip W/\
   IntsAre vs o/\IntsAre W j/\o.length+i.size=j.length+items.size/\R (.ok (.ret (.bool (L o j)))) ⟨hp,g,d,V,T⟩)) _
 case turn=>
  rintro⟨y,x⟩ G b s' ⟨H,rfl,vs,W,o,j,F,J,K,p,z⟩
  cases J with
  | nil=>rw[List.zip_nil_left] at F;cases F
  | cons a t O=>
   cases K with
   | nil=>rw[List.zip_nil_right] at F;cases F
   | cons c u Q=>
    rw[List.zip_cons_cons] at F
    injection F with a0 I
    injection a0 with hy hx
    subst hy hx;obtain⟨e,he,E⟩:=zcZ A.in1 ⟨hp,g,d,V,T⟩ a t c u;simp only[wI] at p;refine wc (he r w _ _ ?_)
    cases e with
    | true=>
     cases E.mp rfl
     wp_walk
     refine⟨rfl,rfl,_,_,_,_,I,O,Q,by lia,?_⟩
     rcases X with ⟨_,k⟩ | ⟨_,k⟩ <;> (simp only[k,z0G,jc] at z ⊢;exact z)
    | false=>
     have ne:a≠c:=λq=>by simp[q] at E
     have Y := @zck A.in1 ⟨hp,g,d,V,T⟩ a t c u r w;have Z := @zcl A.in1 ⟨hp,g,d,V,T⟩ a t c u r w
     rcases X with ⟨rfl,rfl⟩ | ⟨rfl,rfl⟩
     .simp only[z0G,if_neg ne] at z
      wp_walk using Y
      exact⟨_,rfl,by simpa using z⟩
     .simp only[z0G,if_neg ne.symm] at z
      wp_walk using Z
      exact⟨_,rfl,by simpa using z⟩
 case fin=>
  rintro⟨b1,b2⟩ s' ⟨H,rfl,vs,W,o,j,F,J,K,p,z⟩;simp only at H;subst H;have hv:Builtin.Tuple.tupleCompareSizes op items.size i.size = .bool (L o j):=by
   rcases X with ⟨rfl,rfl⟩ | ⟨rfl,rfl⟩ <;> cases J <;> cases K <;> first | cases F;done | (simp only[z0B,uO,wI] at p ⊢;simp[Builtin.Tuple.tupleCompareSizes];lia)
  rw[<- hv] at z
  wp_walk
  exact⟨_,rfl,z⟩
 case h=>
  exact⟨rfl,rfl,items.toList,i.toList,ns,S,rfl,hi,hj,by lia,h⟩
end
section
variable {prog:Program}{w:World}{A:Around}{E:Value->Shared->Prop}{Q:Value->Shared->Prop}{s:Shared}{vl vu:Value}
def z5x {op:CmpOp}{i:List Int->List Int->Bool}(G:(op = .Lt/\i=z0B)\/(op = .Gt/\i=λn m=>z0B m n)){l b:Addr}{items a:Array Value}{ns j:List Int}(S:IsTup s.heap l items)(N:IsTup s.heap b a)(y:IntsAre items.toList ns)(z:IntsAre a.toList j)(H:A.units<cLine)(h:Q (.bool (i ns j)) s):wpAny (model prog w) A (compareOp op (.ref l) (.ref b)) Q E s:=by
 obtain⟨⟨J,u,t,sl⟩,d,O,n,R⟩:=id S;obtain⟨⟨r,f,k,g⟩,e,o,I,p⟩:=id N;subst O R o p;obtain⟨C,K,L,q⟩:=zak;have q:=q op i G
 rcases G with ⟨rfl,rfl⟩ | ⟨rfl,rfl⟩
 .exact richCompare_meets_room (op :=.Lt) ⟨_,d,rfl⟩ ⟨_,e,rfl⟩ PySem.F.slot_tuple_lt PySem.F.entry_tuple_lt (PySem.F.args_tuple_lt_2 _ _) (K ▸ q _ l b _ _ n I u f sl g ns j y z) ⟨d,e,⟨(λx=>nomatch x),h⟩⟩ H
 .exact richCompare_meets_room (op :=.Gt) ⟨_,d,rfl⟩ ⟨_,e,rfl⟩ PySem.F.slot_tuple_gt PySem.F.entry_tuple_gt (PySem.F.args_tuple_gt_2 _ _) (L ▸ q _ l b _ _ n I u f sl g ns j y z) ⟨d,e,⟨(λx=>nomatch x),h⟩⟩ H
def zal {t sl:Addr}{items:Array Value}{lo a:Option Int}(d:IsTup s.heap t items)(j:s.heap.IsSliceOf sl vl vu .none)(pl:IsPart vl lo)(p:IsPart vu a)(hsz:items.size<=sizeLine)(k:sIx items.size 0 lo=0/\sIx items.size items.size a=items.size->Q (.ref t) s)(l:¬ (sIx items.size 0 lo=0/\sIx items.size items.size a=items.size)->Q (.ref s.heap.objs.size) { s with heap:=s.heap.push { cls :=.type "tuple",data :=.seq ((items.toList.drop (sIx items.size 0 lo)).take (sIx items.size items.size a - sIx items.size 0 lo)).toArray } }):wpAny (model prog w) A (getItem (.ref t) (.ref sl)) Q E s:=by
 have q:sIx items.size items.size a<=items.size:=zfH _ _ (ww _) a;have b:sizeOk (.seq ((items.toList.drop (sIx items.size 0 lo)).take (sIx items.size items.size a - sIx items.size 0 lo)).toArray):=by
  show List.length _<=sizeLine;rw[w8,uY,vg];lia
 obtain⟨o,h,g,n⟩:=id j;have f:s.TypeIs (.ref sl) "slice":=⟨o,h,g⟩
 unfold getItem
 try with_reducible refine vO ?_
 first | refine wc (wm ?_) | skip
 refine wc (wpAny_sequenceKey d.typeIs (by decide) ?_);refine wc (ua (name:=Str.ofString "__getitem__") d.typeIs jn
  (uh jn d.typeIs entry_tuple_getitem ?_ (args_tuple_getitem _ _)))
 show wpAny _ _ (Builtin.Tuple.tupleItemsOf (.ref t) >>= _) _ _ s;refine wc (tupleItemsOf_ d ?_);refine wc (Wl f ?_);rw[if_pos (by decide)];refine wc (z4S j pl p ?_);have i:(((sIx items.size 0 lo:Int) == 0 && (1:Int) == 1 && (sIx items.size items.size a - sIx items.size 0 lo) == items.size)=true)↔(sIx items.size 0 lo=0/\sIx items.size items.size a=items.size):=by simp;lia
 show wpAny _ _ (if (((sIx items.size 0 lo):Int) == 0 && (1) == 1 && (sIx items.size items.size a - sIx items.size 0 lo) == items.size)=true then _ else _) _ _ s
 by_cases e:sIx items.size 0 lo=0/\sIx items.size items.size a=items.size
 .rw[if_pos (i.mpr e)];refine wc (m:=Builtin.Tuple.tupleIsExact (.ref t)) (wc (Wl d.typeIs (wm ?_)));rw[if_pos (by decide)];exact wc (jy (wm ⟨_,rfl,wm (k e)⟩))
 .rw[if_neg (λz=>e (i.mp z)),zcA];exact wc (m:=Builtin.Tuple.tupleExact _) (ub (wm ⟨_,rfl,wm (l e)⟩) b)
end
end HT
namespace Pu
open PySem PySem.Spec PyProof.Rows L2
section
variable {X:Cx}{O:AP}{ρ:Pu.Env}{s s':Shared}{mg:Rm}{G:Hp}{d:D}{ds es:List D}{v:Value}{vs us:List Value}{Q0:DK}{Q:WvP}{a:Addr}{o:Obj}
def Sq.tup (q:Sq "tuple" o vs)(e:s.heap.get? a=some o):IsTup s.heap a vs.toArray:=⟨o,e,q.1,q.2.2.2⟩
def Sq.lst (q:Sq "list" o vs)(e:s.heap.get? a=some o):PlainL s.heap a vs.toArray:=let ⟨n,h⟩:=q.2.2.2;⟨o,n,e,q.1,q.2.1,h⟩
theorem Rws.len (r:Rws mg G ds vs):vs.length=ds.length:=Paired.len r
theorem Gx.push (o:Obj):Gx s { s with heap:=s.heap.push o }:=Gx.heap' λb u e=>wi _ e
def z2O (s:Shared):s.heap.get? s.heap.objs.size=none:=Heap.get?_none_of_le (ww _)
def RD.newO {T:String}{K:W.Frag}(I:Hid K O s.heap)(g:Gx s s')(h:s'.heap.get? s.heap.objs.size=some { cls :=.type T,data :=.seq vs.toArray })(a:vs.length<=sizeLine):∃o,hp O s'.heap s.heap.objs.size o/\Sq T o vs:=
 ⟨_,⟨h,I.no (z2O s)⟩,rfl,rfl,a,0,rfl⟩
def Po.newT (I:St X O ρ s)(k:Po X.rm O s Q0 Q)(q:Q0 (.tup ds))(r:Rws X.rm (hp O s.heap) ds vs)(a:ds.length<=sizeLine):Q (.ref s.heap.objs.size) { s with heap:=s.heap.push { cls :=.type "tuple",data :=.seq vs.toArray } }:=
 let ⟨o,h,b⟩:=RD.newO (s':={ s with heap:=s.heap.push { cls :=.type "tuple",data :=.seq vs.toArray } }) I.ob (Gx.push _) (wt _ rfl) (r.len ▸ a)
 k _ _ _ q (Gx.push _) (z0O.2 ⟨_,o,vs,rfl,h,b,r.up (Gx.push _)⟩)
def Po.newL (I:St X O ρ s)(k:Po X.rm O s Q0 Q)(q:Q0 (.lst ds))(r:Rws X.rm (hp O s.heap) ds vs)(a:ds.length<=sizeLine):Q (.ref s.heap.objs.size) { s with heap:=s.heap.push { cls :=.type "list",data :=.seq vs.toArray } }:=
 let ⟨o,h,b⟩:=RD.newO (s':={ s with heap:=s.heap.push { cls :=.type "list",data :=.seq vs.toArray } }) I.ob (Gx.push _) (wt _ rfl) (r.len ▸ a)
 k _ _ _ q (Gx.push _) (z1L.2 ⟨_,o,vs,rfl,h,b,r.up (Gx.push _)⟩)
def Po.now (k:Po mg O s Q0 Q)(q:Q0 d)(r:RD mg (hp O s.heap) d v):Q v s:=k d v s q Gx.refl r
theorem Po.int {i:Int}{t':Nat}{t:Tok}(k:Po mg O s Q0 Q)(q:Q0 (.int i)):Q (.int i t) { s with toks:=t' }:=k _ _ _ q Gx.tok .int'
theorem Po.bl {i:Bool}(k:Po mg O s Q0 Q)(q:Q0 (.bl i)):Q (.bool i) s:=k.now q .bl'
end
section
variable {X:Cx}
def z9X {f:Value->Value->Sem Value}{g:Int->Int->DK->Prop}{a}(h:∀{O d s i j t u Q0 Q},St X O d s->g i j Q0->Po X.rm O s Q0 Q->wpAny X.M X.A (f (.int i t) (.int j u)) Q NE s):Op2 X f (fnI g a):=λI r1 r2 b k=>by
 obtain⟨i,j,rfl,rfl,q⟩:=zbD (show gI g _ _ _ from b);k_few;kfm_eq;exact h I q k
def zgt:Op2 X (binaryOp .Sub) pSub:=z9X λ_ q k=>sub_int (k.int q)
def zeA:Op2 X (binaryOp .FloorDiv) z1U:=z9X λ_ q k=>floordiv_int q.1.1 (k.int q.2) (.inl (PyProof.noPylong_of_log2 (zbm q.1.1 q.1.2)))
def zgw:Op2 X (binaryOp .Mod) pMod:=z9X λ_ q k=>mod_int' q.1 (k.int q.2)
def zgu:Op2 X (binaryOp .Pow) pPow:=z9X λ_ q k=>pow_int_small q.1.1 q.1.2.1 q.1.2.2 (k.int q.2)
def zgv:Op2 X (binaryOp .Mult) z0a:=z9X λ_ q k=>mul_int (k.int q.2) (IntMulOk.of_le q.1.1 q.1.2 (by decide))
def zgn:Op1 X (unaryOp .USub) pNeg:=λI r b k=>by
 have a:gNeg _ _:=b;unfold gNeg at a
 split at a
 .obtain⟨t,rfl⟩:=z0x.1 r;exact neg_int (k.int a)
 .exact a.elim
def zgx:Op2 X (binaryOp .Add) pAdd:=λI r1 r2 L k=>by
 have d:gAdd _ _ _:=L;unfold gAdd at d
 split at d
 .k_few;kfm_eq;exact add_int (k.int d)
 .obtain⟨a,⟨x,K,s,sl⟩,vs,rfl,⟨e,_⟩,⟨C,E,_,n,G⟩,p⟩:=z1L.1 r1;obtain⟨b,⟨r,y,h,f⟩,o,rfl,⟨g,_⟩,⟨i,j,_,q,l⟩,m⟩:=z1L.1 r2;subst C E G i j l;have z:vs.toArray++o.toArray=(vs++o).toArray:=by simp
  refine concat_meets ⟨_,e,rfl⟩ ⟨_,g,rfl⟩ noFill_list_add seq_list_add PySem.F.slot_list_add PySem.F.entry_list_add (PySem.F.args_list_add_2 _ _) (list_addW a b _ _ n q _ _ sl f (by simp only[wH];rw[p.len,m.len];exact d.1)) ⟨e,g,?_⟩;rw[z];exact k.newL I d.2 (p.app m) (by rw[wB];exact d.1)
 .obtain⟨a,⟨x,K,s,sl⟩,vs,rfl,⟨e,O⟩,⟨C,E,N,n,G⟩,p⟩:=z0O.1 r1;obtain⟨b,⟨r,y,h,f⟩,o,rfl,⟨g,Q⟩,⟨i,j,H,q,l⟩,m⟩:=z0O.1 r2;subst C E G i j l;have z:vs.toArray++o.toArray=(vs++o).toArray:=by simp
  have R:=p.len;have S:=m.len
  by_cases A:vs=[]
  .subst A
   cases p
   exact concat_meets ⟨_,e,rfl⟩ ⟨_,g,rfl⟩ noFill_tuple_add seq_tuple_add PySem.F.slot_tuple_add PySem.F.entry_tuple_add (PySem.F.args_tuple_add_2 _ _) (tuple_addW0 a b _ _ n q _ _ sl f (by simp)) ⟨e,g,k.now d.2 (z0O.2 ⟨b,_,o,rfl,⟨g,Q⟩,⟨rfl,rfl,H,q,rfl⟩,m⟩)⟩
  by_cases J:o=[]
  .subst J
   cases m
   refine concat_meets ⟨_,e,rfl⟩ ⟨_,g,rfl⟩ noFill_tuple_add seq_tuple_add PySem.F.slot_tuple_add PySem.F.entry_tuple_add (PySem.F.args_tuple_add_2 _ _) (tuple_addW1 a b _ _ n q _ _ sl f (by simpa using A) (by simp)) ⟨e,g,k.now d.2 ?_⟩;rw[vi];exact z0O.2 ⟨a,_,vs,rfl,⟨e,O⟩,⟨rfl,rfl,N,n,rfl⟩,p⟩
  .refine concat_meets ⟨_,e,rfl⟩ ⟨_,g,rfl⟩ noFill_tuple_add seq_tuple_add PySem.F.slot_tuple_add PySem.F.entry_tuple_add (PySem.F.args_tuple_add_2 _ _) (tuple_addW2 a b _ _ n q _ _ sl f (by simpa using A) (by simpa using J) (by simp only[wH];omega)) ⟨e,g,?_⟩;rw[z];exact k.newT I d.2 (p.app m) (by rw[wB];exact d.1)
 .exact d.elim
end
section
variable {X:Cx}{O:AP}{ρ:Pu.Env}{s s':Shared}{mg:Rm}{G:Hp}{d:D}{ds es:List D}{v:Value}{vs us:List Value}{Q0:DK}{Q:WvP}{a:Addr}{o:Obj}{h:Heap}
theorem Rws.ints:∀{ns:List Int}{vs:List Value},Rws mg G (ns.map D.int) vs->IntsAre vs ns
 | [],_,r=>by cases r;exact .nil
 | n::ns,_,r=>by
  cases r with
  | cons r t=>
   obtain⟨a,rfl⟩:=z0x.1 r;exact .cons n a (Rws.ints t)
def zgs {op:CmpOp}{f:Int->Int->Bool}{t:List Int->List Int->Bool}{r}(l:∀{s:Shared}{i j t u} {Q:WvP},Q (.bool (f i j)) s->wpAny X.M X.A (compareOp op (.int i t) (.int j u)) Q NE s)(y:(op = .Lt/\t=HT.z0B)\/(op = .Gt/\t=λn m=>HT.z0B m n)):Op2 X (compareOp op) (fn2 (gCmp f t) r):=λI r1 r2 x k=>by
 have d:gCmp f t _ _ _:=x;unfold gCmp at d
 split at d
 .k_few;kfm_eq;exact l (k.bl d)
 .obtain⟨G,h,d⟩:=z50 d;obtain⟨F,g,q⟩:=z50 d;rw[z3s h] at r1;rw[z3s g] at r2;obtain⟨a,o,vs,rfl,⟨e,_⟩,C,p⟩:=z0O.1 r1;obtain⟨b,H,J,rfl,⟨g,_⟩,E,z⟩:=z0O.1 r2;exact HT.z5x y (C.tup e) (E.tup g) p.ints z.ints (by have:=I.ok.un;omega) (k.bl q)
 .exact d.elim
def zhW:Op2 X (compareOp .Lt) pLt:=zgs (λq=>lt_int q) (.inl ⟨rfl,rfl⟩)
def zhZ:Op2 X (compareOp .Gt) pGt:=zgs (λq=>gt_int q) (.inr ⟨rfl,rfl⟩)
def zhX:Op2 X (compareOp .LtE) pLe:=z9X λ_ q k=>le_int (k.bl q)
theorem Da.reads {h:Heap}:∀(n:Nat) (d:D) {v:Value},Da n d->RD mg (hp O h) d v->∃f,Reads h v (py d) f
 | _,.non,_,_,r=>by cases z5Z.1 r;exact⟨_,.none⟩
 | _,.bl b,_,_,r=>by cases z4U.1 r;exact⟨_,.bool b⟩
 | _,.int i,_,_,r=>by obtain⟨t,rfl⟩:=z0x.1 r;exact⟨_,.int i t⟩
 | _,.str x,_,_,r=>by obtain⟨t,rfl⟩:=z5h.1 r;exact⟨_,.str x t⟩
 | n+1,.tup l,_,a,r=>by
  obtain⟨b,o,vs,rfl,⟨e,_⟩,q,p⟩:=z0O.1 r;obtain⟨m,y⟩:=q.2.2.2;have all:∀{l:List D}{vs:List Value},(∀d∈l,Da n d)->Rws mg (hp O h) l vs->∃f,ReadsAll h vs (pys l) f:=λ{l vs} a p=>by
   induction p with
   | nil=>exact⟨_,.nil⟩
   | cons r _ u=>
    obtain⟨f,j⟩:=Da.reads n _ (a _ wq) r;obtain⟨g,k⟩:=u λd s=>a d (wn _ s);exact⟨_,.cons j k⟩
  obtain⟨f,h⟩:=all (Da.tup.1 a) p;exact⟨_,.tuple e q.1 y (by simpa using h)⟩
 | n+1,.lst l,_,a,r=>by
  obtain⟨b,o,vs,rfl,⟨e,_⟩,q,p⟩:=z1L.1 r;obtain⟨m,y⟩:=q.2.2.2;have all:∀{l:List D}{vs:List Value},(∀d∈l,Da n d)->Rws mg (hp O h) l vs->∃f,ReadsAll h vs (pys l) f:=λ{l vs} a p=>by
   induction p with
   | nil=>exact⟨_,.nil⟩
   | cons r _ u=>
    obtain⟨f,j⟩:=Da.reads n _ (a _ wq) r;obtain⟨g,k⟩:=u λd s=>a d (wn _ s);exact⟨_,.cons j k⟩
  obtain⟨f,h⟩:=all (Da.lst.1 a) p;exact⟨_,.list e q.1 y (by simpa using h)⟩
 | 0,.tup l,_,a,_=>by rw[Da] at a;exact a.elim
 | 0,.lst l,_,a,_=>by rw[Da] at a;exact a.elim
 | _,.dct _ _,_,a,_=>by rw[Da] at a;exact a.elim
 | _,.fn _,_,a,_=>by rw[Da] at a;exact a.elim
def zdA {op:CmpOp}{neg:Bool}(p:∀{s:Shared}{i j t u} {Q:WvP},Q (.bool (if neg then !decide (i=j) else decide (i=j))) s->wpAny X.M X.A (compareOp op (.int i t) (.int j u)) Q NE s)
  (x:∀{s:Shared}{i j t u} {Q:WvP},Q (.bool (if neg then !decide (i=j) else decide (i=j))) s->wpAny X.M X.A (compareOp op (.str i t) (.str j u)) Q NE s)
  (n:∀{s:Shared}{i j:Bool}{Q:WvP},Q (.bool (if neg then !decide (i=j) else decide (i=j))) s->wpAny X.M X.A (compareOp op (.bool i) (.bool j)) Q NE s)
  (o:∀{s:Shared}{v u:Value}{d e:PyData}{f g} {Q:WvP},X.A.units+64<cLine->Reads s.heap v d f->Reads s.heap u e g->SeqAt.shaped d=true->SeqAt.shaped e=true->Q (.bool (if neg then !PyData.eqv d e else PyData.eqv d e)) s->wpAny X.M X.A (compareOp op v u) Q NE s):Op2 X (compareOp op) (fn2 (gEq neg) z6J):=λI r1 r2 r k=>by
 have a:gEq neg _ _ _:=r;unfold gEq at a
 split at a
 .k_few;kfm_eq;exact p (k.bl a)
 .obtain⟨t,rfl⟩:=z5h.1 r1;obtain⟨u,rfl⟩:=z5h.1 r2;exact x (k.bl a)
 .cases z4U.1 r1
  cases z4U.1 r2
  exact n (k.bl a)
 .obtain⟨b,h,q⟩:=a;obtain⟨f,l⟩:=Da.reads 60 _ b r1;obtain⟨g,m⟩:=Da.reads 60 _ h r2;exact o I.ok.un l m (b.shaped (by decide)) (h.shaped (by decide)) (k.bl q)
def z4I {α:Type}[BEq α][LawfulBEq α][DecidableEq α](a b:α):(a == b)=decide (a=b):=by
 by_cases h:a=b <;> simp[h]
def zi0:Op2 X (compareOp .Eq) pEq:=zdA (neg:=false) (λq=>eq_int (by rw[z4I];exact q)) (λq=>eq_str (by rw[z4I];exact q)) (λq=>eq_bool (by rw[z4I];exact q)) λa b d g i q=>eq_dataH b d g i a q
def zhV:Op2 X (compareOp .NotEq) pNe:=zdA (neg:=true) (λq=>ne_int (by rw[bne,z4I];exact q)) (λq=>ne_str (by rw[bne,z4I];exact q)) (λq=>ne_bool (by rw[bne,z4I];exact q)) λa b d g i q=>ne_dataH b d g i a q
def zds (r:RD mg G d v):(v == Value.none)=isN d:=by
 cases d with
 | non=>cases z5Z.1 r;rfl
 | bl b=>cases z4U.1 r;rfl
 | int b=>obtain⟨t,rfl⟩:=z0x.1 r;rfl
 | str b=>obtain⟨t,rfl⟩:=z5h.1 r;rfl
 | tup l=>obtain⟨a,o,vs,rfl,_⟩:=z0O.1 r;rfl
 | lst l=>obtain⟨a,o,vs,rfl,_⟩:=z1L.1 r;rfl
 | dct k v=>obtain⟨a,o,e,rfl,_⟩:=zaR.1 r;rfl
 | fn n=>rw[RD] at r;obtain⟨a,rfl,_⟩:=r;rfl
def zhY:Op2 X (compareOp .Is) pIs:=λI d e b k=>by
 have a:gIs false _ _ _:=b;unfold gIs at a
 split at a
 .cases z5Z.1 e
  exact is_none_gen (by rw[zds d];exact k.bl a)
 .exact a.elim
def zcI:Op2 X (compareOp .IsNot) z7l:=λI d e b k=>by
 have a:gIs true _ _ _:=b;unfold gIs at a
 split at a
 .cases z5Z.1 e
  exact isnot_none_gen (by rw[zds d];exact k.bl a)
 .exact a.elim
open Classical in
def zbU {a:D}{l:List D}{b:List Value}{u:Value}(S:X.A.units+64<cLine)(L:RD mg (hp O s.heap) a u)(n:Da 60 a)(o:∀d∈l,Da 60 d)(rs:Rws mg (hp O s.heap) l b):
  ∃e:Value->Bool,(∀y∈b,SeqAt.EqAt X.A.in1 s y u (e y))/\b.any e=l.any (λd=>deq d a)/\∀(i:Nat) (y:Value) (d:D),b[i]? = some y->l[i]? = some d->e y=deq d a:=by
 obtain⟨C,K⟩:=Da.reads 60 a n L;have key:∀(d:D) (y:Value),Da 60 d->RD mg (hp O s.heap) d y->SeqAt.EqAt X.A.in1 s y u (deq d a):=λd y m q=>by
  obtain⟨f,p⟩:=Da.reads 60 d m q;obtain⟨E,F⟩:=Da.canLay 60 d m;obtain⟨G,Q⟩:=Da.canLay 60 a n;exact SeqAt.eqAt_reads (py d) (py a) X.A.in1 s y u f C p K E G (by
   have:min (py d).depth (py a).depth<=60:=vd (Nat.min_le_left _ _) F;have:X.A.in1.units<=X.A.units+1:=by simp
   lia)
 let e:Value->Bool:=λy=>if h:∃g f,Reads s.heap y g f/\g.canLay0=true then PyData.eqv h.choose (py a) else false
 have x:∀(d:D) (y:Value),Da 60 d->RD mg (hp O s.heap) d y->e y=deq d a:=λd y m q=>by
  obtain⟨f,p⟩:=Da.reads 60 d m q;have h:∃g f,Reads s.heap y g f/\g.canLay0=true:=⟨_,f,p,(Da.canLay 60 d m).1⟩
  show (if h:∃g f,Reads s.heap y g f/\g.canLay0=true then PyData.eqv h.choose (py a) else false)=deq d a;rw[dif_pos h];obtain⟨R,N,U⟩:=h.choose_spec;rw[(Reads.unique N _ _ p).1]
  rfl
 have j:∀(i:Nat) (y:Value) (d:D),b[i]? = some y->l[i]? = some d->e y=deq d a:=λi y d H k=>by
  obtain⟨T,t,r⟩:=rs.get k;rw[H] at t;cases t;exact x d y (o d (wu k)) r
 refine⟨e,λy I =>?_,?_,j⟩
 .obtain⟨i,z⟩:=List.getElem?_of_mem I;obtain⟨d,k,r⟩:=rs.getR z;rw[j i y d z k];exact key d y (o d (wu k)) r
 .clear_value e
  clear j key
  induction rs with
  | nil=>rfl
  | cons r _ J=>
   rw[List.any_cons,List.any_cons,x _ _ (o _ wq) r,J λd n=>o d (wn _ n)]
end
def Gl (X:Cx)(x:Str):Prop:=X.env.kindOf x=some .globalImplicit
structure Room (k:Nat)(A:Around):Prop where
 hd:A.handled=none
 dp:A.depth+3*k+5<recursionLimit
 un:A.units+16*k+200<cLine
def Room.mono {j k:Nat}{A:Around}(r:Room k A)(h:j<=k):Room j A:=⟨r.hd,by have:=r.dp;lia,by have:=r.un;lia⟩
theorem Room.deeper {k:Nat}{A:Around}(r:Room (k+1) A)(env:PySem.Env):Room k (A.deeper env):=⟨r.hd,by have:=r.dp;show A.depth+1+3*k+5<_;lia,by have:=r.un;show A.units+3+16*k+200<_;lia⟩
def FnOk (P:Program)(w:World)(K:W.Frag)(mg:WmP)(k:Nat)(f:Addr)(F:Fn):Prop:=∀{A s O us ds Q0 Q},Room k A->Mod K mg s.heap->Hid K O s.heap->Rws ⟨P,w,mg⟩ (hp O s.heap) ds us->F.run ds Q0 NX->Po ⟨P,w,mg⟩ O s Q0 Q->codeAny (model P w) A (.call (.ref f) ⟨us,[]⟩) (λr s'=>match r with | .ok (.ret v)=>Q v s' | .ok _=>False | .error e=>NE e s') s
theorem FnOk.w {P:Program}{w:World}{K:W.Frag}{mg:WmP}{k:Nat}{f:Addr}{F:Fn}{A s O us ds Q0 Q}(h:FnOk P w K mg k f F)(r:Room k A)(m:Mod K mg s.heap)(o:Hid K O s.heap)(rs:Rws ⟨P,w,mg⟩ (hp O s.heap) ds us)(a:F.run ds Q0 NX)(b:Po ⟨P,w,mg⟩ O s Q0 Q):wpAny (model P w) A (call (.ref f) us) Q NE s:=wpAny_call (h r m o rs a b)
structure Cal (P:Program)(w:World)(K:W.Frag)(mg:WmP)(k:Nat)(x:Str)(F:Fn):Prop where
 ex:∃f,FnOk P w K mg k f F/\mg x=some (.ref f)/\W.keepIn K (.ref f)=true
section
variable {X:Cx}{O:AP}{ρ:Pu.Env}{s:Shared}{Q:WvP}{f:Str}{u:Value}{p pos:Pos}{e:Expr}{es:List Expr}{xs:List Ex}{F:Fn}{id:String}
def z8s (I:St X O ρ s)(b:Gl X f)(h:X.mg f=some u)(q:Q u s)(a:(f == ("__debug__":Str))=false):wpAny X.M X.A (eval (.Name f p) X.env) Q NE s:=
 Calls.Name_function_global I.ok.kind b (Calls.loadGlobal_global (by rw[I.ok.glob];exact I.mod.glob) h q) a
def z4c (I:St X O ρ s)(b:Gl X f)(d:X.mg f=none)(i:bootBuiltins f=some u)(q:Q u s)(e:f≠"__name__")(a:(f == ("__debug__":Str))=false):wpAny X.M X.A (eval (.Name f p) X.env) Q NE s:=by
 obtain⟨j,g,h⟩:=I.mod.blt;exact Calls.Name_function_global I.ok.kind b (Calls.loadGlobal_builtin (by rw[I.ok.glob];exact I.mod.glob) d (by rw[I.ok.blt];exact g) ((h f e).trans i) q) a
def zhL {k:Nat}(C:Cal X.prog X.w X.K X.mg k f F)(n:Room k X.A)(i:QA X (e::es) xs)(m:Gl X f)(j:(f == ("__debug__":Str))=false)(l:starEach (e::es) X.env=(false,eval e X.env)::starEach es X.env)(b:(backTo pos (starEach es X.env)).any (·.1)=false):QX X (.Call (.Name f p) (e::es) [] pos) (.op F xs):=⟨λI r k=>by
 obtain⟨a,ok,d,h⟩:=C.ex;exact vY (z8s I m d (W.callWith_K I.mod.kin h (i.p I r λo vs s q g rs=>⟨(I.up g).mod.kin,FnOk.w ok n (I.up g).mod (I.up g).ob rs q (k.le g)⟩) l b) j)⟩
def zhM (d:z4l X (.builtin id) F)(j:Gl X f)(l:X.mg f=none)(n:bootBuiltins f=some (.builtin id))(b:QA X (e::es) xs)(m:f≠"__name__")(h:(f == ("__debug__":Str))=false)(i:starEach (e::es) X.env=(false,eval e X.env)::starEach es X.env)(a:(backTo pos (starEach es X.env)).any (·.1)=false):QX X (.Call (.Name f p) (e::es) [] pos) (.op F xs):=⟨λI r k=>
 vY (z4c I j l n (uD (b.p I r λo vs s q g rs=>d (I.up g) rs q (k.le g)) i a) m h)⟩
def zg7 (d:z4l X (.type id) F)(j:Gl X f)(l:X.mg f=none)(n:bootBuiltins f=some (.type id))(b:QA X (e::es) xs)(m:f≠"__name__")(h:(f == ("__debug__":Str))=false)(i:starEach (e::es) X.env=(false,eval e X.env)::starEach es X.env)(a:(backTo pos (starEach es X.env)).any (·.1)=false):QX X (.Call (.Name f p) (e::es) [] pos) (.op F xs):=⟨λI r k=>
 vY (z4c I j l n (uR (b.p I r λo vs s q g rs=>d (I.up g) rs q (k.le g)) i a) m h)⟩
end
def z3M (mg:Rm)(G:Hp)(h:Heap)(a:Addr):D->Prop
 | .lst b=>∃vs n,h.get? a=some { cls :=.type "list",data :=.seq vs.toArray n }/\vs.length<=sizeLine/\Rws mg G b vs
 | .dct e b=>∃o d,h.get? a=some o/\DctO mg a o d/\e=d.map (λp=>kD p.1)/\Rws mg G b (d.map (·.2))
 | _=>False
def Kf (mg:Rm)(O:AP)(s:Shared)(Q0:DK)(Q:WvP):Prop:=∀d a e,Q0 d->Gx s e->s.heap.get? a=none->z3M mg (hp (λb=>O b\/b=a) e.heap) e.heap a d->Q (.ref a) e
structure QF (X:Cx)(e:Expr)(x:Ex):Prop where
 p:∀{O ρ s Q0 Q},St X O ρ s->x.run ρ Q0 NX->Kf X.rm O s Q0 Q->wpAny X.M X.A (eval e X.env) Q NE s
def zhv (X:Cx)(f:Value)(F:Fn):Prop:=∀{O a s ds vs Q0 Q},St X O a s->Rws X.rm (hp O s.heap) ds vs->F.run ds Q0 NX->Kf X.rm O s Q0 Q->wpAny X.M X.A (call f vs) Q NE s
section
variable {X:Cx}{O:AP}{ρ:Pu.Env}{s s1:Shared}{Q0:DK}{Q:WvP}{f:Str}{p pos:Pos}{e:Expr}{es:List Expr}{xs:List Ex}{x:Ex}{F:Fn}{id:String}{mg:Rm}{ds:List D}{vs:List Value}
def Kf.le (k:Kf mg O s Q0 Q)(g:Gx s s1):Kf mg O s1 Q0 Q:=λd a e q b h w=>k d a e q (g.trans b) (g.none h) w
def z3M.rd {G f:Hp}{h:Heap}{a:Addr}{d:D}(w:z3M mg G h a d)(k:∀o,h.get? a=some o->f a o)(m:∀b o,G b o->f b o):RD mg f d (.ref a):=by
 cases d with
 | lst g=>
  obtain⟨vs,n,e,j,r⟩:=w;exact z1L.2 ⟨a,_,vs,rfl,k _ e,⟨rfl,rfl,j,n,rfl⟩,Rws.mono r m⟩
 | dct p g=>
  obtain⟨o,l,e,q,i,r⟩:=w;exact zaR.2 ⟨a,o,l,rfl,k _ e,q,i,Rws.mono r m⟩
 | _=>exact w.elim
def Po.kf {K:W.Frag}(I:Hid K O s.heap)(k:Po mg O s Q0 Q):Kf mg O s Q0 Q:=λd a f q g h w=>k _ _ _ q g (w.rd (λo e=>⟨e,I.no h⟩) λb o q=>⟨q.1,λz=>q.2 (.inl z)⟩)
def QF.qx (h:QF X e x):QX X e x:=⟨λI r k=>h.p I r (k.kf I.ob)⟩
def Kf.new {s':Shared}{n:Nat}(k:Kf mg O s Q0 Q)(q:Q0 (.lst ds))(r:Rws mg (hp O s.heap) ds vs)(a:ds.length<=sizeLine)(g:Gx s s')(e:s'.heap.get? s.heap.objs.size=some { cls :=.type "list",data :=.seq vs.toArray n }):Q (.ref s.heap.objs.size) s':=
 k _ _ _ q g (z2O s) ⟨vs,n,e,r.len ▸ a,Rws.mono r λb o h=>⟨g.k _ _ h.1,λz=>z.elim h.2 λz=>by have h:=h.1;rw[z,z2O] at h;cases h⟩⟩
def zgf (h:QA X es xs):QF X (.List es pos) (.op pLst xs):=⟨λI r k=>wpAny_List_spliced (h.p I r λa vs b q g rs=>⟨by show vs.length<=_;rw[rs.len];exact q.1,(k.le g).new q.2 rs q.1 (Gx.push _) (wt _ rfl)⟩)⟩
def zfZ {j:Nat}(h:QA X es xs):QX X (.Tuple es j pos) (.op pTup xs):=⟨λI r k=>wpAny_Tuple_spliced (h.p I r λa vs b q g rs=>⟨by show vs.length<=_;rw[rs.len];exact q.1,(k.le g).newT (I.up g) q.2 rs q.1⟩)⟩
def zhS (d:zhv X (.builtin id) F)(j:Gl X f)(l:X.mg f=none)(n:bootBuiltins f=some (.builtin id))(b:QA X (e::es) xs)(m:f≠"__name__")(h:(f == ("__debug__":Str))=false)(i:starEach (e::es) X.env=(false,eval e X.env)::starEach es X.env)(a:(backTo pos (starEach es X.env)).any (·.1)=false):QF X (.Call (.Name f p) (e::es) [] pos) (.op F xs):=⟨λI r k=>
 vY (z4c I j l n (uD (b.p I r λo vs s q g rs=>d (I.up g) rs q (k.le g)) i a) m h)⟩
end
def z4O:sizeLine<2 ^ 63:=by decide
section
variable {X:Cx}
def cr1 {f:Value}{g:D->DK->Prop}{m}(h:∀{O b s d v Q0 Q},St X O b s->RD X.rm (hp O s.heap) d v->g d Q0->Po X.rm O s Q0 Q->wpAny X.M X.A (call f [v]) Q NE s):z4l X f (fn1 g m):=λI rs a k=>by
 obtain⟨d,rfl,q⟩:=z2D a;obtain⟨v,rfl,r⟩:=Paired.one rs;exact h I r q k
def crI {f:Value}{g:Int->Int->DK->Prop}{a}(h:∀{O d s i j t u Q0 Q},St X O d s->g i j Q0->Po X.rm O s Q0 Q->wpAny X.M X.A (call f [.int i t,.int j u]) Q NE s):z4l X f (fnI g a):=λI rs b k=>by
 obtain⟨i,j,rfl,q⟩:=zcW b;obtain⟨v,w,rfl,r1,r2⟩:=Paired.two rs;k_few;kfm_eq;exact h I q k
def zhk:z4l X (.builtin "len") pLen:=cr1 λI r q k=>by
 have f:=z4O;unfold gLen at q
 split at q
 .obtain⟨a,o,vs,rfl,⟨e,_⟩,b,p⟩:=z1L.1 r;have d:=b.2.2.1;exact Calls.call_len_list (b.lst e).isList (by simp only[wH] <;> lia) (by rw[wH,p.len];exact k.int q)
 .obtain⟨a,o,vs,rfl,⟨e,_⟩,b,p⟩:=z0O.1 r;have d:=b.2.2.1;exact len_tuple (b.tup e) (by simp only[wH] <;> lia) (by rw[wH,p.len];exact k.int q)
 .exact q.elim
def zhm:z4l X (.builtin "abs") pAbs:=cr1 λI r q k=>by
 unfold gAbs at q
 split at q
 .obtain⟨t,rfl⟩:=z0x.1 r;exact call_abs_int λb a=>k.int q
 .exact q.elim
def zf4:z4l X (.builtin "min") z9O:=crI λ{_ _ _ i j _ _ _ _} I q k=>min_two_ints I.ok.hd λb d g=>by
 by_cases a:j<i
 .rw[if_pos a] at q ⊢;exact k _ _ _ q (Gx.heap g) .int'
 .rw[if_neg a] at q ⊢;exact k _ _ _ q (Gx.heap g) .int'
def zd3:z4l X (.type "tuple") z12:=cr1 λ{O j s d v i Q} I r q k=>by
 unfold zbA at q
 split at q
 .obtain⟨a,o,vs,rfl,⟨e,_⟩,b,p⟩:=z1L.1 r;refine call_tuple_list (b.lst e).isList (λh g =>?_) (by simp only[wH];exact b.2.2.1);have f:Gx s { s with heap:=h }:=Gx.heap' g;exact(k.le f).newT (I.up f) q (p.up f) (p.len ▸ b.2.2.1)
 .obtain⟨a,o,vs,rfl,⟨e,_⟩,b,p⟩:=z0O.1 r;exact call_tuple_same (b.tup e) (k.now q r)
 .exact q.elim
end
section
variable {X:Cx}{O:AP}{ρ:Pu.Env}{s s':Shared}{mg:Rm}{Q0:DK}{Q:WvP}{a b e:Expr}{x y:Ex}{pos p2:Pos}
def zfe (b:Expr):Prop:=∀o i,subscripted b false o i=operate [o,i] (getItem o i)
def zcU {a b:D}{Q:DK}(h:gIx a b Q):∃l i c,b = .int i/\(a = .lst l\/a = .tup l)/\atI l i=some c/\Q c:=by
 unfold gIx at h
 split at h
 .obtain⟨c,e,q⟩:=z3A h;exact⟨_,_,c,rfl,.inl rfl,e,q⟩
 .obtain⟨c,e,q⟩:=z3A h;exact⟨_,_,c,rfl,.inr rfl,e,q⟩
 .exact h.elim
def zhK (K:QX X a x)(L:QX X b y)(A:zfe b):QX X (.Subscript a b pos) (.op pIx [x,y]):=⟨λI r k=>
 Subscript_ (K.p I r λd v S r g rd=>L.p (I.up g) r λO U T r E C=>by
  have rd:=rd.up E;have k:=(k.le g).le E;have R:=z4O;obtain⟨l,i,c,rfl,m,e,q⟩:=zcU r;obtain⟨t,rfl⟩:=z0x.1 C;obtain⟨j,h,G,Q,H,J⟩:=zfb e
  rcases m with rfl | rfl
  .obtain⟨a,o,vs,rfl,⟨u,_⟩,n,p⟩:=z1L.1 rd;obtain⟨w,s,f⟩:=p.get G;have m:=p.length;have N:=n.2.2.1;have pl:=(n.lst u).isList
   by_cases F:0<=i
   .have z:i.toNat=j:=by
     rw[seqIndex_of F J] at h;exact wQ h
    exact item_listR pl F (by lia) (by rw[z];simpa using s) (k.now q f) (A _ _)
   .have z:(i+(vs.toArray.size:Int)).toNat=j:=by
     rw[seqIndex_neg (by lia) H] at h;rw[wH, <- m];exact wQ h
    exact subscriptTail_builtinR pl.typeIs slot_list_getitem.lookup (wpAny_getItem_list_neg pl (by lia) (by rw[wH] <;> lia) (by lia) (by rw[z];simpa using s) ⟨rfl,k.now q f⟩) (A _ _)
  .obtain⟨a,o,vs,rfl,⟨u,_⟩,n,p⟩:=z0O.1 rd;obtain⟨w,s,f⟩:=p.get G;have m:=p.length;have N:=n.2.2.1;have pl:=n.tup u;exact subscriptTail_builtinR pl.typeIs slot_tuple_getitem.lookup (getItem_tuple (j:=j) pl (by lia) (by lia) (by rw[wH, <- m];exact h) (by simpa using s) ⟨rfl,k.now q f⟩) (A _ _))⟩
structure QO (X:Cx)(e:Option Expr)(o:Option Ex):Prop where
 p:∀{O ρ s} {Q0:Option Int->Prop}{Q:WvP},St X O ρ s->part o ρ Q0 NX->(∀i u s',Q0 i->Gx s s'->IsPart u i->Q u s')->wpAny X.M X.A (evalPart e X.env) Q NE s
def zen:QO X none none:=⟨λI r k=>wm (k _ _ _ r Gx.refl .none)⟩
def zem (h:QX X e x):QO X (some e) (some x):=⟨λI r k=>h.p I r λd v a q g rd=>by
 obtain⟨i,rfl,q⟩:=z9a q;obtain⟨t,rfl⟩:=z0x.1 rd;exact k _ _ _ q g (.int i t)⟩
def zhJ {lo F:Option Expr}{l u:Option Ex}(N:QX X e x)(U:QO X lo l)(W:QO X F u):QX X (.Subscript e (.Slice lo F none p2) pos) (.sl x l u):=⟨λ{O ρ s Y Q} I r k=>
 Subscript_ (N.p I r λd v s1 q g rd=>wpAny_Slice (U.p (I.up g) q λi y s2 q t pl=>W.p ((I.up g).up t) q λj z f q g3 K=>by
  rw[evalPart_none];refine wm ?_;have C:Gx f { f with heap:=f.heap.push { cls :=.type "slice",data :=.fields #[y,z,.none] } }:=Gx.push _;have rd:=((rd.up t).up g3).up C;have I:=(((I.up g).up t).up g3).up C;have k:=(((k.le g).le t).le g3).le C;have G:({ f with heap:=f.heap.push { cls :=.type "slice",data :=.fields #[y,z,.none] } }:Shared).heap.IsSliceOf f.heap.objs.size y z .none:=Heap.IsSliceOf.new ..;generalize Z:({ f with heap:=f.heap.push { cls :=.type "slice",data :=.fields #[y,z,.none] } }:Shared)=S at*;have fin:∃T J,typeLookup (.type T) "__getitem__"=pure (some (.builtin J))/\S.TypeIs v T/\wpAny X.M X.A (getItem v (.ref f.heap.objs.size)) Q NE S:=by
   unfold slcD at q
   split at q
   .obtain⟨a,o,vs,rfl,⟨n,_⟩,h,p⟩:=z1L.1 rd;have H:=h.2.2.1;refine⟨"list",_,slot_list_getitem.lookup,(h.lst n).isList.typeIs,?_⟩;refine wpAny_getItem_list_slice (h.lst n).isList G pl K .none (by simp) ?_ (by rw[wH];have:=z4O;lia);rw[z6h];refine k.newL I q ?_ (by unfold cutD;rw[w8,uY, <- p.len];lia);unfold cutD;rw[<- p.len];exact(p.drop _).take _
   .obtain⟨a,o,vs,rfl,⟨n,_⟩,h,p⟩:=z0O.1 rd;have H:=h.2.2.1;have m:=h.tup n;have b:vs.toArray.size=vs.length:=wH ..;refine⟨"tuple",_,jn.lookup,m.typeIs,?_⟩;refine HT.zal m G pl K (by rw[b];exact H) (λE=>k.now q ?_) (λE=>k.newT I q ?_ (by unfold cutD;rw[w8,uY, <- p.len];lia))
    .rw[b,p.len] at E;rw[za7 E];exact rd
    .unfold cutD;rw[b, <- p.len];exact(p.drop _).take _
   .exact q.elim
  obtain⟨T,J,L,V,R⟩:=fin;exact tail_any (ops:=[.ref f.heap.objs.size,v]) V L R (by with_unfolding_all rfl)))⟩
end
mutual
def z7x (K:W.Frag):D->Value->Bool
 | .int i,.int j _=>i == j
 | .str x,.str y _=>x == y
 | .non,.none=>true
 | .bl b,.bool c=>b == c
 | .tup e,.ref a=>match K.lookup a with
  | some o=>(match o.cls with | .type t=>t == "tuple" | _=>false) && (match o.data with
   | .seq d _=>(decide (d.size<=sizeLine) && o.dict.isNone) && z98 K e d.toList
   | _=>false)
  | none=>false
 | _,_=>false
def z98 (K:W.Frag):List D->List Value->Bool
 | [],[]=>true
 | d::a,v::vs=>z7x K d v && z98 K a vs
 | _,_=>false
end
def zhu (K:W.Frag)(mg:WmP)(x:Str)(d:D):Prop:=∃v,mg x=some v/\z7x K d v=true
section
variable {K:W.Frag}{mg:Rm}{G:Hp}
set_option tactic.hygienic true in
mutual
theorem z99 (k:∀a o,K.lookup a=some o->G a o):∀(d:D) {u:Value},z7x K d u=true->RD mg G d u
 | .non,u,h=>by
  cases u with
  | none=>exact .non'
  | _=>cases h
 | .bl b,u,h=>by
  cases u with
  | bool c=>rw[z7x] at h;cases (eq_of_beq h);exact .bl'
  | _=>cases h
 | .int i,u,h=>by
  cases u with
  | int j t=>rw[z7x] at h;cases (eq_of_beq h);exact .int'
  | _=>cases h
 | .str x,u,h=>by
  cases u with
  | str y t=>rw[z7x] at h;cases (eq_of_beq h);exact .str'
  | _=>cases h
 | .tup l,u,h=>by
  cases u with
  | ref a=>
   rw[z7x] at h
   split at h
   .rename_i o p
    rw[vF] at h;obtain⟨f,e⟩:=h
    split at e
    .rename_i g n m
     rw[vF,vF] at e;refine z0O.2 ⟨a,o,g.toList,rfl,k a o p,⟨?_,Option.isNone_iff_eq_none.mp e.1.2,ux e.1.1,n,m⟩,z7w k l e.2⟩
     split at f
     .rename_i t q;rw[q,eq_of_beq f]
     .cases f
    .cases e
   .cases h
  | _=>cases h
 | .lst _,_,h=>by cases h
 | .dct _ _,_,h=>by cases h
 | .fn _,_,h=>by cases h
theorem z7w (b:∀a o,K.lookup a=some o->G a o):∀(ds:List D) {us:List Value},z98 K ds us=true->Rws mg G ds us
 | [],[],_ =>.nil
 | [],_::_,h=>by cases h
 | _::_,[],h=>by cases h
 | d::ds,u::us,h=>by
  rw[z98,vF] at h;exact .cons (z99 b d h.1) (z7w b ds h.2)
end
end
section
variable {X:Cx}{x:Str}{d:D}{p pos:Pos}{e t:Expr}{es:List Expr}{xs:List Ex}{y:Ex}{n i k:Nat}{F:Fn}
def zhN (f:Gl X x)(g:zhu X.K X.mg x d)(b:(x == ("__debug__":Str))=false):QX X (.Name x pos) (.c d):=⟨λI r k=>by
 obtain⟨u,i,h⟩:=g;exact z8s I f i (k.now r (z99 (λa o e=>⟨I.mod.kin a o e,λz=>by rw[(I.ob a z).2] at e;cases e⟩) d h)) b⟩
def FTab (P:Program)(w:World)(K:W.Frag)(mg:WmP)(k:Nat)(T:Nat->Fn):Prop:=∀n f,mg (z5w n)=some (.ref f)->∃j,j<=k/\FnOk P w K mg j f (T n)/\W.keepIn K (.ref f)=true
def FTab.mk {P:Program}{w:World}{K:W.Frag}{mg:WmP}{T:Nat->Fn}(b:mg ""=none)(h:∀n<4,∀f,mg (z5w n)=some (.ref f)->∃j,j<=k/\FnOk P w K mg j f (T n)/\W.keepIn K (.ref f)=true):FTab P w K mg k T:=λn f e=>by
 by_cases a:n<4
 .exact h n a f e
 .rw[show z5w n="" from by
   match n,a with
   | 0,h=>simp_all
   | 1,h=>simp_all
   | 2,h=>simp_all
   | 3,h=>simp_all
   | n+4,_=>rfl,b] at e
  cases e
def Cal.tab {P:Program}{w:World}{K:W.Frag}{mg:WmP}{j:Nat}(C:Cal P w K mg j x F)(h:j<=k)(f:Addr)(e:mg x=some (.ref f)):∃j,j<=k/\FnOk P w K mg j f F/\W.keepIn K (.ref f)=true:=by
 obtain⟨d,ok,b,a⟩:=C.ex;rw[b] at e;cases e;exact⟨j,h,ok,a⟩
def zcr {T:Nat->Fn}(C:FTab X.prog X.w X.K X.mg k T)(u:Room k X.A)(y:QX X (.Name x p) (.v i))(h:QA X (e::es) xs)(l:starEach (e::es) X.env=(false,eval e X.env)::starEach es X.env)(b:(backTo pos (starEach es X.env)).any (·.1)=false):QX X (.Call (.Name x p) (e::es) [] pos) (.callv T i xs):=⟨λI z k=>by
 obtain⟨n,t,r⟩:=z;refine vY (y.p (Q0:=λd=>d = .fn n) I (by show onV _ _;rw[t];rfl) λd v F ed g rd =>?_);subst ed;rw[RD] at rd;obtain⟨f,rfl,s⟩:=rd;obtain⟨j,m,ok,o⟩:=C n f s;exact W.callWith_K (I.up g).mod.kin o (h.p (I.up g) r λE vs G q a rs=>⟨((I.up g).up a).mod.kin,FnOk.w ok (u.mono m) ((I.up g).up a).mod ((I.up g).up a).ob rs q ((k.le g).le a)⟩) l b⟩
def zdu {n:Nat}(e:z5w n=x)(d:Gl X x)(C:Cal X.prog X.w X.K X.mg k x F)(b:(x == ("__debug__":Str))=false):QX X (.Name x p) (.c (.fn n)):=⟨λI r k=>by
 obtain⟨f,ok,a,g⟩:=C.ex;exact z8s I d a (k.now r (by rw[RD];exact⟨f,rfl,by rw[e];exact a⟩)) b⟩
def zeP {K:W.Frag}{T:String}(a:T∈zcQ):W.kitOne K (.type "int") (.type T)=some (T == "int")/\W.kitOne K (.type "bool") (.type T)=some (T == "int" || T == "bool")/\W.kitOne K (.type "str") (.type T)=some (T == "str")/\
  W.kitOne K (.type "tuple") (.type T)=some (T == "tuple")/\W.kitOne K (.type "list") (.type T)=some (T == "list")/\W.kitOne K (.type "NoneType") (.type T)=some false:=by
 unfold zcQ at a;simp only[wj,wF,vS] at a
 rcases a with rfl | rfl | rfl | rfl | rfl <;> exact⟨rfl,rfl,rfl,rfl,rfl,rfl⟩
structure QV (X:Cx)(e:Expr)(u:Value):Prop where
 p:∀{O ρ s} {Q:WvP},St X O ρ s->Q u s->wpAny X.M X.A (eval e X.env) Q NE s
def zeq {u:Value}(b:Gl X x)(d:X.mg x=none)(f:bootBuiltins x=some u)(e:x≠"__name__")(a:(x == ("__debug__":Str))=false):QV X (.Name x p) u:=⟨λI q=>z4c I b d f q e a⟩
def zh5 {T:String}{O:AP}{r:Pu.Env}{s:Shared}{v:Value}{b:Bool}{Q:WvP}(g:T∈zcQ)(I:St X O r s)(rd:RD X.rm (hp O s.heap) d v)(f:isiD T d=some b)(fin:∀tk,Q (.bool b) { s with toks:=tk }):wpAny X.M X.A (call (.builtin "isinstance") [v,.type T]) Q NE s:=by
 obtain⟨h,j,k,m,n,p⟩:=zeP (K:=X.K) g
 cases d with
 | int i=>
  obtain⟨t,rfl⟩:=z0x.1 rd;exact W.kia_one W.kitx_int I.mod.kin True.intro (h.trans f) (λz=>nomatch z) fin
 | bl i=>
  cases z4U.1 rd
  exact W.kia_one W.kitx_bool I.mod.kin True.intro (j.trans f) (λz=>nomatch z) fin
 | str i=>
  obtain⟨t,rfl⟩:=z5h.1 rd;exact W.kia_one W.kitx_str I.mod.kin True.intro (k.trans f) (λz=>nomatch z) fin
 | non=>
  cases z5Z.1 rd
  exact W.kia_one W.kitx_none I.mod.kin True.intro (p.trans f) (λz=>nomatch z) fin
 | tup l=>
  obtain⟨a,o,vs,rfl,⟨e,_⟩,q,_⟩:=z0O.1 rd;exact W.kia_one W.kitx_tuple I.mod.kin ⟨o,e,q.1⟩ (m.trans f) (λz=>nomatch z) fin
 | lst l=>
  obtain⟨a,o,vs,rfl,⟨e,_⟩,q,_⟩:=z1L.1 rd;exact W.kia_one W.kitx_list I.mod.kin ⟨o,e,q.1⟩ (n.trans f) (λz=>nomatch z) fin
 | _=>cases f
def zg4 {T:String}{x:Pos}(l:T∈zcQ)(n:Gl X "isinstance")(o:X.mg "isinstance"=none)(m:QX X e y)(u:QV X t (.type T))(a:starEach [e,t] X.env=(false,eval e X.env)::starEach [t] X.env)(f:starEach [t] X.env=(false,eval t X.env)::starEach [] X.env)(h:(backTo pos (starEach [t] X.env)).any (·.1)=false):
  QX X (.Call (.Name "isinstance" x) [e,t] [] pos) (.op (pIsi T) [y]):=⟨λ{O F s i Q} I r k=>
 vY (z4c I n o (by rfl) (uD (by
  rw[a];refine vX (m.p I r λd v C q g rd =>?_);have z:onB (isiD T d) λb=>i (.bl b):=q;obtain⟨b,j,A⟩:=zcF z;have:=f;rw[f];exact vX (u.p (I.up g) (uz (zh5 l (I.up g) rd j λE=>k _ _ _ A (g.trans Gx.tok) .bl')))) a h) (by decide) (by decide))⟩
end
abbrev Vls:=List (Option Value)
def Prot (X:Cx)(a:Addr):Prop:=a≠X.env.locals/\∀x c,X.env.cells.lookup x=some c->c≠a
abbrev Fr (X:Cx)(O:AP):AP:=λa=>O a\/¬ Prot X a
def Own (b:Pu.Env)(e:Vls)(a:Addr):Prop:=∃(j:Nat) (d:D),b[j]? = some (B.o d)/\e[j]? = some (some (Value.ref a))
def Mu (X:Cx)(O:AP)(b:Pu.Env)(d:Vls):AP:=λa=>O a\/¬ Prot X a\/Own b d a
structure SS (X:Cx)(O:AP)(H0:Hp)(ρ:Pu.Env)(σ:Vls)(s:Shared):Prop where
 ok:X.Ok
 fn:X.fn=true
 m0:Mod X.K X.mg X.s₀.heap
 eq:∃h t,s={ X.s₀ with heap:=h,toks:=t }
 ob:Hid X.K O s.heap
 loc:∃m cm,z8C X s.heap m cm/\∀(i:Nat) x v,X.N[i]? = some x->σ[i]? = some (some v)->Look X m cm x v
 len:σ.length=ρ.length
 b0:∀a o,X.s₀.heap.get? a=some o->H0 a o
 h0:∀a o,H0 a o->s.heap.get? a=some o/\Prot X a
 sh:∀(i:Nat) d,ρ[i]? = some (B.s d)->∃v,σ[i]? = some (some v)/\RD X.rm (hp (Mu X O ρ σ) s.heap) d v
 ow:∀(i:Nat) d,ρ[i]? = some (B.o d)->∃a,σ[i]? = some (some (Value.ref a))/\¬ O a/\Prot X a/\(∀o,¬ H0 a o)/\z3M X.rm (hp (Mu X O ρ σ) s.heap) s.heap a d
 ne:∀(i j:Nat) d d' a,i≠j->ρ[i]? = some (B.o d)->ρ[j]? = some (B.o d')->σ[i]? = some (some (Value.ref a))->σ[j]? = some (some (Value.ref a))->False
section
variable {X:Cx}{O O':AP}{H0:Hp}{ρ ρ':Pu.Env}{σ σ':Vls}{s s1 s2:Shared}{mg:Rm}{G G':Hp}{h h':Heap}{a c:Addr}{d:D}{v:Value}{i:Nat}{x:Str}
theorem z3M.mono (w:z3M mg G h a d)(k:∀b o,G b o->G' b o)(e:∀o,h.get? a=some o->h'.get? a=some o):z3M mg G' h' a d:=by
 cases d with
 | lst f=>
  obtain⟨vs,n,q,z,r⟩:=w;exact⟨vs,n,e _ q,z,Rws.mono r k⟩
 | dct j f=>
  obtain⟨o,i,q,z,g,r⟩:=w;exact⟨o,i,e _ q,z,g,Rws.mono r k⟩
 | _=>exact w.elim
def z3M.ex (w:z3M mg G h a d):∃o,h.get? a=some o/\(((∃l,d = .lst l)/\o.cls = .type "list")\/((∃ks ds,d = .dct ks ds)/\o.cls = .type "dict")):=by
 cases d with
 | lst ds=>
  obtain⟨vs,n,q,z,r⟩:=w;exact⟨_,q,.inl ⟨⟨_,rfl⟩,rfl⟩⟩
 | dct ks ds=>
  obtain⟨o,g,q,z,b,r⟩:=w;obtain⟨f,e,z,_⟩:=z.2.2;exact⟨o,q,.inr ⟨⟨_,_,rfl⟩,z.1⟩⟩
 | _=>exact w.elim
def els:D->List D
 | .lst l=>l
 | .dct _ a=>a
 | _=>[]
def Rws.map' {ds:List D}{vs:List Value}(r:Rws mg G ds vs)(k:∀x v,x∈ds->RD mg G x v->RD mg G' x v):Rws mg G' ds vs:=by
 induction r with
 | nil=>exact .nil
 | cons r _ b=>exact .cons (k _ _ wq r) (b λx v a=>k x v (wn _ a))
theorem z3M.els (w:z3M mg G h a d)(k:∀x v,x∈els d->RD mg G x v->RD mg G' x v):z3M mg G' h a d:=by
 cases d with
 | lst b=>
  obtain⟨vs,n,q,z,r⟩:=w;exact⟨vs,n,q,z,r.map' k⟩
 | dct g b=>
  obtain⟨o,f,q,z,e,r⟩:=w;exact⟨o,f,q,z,e,r.map' k⟩
 | _=>exact w.elim
def SS.k0 (S:SS X O H0 ρ σ s):Gx X.s₀ s:=⟨S.eq,λb o e=>(S.h0 b o (S.b0 b o e)).1⟩
def SS.mod (S:SS X O H0 ρ σ s):Mod X.K X.mg s.heap:=S.m0.up S.k0.k
def SS.own (S:SS X O H0 ρ σ s)(h:Own ρ σ a):∃o,s.heap.get? a=some o/\¬ O a/\Prot X a/\∀o,¬ H0 a o:=by
 obtain⟨j,d,e,q⟩:=h;obtain⟨b,f,g,i,k,w⟩:=S.ow j d e;rw[q] at f;cases f;obtain⟨o,e,_⟩:=w.ex;exact⟨o,e,g,i,k⟩
theorem SS.up (S:SS X O H0 ρ σ s)(g:Gx s s1):SS X O H0 ρ σ s1 where
 ok:=S.ok
 fn:=S.fn
 m0:=S.m0
 eq:=(S.k0.trans g).e
 ob:=S.ob.up g.k
 loc:=let ⟨m,f,n,l⟩:=S.loc;⟨m,f,n.up g.k,l⟩
 len:=S.len
 b0:=S.b0
 h0 a o q:=⟨g.k _ _ (S.h0 a o q).1,(S.h0 a o q).2⟩
 sh i d e:=(S.sh i d e).imp λv q=>⟨q.1,q.2.up g⟩
 ow i d e:=(S.ow i d e).imp λa q=>⟨q.1,q.2.1,q.2.2.1,q.2.2.2.1,q.2.2.2.2.mono (λb o q=>⟨g.k _ _ q.1,q.2⟩) λo e=>g.k _ _ e⟩
 ne:=S.ne
def Env.get_some {a:Pu.Env}{i:Nat}{d:D}(h:a.get i=some d):a[i]? = some (.s d)\/a[i]? = some (.o d):=by
 rw[Env.get_eq] at h
 cases e:a[i]? with
 | none=>rw[e] at h;cases h
 | some b=>
  rw[e] at h
  cases b with
  | n=>cases h
  | s f=>cases h;exact .inl rfl
  | o f=>cases h;exact .inr rfl
def SS.hid (S:SS X O H0 ρ σ s):Hid X.K (Mu X O ρ σ) s.heap:=λa h=>by
 have key:∀{o},X.K.lookup a=some o->Prot X a/\H0 a o:=λ{o} e=>have q:=S.b0 _ _ (S.m0.kin _ _ e);⟨(S.h0 _ _ q).2,q⟩;have b:(∀o,X.K.lookup a=some o->False)->X.K.lookup a=none:=λk=>by
  cases e:X.K.lookup a with
  | none=>rfl
  | some o=>exact(k o e).elim
 rcases h with h | h | h
 .exact S.ob a h
 .refine⟨?_,b λo e=>h (key e).1⟩;obtain⟨m,g,⟨⟨o,_,_,e,_⟩,n⟩,_⟩:=S.loc
  by_cases d:a=X.env.locals
  .exact⟨o,d ▸ e⟩
  .obtain⟨x,c,q,rfl⟩:∃x c,X.env.cells.lookup x=some c/\c=a:=wZ λz=>h ⟨d,λx c e q=>z ⟨x,c,e,q⟩⟩;obtain⟨o,e,_⟩:=n x c q;exact⟨o,e⟩
 .obtain⟨o,e,_,_,f⟩:=S.own h;exact⟨⟨_,e⟩,b λo e=>f o (key e).2⟩
def SS.st (S:SS X O H0 ρ σ s):St X (Fr X O) ρ s:=⟨S.ok,S.mod,λa z=>S.hid a (z.imp_right .inl),by
 obtain⟨m,f,n,l⟩:=S.loc;refine⟨m,f,n,λi x d b j =>?_⟩
 rcases Env.get_some j with e | e
 .obtain⟨v,q,r⟩:=S.sh i d e;exact⟨v,l i x v b q,r.mono λa o q=>⟨q.1,λz=>q.2 (z.imp_right .inl)⟩⟩
 .obtain⟨a,q,g,h,_,w⟩:=S.ow i d e;exact⟨_,l i x _ b q,w.rd (λo e=>⟨e,λz=>z.elim g (· h)⟩) λa o q=>⟨q.1,λz=>q.2 (z.imp_right .inl)⟩⟩⟩
theorem SS.vis (S:SS X O H0 ρ σ s):St X (Mu X O ρ σ) (vis ρ) s:=⟨S.ok,S.mod,S.hid,by
 obtain⟨m,f,n,l⟩:=S.loc;refine⟨m,f,n,λi x d g a =>?_⟩;rw[Env.get_eq] at a;unfold Pu.vis at a;rw[wN] at a
 cases e:ρ[i]? with
 | none=>rw[e] at a;cases a
 | some b=>
  rw[e] at a
  cases b with
  | s h=>
   cases a
   obtain⟨v,q,r⟩:=S.sh i d e;exact⟨v,l i x v g q,r⟩
  | _=>cases a⟩
theorem Safe.get {d:D}:∀{a:Pu.Env}{j:Nat}{b:B},Safe d a->a[j]? = some b->zfw d b
 | [],_,_,_,e=>by simp at e
 | c::r,0,b,h,e=>by simp at e;subst e;exact h.1
 | c::r,j+1,b,h,e=>Safe.get (j:=j) h.2 (by simpa using e)
def SS.safe (S:SS X O H0 ρ σ s)(g:Gx s s1)(m:∀(j:Nat) d,ρ'[j]? = some (B.o d)->ρ[j]? = some (B.o d))(C:Safe d ρ')(x:∀a,Fr X O a->O' a)(r:RD X.rm (hp O' s1.heap) d v):RD X.rm (hp (λb=>Mu X O ρ' σ b\/O' b) s1.heap) d v:=by
 have A:=S.up g;have p:∀{a o},Own ρ' σ a->s1.heap.get? a=some o->o.cls ≠ .type "tuple"/\(o.cls = .type "list"->noL d=true)/\(o.cls = .type "dict"->noD d=true):=λ{a o} ⟨j,t,e,q⟩ h=>by
  obtain⟨b,y,_,_,_,w⟩:=A.ow j t (m j t e);rw[q] at y;cases y;obtain⟨J,u,w⟩:=w.ex;rw[h] at u;cases u;have sb:=C.get e
  rcases w with ⟨⟨l,rfl⟩,c⟩ | ⟨⟨H,E,rfl⟩,c⟩
  .exact⟨by rw[c];decide,λ_=>sb,λz=>by rw[c] at z;exact absurd z (by decide)⟩
  .exact⟨by rw[c];decide,λz=>by rw[c] at z;exact absurd z (by decide),λ_=>sb⟩
 have f:∀{a o},hp O' s1.heap a o->(Own ρ' σ a->False)->hp (λb=>Mu X O ρ' σ b\/O' b) s1.heap a o:=λ{a o} q n=>⟨q.1,λz=>by
  rcases z with (z | z | z) | z
  .exact q.2 (x _ (.inl z))
  .exact q.2 (x _ (.inr z))
  .exact n z
  .exact q.2 z⟩
 refine RD.ch (B:=noL d=true) (B':=noD d=true) (λa o vs q k=>f q λz=>(p z q.1).1 k.1) (Classical.byCases .inr λi =>.inl λa o vs q k=>f q λz=>i ((p z q.1).2.1 k.1)) (Classical.byCases .inr λi =>.inl λa o I q k=>f q λz=>i ((p z q.1).2.2 ?_)) d id id r;obtain⟨G,F,z,_⟩:=k.2.2;exact z.1
def SS.safe0 (S:SS X O H0 ρ σ s)(g:Gx s s1)(a:∀(j:Nat) d,ρ'[j]? = some (B.o d)->ρ[j]? = some (B.o d))(b:Safe d ρ')(r:RD X.rm (hp (Fr X O) s1.heap) d v):RD X.rm (hp (Mu X O ρ' σ) s1.heap) d v:=
 (S.safe g a b (λ_ z=>z) r).mono λ_ _ q=>⟨q.1,λz=>q.2 (.inl z)⟩
end
section
variable {X:Cx}{O O':AP}{H0 H1:Hp}{ρ ρ':Pu.Env}{σ σ':Vls}{s s1 s2:Shared}{h':Heap}{a c:Addr}{d:D}{b:B}{v:Value}{i:Nat}{x:Str}{Q:Unit->Shared->Prop}
def NewV (X:Cx)(O:AP)(e:Pu.Env)(f:Vls)(s s1:Shared)(b:B)(v:Value):Prop:=match b with
 | .n=>False
 | .s d=>RD X.rm (hp (Mu X O e f) s1.heap) d v
 | .o d=>∃a,v = .ref a/\s.heap.get? a=none/\¬ O a/\z3M X.rm (hp (λb=>Mu X O e f b\/b=a) s1.heap) s1.heap a d
def z1R {α:Type}{l:List α}{j i:Nat}{x y:α}(e:(l.set i y)[j]? = some x):(j=i/\x=y/\i<l.length)\/(j≠i/\l[j]? = some x):=by
 by_cases h:j=i
 .subst h;have a:j<l.length:=by
   have:=(wo.mp e).1;k_ne
  rw[List.getElem?_set_self a] at e
  cases e;exact .inl ⟨rfl,rfl,a⟩
 .rw[List.getElem?_set_ne (jX h)] at e;exact .inr ⟨h,e⟩
def z8L {α:Type}{l:List α}{i:Nat}{y:α}(h:i<l.length):(l.set i y)[i]? = some y:=List.getElem?_set_self h
def z3T {α:Type}{l:List α}{j i:Nat}{y:α}(h:j≠i):(l.set i y)[j]? = l[j]? := List.getElem?_set_ne (jX h)
def SS.setk (S:SS X O H0 ρ σ s)(g:Gx s s1)(ho:∀a,O a->O' a)(hO:∀a,O' a->O a\/s.heap.get? a=none)(ob:Hid X.K O' s1.heap)(nd:X.N.Nodup)(hx:X.N[i]? = some x)(C:X.env.kindOf x=some .local\/X.env.kindOf x=some .cell)
  (nv:NewV X O' (ρ.set i .n) σ s s1 b v) (h:∀s2,SS X O' H0 (ρ.set i b) (σ.set i (some v)) s2->(∀b o,Prot X b->s1.heap.get? b=some o->s2.heap.get? b=some o)->Q () s2):wpAny X.M X.A (storeName X.env x v) Q NE s1:=by
 have S1:=S.up g;obtain⟨m,cm,⟨n1,n2⟩,l⟩:=S1.loc;have fin:∀(c:Addr) (F:Heap) (t':Nat) (m' I:WmP),¬ Prot X c->Heap.SameBut c s1.heap F->(∃o,F.get? c=some o)->z8C X F m' I->
   (∀(j:Nat) y u,X.N[j]? = some y->(σ.set i (some v))[j]? = some (some u)->Look X m' I y u)->SS X O' H0 (ρ.set i b) (σ.set i (some v)) { s1 with heap:=F,toks:=t' }:=λc F t' m' I nc sb ex nm lk=>by
  have E:∀{a o},s1.heap.get? a=some o->Prot X a->F.get? a=some o:=λ{a o} e p=>(sb.2 a λz=>nc (z ▸ p)).trans e;have own:∀{a},Own (ρ.set i b) (σ.set i (some v)) a->Own (ρ.set i .n) σ a\/(∃d,b = .o d)/\v = .ref a:=λ{a} ⟨j,d,e,q⟩=>by
   rcases z1R e with ⟨rfl,e,_⟩ | ⟨f,e⟩
   .rcases z1R q with ⟨_,q,_⟩ | ⟨z,_⟩
    .cases q;exact .inr ⟨⟨d,e.symm⟩,rfl⟩
    .exact(z rfl).elim
   .rcases z1R q with ⟨z,_⟩ | ⟨_,q⟩
    .exact(f z).elim
    .exact .inl ⟨j,d,by rw[z3T f];exact e,q⟩
  have own0:∀{a},Own (ρ.set i .n) σ a->Own ρ σ a:=λ{a} ⟨j,d,e,q⟩=>by
   rcases z1R e with ⟨_,z,_⟩ | ⟨f,e⟩
   .cases z
   .exact⟨j,d,e,q⟩
  have new:∀{a},(∃d,b = .o d)/\v = .ref a->s.heap.get? a=none:=λ{a} ⟨⟨d,e⟩,W⟩=>by
   subst e;obtain⟨a',e3,R,_,_⟩:=nv;rw[W] at e3;cases e3;exact R
  have a1:∀{a o},hp (Mu X O ρ σ) s.heap a o->hp (Mu X O' (ρ.set i b) (σ.set i (some v))) F a o:=λ{a o} ⟨e,q⟩=>by
   have p:Prot X a:=wZ λz=>q (.inr (.inl z));refine⟨E (g.k _ _ e) p,λz =>?_⟩
   rcases z with z | z | z
   .rcases hO _ z with z | z
    .exact q (.inl z)
    .rw[z] at e;cases e
   .exact z p
   .rcases own z with z | z
    .exact q (.inr (.inr (own0 z)))
    .rw[new z] at e;cases e
  refine⟨S.ok,S.fn,S.m0,?_,λa q=>⟨?_,(ob a q).2⟩,⟨m',I,nm,lk⟩,by simp[S.len],S.b0,λa o q=>⟨E (S1.h0 a o q).1 (S.h0 a o q).2,(S.h0 a o q).2⟩,λj d e =>?_,λj d e =>?_,λj k d U a Y e L q T =>?_⟩
  .obtain⟨h0,t0,e⟩:=S1.eq;exact⟨F,t',by rw[e]⟩
  .by_cases z:a=c
   .rw[z];exact ex
   .rw[sb.2 a z];exact(ob a q).1
  .rcases z1R e with ⟨rfl,e,hl⟩ | ⟨f,e⟩
   .subst e;refine⟨v,z8L (by rw[S.len];exact hl),RD.mono (show RD X.rm (hp (Mu X O' (ρ.set j .n) σ) s1.heap) d v from nv) λa o q =>?_⟩;have p:Prot X a:=wZ λz=>q.2 (.inr (.inl z));refine⟨E q.1 p,λz =>?_⟩
    rcases z with z | z | z
    .exact q.2 (.inl z)
    .exact z p
    .rcases own z with z | ⟨⟨d,z⟩,_⟩
     .exact q.2 (.inr (.inr z))
     .cases z
   .obtain⟨u,V,r⟩:=S.sh j d e;exact⟨u,by rw[z3T f];exact V,r.mono λa o q=>a1 q⟩
  .rcases z1R e with ⟨rfl,e,hl⟩ | ⟨f,e⟩
   .subst e;obtain⟨a,rfl,R,e5,w⟩:=nv;have p:Prot X a:=by
     obtain⟨_,_,⟨⟨o0,_,_,H,_⟩,n0⟩,_⟩:=S.loc;refine⟨λz =>?_,λy c t z =>?_⟩
     .rw[z,H] at R;cases R
     .obtain⟨o,H,_⟩:=n0 y c t;rw[z,R] at H;cases H
    refine⟨a,z8L (by rw[S.len];exact hl),e5,p,λo q=>(by rw[(S.h0 a o q).1] at R;cases R),w.mono (λb o q =>?_) λo e=>E e p⟩;have p:Prot X b:=wZ λz=>q.2 (.inl (.inr (.inl z)));refine⟨E q.1 p,λz =>?_⟩
    rcases z with z | z | z
    .exact q.2 (.inl (.inl z))
    .exact z p
    .rcases own z with z | ⟨_,z⟩
     .exact q.2 (.inl (.inr (.inr z)))
     .cases z;exact q.2 (.inr rfl)
   .obtain⟨a,V,h1,h2,h3,w⟩:=S.ow j d e;exact⟨a,by rw[z3T f];exact V,(λz=>(hO _ z).elim h1 λz=>by obtain⟨o,H,_⟩:=w.ex;rw[z] at H;cases H),h2,h3,w.mono (λa o q=>a1 q) λo e=>E (g.k _ _ e) h2⟩
  .have one:∀{j k d U},j=i->k≠i->(ρ.set i b)[j]? = some (B.o d)->(ρ.set i b)[k]? = some (B.o U)->(σ.set i (some v))[j]? = some (some (.ref a))->(σ.set i (some v))[k]? = some (some (.ref a))->False:=λ{j k d U} f C e L q T=>by
    subst f;have W:=(z3T C).symm.trans L;have q2:=(z3T C).symm.trans T;clear L T
    rcases z1R e with ⟨_,e,_⟩ | ⟨z,_⟩
    .rcases z1R q with ⟨_,q,_⟩ | ⟨z,_⟩
     .cases q
      obtain⟨o,H,_⟩:=S.own ⟨k,U,W,q2⟩;rw[new ⟨⟨d,e.symm⟩,rfl⟩] at H;cases H
     .exact z rfl
    .exact z rfl
   by_cases f:j=i
   .exact one f (λz=>Y (f.trans z.symm)) e L q T
   .by_cases C:k=i
    .exact one C f L e T q
    .rw[z3T f] at e q;rw[z3T C] at L T;exact S.ne j k d U a Y e L q T
 have J:∀{j:Nat}{y:Str},X.N[j]? = some y->j≠i->y≠x:=λ{j y} e f z=>by
  obtain⟨h1,V⟩:=wo.mp e;obtain⟨h2,W⟩:=wo.mp hx;exact f ((List.getElem_inj nd).mp (by rw[V,W,z]))
 have a0:∀{y c},X.env.cells.lookup y=some c->c≠X.env.locals:=λ{y c} t z=>by
  obtain⟨o,_,_,H,d6,_⟩:=n1;obtain⟨o2,e7,d7⟩:=n2 y c t;rw[z,H] at e7;cases e7;rw[d6] at d7;cases d7
 rcases C with C | C
 .refine wpAny_storeName_local C n1 (λF Z sb=>h _ (fin _ F _ _ cm (λp=>p.1 rfl) sb (let ⟨o,_,_,e,_⟩:=Z;⟨o,e⟩) ⟨Z,λy c t=>(n2 y c t).sameBut sb (a0 t)⟩ λj y u e q =>?_) λb o p e=>(sb.2 b p.1).trans e) (by rw[S.ok.kind];rfl)
  rcases z1R q with ⟨rfl,q,_⟩ | ⟨f,q⟩
  .cases q
   rw[hx] at e;cases e;exact .inl ⟨C,by simp⟩
  .rcases l j y u e q with ⟨k,q⟩ | ⟨k,c,t,q⟩
   .exact .inl ⟨k,by simp[J e f,q]⟩
   .exact .inr ⟨k,c,t,q⟩
 .obtain⟨c,t⟩:=S.ok.has x (.inl C);refine wpAny_storeName_cell S.ok.kind C t (n2 x c t) λF Z sb=>h _ (fin c F s1.toks m (λy=>if y=x then some v else cm y) (λp=>p.2 x c t rfl) sb (let ⟨o,e,_⟩:=Z;⟨o,e⟩) ⟨n1.sameBut sb (jX (a0 t)),λy c' G =>?_⟩ λj y u e q =>?_) λb o p e=>(sb.2 b λz=>p.2 x c t z.symm).trans e
  .by_cases hy:y=x
   .subst hy;rw[t] at G;cases G;simpa using Z
   .show F.IsCell c' (if y=x then _ else _);rw[if_neg hy];exact(n2 y c' G).sameBut sb λz=>hy (S.ok.inj _ _ _ G (z ▸ t))
  .rcases z1R q with ⟨rfl,q,_⟩ | ⟨f,q⟩
   .cases q
    rw[hx] at e;cases e;exact .inr ⟨.inl C,c,t,by simp⟩
   .rcases l j y u e q with ⟨k,q⟩ | ⟨k,c',G,q⟩
    .exact .inl ⟨k,q⟩
    .exact .inr ⟨k,c',G,by simp[J e f,q]⟩
theorem SS.set (S:SS X O H0 ρ σ s)(g:Gx s s1)(j:X.N.Nodup)(f:X.N[i]? = some x)(e:X.env.kindOf x=some .local\/X.env.kindOf x=some .cell)
  (l:NewV X O (ρ.set i .n) σ s s1 b v) (h:∀a,SS X O H0 (ρ.set i b) (σ.set i (some v)) a->Q () a):wpAny X.M X.A (storeName X.env x v) Q NE s1:=S.setk g (λ_ z=>z) (λ_ z =>.inl z) (S.ob.up g.k) j f e l λa d _=>h a d
end
section
variable {X:Cx}{O O':AP}{H0 H1:Hp}{ρ ρ':Pu.Env}{σ σ':Vls}{s s1 s2:Shared}{h':Heap}{t':Nat}{a c:Addr}{d d':D}{b:B}{v:Value}{i j:Nat}{x:Str}
def SS.wr (S:SS X O H0 ρ σ s)(g:Gx s s1)(t:ρ[i]? = some (B.o d))(x:σ[i]? = some (some (.ref a)))(k:∀b o,b≠a->s1.heap.get? b=some o->h'.get? b=some o)(w:z3M X.rm (hp (Mu X O ρ σ) s1.heap) h' a d'):SS X O H0 (ρ.set i (.o d')) σ { s1 with heap:=h',toks:=t' }:=by
 have f:=S.up g;have hl:i < ρ.length:=(wo.mp t).1;have back:∀{j e},(ρ.set i (.o d'))[j]? = some (B.o e)->∃n,ρ[j]? = some (B.o n):=λ{j e} q=>by
  rcases z1R q with ⟨z,_⟩ | ⟨_,q⟩
  .exact⟨d,z ▸ t⟩
  .exact⟨e,q⟩
 have L:∀{a},Mu X O (ρ.set i (.o d')) σ a->Mu X O ρ σ a:=λ{a} z=>by
  rcases z with z | z | ⟨j,e,q,p⟩
  .exact .inl z
  .exact .inr (.inl z)
  .exact .inr (.inr (let ⟨n,q⟩:=back q;⟨j,n,q,p⟩))
 have G:Own ρ σ a:=⟨i,d,t,x⟩
 have ne:∀{b o},hp (Mu X O ρ σ) s1.heap b o->b≠a:=λq z=>q.2 (.inr (.inr (z ▸ G)));have h:∀{b o},hp (Mu X O ρ σ) s1.heap b o->hp (Mu X O (ρ.set i (.o d')) σ) h' b o:=λq=>⟨k _ _ (ne q) q.1,λz=>q.2 (L z)⟩
 obtain⟨_,Z,R,A,F⟩:=f.own G;have ex:∃o,h'.get? a=some o:=let ⟨o,e,_⟩:=w.ex;⟨_,e⟩;obtain⟨m,I,⟨N,Q⟩,l⟩:=f.loc;refine⟨S.ok,S.fn,S.m0,?_,λb q=>⟨?_,(f.ob b q).2⟩,⟨m,I,⟨?_,λy c C =>?_⟩,l⟩,by simp[S.len],S.b0,λb o q=>⟨k _ _ (λz=>F o (z ▸ q)) (f.h0 b o q).1,(S.h0 b o q).2⟩,λj e q =>?_,λj e q =>?_,λj l e n b u q p s W =>?_⟩
 .obtain⟨h0,t0,e⟩:=f.eq;exact⟨h',t',by rw[e]⟩
 .by_cases z:b=a
  .rw[z];exact ex
  .exact(f.ob b q).1.imp λo e=>k _ _ z e
 .obtain⟨o,K,J,e,r⟩:=N;exact⟨o,K,J,k _ _ (jX A.1) e,r⟩
 .obtain⟨o,e,r⟩:=Q y c C;exact⟨o,k _ _ (A.2 y c C) e,r⟩
 .rcases z1R q with ⟨_,z,_⟩ | ⟨E,q⟩
  .cases z
  .exact(f.sh j e q).imp λv q=>⟨q.1,q.2.mono λ_ _ q=>h q⟩
 .rcases z1R q with ⟨rfl,z,_⟩ | ⟨E,q⟩
  .cases z
   exact⟨a,x,R,A,F,w.mono (λ_ _ q=>h q) λ_ e=>e⟩
  .obtain⟨b,H,T,U,V,Y⟩:=f.ow j e q;exact⟨b,H,T,U,V,Y.mono (λ_ _ q=>h q) λo n=>k _ _ (λz=>by subst z;exact S.ne j i _ _ b E q t H x) n⟩
 .obtain⟨_,q⟩:=back q;obtain⟨_,p⟩:=back p;exact S.ne j l _ _ b u q p s W
def SS.dem1 (S:SS X O H0 ρ σ s)(j:Nat):SS X O H0 (ρ.set j (demB ((ρ[j]?).getD .n))) σ s:=by
 by_cases m:∃d,ρ[j]? = some (.o d)
 .obtain⟨d,h⟩:=m;rw[h];show SS X O H0 (ρ.set j (.s d)) σ s;have r:j < ρ.length:=(wo.mp h).1;have back:∀{i e},(ρ.set j (.s d))[i]? = some (B.o e)->i≠j/\ρ[i]? = some (B.o e):=λ{i e} q=>by
   rcases z1R q with ⟨_,z,_⟩ | q
   .cases z
   .f_int
  have f:∀{b o},hp (Mu X O ρ σ) s.heap b o->hp (Mu X O (ρ.set j (.s d)) σ) s.heap b o:=λq=>⟨q.1,λz=>q.2 (by
   rcases z with z | z | ⟨i,e,q,g⟩
   .exact .inl z
   .exact .inr (.inl z)
   .exact .inr (.inr ⟨i,e,(back q).2,g⟩))⟩
  refine⟨S.ok,S.fn,S.m0,S.eq,S.ob,S.loc,by simp[S.len],S.b0,S.h0,λi e q =>?_,λi e q =>?_,λi k e u b l q g=>S.ne i k e u b l (back q).2 (back g).2⟩
  .rcases z1R q with ⟨rfl,z,_⟩ | ⟨A,q⟩
   .cases z
    obtain⟨a,t,x,y,C,w⟩:=S.ow i _ h;refine⟨_,t,w.rd (λo e=>⟨e,λz =>?_⟩) λ_ _ q=>f q⟩
    rcases z with z | z | ⟨k,e,q,g⟩
    .exact x z
    .exact z y
    .exact S.ne k i _ _ a (back q).1 (back q).2 h g t
   .exact(S.sh i e q).imp λv q=>⟨q.1,q.2.mono λ_ _ q=>f q⟩
  .exact(S.ow i e (back q).2).imp λa q=>⟨q.1,q.2.1,q.2.2.1,q.2.2.2.1,q.2.2.2.2.mono (λ_ _ q=>f q) λ_ e=>e⟩
 .have:ρ.set j (demB ((ρ[j]?).getD .n))=ρ:=by
   apply jN;intro k
   by_cases p:k=j
   .subst p
    by_cases r:k < ρ.length
    .rw[List.getElem?_set_self r]
     cases e:ρ[k]? with
     | none=>rw[List.getElem?_eq_none_iff] at e;lia
     | some b=>cases b with
      | o d=>exact(m ⟨d,e⟩).elim
      | _=>rfl
    .rw[List.set_eq_of_length_le (by lia)]
   .rw[z3T p]
  rw[this];exact S
theorem SS.dem:∀(a:List Nat) {b:Pu.Env},SS X O H0 b σ s->SS X O H0 (dem a b) σ s
 | [],_,S=>S
 | j::a,_,S=>SS.dem a (S.dem1 j)
def SS.weak (S:SS X O' H1 ρ σ s)(f:∀a,O a->O' a)(k:Hid X.K O s.heap)(h:∀a o,H0 a o->H1 a o)(j:∀a o,X.s₀.heap.get? a=some o->H0 a o):SS X O H0 ρ σ s:=by
 have g:∀{b o},hp (Mu X O' ρ σ) s.heap b o->hp (Mu X O ρ σ) s.heap b o:=λq=>⟨q.1,λz=>q.2 (z.imp_left (f _))⟩
 exact⟨S.ok,S.fn,S.m0,S.eq,k,S.loc,S.len,j,λa o q=>S.h0 a o (h a o q),λi d e=>(S.sh i d e).imp λv q=>⟨q.1,q.2.mono λ_ _ q=>g q⟩,λi d e=>(S.ow i d e).imp λa q=>⟨q.1,λz=>q.2.1 (f _ z),q.2.2.1,λo z=>q.2.2.2.1 o (h _ _ z),q.2.2.2.2.mono (λ_ _ q=>g q) λ_ e=>e⟩,S.ne⟩
end
structure Kn (X:Cx)(O:AP)(H0:Hp)(N0:Pu.Env->Prop)(R0:DK)(Q:Flow->Shared->Prop):Prop where
 nx:∀{ρ σ s},N0 ρ->SS X O H0 ρ σ s->Q .next s
 rt:∀{d v s},R0 d->Gx X.s₀ s->RD X.rm (hp O s.heap) d v->Q (.ret v) s
structure QZ (X:Cx)(st:Stmt)(t:Sm):Prop where
 p:∀{O H0 ρ σ s N0 R0 Q},SS X O H0 ρ σ s->t.run ρ N0 R0 NX->Kn X O H0 N0 R0 Q->wpAny X.M X.A (exec st X.env) Q NE s
structure QZs (X:Cx)(st:List Stmt)(t:Sm):Prop where
 p:∀{O H0 ρ σ s N0 R0 Q},SS X O H0 ρ σ s->t.run ρ N0 R0 NX->Kn X O H0 N0 R0 Q->wpAny X.M X.A (execs st X.env) Q NE s
section
variable {X:Cx}{st:Stmt}{rest body la lb:List Stmt}{t u:Sm}{e a b c tg:Expr}{x y z:Ex}{pos:Pos}
def zfR:QZs X [] .skip:=⟨λS r k=>wpAny_execs_nil (k.nx r S)⟩
def z86 (h:QZ X st t)(h':QZs X rest u):QZs X (st::rest) (.seq t u):=⟨λS r k=>wpAny_execs_cons (h.p S r ⟨λn a=>h'.p a n k,λq g r=>k.rt q g r⟩)⟩
def zaS (h:QZ X st t):QZs X [st] t:=⟨λS r k=>wpAny_execs_cons (h.p S r ⟨λn a=>wpAny_execs_nil (k.nx n a),λq g r=>k.rt q g r⟩)⟩
def zhH (d:QT X c z)(a:QZs X la t)(b:QZs X lb u):QZ X (.If c la lb pos) (.ifs z t u):=⟨λS r k=>wpAny_If (d.p S.st r (z70 (λq s g=>a.p (S.up g) q k) λq s g=>b.p (S.up g) q k))⟩
def zfN (a:QX X e x):QZ X (.Return (some e) pos) (.ret x):=⟨λS r k=>wpAny_Return_some (a.p S.st r λd v b q g rd=>k.rt q (S.k0.trans g) (RD.mono rd λ_ _ q=>⟨q.1,λz=>q.2 (.inl z)⟩))⟩
def zco:QZ X st .never:=⟨λ_ r _=>r.elim⟩
end
section
variable {X:Cx}{O:AP}{H0:Hp}{ρ:Pu.Env}{σ:Vls}{s s1:Shared}{st:Stmt}{t u:Sm}{e o tg:Expr}{x y:Ex}{pos p2 cpos apos:Pos}{i j:Nat}{n:Str}{a:Addr}
structure Stv (X:Cx)(i:Nat)(n:Str):Prop where
 nd:X.N.Nodup
 at':X.N[i]? = some n
 k:X.env.kindOf n=some .local\/X.env.kindOf n=some .cell
def z8y {a:Pu.Env}{i:Nat}:∀(j:Nat) d,(a.set i .n)[j]? = some (B.o d)->a[j]? = some (B.o d):=λj d e=>by
 rcases z1R e with ⟨_,z,_⟩ | ⟨_,q⟩
 .cases z
 .f_int
def zfX (N:Stv X i n)(f:QX X e x)(h:swapsWith e (some (.Name n p2)) pos.line X.env=pure false):QZ X (.Assign [.Name n p2] e pos) (.set i x):=⟨λS r k=>
 wpAny_Assign_Name (f.p S.st r λd v j q g rd=>S.set g N.nd N.at' N.k (b :=.s d) (S.safe0 g z8y q.1 rd) λl a=>k.nx q.2 a) h⟩
def zeg {f:List Nat}(N:Stv X i n)(l:QX X e x)(m:swapsWith e (some (.Name n p2)) pos.line X.env=pure false):QZ X (.Assign [.Name n p2] e pos) (.setx f i x):=⟨λS r k=>
 have a:=S.dem f
 wpAny_Assign_Name (l.p a.vis r λd v o q g rd=>a.set g N.nd N.at' N.k (b :=.s d) (rd.mono λ_ _ q=>⟨q.1,λz=>q.2 (z.imp_right λz=>z.imp_right λ⟨j,d,e,q⟩=>⟨j,d,z8y j d e,q⟩)⟩) λt h=>k.nx q h) m⟩
def zaD {d:D}{ρ:Pu.Env}(h:zab d ρ):∀x∈els d,Safe x ρ:=by
 cases d with
 | lst l=>exact h
 | dct b a=>exact h
 | _=>exact h.elim
def zfQ (N:Stv X i n)(h:QF X e x)(j:swapsWith e (some (.Name n p2)) pos.line X.env=pure false):QZ X (.Assign [.Name n p2] e pos) (.own i x):=⟨λ{O m C E s t u Q} S r k=>
 wpAny_Assign_Name (h.p S.st r λd a y q g e w=>S.set g N.nd N.at' N.k (b :=.o d) ⟨a,rfl,e,S.ob.no e,w.els λx v l r=>
  (S.safe g z8y (zaD q.1 x l) (λ_ z =>.inl z) r).mono λb o q=>⟨q.1,λz=>q.2 (z.imp_right .inr)⟩⟩ λA f=>k.nx q.2 f) j⟩
structure QN (X:Cx)(e:Expr)(i:Nat):Prop where
 p:∀{O H0 ρ σ s v Q},SS X O H0 ρ σ s->σ[i]? = some (some v)->Q v s->wpAny X.M X.A (eval e X.env) Q NE s
def qn_v (d:X.N[i]? = some n)(a:(n == ("__debug__":Str))=false)(b:(n == ("__classdict__":Str))=false):QN X (.Name n pos) i:=⟨λS e q=>by
 obtain⟨m,g,f,l⟩:=S.loc;exact zbH S.ok f (l i n _ d e) q a b⟩
def SS.lset (S:SS X O H0 ρ σ s)(g:Gx s s1){l l':List D}{vs vs':List Value}{k t':Nat}{f:Array Value->Array Value}(j:ρ[i]? = some (B.o (.lst l)))(m:σ[i]? = some (some (.ref a)))(e:s1.heap.get? a=some { cls :=.type "list",data :=.seq vs.toArray k })(h:f vs.toArray=vs'.toArray)
  (r:Rws X.rm (hp (Mu X O ρ σ) s1.heap) l' vs') (n:l'.length<=sizeLine):SS X O H0 (ρ.set i (.o (.lst l'))) σ { s1 with heap:=s1.heap.update a (Obj.mapSeq f),toks:=t' }:=by
 have q:=PySem.IsL.update e f;rw[h] at q;exact S.wr g j m (λb o d q=>(wW _ _ (jX d)).trans q) ⟨vs',_,q,r.len ▸ n,r⟩
def z3z {h:Heap}{a:Addr}{vs:Array Value}{k:Nat}(e:h.get? a=some { cls :=.type "list",data :=.seq vs k }):∀b,Value.ref a = .ref b->∃o,h.get? b=some o/\o.dict=none:=λb z=>by cases z;exact⟨_,e,rfl⟩
def zfY (t:QN X o i)(s:QX X e x)(u:swapsWith (.Call (.Attribute o "append" apos) [e] [] cpos) none pos.line X.env=pure false)(b:attributeBase o "append" X.env (eval o X.env)=eval o X.env)
  (h:((backTo cpos (starEach [e] X.env)).all (λx => !x.1) && (backToKw cpos (keywordEach [] X.env)).all (λx=>x.1.isSome) && decide ([e].length+([]:List Keyword).length+(if ([]:List Keyword).isEmpty then 0 else 1)<30))=true)
  (f:(apos.endLine == cpos.line)=true) (n:starEach [e] X.env=(false,eval e X.env)::starEach [] X.env):QZ X (.Expr (.Call (.Attribute o "append" apos) [e] [] cpos) pos) (.app i x):=⟨λS r k=>by
 kd_idx;kln_w;refine wpAny_Expr_any (wpAny_Call_method_late b h f rfl (t.p S q1 ⟨"list",_,uK,PySem.F.slot_list_append,PySem.F.type_list_append,⟨_,e1,rfl⟩,z3z e1,?_⟩)) (by simp[interactive,S.ok.kind]) u;rw[n];refine vW (by rfl) (jj (vX (s.p S.st r λd v y q g rd=>uz ?_)));have j:=g.k _ _ e1;refine call_meets F.slot_list_append ⟨_,j,rfl⟩ F.entry_list_append (F.args_list_append_2 _ _) (PySem.list_append a _ m v (by have:=rs.len;simp only[wH];lia)) ⟨j,?_⟩;exact k.nx q.2.2 (S.lset (t':=y.toks) g hl q1 j (vs':=vs++[v]) (by simp) ((rs.up g).app (.cons (S.safe0 g (λ_ _ z=>z) q.2.1 rd) .nil)) (by rw[wB];exact q.1))⟩
def zfP (g:QN X o i)(h:swapsWith (.Call (.Attribute o "pop" apos) [] [] cpos) none pos.line X.env=pure false)(b:attributeBase o "pop" X.env (eval o X.env)=eval o X.env)(e:(apos.endLine == cpos.line)=true):
  QZ X (.Expr (.Call (.Attribute o "pop" apos) [] [] cpos) pos) (.pop i):=⟨λS r k=>by
 kd_idx;obtain⟨d,f,q⟩:=z7f r;kln_w;obtain⟨u,hu,j⟩:=rs.get f;refine wpAny_Expr_any (wpAny_Call_method0_late b e (g.p S q1 ⟨"list",_,uK,PySem.F.slot_list_pop,PySem.F.type_list_pop,⟨_,e1,rfl⟩,z3z e1,vW rfl (PySem.evalArgs_none ?_)⟩)) (by simp[interactive,S.ok.kind]) h;rw[<- rs.len] at hu;k_go;exact k.nx q (S.lset Gx.refl hl q1 e1 (vs':=vs.dropLast) (by simp[ui]) (by rw[ui,ui,rs.len];exact rs.take _) (by have:=rs.len;rw[List.length_dropLast];lia))⟩
def zcn {j:Nat}{n:Str}(N:Stv X j n)(A:QN X o i)(C:swapsWith (.Call (.Attribute o "pop" apos) [] [] cpos) (some (.Name n p2)) pos.line X.env=pure false)(f:attributeBase o "pop" X.env (eval o X.env)=eval o X.env)(g:(apos.endLine == cpos.line)=true):
  QZ X (.Assign [.Name n p2] (.Call (.Attribute o "pop" apos) [] [] cpos) pos) (.popTo j i):=⟨λ{O G K L s H I Q} S r k=>by
 kd_idx;obtain⟨d,y,q⟩:=z7f r;kln_w;obtain⟨u,hu,E⟩:=rs.get y;refine wpAny_Assign_Name (wpAny_Call_method0_late f g (A.p S q1 ⟨"list",_,uK,PySem.F.slot_list_pop,PySem.F.type_list_pop,⟨_,e1,rfl⟩,z3z e1,vW rfl (PySem.evalArgs_none ?_)⟩)) C;rw[<- rs.len] at hu;k_go;refine(S.lset (t':=s.toks) Gx.refl hl q1 e1 (l':=l.dropLast) (vs':=vs.dropLast) (by simp[ui]) (by rw[ui,ui,rs.len];exact rs.take _) (by have:=rs.len;rw[List.length_dropLast];lia)).set Gx.refl N.nd N.at' N.k (b :=.s d) (RD.mono E λb o q=>⟨(wW _ _ λz:a=b=>by subst z;exact q.2 (.inr (.inr ⟨i,_,hl,q1⟩))).trans q.1,λz=>q.2 (z.imp_right λz=>z.imp_right λ⟨k,e,z,t⟩ =>?_)⟩) λJ x=>k.nx q x
 rcases z1R (z8y k e z) with ⟨h,_⟩ | ⟨_,z⟩
 .exact⟨i,_,hl,h ▸ t⟩
 .exact⟨k,e,z,t⟩⟩
def zfW (K:QN X o i)(J:QF X e x)(L:swapsWith (.Call (.Attribute o "extend" apos) [e] [] cpos) none pos.line X.env=pure false)(h:attributeBase o "extend" X.env (eval o X.env)=eval o X.env)
  (s:((backTo cpos (starEach [e] X.env)).all (λx => !x.1) && (backToKw cpos (keywordEach [] X.env)).all (λx=>x.1.isSome) && decide ([e].length+([]:List Keyword).length+(if ([]:List Keyword).isEmpty then 0 else 1)<30))=true)
  (j:(apos.endLine == cpos.line)=true) (A:starEach [e] X.env=(false,eval e X.env)::starEach [] X.env):QZ X (.Expr (.Call (.Attribute o "extend" apos) [e] [] cpos) pos) (.ext i x):=⟨λS r k=>by
 kd_idx;kln_w;refine wpAny_Expr_any (wpAny_Call_method_late h s j rfl (K.p S q1 ⟨"list",_,uK,PySem.F.slot_list_extend,PySem.F.type_list_extend,⟨_,e1,rfl⟩,z3z e1,?_⟩)) (by simp[interactive,S.ok.kind]) L;rw[A];refine vW (by rfl) (jj (vX (J.p S.st r λd b R q g T w=>uz ?_)))
 cases d with
 | lst U=>
  obtain⟨u,Q,E,C,t⟩:=w;obtain⟨G,H,I⟩:=q;have y:=g.k _ _ e1;have n:vs.toArray.size+u.toArray.size<=sizeLine:=by have:=rs.len;have:=t.len;simp only[wH];lia
  have f:¬ (!vs.toArray.isEmpty && Builtin.List.listTooLong (vs.toArray.size+u.toArray.size))=true:=by
   rw[show Builtin.List.listTooLong (vs.toArray.size+u.toArray.size)=false from vz (by lia),Bool.and_false];exact jD
  refine call_meets F.slot_list_extend ⟨_,y,rfl⟩ F.entry_list_extend (F.args_list_extend_2 _ _) (AutoSeq1.list_extend_list_list_0 a vs.toArray m b u.toArray Q f (by have:=z4O;simp only[wH] at n ⊢;lia) (by have:=z4O;simp only[wH] at n ⊢;lia)) ⟨y,E,?_⟩;refine k.nx I (S.lset (t':=R.toks) g hl q1 y (vs':=vs++u) (by simp) ((rs.up g).app ?_) (by rw[wB];exact G));clear E G I C n f
  induction t with
  | nil=>exact .nil
  | cons r _ O=>exact .cons ((S.safe g (λ_ _ z=>z) (H _ wq) (λ_ z =>.inl z) r).mono λb o q=>⟨q.1,λz=>q.2 (.inl z)⟩) (O λx N=>H x (wn _ N))
 | _=>exact q.elim⟩
def zfO {k:Expr}(T:QN X o i)(h:QX X k y)(R:QX X e x)(U:swapsWithSole [.Subscript o k p2] e pos.line X.env=pure false)(E:swappedStores [.Subscript o k p2] e X.env=pure none)
  (N:∀v,assign (.Subscript o k p2) X.env v=(do
   let u <- holding [v] (eval o X.env)
   let F <- holding [v,u] (eval k X.env)
   standAt p2
   holding [v,u,F] (setItem u F v)
   release [v,u,F] [])) (C:(assignEach [.Subscript o k p2] X.env).map (·.2)=[assign (.Subscript o k p2) X.env]):QZ X (.Assign [.Subscript o k p2] e pos) (.put i y x):=⟨λ{O H0 ρ σ s N0 R0 Q} S r V=>by
 kd_idx;kln_w;refine wpAny_Assign_stores (R.p S.st r λd v s1 ⟨sf,q⟩ g rd =>?_) U E;rw[C];show wpAny _ _ (assign (.Subscript o k p2) X.env v) _ _ _;rw[N];have G:=S.up g;refine wc (vO (T.p G q1 (wc (vO (h.p G.st q λkd kv Z q H Y =>?_)))));obtain⟨z,rfl,q⟩:=z9a q;obtain⟨j,L,q⟩:=zcD q;obtain⟨t,rfl⟩:=z0x.1 Y;have g3:=g.trans H;have A:=g3.k _ _ e1;obtain⟨n,h5,J,K⟩:=zbq L;have b:=rs.len;have hn:=z4O;have fin:∀{t'},SS _ _ _ _ _ _:=λ{t'}=>S.lset (t':=t') g3 hl q1 A (f:=(·.setIfInBounds j v)) (vs':=vs.set j v) (by simp) ((rs.up g3).set (S.safe0 g3 (λ_ _ z=>z) sf (rd.up H)) j) (by rw[List.length_set];rw[<- b];exact hz);refine wc (wpAny_standAt (wc (vO ?_)));have done:=V.nx q (fin (t':=Z.toks))
 by_cases I:0<=z
 .have h:z.toNat=j:=by
   rw[seqIndex_of I K] at n;exact wQ n
  exact W.ki_setAt A I (by lia) (by rw[wH,b];exact K) (by rw[h];exact wpAny_release done)
 .have h:(z+(vs.toArray.size:Int)).toNat=j:=by
   rw[seqIndex_neg (by lia) J] at n;rw[wH,b];exact wQ n
  exact W.ki_setBack A (by lia) (by rw[wH,b];exact J) (by lia) (by rw[h];exact wpAny_release done)⟩
end
section
variable {X:Cx}{O O' fp:AP}{H0 H1 G V:Hp}{ρ ρ':Pu.Env}{σ σ':Vls}{s s1 s2:Shared}{h':Heap}{t':Nat}{a:Addr}{d:D}{v:Value}{i:Nat}
def z2A {α:Type}{M:Model}{A:Around}{m:Sem α}{Q:α->Shared->Prop}{E:WvP}(h:wpAny M A m Q NE s):wpAny M A m Q E s:=vV h (λ_ _ h=>h) λ_ _ z=>z.elim
def SS.turn (S:SS X O' H1 ρ σ s)(k:∀b o,¬ fp b->s.heap.get? b=some o->h'.get? b=some o)(f:∀b,fp b->O' b/\Prot X b/\∀o,¬ H1 b o)(g:∀a,O a->O' a)(E:∀a,O a->∃o,h'.get? a=some o)
  (h:∀a o,H0 a o->H1 a o) (p:∀a o,X.s₀.heap.get? a=some o->H0 a o):SS X O H0 ρ σ { s with heap:=h',toks:=t' }:=by
 have n:∀{b o},hp (Mu X O' ρ σ) s.heap b o->hp (Mu X O ρ σ) h' b o:=λq=>⟨k _ _ (λz=>q.2 (.inl (f _ z).1)) q.1,λz=>q.2 (z.imp_left (g _))⟩
 obtain⟨m,t,⟨A,C⟩,l⟩:=S.loc;refine⟨S.ok,S.fn,S.m0,?_,λa q=>⟨E a q,(S.ob a (g a q)).2⟩,⟨m,t,⟨?_,λy c j =>?_⟩,l⟩,S.len,p,λa o q=>⟨k _ _ (λz=>(f _ z).2.2 o (h _ _ q)) (S.h0 a o (h a o q)).1,(S.h0 a o (h a o q)).2⟩,λi d e=>(S.sh i d e).imp λv q=>⟨q.1,q.2.mono λ_ _ q=>n q⟩,λi d e=>(S.ow i d e).imp λa q=>⟨q.1,λz=>q.2.1 (g _ z),q.2.2.1,λo z=>q.2.2.2.1 o (h _ _ z),q.2.2.2.2.mono (λ_ _ q=>n q) λo e=>k _ _ (λz=>q.2.1 (f _ z).1) e⟩,S.ne⟩
 .obtain⟨F,G,e⟩:=S.eq;exact⟨h',t',by rw[e]⟩
 .obtain⟨o,x,u,e,r⟩:=A;exact⟨o,x,u,k _ _ (λz=>(f _ z).2.1.1 rfl) e,r⟩
 .obtain⟨o,e,r⟩:=C y c j;exact⟨o,k _ _ (λz=>(f _ z).2.1.2 y c j rfl) e,r⟩
def SS.begin (S:SS X O H0 ρ σ s)(g:Gx s s1)(new:∀b,fp b->s.heap.get? b=none/\∃o,s1.heap.get? b=some o):SS X (λa=>O a\/fp a) (λa o=>H0 a o\/hp (λa=>Mu X O ρ σ a\/fp a) s1.heap a o) ρ σ s1:=by
 have f:=S.up g;have l:∀{b o},hp (Mu X O ρ σ) s.heap b o->hp (Mu X (λa=>O a\/fp a) ρ σ) s1.heap b o:=λ{b o} q=>⟨g.k _ _ q.1,λz=>by
  rcases z with (z | z) | z
  .exact q.2 (.inl z)
  .have:=(new b z).1.symm.trans q.1;cases this
  .exact q.2 (.inr z)⟩
 have t:∀{a},s.heap.get? a=none->X.K.lookup a=none:=λ{a} e=>by
  cases q:X.K.lookup a with
  | none=>rfl
  | some o=>have:=S.mod.kin _ _ q;rw[e] at this;cases this
 refine⟨S.ok,S.fn,S.m0,f.eq,λa q=>q.elim (λq=>f.ob a q) λq=>⟨(new a q).2,t (new a q).1⟩,f.loc,S.len,λa o q =>.inl (S.b0 a o q),λa o q=>q.elim (λq=>f.h0 a o q) λq=>⟨q.1,wZ λz=>q.2 (.inl (.inr (.inl z)))⟩,λi d e=>(S.sh i d e).imp λv q=>⟨q.1,q.2.mono λ_ _ q=>l q⟩,λi d e =>?_,S.ne⟩;obtain⟨a,h,n,p,r,w⟩:=S.ow i d e;have m:Own ρ σ a:=⟨i,d,e,h⟩
 obtain⟨_,j,_⟩:=S.own m;refine⟨a,h,λz=>z.elim n λz =>?_,p,λo z=>z.elim (r o) λq=>q.2 (.inl (.inr (.inr m))),w.mono (λ_ _ q=>l q) λo e=>g.k _ _ e⟩;rw[(new a z).1] at j;cases j
def SS.carry (S:SS X O H1 ρ σ s)(h:∀a o,G a o->H1 a o/\¬ O a)(r:RD X.rm G d v):RD X.rm (hp (Mu X O ρ σ) s.heap) d v:=r.mono λa o q=>⟨(S.h0 a o (h a o q).1).1,λz=>by
 rcases z with z | z | z
 .exact(h a o q).2 z
 .exact z (S.h0 a o (h a o q).1).2
 .obtain⟨_,_,_,_,b⟩:=S.own z;exact b o (h a o q).1⟩
def SS.prot (S:SS X O H0 ρ σ s)(h:∀a,fp a->O a/\Prot X a):SS X O (λa o=>H0 a o\/fp a/\s.heap.get? a=some o) ρ σ s:=
 ⟨S.ok,S.fn,S.m0,S.eq,S.ob,S.loc,S.len,λa o q =>.inl (S.b0 a o q),λa o q=>q.elim (S.h0 a o) λq=>⟨q.2,(h a q.1).2⟩,S.sh,λi d e=>(S.ow i d e).imp λa q=>⟨q.1,q.2.1,q.2.2.1,λo z=>z.elim (q.2.2.2.1 o) λz=>q.2.1 (h a z.1).1,q.2.2.2.2⟩,S.ne⟩
structure QG (X:Cx)(tg:Expr)(t:Tg):Prop where
 p:∀{O H0 ρ σ s d v K Q},SS X O H0 ρ σ s->RD X.rm (hp (Mu X O ρ σ) s.heap) d v->t.put d ρ K->(∀{ρ' σ' s'},K ρ'->SS X O H0 ρ' σ' s'->Q () s')->wpAny X.M X.A (assign tg X.env v) Q NE s
def zgP {b:Addr}(z:Mu X O (ρ.set i .n) σ b):Mu X O ρ σ b:=z.imp_right λz=>z.imp_right λ⟨j,d,e,q⟩=>⟨j,d,z8y j d e,q⟩
def zhR {n:Str}{p:Pos}(N:Stv X i n):QG X (.Name n p) (.nm i):=⟨λS rd k q=>
 wpAny_assign_Name (S.set Gx.refl N.nd N.at' N.k (b :=.s _) (RD.mono rd λ_ _ q=>⟨q.1,λz=>q.2 (zgP z)⟩) λd a=>q k a)⟩
structure QGs (X:Cx)(es:List Expr)(is:List Nat):Prop where
 n:is.length=es.length
 p:∀{O H0 ρ σ s ds vs} {K:Pu.Env->Prop}{Q:Unit->Shared->Prop},SS X O H0 ρ σ s->Rws X.rm (hp (Mu X O ρ σ) s.heap) ds vs->is.length=ds.length->K (z0l is ds ρ)->(∀{ρ' σ' s'},K ρ'->SS X O H0 ρ' σ' s'->Q () s')->wpAny X.M X.A (assignInOrder ((assignEach es X.env).map (·.2)) vs) Q NE s
def zeo:QGs X [] []:=⟨rfl,λS r e k q=>by
 cases r with
 | nil=>exact assignInOrder_nil (q k S)
 | cons _ _=>cases e⟩
def SS.drop (S:SS X O H1 ρ σ s)(h:∀a o,H0 a o->H1 a o)(b:∀a o,X.s₀.heap.get? a=some o->H0 a o):SS X O H0 ρ σ s:=S.weak (λ_ z=>z) S.ob h b
def zcu {e:Expr}{es:List Expr}{is:List Nat}(h:QG X e (.nm i))(g:QGs X es is)(j:(assignEach (e::es) X.env).map (·.2)=assign e X.env::(assignEach es X.env).map (·.2)):QGs X (e::es) (i::is):=⟨by simp[g.n],λ{O H0 E F s H vs K Q} S r e k q=>by
 cases r with
 | nil=>cases e
 | cons r C=>
  rw[j];have m:=S.begin (fp:=λ_=>False) Gx.refl λ_ z=>z.elim;have t:=m.weak (O:=O) (H0:=λa o=>H0 a o\/hp (Mu X O E F) s.heap a o) (λ_ z =>.inl z) S.ob (λa o z=>z.imp_right λz=>⟨z.1,λy=>y.elim z.2 id⟩) λa o z =>.inl (S.b0 a o z);refine assignInOrder_cons (h.p t r (K:=λb=>b=_) rfl λ{b G I} d f =>?_);subst d;refine g.p f ?_ (by simpa using e) k λx l=>q x (l.drop (λ_ _ z =>.inl z) S.b0);clear e k j
  induction C with
  | nil=>exact .nil
  | cons A _ u=>exact .cons (f.carry (λa o z=>⟨.inr z,λy=>z.2 (.inl y)⟩) A) u⟩
def zhQ {es:List Expr}{is:List Nat}{k:Nat}{p:Pos}(h:QGs X es is)(m:(assignEach es X.env).length=es.length)(f:(assignEach es X.env).findIdx? (·.1)=none):QG X (.Tuple es k p) (.tp is):=⟨λ{O t z A s d v K Q} S rd k q=>by
 cases d with
 | tup y=>
  o_asPy;obtain⟨i,u,x,n,j⟩:=q1;obtain⟨e,k⟩:=k;refine assign_Tuple_tuple S.ok.hd ⟨o,g1.1,i,n,j⟩ (by rw[m, <- h.n,e];simp[rs.len]) f λl r =>?_;have g:Gx s { s with heap:=l } :=.heap' λb o e=>r b o (wX (wO e)) e;exact h.p (S.up g) (by simpa using rs.up g) e k q
 | _=>exact k.elim⟩
def zcm {c:Expr}{a:List Stmt}{z:Ex}{b:Sm}{pos:Pos}(u:QT X c z)(t:QZs X a b):QZ X (.While c a [] pos) (.wh z b):=⟨λ{O i d f s j l Q} S ⟨n,r⟩ k=>by
 refine wpAny_While (codeAny_whileLoop (λm x=>∃d f,SS X O i d f x/\Pu.wh z b j l NX m d) ?_ n ⟨d,f,S,r⟩);rintro m E ⟨A,C,e,h⟩
 cases m with
 | zero=>exact h.elim
 | succ m=>
  refine z2A (u.p e.st h (z70 (λq y g =>?_) λq y g =>?_))
  .rw[if_pos rfl];exact z2A (t.p (e.up g) q ⟨λn o=>⟨m,jx _,_,_,o,n⟩,λr g rd=>k.rt r g rd⟩)
  .rw[if_neg jD];exact wpAny_execs_nil (k.nx q (e.up g))⟩
structure Turn (X:Cx)(tg:Expr)(fp:AP)(V:Hp)(l:List D)(it:Addr)(tn:Nat->Heap->Prop):Prop where
 keep:∀{i h h'},tn i h->(∀b o,fp b\/V b o->h.get? b=some o->h'.get? b=some o)->tn i h'
 ex:∀{i h b},tn i h->fp b->∃o,h.get? b=some o
 item:∀{i d s} {K:Value->Shared->Prop},tn i s.heap->(∀a o,V a o->s.heap.get? a=some o)->l[i]? = some d->(∀v h' t',tn (i+1) h'->(∀b o,¬ fp b->s.heap.get? b=some o->h'.get? b=some o)->RD X.rm (λa o=>h'.get? a=some o/\(V a o\/s.heap.get? a=none)) d v->K v { s with heap:=h',toks:=t' })->
  wpAny X.M X.A (pyNext (.ref it)) (λr s1=>∃u,r=some u/\wpAny X.M X.A (letOwnedTupleGo tg (.ref it) u) (λ_ s2=>K u s2) NE s1) NE s
 done:∀{s} {Q:Option Value->Shared->Prop},tn l.length s.heap->(∀a o,V a o->s.heap.get? a=some o)->(∀h' t',(∀b o,¬ fp b->s.heap.get? b=some o->h'.get? b=some o)->Q none { s with heap:=h',toks:=t' })->wpAny X.M X.A (pyNext (.ref it)) Q NE s
 self:∀{i s} {Q:WvP},tn i s.heap->Q (.ref it) s->wpAny X.M X.A (pyIter (.ref it)) Q NE s
structure QI (X:Cx)(tg e:Expr)(x:Ex):Prop where
 p:∀{O ρ s} {Q0:List D->Prop}{Q:WvP},St X O ρ s->x.run ρ (λd=>onL (items d) Q0) NX->(∀{l fp V it tn s1},Q0 l->Gx s s1->(∀b,fp b->s.heap.get? b=none)->(∀a o,V a o->hp (λa=>O a\/fp a) s1.heap a o)->Turn X tg fp V l it tn->tn 0 s1.heap->Q (.ref it) s1)->
  wpAny X.M X.A (eval e X.env) (λv s1=>wpAny X.M X.A (pyIter v) Q NE s1) NE s
def z9l {tg:Expr}{t:Tg}{j:List Stmt}{b:Sm}{it:Addr}{l:List D}{U:Nat->Heap->Prop}{W:Pu.Env->Prop}{Y:DK}{Q:Flow->Shared->Prop}(S:SS X O H0 ρ σ s)(g:Gx s s1)(T:Turn X tg fp V l it U)(t0:U 0 s1.heap)(new:∀b,fp b->s.heap.get? b=none)
  (hV:∀a o,V a o->hp (λa=>Mu X O ρ σ a\/fp a) s1.heap a o) (hg:QG X tg t) (hb:QZs X j b) (r:forL t b W Y NX l ρ) (kn:Kn X O H0 W Y Q):codeAny X.M X.A (.forLoop tg (.ref it) j [] X.env) (λr s'=>match r with | .ok f=>Q f s' | .error e=>cameBackBy X.M X.A X.env NE e s') s1:=by
 have B:=S.begin g λb z=>⟨new b z,T.ex t0 z⟩
 generalize Z:(λa o=>H0 a o\/hp (λa=>Mu X O ρ σ a\/fp a) s1.heap a o)=F at B;generalize hO:(λa=>O a\/fp a)=d at B;have L:∀{a o},V a o->F a o:=λq=>by rw[<- Z];exact .inr (hV _ _ q)
 have N:∀b,fp b->d b/\Prot X b/\∀o,¬ F b o:=λb z=>by
  refine⟨by rw[<- hO];exact .inr z,⟨λy =>?_,λx c hc y =>?_⟩,λo q =>?_⟩
  .obtain⟨m,cm,⟨⟨o,_,_,e,_⟩,n⟩,_⟩:=S.loc;have:=(y ▸ new _ z).symm.trans e;cases this
  .obtain⟨m,cm,⟨_,n⟩,_⟩:=S.loc;obtain⟨o,e,_⟩:=n x c hc;have:=(y ▸ new _ z).symm.trans e;cases this
  .rw[<- Z] at q
   rcases q with q | q
   .have:=(new _ z).symm.trans (S.h0 _ _ q).1;cases this
   .exact q.2 (.inr z)
 have oO:∀a,O a->d a:=λa z=>by rw[<- hO];exact .inl z
 have HF:∀a o,H0 a o->F a o:=λa o z=>by rw[<- Z];exact .inl z
 have VO:∀{a o},V a o->¬ d a:=λq z=>by rw[<- hO] at z;exact(hV _ _ q).2 (z.imp_left .inl)
 refine codeAny_forLoop_any (λn s'=>∃i H a0,n=l.length - i/\i<=l.length/\SS X d F H a0 s'/\U i s'.heap/\forL t b W Y NX (l.drop i) H) ?_ l.length ⟨0,ρ,σ,rfl,vj _,B,t0,r⟩;rintro n s3 ⟨i,I,J,rfl,a1,k,t3,R⟩;have C:∀a o,V a o->s3.heap.get? a=some o:=λa o q=>(k.h0 a o (L q)).1
 by_cases hi:i<l.length
 .rw[vJ hi] at R;refine vV (T.item (K:=λu s2=>∃G,s2=G/\SS X d F I J G/\U (i+1) G.heap/\RD X.rm (hp (Mu X d I J) G.heap) l[i] u) t3 C (wf hi) λv h' t' t4 E rd =>?_) (λr G h =>?_) λ_ _ z=>z.elim
  .have ob:∀a,d a->∃o,h'.get? a=some o:=λa z=>by
    by_cases y:fp a
    .exact T.ex t4 y
    .exact(k.ob a z).1.imp λo e=>E _ _ y e
   have S4:=k.turn (O:=d) (H0:=F) (t':=t') E N (λ_ z=>z) ob (λ_ _ z=>z) B.b0;refine⟨_,rfl,S4,t4,rd.mono λa o q=>⟨q.1,λz =>?_⟩⟩
   rcases q.2 with q | q
   .rcases z with z | z | z
    .exact VO q z
    .exact z (B.h0 _ _ (L q)).2
    .obtain⟨_,_,_,_,h3⟩:=k.own z;exact h3 o (L q)
   .obtain⟨o',e,_⟩:=k.hid a z |>.1.imp λo e=>(⟨e,trivial⟩:_/\True)
    rw[q] at e;cases e
  .obtain⟨u,rfl,h⟩:=h;refine z2A (vV h (λ_ s5 h =>?_) λ_ _ h=>h);obtain⟨_,rfl,S5,t5,rd⟩:=h;have S6:=S5.prot λa z=>⟨(N a z).1,(N a z).2.1⟩
   refine z2A (hg.p S6 rd R λr7 S7=>z2A (hb.p S7 r7 ⟨λn S8 =>?_,λq g rd=>kn.rt q g (rd.mono λ_ _ q=>⟨q.1,λz=>q.2 (oO _ z)⟩)⟩));refine⟨l.length - (i+1),by lia,i+1,_,_,rfl,hi,S8.drop (λ_ _ z =>.inl z) B.b0,T.keep t5 λb o z e =>?_,n⟩;exact(S8.h0 b o (z.elim (λz =>.inr ⟨z,e⟩) λz =>.inl (L z))).1
 .obtain rfl:i=l.length:=by lia
  rw[List.drop_length] at R;refine z2A (T.done t3 C λh' t' E=>wpAny_execs_nil (kn.nx R (k.turn E N oO (λa z=>(k.ob a (oO a z)).1.imp λo e=>E _ _ (λy =>?_) e) HF S.b0)));obtain⟨o,e⟩:=(S.ob a z).1;have:=(new _ y).symm.trans e;cases this
def zfV {d:List Nat}{f e:Expr}{t:Tg}{a:List Stmt}{b:Sm}{x:Ex}{pos:Pos}(l:QI X f e x)(j:QG X f t)(i:QZs X a b)(m:∀x,foldedSetIterable e X.env x=pure x):QZ X (.For f e a [] pos) (.for_ d t x b):=⟨λS r k=>
 wpAny_For (l.p (S.dem d).vis r λr g new h T n=>z9l (S.dem d) g T n new h j i r k) m⟩
def zee {d e:Expr}{t:Tg}{a:List Stmt}{b:Sm}{xs:List Ex}{pos:Pos}(n:∀{O i s} {Q0:List D->Prop}{Q:WvP},St X O i s->runs xs i (λds=>onR ds Q0) NX->(∀{l fp f h s1},Q0 l->Gx s s1->(∀b,fp b->s.heap.get? b=none)->Turn X d fp (λ_ _=>False) l f h->h 0 s1.heap->Q (.ref f) s1)->
  wpAny X.M X.A (eval e X.env) (λv s1=>wpAny X.M X.A (pyIter v) Q NE s1) NE s) (m:QG X d t) (j:QZs X a b) (o:∀x,foldedSetIterable e X.env x=pure x):QZ X (.For d e a [] pos) (.forr xs t b):=⟨λS r k=>
 wpAny_For (n S.st r λr g new T p=>z9l S g T p new (λ_ _ z=>z.elim) m j r k) o⟩
end
section
variable {X:Cx}{O:AP}{V:Hp}{ρ:Pu.Env}{s:Shared}{a it:Addr}{o:Obj}{tg e:Expr}{l:List D}{vs:List Value}{x y z:Ex}{es:List Expr}{xs:List Ex}{p pos:Pos}
def gone {s:Shared}{a:Addr}{o:Obj}(e:s.heap.get? a=some o):a≠s.heap.objs.size:=λz=>by rw[z,z2O] at e;cases e
def zaj (y:X.A.handled=none)(nV:∀o,¬ V it o)(j:V a o)(q:Sq "list" o vs)(r:Rws X.rm V l vs):Turn X tg (· = it) V l it (λi h=>h.IsListIter it a i) where
 keep st k:=st.at λo e=>k it o (.inl rfl) e
 ex st e:=by subst e;obtain⟨o,e,_⟩:=st;exact⟨o,e⟩
 item {i d s K} st hV hx h:=by
  obtain⟨u,C,ru⟩:=r.get hx;obtain⟨f,m,p,n,g⟩:=q;refine wpAny_pyNext_list_item (items:=vs.toArray) st ⟨o,hV _ _ j,f,n,g⟩ (x:=u) (by simpa using C) λh' st' sb =>?_;obtain⟨E,e,c,d⟩:=id st';kd_p
 done {s Q} st hV h:=by
  obtain⟨f,m,p,n,g⟩:=q;have:=r.len;exact wpAny_pyNext_list_end y st (items:=vs.toArray) ⟨o,hV _ _ j,f,n,g⟩ (by simp;lia) λh' t=>h h' s.toks λb o z e=>t b o z e
 self st q:=wpAny_pyIter_listiter st q
def zc1 (y:X.A.handled=none)(nV:∀o,¬ V it o)(j:V a o)(q:Sq "tuple" o vs)(r:Rws X.rm V l vs):Turn X tg (· = it) V l it (λi h=>h.IsTupleIter it a i) where
 keep st k:=st.at λo e=>k it o (.inl rfl) e
 ex st e:=by subst e;obtain⟨o,e,_⟩:=st;exact⟨o,e⟩
 item {i d s K} st hV hx h:=by
  obtain⟨u,C,ru⟩:=r.get hx;obtain⟨f,m,p,n,g⟩:=q;refine wpAny_pyNext_tuple_item (items:=vs.toArray) st ⟨o,hV _ _ j,f,n,g⟩ (x:=u) (by simpa using C) λh' st' sb =>?_;obtain⟨E,e,c,d⟩:=id st';kd_p
 done {s Q} st hV h:=by
  obtain⟨f,m,p,n,g⟩:=q;have:=r.len;exact wpAny_pyNext_tuple_end y st (items:=vs.toArray) ⟨o,hV _ _ j,f,n,g⟩ (by simp;lia) λh' t=>h h' s.toks λb o z e=>t b o z e
 self st q:=wpAny_pyIter_tupleiter st q
def zc2 (g:X.A.handled=none)(lo:Int)(n:Nat):Turn X tg (· = it) (λ_ _=>False) ((List.range n).map λ(k:Nat)=>D.int (lo+k)) it (λi h=>IsRangeIter h it (lo+(i:Nat)*1) ((n:Int) - (i:Nat)) 1) where
 keep st k:=k it _ (.inl rfl) st
 ex st e:=by subst e;exact⟨_,st⟩
 item {i d s K} st hV hx h:=by
  have j:i<n:=by simpa using (wo.mp hx).1
  have p:d = .int (lo+i):=by rw[wN,jY j] at hx;cases hx;rfl
  subst p;refine(Walks.range (prog:=X.prog) (w:=X.w) g it lo 1 n).item i s _ _ j st λv f l r a u =>?_;obtain⟨t,rfl⟩:=r;exact⟨_,rfl,zeV (s:={ s with heap:=f,toks:=l }) (n:="range_iterator") a rfl rfl (by decide) (h _ f l a (λb o z e=>u b o (by simpa using z) e) (z0x.2 ⟨t,by rw[Int.mul_one]⟩))⟩
 done {s Q} st hV h:=by
  rw[wd,vK] at st;exact wpAny_pyNext_range_end g st (by lia) λf m=>h f s.toks λb o z e=>m b o z e
 self st q:=wpAny_pyIter_rangeiter st q
def qi_x (h:QX X e x):QI X tg e x:=⟨λ{O C s A Q} I r k=>h.p I r λd v j q g rd=>by
 have m:∀b,b=j.heap.objs.size->s.heap.get? b=none:=λb z=>g.none (by rw[z,z2O])
 cases d with
 | lst l=>
  obtain⟨a,o,vs,rfl,g1,q1,rs⟩:=z1L.1 rd;obtain⟨f,t,u,n,i⟩:=id q1;exact wpAny_pyIter_list (items:=vs.toArray) ⟨o,g1.1,f,n,i⟩ (k (V:=hp O j.heap) q (g.trans (Gx.push _)) m (λb o z=>⟨wi _ z.1,λy=>y.elim z.2 (gone z.1)⟩) (zaj I.ok.hd (λo z=>gone z.1 rfl) g1 q1 rs) ⟨_,wt _ rfl,rfl,rfl⟩)
 | tup l=>
  o_asPy;obtain⟨f,t,u,n,i⟩:=id q1;exact u8 (items:=vs.toArray) ⟨o,g1.1,f,n,i⟩ (k (V:=hp O j.heap) q (g.trans (Gx.push _)) m (λb o z=>⟨wi _ z.1,λy=>y.elim z.2 (gone z.1)⟩) (zc1 I.ok.hd (λo z=>gone z.1 rfl) g1 q1 rs) ⟨_,wt _ rfl,rfl,rfl⟩)
 | _=>exact q.elim⟩
abbrev RI (X:Cx)(tg e:Expr)(xs:List Ex):Prop:=∀{O ρ s} {Q0:List D->Prop}{Q:WvP},St X O ρ s->runs xs ρ (λds=>onR ds Q0) NX->(∀{l fp it tn s1},Q0 l->Gx s s1->(∀b,fp b->s.heap.get? b=none)->Turn X tg fp (λ_ _=>False) l it tn->tn 0 s1.heap->Q (.ref it) s1)->
  wpAny X.M X.A (eval e X.env) (λv s1=>wpAny X.M X.A (pyIter v) Q NE s1) NE s
def z8T {s1:Shared}{lo a:Int}{t u v:Tok}{tk:Nat}{Q:WvP}{Q0:List D->Prop}(x:X.A.handled=none)(g:Gx s s1)(m : -(2 ^ 62)<=lo)(n:lo<2 ^ 62)(p : -(2 ^ 62)<=a)(r:a<2 ^ 62)(q:Q0 ((List.range (a - lo).toNat).map λ(k:Nat)=>D.int (lo+k)))
  (k:∀{l fp f h s1},Q0 l->Gx s s1->(∀b,fp b->s.heap.get? b=none)->Turn X tg fp (λ_ _=>False) l f h->h 0 s1.heap->Q (.ref f) s1):wpAny X.M X.A (pyIter (.ref s1.heap.objs.size)) Q NE { s1 with heap:=s1.heap.push { cls :=.type "range",data :=.fields #[.int lo t,.int a u,.int 1 v] },toks:=tk }:=by
 refine wpAny_pyIter_range (IsRange.new ..) (small_one m n p r) ?_;have d:Gx s { s1 with heap:=s1.heap.push { cls :=.type "range",data :=.fields #[.int lo t,.int a u,.int 1 v] },toks:=tk }:=g.trans (Gx.heap λb o e=>wi _ e);refine k q (d.trans (Gx.push _)) (λb z=>d.none (by rw[z];exact z2O _)) (zc2 x lo (a - lo).toNat) ?_;have i:lo+((0:Nat):Int)*1=lo:=by simp
 have j:(((a - lo).toNat:Nat):Int) - ((0:Nat):Int)=Builtin.Range.rangeSize lo a 1:=by rw[rangeSize_one];split <;> lia
 show IsRangeIter _ _ (lo+((0:Nat):Int)*1) ((((a - lo).toNat:Nat):Int) - ((0:Nat):Int)) 1;rw[i,j];exact wt _ rfl
def ri (i:Gl X "range")(j:X.mg "range"=none)(f:QA X (e::es) xs)(h:starEach (e::es) X.env=(false,eval e X.env)::starEach es X.env)(a:(backTo pos (starEach es X.env)).any (·.1)=false):RI X tg (.Call (.Name "range" p) (e::es) [] pos) xs:=λI r k=>
 vY (z4c I i j boot_range (uR (f.p I r λl vs m q g rs=>by
  unfold onR at q
  split at q
  .obtain⟨v,rfl,b⟩:=rs.one;obtain⟨t,rfl⟩:=z0x.1 b;exact call_range_1 (z8T (lo:=0) I.ok.hd g (by decide) (by decide) q.1.1 q.1.2 (by simpa using q.2) k)
  .obtain⟨v,o,rfl,b,d⟩:=rs.two;obtain⟨t,rfl⟩:=z0x.1 b;obtain⟨n,rfl⟩:=z0x.1 d;exact call_range_2 (z8T I.ok.hd g q.1.1.1 q.1.1.2 q.1.2.1 q.1.2.2 q.2 k)
  .exact q.elim) h a) (by decide) (by decide))
def zge (h:RI X tg e xs):QI X tg e (.op z5i xs):=⟨λI r k=>h I (z3n xs _ _ _ _ _ (λd q=>q) (λ_ z=>z) r) λq g a T b=>k q g a (λ_ _ z=>z.elim) T b⟩
def zed {t:Tg}{a:List Stmt}{b:Sm}(g:RI X tg e xs)(f:QG X tg t)(d:QZs X a b)(h:∀x,foldedSetIterable e X.env x=pure x):QZ X (.For tg e a [] pos) (.forr xs t b):=zee g f d h
end
def zfd (M:Model)(A:Around)(ct:Option Expr)(env:PySem.Env)(Q:Bool->Shared->Prop)(s:Shared):Prop:=
 match ct with
 | none=>Q true s
 | some c=>wpAny M A (isTrue c env (eval c env)) Q NE s
def z7L {prog:Program}{w:World}{A:Around}{R:Result->Shared->Prop}{s:Shared}{e a iter:Expr}{ct:Option Expr}{b:Scope}{pos:Pos}{k d:Value}{env:PySem.Env}(I:Nat->Shared->Prop)
  (turn:∀n s,I n s->wpAny (model prog w) A (pyNext k) (λr s1=>match r with
   | none=>R (.ok .next) s1
   | some v=>wpAny (model prog w) A (letOwnedTupleGo a k v) (λ_ E=>wpAny (model prog w) A (assign a env v) (λ_ q=>zfd (model prog w) A ct env (λok f=>if ok=true then wpAny (model prog w) A (eval e env) (λx t=>
     wpAny (model prog w) A (call (.builtin "list.append") [d,x]) (λ_ u=>∃m,m<n/\I m u) NE t) NE f else ∃m,m<n/\I m f) q) NE E) NE s1) NE s)
  (n:Nat) (h:I n s):codeAny (model prog w) A (.compLoop (.ListComp e [⟨a,iter,ct.toList,0⟩] b pos) 0 k d env) R s:=by
 refine codeAny_loop rfl I (λn s H =>?_) n h;show wpAny _ _ ((compTurn (.ListComp e [⟨a,iter,ct.toList,0⟩] b pos) 0 k d env).onRaise (λx=>do noteFrame x env;theTreesLotGoes x)) _ _ s;refine wpAny_noted ?_;rw[compTurn_list];refine wc (wpAny_standAt (wc (vV (turn n s H) (λr s1 y =>?_) λ_ _ z=>z.elim)))
 cases r with
 | none=>exact wm y
 | some v=>
  refine wc (vV y (λ_ E G=>wc (vV G (λ_ q C =>?_) λ_ _ z=>z.elim)) λ_ _ z=>z.elim)
  cases ct with
  | none=>
   refine wc (vV (wpAny_tests_nil (Q:=λok f=>ok=true/\f=q) ⟨rfl,rfl⟩) (λok f j =>?_) λ_ _ F=>F);obtain⟨rfl,rfl⟩:=j;have g:=C;simp only[zfd,jc] at g;exact wc (wc (vV g (λx t l=>wc (vV l (λ_ u o=>wm (wm ⟨rfl,o⟩)) λ_ _ z=>z.elim)) λ_ _ z=>z.elim))
  | some c=>
   refine wc (wpAny_tests_one (vV (show wpAny (model prog w) A (isTrue c env (eval c env)) _ _ _ from C) (λp f j =>?_) λ_ _ z=>z.elim))
   cases p with
   | false=>exact wm ⟨rfl,by simpa using j⟩
   | true=>
    have i:=j;simp only[jc] at i;exact wc (wc (vV i (λx t l=>wc (vV l (λ_ u o=>wm (wm ⟨rfl,o⟩)) λ_ _ z=>z.elim)) λ_ _ z=>z.elim))
def z6P (env:PySem.Env)(a:List (Str × NameKind))(b:List (Str × Addr)):List (Str × Addr):=a.foldl (λc x=>if x.2 == .free then (x.1,(env.cells.lookup x.1).getD 0)::c else c) b
theorem z66 {α a:Type}{f:α->a->Sem (ForInStep a)}{g:α->a->a}:∀(l:List α) (b:a),(∀x∈l,∀c,f x c=pure (.yield (g x c)))->forIn l b f=(pure (l.foldl (λc x=>g x c) b):Sem a)
 | [],b,_=>rfl
 | x::l,b,h=>by
  rw[List.forIn_cons,h x wq,pure_bind];exact z66 l (g x b) λy d=>h y (wn _ d)
def z4i {b:Scope}{env:PySem.Env}(h:∀x∈b.names,x.2 = .free->∃c,env.cells.lookup x.1=some c):closureFor b env=pure (z6P env b.names []):=by
 simp only[closureFor];rw[z66 (g:=λx c=>if x.2 == .free then (x.1,(env.cells.lookup x.1).getD 0)::c else c) b.names [] (λx j c=>by
  obtain⟨n,d⟩:=x
  by_cases i:d = .free
  .subst i;obtain⟨a,f⟩:=h _ j rfl;have e:cellOf env n=pure a:=by unfold cellOf;rw[f]
   simp[e,f]
  .have:(d == NameKind.free)=false:=by simpa using i
   simp[this])]
 rfl
theorem z8l {env:PySem.Env}{y:Str}{c:Addr}:∀{b:List (Str × NameKind)}{a:List (Str × Addr)},(y,c)∈z6P env b a↔(y,c)∈a\/((y,NameKind.free)∈b/\c=(env.cells.lookup y).getD 0)
 | [],a=>by simp[z6P]
 | (n,k)::r,a=>by
  show (y,c)∈z6P env r (if k == .free then (n,(env.cells.lookup n).getD 0)::a else a)↔_;rw[z8l]
  by_cases f:k = .free
  .subst f;simp only[beq_self_eq_true,jc,wj,Prod.mk.injEq]
   o_rec
   .rintro((⟨rfl,rfl⟩ | h) | ⟨e,d⟩)
    .exact .inr ⟨.inl (by simp),rfl⟩
    .exact .inl h
    .exact .inr ⟨.inr e,d⟩
   .rintro(h | ⟨⟨rfl,_⟩ | e,d⟩)
    .exact .inl (.inr h)
    .exact .inl (.inl ⟨rfl,d⟩)
    .exact .inr ⟨e,d⟩
  .have:(k == NameKind.free)=false:=by simpa using f
   simp only[this,wL,ug,wj,Prod.mk.injEq]
   o_rec
   .rintro(h | ⟨e,d⟩)
    .exact .inl h
    .exact .inr ⟨.inr e,d⟩
   .rintro(h | ⟨⟨_,h⟩ | e,d⟩)
    .exact .inl h
    .exact absurd h.symm f
    .exact .inr ⟨e,d⟩
theorem z1V {a:Type}{y:Str}{c:a}:∀{l:List (Str × a)},l.lookup y=some c->(y,c)∈l
 | [],h=>by simp at h
 | (n,j)::r,h=>by
  rw[vQ] at h
  by_cases e:y=n
  .subst e;simp at h;subst h;exact wq
  .have:(y == n)=false:=by simpa using e
   rw[this] at h;exact wn _ (z1V h)
theorem z3r {a:Type}{y:Str}{c:a}:∀{l:List (Str × a)},(y,c)∈l->∃d,l.lookup y=some d
 | (n,j)::r,h=>by
  rw[vQ]
  by_cases e:y=n
  .subst e;simp
  .have:(y == n)=false:=by simpa using e
   rw[this]
   rcases wj.mp h with h | h
   .exact absurd (congrArg Prod.fst h) e
   .exact z3r h
theorem z2P {env:PySem.Env}:∀{a:List (Str × NameKind)}{x:Str}{k:NameKind},(a.map λ(n,k)=>if (k == NameKind.free && env.scope.kind == .function && env.kindOf n == some .cell) then (n,NameKind.cell) else (n,k)).lookup x=some k->
  a.lookup x=some k\/(k = .cell/\a.lookup x=some .free)
 | [],_,_,h=>by simp at h
 | (n,j)::r,x,k,h=>by
  have e := @z2P env r x k;have b:List.lookup x ((if (j == NameKind.free && env.scope.kind == .function && env.kindOf n == some .cell)=true then (n,NameKind.cell) else (n,j))::(r.map λ(n,k)=>if (k == NameKind.free && env.scope.kind == .function && env.kindOf n == some .cell) then (n,NameKind.cell) else (n,k)))=some k:=h
  w_how
  .rw[if_pos hc] at b;have f:j = .free:=by
    have:=hc;simp only[vF,beq_iff_eq] at this;exact this.1.1
   cases d:x == n with
   | true=>
    simp only[vQ,d] at b ⊢;exact .inr ⟨(wQ b).symm,by rw[f]⟩
   | false=>
    simp only[vQ,d] at b ⊢;exact e b
  .rw[if_neg hc] at b
   cases d:x == n with
   | true=>
    simp only[vQ,d] at b ⊢;exact .inl b
   | false=>
    simp only[vQ,d] at b ⊢;exact e b
theorem z2u {env:PySem.Env}:∀{a:List (Str × NameKind)}{x:Str},a.lookup x=some .free->
  (a.map λ(n,k)=>if (k == NameKind.free && env.scope.kind == .function && env.kindOf n == some .cell) then (n,NameKind.cell) else (n,k)).lookup x=some .cell\/
  (a.map λ(n,k)=>if (k == NameKind.free && env.scope.kind == .function && env.kindOf n == some .cell) then (n,NameKind.cell) else (n,k)).lookup x=some .free
 | [],_,h=>by simp at h
 | (n,j)::r,x,h=>by
  have d := @z2u env r x;show List.lookup x ((if (j == NameKind.free && env.scope.kind == .function && env.kindOf n == some .cell)=true then (n,NameKind.cell) else (n,j))::_)=_\/List.lookup x ((if (j == NameKind.free && env.scope.kind == .function && env.kindOf n == some .cell)=true then (n,NameKind.cell) else (n,j))::_)=_
  cases b:x == n with
  | true=>
   simp only[vQ,b] at h
   cases h
   by_cases hc:(NameKind.free == NameKind.free && env.scope.kind == .function && env.kindOf n == some .cell)=true
   .rw[if_pos hc];simp[vQ,b]
   .rw[if_neg hc];simp[vQ,b]
  | false=>
   simp only[vQ,b] at h
   w_how
   .rw[if_pos hc];simp only[vQ,b];exact d h
   .rw[if_neg hc];simp only[vQ,b];exact d h
def z3L (d g:List Str)(f:Nat)(e:List Nat)(a b:List (Str × NameKind)):Bool:=
 d.length == f+e.length && (e.zipIdx.all λp=>match d[f+p.2]? with
  | some y=>g[p.1]? == some y && a.lookup y == some .free
  | none=>false) && a.all (λx=>x.2 != .cell && (x.2 != .local || a.lookup x.1 == some .local) && (x.2 != .free || ((b.lookup x.1 == some .cell || b.lookup x.1 == some .free))))
structure z5Q (X:Cx)(N':List Str)(nt:Nat)(js:List Nat)(scope:Scope):Prop where
 len:N'.length=nt+js.length
 cap:∀k j,js[k]? = some j->∃y,N'[nt+k]? = some y/\X.N[j]? = some y/\scope.names.lookup y=some .free
 nocell:∀y∈scope.names,y.2 ≠ .cell
 loc:∀y∈scope.names,y.2 = .local->scope.names.lookup y.1=some .local
 free:∀y∈scope.names,y.2 = .free->X.env.kindOf y.1=some .cell\/X.env.kindOf y.1=some .free
section
variable {X:Cx}{O:AP}{ρ:Pu.Env}{s:Shared}
def z3L.ok {g p:List Str}{m:Nat}{l:List Nat}{scope a:Scope}(i:X.N=p)(f:X.env.scope=a)(h:z3L g p m l scope.names a.names=true):z5Q X g m l scope:=by
 unfold z3L at h;simp only[vF,beq_iff_eq] at h;obtain⟨⟨r,n⟩,o⟩:=h;rw[List.all_eq_true] at n o;have b:∀y∈scope.names,y.2 ≠ .cell/\(y.2 = .local->scope.names.lookup y.1=some .local)/\(y.2 = .free->a.names.lookup y.1=some .cell\/a.names.lookup y.1=some .free):=λy d=>by
  have:=o y d;simp only[vF,Bool.or_eq_true,bne_iff_ne,beq_iff_eq] at this;refine⟨this.1.1,λz =>?_,λz =>?_⟩
  .rcases this.1.2 with q | q
   .exact absurd z q
   .f_int
  .rcases this.2 with q | q
   .exact absurd z q
   .f_int
 refine⟨r,λk j s =>?_,λy d=>(b y d).1,λy d=>(b y d).2.1,λy d z =>?_⟩
 .have t:(j,k)∈l.zipIdx:=by
   rw[List.mem_zipIdx_iff_getElem?];exact s
  have:=n (j,k) t
  cases e:g[m+k]? with
  | none=>simp only[e] at this;cases this
  | some y=>
   simp only[e,vF,beq_iff_eq] at this;exact⟨y,rfl,by rw[i];exact this.1,this.2⟩
 .show X.env.scope.names.lookup y.1=some .cell\/X.env.scope.names.lookup y.1=some .free;rw[f];exact(b y d).2.2 z
end
@[reducible] def Cx.cg (X:Cx)(a:Scope)(b:List Str)(C:Addr)(s:Shared):Cx:={ X with N:=b,env:=compEnvC a (z6P X.env a.names []) C X.env,fn:=false,s₀:=s }
structure CS (X:Cx)(O:AP)(ρ:Pu.Env)(s:Shared):Prop where
 st:St X O ρ s
 m0:Mod X.K X.mg X.s₀.heap
 g:Gx X.s₀ s
 fr:X.s₀.heap.get? X.env.locals=none
 fO:O X.env.locals
 cl:∀x c,X.env.cells.lookup x=some c->∃o,X.s₀.heap.get? c=some o
structure Mv (W:AP)(s s':Shared):Prop where
 e:∃h t,s'={ s with heap:=h,toks:=t }
 k:∀b o,¬ W b->s.heap.get? b=some o->s'.heap.get? b=some o
section
variable {X:Cx}{O O' W W' fp:AP}{V:Hp}{ρ ρ':Pu.Env}{s s0 s1 s2 s':Shared}{d:D}{v:Value}{i:Nat}{x:Str}{C Dl:Addr}{mg:Rm}{ds:List D}{vs:List Value}{Q:Unit->Shared->Prop}
def Mv.of (g:Gx s s'):Mv W s s':=⟨g.e,λb o _ e=>g.k b o e⟩
def Mv.trans (g:Mv W s s1)(a:Mv W s1 s2):Mv W s s2:=by
 obtain⟨h,t,rfl⟩:=g.e;obtain⟨d,f,rfl⟩:=a.e;exact⟨⟨d,f,rfl⟩,λb o n e=>a.k b o n (g.k b o n e)⟩
def Gx.mv (g:Gx s0 s)(m:Mv W s s')(h:∀b,W b->s0.heap.get? b=Option.none):Gx s0 s':=by
 obtain⟨f,i,rfl⟩:=g.e;obtain⟨a,d,rfl⟩:=m.e;exact⟨⟨a,d,rfl⟩,λb o e=>m.k b o (λz=>by rw[h b z] at e;cases e) (g.k b o e)⟩
def RD.mv (r:RD mg (hp O s.heap) d v)(m:Mv W s s')(h:∀b,W b->O b):RD mg (hp O s'.heap) d v:=r.mono λb o q=>⟨m.k b o (λz=>q.2 (h b z)) q.1,q.2⟩
def Rws.mv (r:Rws mg (hp O s.heap) ds vs)(m:Mv W s s')(h:∀b,W b->O b):Rws mg (hp O s'.heap) ds vs:=Rws.mono r λb o q=>⟨m.k b o (λz=>q.2 (h b z)) q.1,q.2⟩
theorem CS.set (S:CS X O ρ s)(V:X.N.Nodup)(G:X.N[i]? = some x)(F:X.env.kindOf x=some .local)(r:RD X.rm (hp O s.heap) d v)(q:∀{s'},CS X O (ρ.set i (.s d)) s'->Mv (· = X.env.locals) s s'->Q () s'):wpAny X.M X.A (storeName X.env x v) Q NE s:=by
 obtain⟨m,I,⟨T,U⟩,l⟩:=S.st.loc;refine wpAny_storeName_local F T (λC H sb =>?_) (by rw[S.st.ok.kind];rfl);have mv:∀p,Mv (· = X.env.locals) s { s with heap:=C,toks:=p }:=λp=>⟨⟨C,p,rfl⟩,λb o z e=>(sb.2 b z).trans e⟩
 have g:∀p,Gx X.s₀ { s with heap:=C,toks:=p }:=λp=>S.g.mv (mv p) λb z=>by rw[z];exact S.fr
 refine q ⟨⟨S.st.ok,S.m0.up (g _).k,λa z=>⟨?_,(S.st.ob a z).2⟩,?_⟩,S.m0,g _,S.fr,S.fO,S.cl⟩ (mv _)
 .by_cases y:a=X.env.locals
  .obtain⟨o,_,_,e,_⟩:=H;exact⟨o,by rw[y];exact e⟩
  .exact(S.st.ob a z).1.imp λo e=>(sb.2 a y).trans e
 .refine⟨_,I,⟨H,λy c E=>(U y c E).sameBut sb λz =>?_⟩,λj y e t f =>?_⟩
  .obtain⟨o,e⟩:=S.cl y c E;have:=(z ▸ S.fr).symm.trans e;cases this
  .by_cases n:j=i
   .subst n;rw[G] at t;cases t;rw[Env.get_eq] at f
    cases h:(ρ.set j (B.s d))[j]? with
    | none=>rw[h] at f;cases f
    | some b=>
     rw[h] at f
     rcases z1R h with ⟨_,rfl,_⟩ | ⟨z,_⟩
     .cases f
      exact⟨v,.inl ⟨F,by simp⟩,r.mv (mv _) λb (z:b=_)=>by rw[z];exact S.fO⟩
     .exact(z rfl).elim
   .rw[Env.get_eq,z3T n, <- Env.get_eq] at f;obtain⟨u,R,W⟩:=l j y e t f;have L:y≠x:=λz=>by
     obtain⟨Y,J⟩:=wo.mp t;obtain⟨Z,K⟩:=wo.mp G;exact n ((List.getElem_inj V).mp (by rw[J,K,z]))
    refine⟨u,?_,W.mv (mv _) λb (z:b=_)=>by rw[z];exact S.fO⟩
    rcases R with ⟨k,q⟩ | q
    .exact .inl ⟨k,by simp[L,q]⟩
    .exact .inr q
structure QC (X:Cx)(tg:Expr)(t:Tg):Prop where
 p:∀{O ρ s d v K Q},CS X O ρ s->RD X.rm (hp O s.heap) d v->t.put d ρ K->(∀{ρ' s'},K ρ'->CS X O ρ' s'->Mv (· = X.env.locals) s s'->Q () s')->wpAny X.M X.A (assign tg X.env v) Q NE s
structure QCs (X:Cx)(es:List Expr)(is:List Nat):Prop where
 n:is.length=es.length
 p:∀{O ρ s ds vs} {K:Pu.Env->Prop}{Q:Unit->Shared->Prop},CS X O ρ s->Rws X.rm (hp O s.heap) ds vs->is.length=ds.length->K (z0l is ds ρ)->(∀{ρ' s'},K ρ'->CS X O ρ' s'->Mv (· = X.env.locals) s s'->Q () s')->wpAny X.M X.A (assignInOrder ((assignEach es X.env).map (·.2)) vs) Q NE s
structure Stc (X:Cx)(i:Nat)(n:Str):Prop where
 nd:X.N.Nodup
 at':X.N[i]? = some n
 k:X.env.kindOf n=some .local
def zhU {p:Pos}(N:Stc X i x):QC X (.Name x p) (.nm i):=⟨λS rd k q=>wpAny_assign_Name (S.set N.nd N.at' N.k rd λa m=>q k a m)⟩
def zer:QCs X [] []:=⟨rfl,λS r e k q=>by
 cases r with
 | nil=>exact assignInOrder_nil (q k S (.of .refl))
 | cons _ _=>cases e⟩
def zcx {e:Expr}{es:List Expr}{is:List Nat}(h:QC X e (.nm i))(f:QCs X es is)(l:(assignEach (e::es) X.env).map (·.2)=assign e X.env::(assignEach es X.env).map (·.2)):QCs X (e::es) (i::is):=⟨by simp[f.n],λ{O A s x vs K Q} S r e k q=>by
 cases r with
 | nil=>cases e
 | cons r u=>
  rw[l];refine assignInOrder_cons (h.p S r (K:=λa=>a=_) rfl λ{a y} d j m =>?_);subst d;exact f.p j (Rws.mv u m λb z=>by rw[z];exact S.fO) (by simpa using e) k λo g t=>q o g (m.trans t)⟩
def zhT {es:List Expr}{is:List Nat}{k:Nat}{p:Pos}(h:QCs X es is)(t:(assignEach es X.env).length=es.length)(f:(assignEach es X.env).findIdx? (·.1)=none):QC X (.Tuple es k p) (.tp is):=⟨λ{O C s d v K Q} S rd k q=>by
 cases d with
 | tup A=>
  o_asPy;obtain⟨j,y,z,n,l⟩:=q1;obtain⟨e,k⟩:=k;refine assign_Tuple_tuple S.st.ok.hd ⟨o,g1.1,j,n,l⟩ (by rw[t, <- h.n,e];simp[rs.len]) f λr u =>?_;have g:Gx s { s with heap:=r } :=.heap' λb o e=>u b o (wX (wO e)) e;exact h.p ⟨S.st.up g,S.m0,S.g.trans g,S.fr,S.fO,S.cl⟩ (by simpa using rs.up g) e k λx i m=>q x i ((Mv.of g).trans m)
 | _=>exact k.elim⟩
theorem St.cg {f:Scope}{L:List Str}{A:Nat}{V:List Nat}(I:St X O ρ s)(hk:f.kind = .function)(c:z5Q X L A V f)(g:Gx s s')(hC:s.heap.get? C=none)(T:∃m,s'.heap.Ns C m)(ho:∀a,O' a->O a\/s.heap.get? a=none)(hO:O' C)(ob:Hid X.K O' s'.heap):CS (X.cg f L C s) O' (z1Q A V ρ) s':=by
 have cells:∀x∈f.names,x.2 = .free->∃a,X.env.cells.lookup x.1=some a:=λx hx hf=>I.ok.has x.1 (c.free x hx hf);have t:∀{y a},(z6P X.env f.names []).lookup y=some a->X.env.cells.lookup y=some a/\(y,NameKind.free)∈f.names:=λ{y a} h=>by
  rcases z8l.mp (z1V h) with z | ⟨z1,z2⟩
  .simp at z
  .obtain⟨b,H⟩:=cells (y,.free) z1 rfl;have G:X.env.cells.lookup y=some b:=H;rw[G] at z2;exact⟨by rw[G,z2];rfl,z1⟩
 have F:∀{y},(y,NameKind.free)∈f.names->∃a,(z6P X.env f.names []).lookup y=some a:=λ{y} h=>z3r (c:=(X.env.cells.lookup y).getD 0) (z8l.mpr (.inr ⟨h,rfl⟩));obtain⟨m1,S⟩:=T;obtain⟨m,cm,⟨n1,Z⟩,l⟩:=I.loc;refine⟨⟨⟨hk,I.ok.glob,I.ok.blt,I.ok.hd,I.ok.un,λy z a N e2=>I.ok.inj y z a (t N).1 (t e2).1,λy q=>F ?_⟩,I.mod.up g.k,ob,m1,cm,⟨S,λy a e=>(Z y a (t e).1).keeps g.k⟩,λi y d N p =>?_⟩,I.mod,g,hC,hO,λy a e =>?_⟩
 .rcases q with q | q
  .rcases z2P (env:=X.env) q with z | ⟨_,z⟩
   .exact absurd rfl (c.nocell _ (z1V z))
   .exact z1V z
  .rcases z2P (env:=X.env) q with z | ⟨z,_⟩
   .exact z1V z
   .cases z
 .rw[Env.get_eq] at p;unfold z1Q at p
  rcases vp i A with J | J
  .rw[wT (by simpa using J),List.getElem?_replicate,if_pos J] at p
   cases p
  .rw[wV (by simpa using J),List.length_replicate,wN] at p
   cases Q:V[i - A]? with
   | none=>rw[Q] at p;cases p
   | some j=>
    rw[Q] at p;obtain⟨y',q1,q2,W⟩:=c.cap _ _ Q;rw[show A+(i - A)=i by lia] at q1;have E:L[i]? = some y:=N;rw[q1] at E;cases E;have p:((ρ[j]?).getD .n).get=some d:=p;have U:ρ.get j=some d:=by
     rw[Env.get_eq]
     cases Y:ρ[j]? with
     | none=>rw[Y] at p;cases p
     | some z=>rw[Y] at p;exact p
    obtain⟨u,lk,r⟩:=l j y d q2 U;have R:=c.free _ (z1V W) rfl;refine⟨u,.inr ⟨z2u (env:=X.env) W,?_⟩,r.mono λb o q=>⟨g.k _ _ q.1,λz=>(ho b z).elim q.2 λz=>by have:=z.symm.trans q.1;cases this⟩⟩
    rcases lk with ⟨z,_⟩ | ⟨_,a,ha,hv⟩
    .rcases R with w | w
     .rw[z] at w;cases w
     .rw[z] at w;cases w
    .obtain⟨b,H⟩:=F (z1V W);have:=(t H).1;rw[ha] at this;cases this;exact⟨a,H,hv⟩
 .obtain⟨o,e,_⟩:=Z y a (t e).1;exact⟨o,e⟩
end
section
variable {X:Cx}{O O' W W' fp:AP}{V:Hp}{ρ ρ':Pu.Env}{s s0 s1 s2 s':Shared}{d:D}{v:Value}{i:Nat}{x:Str}{C Dl it:Addr}{mg:Rm}{ds l:List D}{vs:List Value}{tn:Nat->Heap->Prop}
inductive z7U (X:Cx):Option Expr->Option Ex->Prop
 | no:z7U X none none
 | yes {c z} (h:QT X c z):z7U X (some c) (some z)
def zbO {R:Result->Shared->Prop}{N E iter:Expr}{ct:Option Expr}{L:Option Ex}{y:Ex}{t:Tg}{f:Scope}{N':List Str}{U:Nat}{S:List Nat}{pos:Pos}{J:List D->Prop}(I:St X O ρ s)(hk:f.kind = .function)(c:z5Q X N' U S f)
  (hg:∀C s,QC (X.cg f N' C s) E t) (ht:∀C s,z7U (X.cg f N' C s) ct L) (he:∀C s,QX (X.cg f N' C s) N y) (T:Turn X E fp V l it tn)
  (gs:Gx s s1) (new:∀b,fp b\/b=C\/b=Dl->s.heap.get? b=none) (Q:∀a o,V a o->s1.heap.get? a=some o/\¬ (O a\/fp a\/a=C\/a=Dl)) (t0:tn 0 s1.heap) (hC:∃m,s1.heap.Ns C m) (hD:s1.heap.get? Dl=some { cls :=.type "list",data :=.seq #[] 0 }) (ne:C≠Dl/\¬ fp C/\¬ fp Dl) (hl:l.length<sizeLine) (r:z3g (z4g t L y (z1Q U S ρ)) l J)
  (fin:∀{ds j s' n},J ds->Gx s s'->(∃m,s'.heap.Ns C m)->s'.heap.get? Dl=some { cls :=.type "list",data :=.seq (List.toArray j) n }->Rws X.rm (hp (λa=>O a\/a=C\/a=Dl) s'.heap) ds j->ds.length<=sizeLine->R (.ok .next) s'):
  codeAny X.M X.A (.compLoop (.ListComp N [⟨E,iter,ct.toList,0⟩] f pos) 0 (.ref it) (.ref Dl) (compEnvC f (z6P X.env f.names []) C X.env)) R s1:=by
 generalize hO:(λa=>O a\/fp a\/a=C\/a=Dl)=F;have G:∀{a},F a↔O a\/fp a\/a=C\/a=Dl:=λ{a}=>by rw[<- hO]
 have ho:∀a,F a->O a\/s.heap.get? a=none:=λa z=>(G.1 z).imp_right (new a);have hid:∀{s'},Gx s s'->(∃m,s'.heap.Ns C m)->(∃o,s'.heap.get? Dl=some o)->(∀b,fp b->∃o,s'.heap.get? b=some o)->Hid X.K F s'.heap:=λ{s'} g hC hD hf a z=>by
  rcases G.1 z with z | z
  .exact I.ob.up g.k a z
  .refine⟨?_,?_⟩
   .rcases z with z | z | z
    .exact hf a z
    .obtain⟨m,o,_,_,e,_⟩:=hC;exact⟨o,z ▸ e⟩
    .exact z ▸ hD
   .cases q:X.K.lookup a with
    | none=>rfl
    | some o=>have:=(new a z).symm.trans (I.mod.kin _ _ q);cases this
 refine z7L (λn s'=>∃i ds j k,n=l.length - i/\i<=l.length/\ds.length<=i/\Gx s s'/\(∃m,s'.heap.Ns C m)/\(∀a o,V a o->s'.heap.get? a=some o)/\tn i s'.heap/\s'.heap.get? Dl=some { cls :=.type "list",data :=.seq (List.toArray j) k }/\Rws X.rm (hp F s'.heap) ds j/\z3g (z4g t L y (z1Q U S ρ)) (l.drop i) (λr=>J (ds++r))) ?_ l.length
  ⟨0,[],[],0,rfl,vj _,ww _,gs,hC,λa o q=>(Q a o q).1,t0,hD,.nil,r⟩
 rintro n s3 ⟨i,ds,j,k,rfl,a5,a1,g3,c3,v3,t3,d3,r3,q3⟩;have a0:=hid g3 c3 ⟨_,d3⟩ λb z=>T.ex t3 z
 by_cases hi:i<l.length
 .rw[vJ hi] at q3;refine vV (T.item (K:=λu s2=>∃W,s2=W/\Mv fp s3 W/\tn (i+1) W.heap/\RD X.rm (hp F W.heap) l[i] u) t3 v3 (wf hi) λv h' t' t4 k4 rd=>⟨_,rfl,⟨⟨_,_,rfl⟩,k4⟩,t4,rd.mono λa o q=>⟨q.1,λz =>?_⟩⟩) (λr W h =>?_) λ_ _ z=>z.elim
  .rcases q.2 with q | q
   .exact(Q _ _ q).2 (G.1 z)
   .obtain⟨⟨o',e⟩,_⟩:=a0 a z;rw[q] at e;cases e
  obtain⟨u,rfl,h⟩:=h;refine vV h (λ_ s5 h =>?_) λ_ _ z=>z.elim;obtain⟨_,rfl,m5,t5,rd⟩:=h;have fO:∀b,fp b->F b:=λb z=>G.2 (.inr (.inl z));have g5:=g3.mv m5 λb z=>new b (.inl z);have c5:∃m,s5.heap.Ns C m:=let ⟨m,o,es,ep,e,q⟩:=c3;⟨m,o,es,ep,m5.k _ _ ne.2.1 e,q⟩;have d5:=m5.k _ _ ne.2.2 d3;have S5:=I.cg hk c g5 (new C (.inr (.inl rfl))) c5 ho (G.2 (.inr (.inr (.inl rfl)))) (hid g5 c5 ⟨_,d5⟩ λb z=>T.ex t5 z);rw[z3g] at q3;unfold z4g at q3;refine(hg C s).p S5 rd q3 λ{a3 s6} q6 S6 Z =>?_;have Z:Mv (· = C) s5 s6:=Z;have r6:=(r3.mv m5 fO).mv Z λb (z:b=C)=>G.2 (.inr (.inr (.inl z)));have d6:=Z.k _ _ ne.1.symm d5;have t6:=T.keep t5 (h':=s6.heap) λb o z e=>Z.k b o (λH:b=C=>by
   subst H;exact z.elim ne.2.1 λz=>(Q _ _ z).2 (.inr (.inr (.inl rfl)))) e
  have v6:∀a o,V a o->s6.heap.get? a=some o:=λa o z=>Z.k a o (λH:a=C=>(Q _ _ z).2 (.inr (.inr (.inl H)))) (m5.k a o (λH=>(Q _ _ z).2 (.inr (.inl H))) (v3 a o z));obtain⟨m7,a4,⟨n7,_⟩,_⟩:=S6.st.loc;have skip:∀s7,Gx s6 s7->z3g (z4g t L y (z1Q U S ρ)) (l.drop (i+1)) (λr=>J (ds++r))->∃m,m<l.length - i/\∃i ds j k,m=l.length - i/\i<=l.length/\ds.length<=i/\Gx s s7/\(∃m,s7.heap.Ns C m)/\(∀a o,V a o->s7.heap.get? a=some o)/\tn i s7.heap/\s7.heap.get? Dl=some { cls :=.type "list",data :=.seq (List.toArray j) k }/\Rws X.rm (hp F s7.heap) ds j/\z3g (z4g t L y (z1Q U S ρ)) (l.drop i) (λr=>J (ds++r)):=λs7 g q=>
   ⟨_,(by lia:l.length - (i+1)<_),i+1,ds,j,k,rfl,hi,by lia,S6.g.trans g,⟨_,n7.keeps g.k⟩,λa o z=>g.k _ _ (v6 a o z),T.keep t6 λb o _ e=>g.k _ _ e,g.k _ _ d6,r6.up g,q⟩
  have add:∀s7,Gx s6 s7->y.run a3 (λd=>z3g (z4g t L y (z1Q U S ρ)) (l.drop (i+1)) λr=>J (ds++([d]++r))) NX->wpAny X.M X.A (eval N (X.cg f N' C s).env) (λx W=>wpAny X.M X.A (call (.builtin "list.append") [.ref Dl,x]) (λ_ s7=>∃m,m<l.length - i/\∃i ds j k,m=l.length - i/\i<=l.length/\ds.length<=i/\Gx s s7/\(∃m,s7.heap.Ns C m)/\(∀a o,V a o->s7.heap.get? a=some o)/\tn i s7.heap/\s7.heap.get? Dl=some { cls :=.type "list",data :=.seq (List.toArray j) k }/\Rws X.rm (hp F s7.heap) ds j/\z3g (z4g t L y (z1Q U S ρ)) (l.drop i) (λr=>J (ds++r))) NE W) NE s7:=λs7 g q=>by
   refine(he C s).p (S6.st.up g) q λd v s8 q8 Y a2 =>?_;have d8:=Y.k _ _ (g.k _ _ d6);refine append_at d8 (λh' sb e =>?_) (by have:=r6.len;simp only[wH];lia);have m9:Mv (· = Dl) s8 { s8 with heap:=h' }:=⟨⟨h',s8.toks,rfl⟩,λb o z e=>(sb.2 b z).trans e⟩
   have dO:∀b,b=Dl->F b:=λb z=>G.2 (.inr (.inr (.inr z)));refine⟨_,(by lia:l.length - (i+1)<_),i+1,ds++[d],j++[v],_,rfl,hi,by rw[wB];exact Nat.succ_le_succ a1,((S6.g.trans g).trans Y).mv m9 λb (z:b=Dl)=>new b (.inr (.inr z)),⟨m7,((n7.keeps g.k).keeps Y.k).sameBut sb ne.1⟩,λa o z=>(sb.2 a λH=>(Q _ _ z).2 (.inr (.inr (.inr H)))).trans (Y.k _ _ (g.k _ _ (v6 a o z))),T.keep t6 λb o z e=>(sb.2 b λH =>?_).trans (Y.k _ _ (g.k _ _ e)),by rw[List.push_toArray] at e;exact e,(((r6.up g).up Y).mv m9 dO).app (.cons (a2.mv m9 dO) .nil),by simpa using q8⟩;subst H;exact z.elim ne.2.2 λz=>(Q _ _ z).2 (.inr (.inr (.inr rfl)))
  have a6:=q6
  cases ht C s with
  | no=>
   unfold zfd;kt_k;rw[if_pos rfl];exact add s6 .refl q6
  | yes h=>
   exact h.p S6.st q6 (z70 (λq s7 g=>by rw[if_pos rfl];exact add s7 g q) λq s7 g=>by rw[if_neg jD];exact skip s7 g q)
 .obtain rfl:i=l.length:=by lia
  rw[List.drop_length] at q3;refine T.done t3 v3 λh' t' k4 =>?_;have m4:Mv fp s3 { s3 with heap:=h',toks:=t' }:=⟨⟨_,_,rfl⟩,k4⟩
  exact fin (by simpa[z3g] using q3) (g3.mv m4 λb z=>new b (.inl z)) (let ⟨m,o,es,ep,e,q⟩:=c3;⟨m,o,es,ep,m4.k _ _ ne.2.1 e,q⟩) (m4.k _ _ ne.2.2 d3) (Rws.mono (r3.mv m4 λb z=>G.2 (.inr (.inl z))) λa o q=>⟨q.1,λz=>q.2 (G.2 (z.imp_right .inr))⟩) (by lia)
end
section
variable {X:Cx}{O fp:AP}{V:Hp}{ρ:Pu.Env}{s s2:Shared}{it:Addr}{l:List D}{tn:Nat->Heap->Prop}{elt target iter:Expr}{ct:Option Expr}{cz:Option Ex}{x y:Ex}{t:Tg}{scope:Scope}{N':List Str}{nt:Nat}{js:List Nat}{pos:Pos}{N0:List D->Prop}
theorem z5Q.cells (c:z5Q X N' nt js scope)(I:St X O ρ s):∀x∈scope.names,x.2 = .free->∃a,X.env.cells.lookup x.1=some a:=λx d b=>I.ok.has x.1 (c.free x d b)
def zbP {R:Value->Addr->Result->Shared->Prop}(I:St X O ρ s)(L:scope.kind = .function)(c:z5Q X N' nt js scope)
  (U:∀C s,QC (X.cg scope N' C s) target t) (Y:∀C s,z7U (X.cg scope N' C s) ct cz) (S:∀C s,QX (X.cg scope N' C s) elt y) (T:Turn X target fp V l it tn)
  (J:Gx s s2) (new:∀b,fp b->s.heap.get? b=none) (F:∀a o,V a o->hp (λa=>O a\/fp a) s2.heap a o) (K:tn 0 s2.heap) (W:l.length<sizeLine) (r:z3g (z4g t cz y (z1Q nt js ρ)) l N0)
  (fin:∀{C Dl ds G s' n},s.heap.get? C=none->s.heap.get? Dl=none->C≠Dl->N0 ds->Gx s s'->(∃m,s'.heap.Ns C m)->s'.heap.get? Dl=some { cls :=.type "list",data :=.seq (List.toArray G) n }->Rws X.rm (hp (λa=>O a\/a=C\/a=Dl) s'.heap) ds G->ds.length<=sizeLine->R (.ref Dl) C (.ok .next) s'):
  wpAny X.M X.A (newList []) (λh s3=>wpAny X.M X.A (newFunctionEnv scope X.env.globals (z6P X.env scope.names []) [] X.env.qual none .none (some X.env)) (λi s4=>codeAny X.M X.A (.compStart (.ListComp elt [⟨target,iter,ct.toList,0⟩] scope pos) 0 (.ref it) h { i with scope:=relabel scope X.env }) (R h i.locals) s4) NE s3) NE s2:=by
 refine ub (wpAny_newFunctionEnv c.nocell (by intro y Z;simp at Z) (λE g d =>?_) L);dsimp only at g d ⊢;generalize p:s2.heap.push { cls :=.type "list",dict:=none,data :=.seq ([]:List Value).toArray }=x at g d ⊢;have Q:x.objs.size=s2.heap.objs.size+1:=by rw[<- p,vq]
 have ne:x.objs.size≠s2.heap.objs.size:=by rw[Q];exact Nat.succ_ne_self _
 have u:∀b o,s2.heap.get? b=some o->E.get? b=some o:=λb o e=>d.extBut b o (by have:=wO e;lia) (wi _ (p ▸ wi _ e));have h:E.get? s2.heap.objs.size=some { cls :=.type "list",data :=.seq #[] 0 }:=d.extBut _ _ ne.symm (wi _ (p ▸ wt _ rfl));have f:∀{b o},s2.heap.get? b=some o->b≠x.objs.size/\b≠s2.heap.objs.size:=λ{b o} e=>by have:=wO e;lia
 have H:∀{b},b=x.objs.size\/b=s2.heap.objs.size->s.heap.get? b=none:=λ{b} z=>by
  cases e:s.heap.get? b with
  | none=>rfl
  | some o=>exact(z.elim (f (J.k _ _ e)).1 (f (J.k _ _ e)).2).elim
 generalize x.objs.size=C at*;generalize s2.heap.objs.size=Dl at*;have g3:Gx s2 { s2 with heap:=E,toks:=s2.toks+([]:List (Str × Value)).length } :=.heap u;have nf:¬ fp C/\¬ fp Dl:=⟨λz=>let ⟨o,e⟩:=T.ex K z;(f e).1 rfl,λz=>let ⟨o,e⟩:=T.ex K z;(f e).2 rfl⟩
 have N:=T.keep K (h':=E) λb o _ e=>u b o e;have j:=zbO (pos:=pos) (iter:=iter) (s1:={ s2 with heap:=E,toks:=s2.toks+([]:List (Str × Value)).length }) (C:=C) (Dl:=Dl) (R:=R (.ref Dl) C) I L c U Y S T (J.trans g3) (λb z=>z.elim (new b) H) (λa o q=>⟨u a o (F a o q).1,λz=>by
   rcases z with z | z | z
   .exact(F a o q).2 (.inl z)
   .exact(F a o q).2 (.inr z)
   .exact z.elim (f (F a o q).1).1 (f (F a o q).1).2⟩) N ⟨_,g⟩ h ⟨ne,nf⟩ W r (fin (H (.inl rfl)) (H (.inr rfl)) ne)
 exact codeAny_compStart_list j (z2A (T.self N j))
def zaT (H:QI X target iter x)(h:scope.kind = .function)(c:z5Q X N' nt js scope)
  (G:∀C s,QC (X.cg scope N' C s) target t) (L:∀C s,z7U (X.cg scope N' C s) ct cz) (F:∀C s,QX (X.cg scope N' C s) elt y) (K:∀x,foldedSetIterable iter X.env x=pure x):QF X (.ListComp elt [⟨target,iter,ct.toList,0⟩] scope pos) (.comp nt js t x cz y):=⟨λ{O Y s U Q} I r k=>by
 rw[eval_ListComp];refine wpAny_comprehension_free (use:=none) rfl K (z4i (c.cells I)) h c.loc (H.p I r λq g new E T N=>zbP (R:=compPost X.M X.A NE none Q) I h c G L F T g new E N q.1 q.2 λ{C S V d i n} l u ne q g a e rs J =>?_);obtain⟨m,a⟩:=a;refine⟨m,a,λf sb =>?_⟩;have j:Gx s { i with heap:=f }:=g.mv (W:=(· = C)) ⟨⟨f,i.toks,rfl⟩,λb o z e=>(sb.2 b z).trans e⟩ λb z=>by rw[z];exact l
 refine k _ _ _ q j u ⟨d,n,(sb.2 _ ne.symm).trans e,by rw[rs.len];exact J,Rws.mono rs λb o q=>⟨(sb.2 b λz=>q.2 (.inr (.inl z))).trans q.1,λz=>q.2 (z.imp_right .inr)⟩⟩⟩
def SS.fresh {H0:Hp}{f:Vls}{C:Addr}(S:SS X O H0 ρ f s)(b:s.heap.get? C=none):Prot X C:=by
 obtain⟨h,g,⟨⟨o,_,_,a,_⟩,e⟩,_⟩:=S.loc;refine⟨λy =>?_,λx c d y =>?_⟩
 .have:=(y ▸ b).symm.trans a;cases this
 .obtain⟨o,a,_⟩:=e x c d;have:=(y ▸ b).symm.trans a;cases this
def zbn {i:Nat}{n:Str}{f l:Pos}{V:AP}{u:Pu.Env}{H0:Hp}{σ:Vls}{U:Pu.Env->Prop}{R0 Q0:DK}{Q:Flow->Shared->Prop}(S:SS X O H0 ρ σ s)(I:St X V u s)(N:Stv X i n)(hi:QI X target iter x)(Y:scope.kind = .function)(c:z5Q X N' nt js scope)
  (hg:∀C s,QC (X.cg scope N' C s) target t) (ht:∀C s,z7U (X.cg scope N' C s) ct cz) (he:∀C s,QX (X.cg scope N' C s) elt y) (hs:∀x,foldedSetIterable iter X.env x=pure x)
  (J:swapsWith (.ListComp elt [⟨target,iter,ct.toList,0⟩] scope pos) (some (.Name n l)) f.line X.env=pure true) (r:(Ex.comp nt js t x cz y).run u Q0 NX) (k:Kn X O H0 U R0 Q)
  (hb:∀{ds},Q0 (.lst ds)->∃b,U (ρ.set i b)/\∀{C Dl d s' m},Gx s s'->s.heap.get? Dl=none->C≠Dl->s'.heap.get? Dl=some { cls :=.type "list",data :=.seq (List.toArray d) m }->Rws X.rm (hp (λa=>V a\/a=C\/a=Dl) s'.heap) ds d->d.length<=sizeLine->NewV X (λa=>O a\/a=C) (ρ.set i .n) σ s s' b (.ref Dl)):
  wpAny X.M X.A (exec (.Assign [.Name n l] (.ListComp elt [⟨target,iter,ct.toList,0⟩] scope pos) f) X.env) Q NE s:=by
 rw[exec_Assign_Name_used _ _ _ _ J];refine wc (wpAny_standAt (wc ?_));show wpAny _ X.A (do let _ <- comprehension (.ListComp elt [⟨target,iter,ct.toList,0⟩] scope pos) scope X.env _ (newList []) false (eval iter X.env) (some (assign (.Name n l) X.env))) _ _ s;refine wc (vV (wpAny_comprehension_free (E:=NE) (use:=some (assign (.Name n l) X.env)) (Q:=λ_ s'=>Q .next s') rfl hs (z4i (c.cells I)) Y c.loc (hi.p I r λq g new hV T t0=>zbP (R:=compPost X.M X.A NE (some (assign (.Name n l) X.env)) λ_ s'=>Q .next s') I Y c hg ht he T g new hV t0 q.1 q.2 λ{C Dl ds d s' m} j hD ne q g h e rs hl =>?_)) (λ_ s' hq=>wm (wm hq)) λ_ _ z=>z.elim);obtain⟨ms,h⟩:=h;have Z:=S.fresh j;have kC:X.K.lookup C=none:=by
  cases q:X.K.lookup C with
  | none=>rfl
  | some o=>have:=j.symm.trans (S.mod.kin _ _ q);cases this
 obtain⟨L,H,G,W,rC⟩:=id h;obtain⟨b,hN,hv⟩:=hb q;refine wpAny_assign_Name (S.setk (O':=λa=>O a\/a=C) g (λ_ z =>.inl z) (λa z=>z.imp_right λ(z:a=C)=>by rw[z];exact j) (λa z=>z.elim (λz=>S.ob.up g.k a z) λ(z:a=C)=>⟨⟨L,by rw[z];exact W⟩,by rw[z];exact kC⟩) N.nd N.at' N.k (b:=b) (hv g hD ne e rs (by rw[rs.len];exact hl)) λs2 F keep =>?_);refine⟨_,⟨L,H,G,keep C L Z W,rC⟩,λh' sb=>k.nx hN (F.turn (fp:=(· = C)) (t':=s2.toks) (λb o z e=>(sb.2 b z).trans e) (λb (z:b=C)=>⟨.inr z,z ▸ Z,λo y =>?_⟩) (λa z =>.inl z) (λa z =>?_) (λ_ _ z=>z) F.b0)⟩
 .have:=j.symm.trans (z ▸ (S.h0 b o y).1);cases this
 .obtain⟨⟨o,e⟩,_⟩:=S.ob a z;obtain⟨⟨o2,e2⟩,_⟩:=F.ob a (.inl z);exact⟨o2,(sb.2 a λy=>by rw[y,j] at e;cases e).trans e2⟩
def zfU {i:Nat}{n:Str}{a u:Pos}(N:Stv X i n)(H:QI X target iter x)(I:scope.kind = .function)(c:z5Q X N' nt js scope)
  (G:∀C s,QC (X.cg scope N' C s) target t) (L:∀C s,z7U (X.cg scope N' C s) ct cz) (F:∀C s,QX (X.cg scope N' C s) elt y) (K:∀x,foldedSetIterable iter X.env x=pure x)
  (f:swapsWith (.ListComp elt [⟨target,iter,ct.toList,0⟩] scope pos) (some (.Name n u)) a.line X.env=pure true):QZ X (.Assign [.Name n u] (.ListComp elt [⟨target,iter,ct.toList,0⟩] scope pos) a) (.own i (.comp nt js t x cz y)):=⟨λ{O U j Y s E V Q} S r k=>zbn (Q0:=λd=>zab d (j.set i .n)/\E (j.set i (.o d))) S S.st N H I c G L F K f r k λ{l} q=>⟨.o (.lst l),q.2,λ{C A h W m} g p ne e rs J=>by
 refine⟨A,rfl,p,λz=>z.elim (S.ob.no p) λz=>ne z.symm,h,m,e,J,?_⟩;have T:∀x∈l,Safe x (j.set i .n):=q.1;refine Rws.map' rs λx v R r=>(S.safe g z8y (T x R) (λ_ z =>.inl z) r).mono λb o q=>⟨q.1,λz=>q.2 ?_⟩
 rcases z with ((z | z) | z) | z
 .exact .inl (.inl z)
 .exact .inr (.inr (.inl z))
 .exact .inl (.inr z)
 .exact .inr (.inr (.inr z))⟩⟩
def zdt {i:Nat}{n:Str}{f p:Pos}(N:Stv X i n)(I:QI X target iter x)(J:scope.kind = .function)(c:z5Q X N' nt js scope)
  (H:∀C s,QC (X.cg scope N' C s) target t) (R:∀C s,z7U (X.cg scope N' C s) ct cz) (G:∀C s,QX (X.cg scope N' C s) elt y) (L:∀x,foldedSetIterable iter X.env x=pure x)
  (h:swapsWith (.ListComp elt [⟨target,iter,ct.toList,0⟩] scope pos) (some (.Name n p)) f.line X.env=pure true):QZ X (.Assign [.Name n p] (.ListComp elt [⟨target,iter,ct.toList,0⟩] scope pos) f) (.set i (.comp nt js t x cz y)):=⟨λ{O T u W s E U Q} S r k=>zbn (Q0:=λd=>Safe d (u.set i .n)/\E (u.set i (.s d))) S S.st N I J c H R G L h r k λ{F} q=>⟨.s (.lst F),q.2,λ{C A j V m} g l ne e rs K=>
 (S.safe (O':=λa=>Fr X O a\/a=C) g z8y q.1 (λ_ z =>.inl z) (z1L.2 ⟨A,_,j,rfl,⟨e,λz=>z.elim (λz=>z.elim (S.ob.no l) (· (S.fresh l))) λz=>ne z.symm⟩,⟨rfl,rfl,K,m,rfl⟩,Rws.mono rs λb o q=>⟨q.1,λz=>q.2 (z.imp_right .inl)⟩⟩)).mono λb o q=>⟨q.1,λz=>q.2 (by
  rcases z with (z | z) | z
  .exact .inl (.inl z)
  .exact .inr (.inr z)
  .exact .inl (.inr z))⟩⟩⟩
end
@[reducible] def cxD (P:Program)(w:World)(K:W.Frag)(mg:WmP)(N:List Str)(a:Str)(sc:Scope)(f:Addr)(b:Value)(A:Around)(s:Shared):Cx:=
 ⟨P,w,K,mg,A.deeper (envOfC a sc s.heap.objs.size f b),N,envOfC a sc s.heap.objs.size f b,true,s⟩
section
variable {P:Program}{w:World}{K:W.Frag}{mg:WmP}{N ps:List Str}{qual x:Str}{sc:Scope}{f:Addr}{cd:Value}{A:Around}{s s1:Shared}{O:AP}{ds:List D}{us:List Value}{k np nn:Nat}{st:Stmt}{fd:FuncData}{b:Sm}
def zc5 (S:z8D N ps sc)(F:Room k (A.deeper (envOfC qual sc s.heap.objs.size f cd)))(M:Mod K mg s.heap)(H:Hid K O s.heap)(rs:Rws ⟨P,w,mg⟩ (hp O s.heap) ds us)(T:ds.length=ps.length)(R:N.length=nn)
  (x:InCallC s s.heap.objs.size (bindL (envOfC qual sc s.heap.objs.size f cd).kindOf (ps.zip us) λ_=>none) (cellsFrom (s.heap.objs.size+1) sc.names []) (bindC (envOfC qual sc s.heap.objs.size f cd).kindOf (ps.zip us) λ_=>none) s1):
  SS (cxD P w K mg N qual sc f cd A s) O (λa o=>s.heap.get? a=some o) (ds.map B.s++List.replicate (nn - ds.length) .n) (us.map some++List.replicate (nn - ds.length) none) s1:=by
 have u:us.length=ds.length:=rs.len;obtain⟨t,Q,rfl,keep⟩:=x.done;have g:Gx s { s with heap:=t,toks:=Q } :=.heap keep;have prot:∀{a:Addr}{o},s.heap.get? a=some o->Prot (cxD P w K mg N qual sc f cd A s) a:=λ{a o} e=>by
  have E:=wO e;refine⟨wX E,λy c J =>?_⟩;have:s.heap.objs.size<c:=x.above y c (jZ J);lia
 have p:∀{i:Nat}{d:D},(ds.map B.s++List.replicate (nn - ds.length) B.n)[i]? ≠ some (B.o d):=λ{i d} e=>by
  rcases wp.mp (wu e) with z | z
  .obtain⟨_,_,z⟩:=we.mp z;cases z
  .cases (List.mem_replicate.mp z).2
 refine⟨⟨S.kind,rfl,rfl,F.hd,by have:=F.un;show Around.units _+64<_;lia,λy z c t b=>name_of_addr x.apart (jZ t) (jZ b),λy m =>?_⟩,rfl,M,⟨_,_,rfl⟩,H.up keep,⟨_,λy=>bindC (envOfC qual sc s.heap.objs.size f cd).kindOf (ps.zip us) (λ_=>none) y,⟨x.toInCall.ns,λy c h=>x.cell y c h⟩,λi y v t b =>?_⟩,by simp[u],λa o e=>e,λa o e=>⟨keep a o e,prot e⟩,λi d e =>?_,λi d e=>(p e).elim,λi j d I a _ e=>(p e).elim⟩
 .have m:sc.names.lookup y=some .cell\/sc.names.lookup y=some .free:=m
  rcases m with m | m
  .exact z9t m
  .exact absurd rfl (S.nofree _ (jZ m))
 .have l:i<us.length:=by
   refine Nat.lt_of_not_le λl =>?_;rw[wV (by simpa using l),List.getElem?_replicate] at b
   split at b <;> cases b
  have G:us[i]? = some v:=by
   rw[wT (by simpa using l),wN] at b
   cases e:us[i]? with
   | none=>rw[e] at b;cases b
   | some a=>rw[e] at b;cases b;rfl
  have hp:ps[i]? = some y:=by
   rw[<- S.pre,List.getElem?_take_of_lt (by lia)];exact t
  have C:ps.Nodup:=by rw[<- S.pre];exact S.nd.sublist (List.take_sublist _ _)
  rcases S.par y (wu hp) with k | k
  .exact .inl ⟨k,z7O C hp G k⟩
  .obtain⟨c,e⟩:=z9t (n:=s.heap.objs.size+1) k;exact .inr ⟨.inl k,c,e,z7Q C hp G (by show sc.names.lookup y≠_;rw[k];decide)⟩
 .have l:i<ds.length:=by
   refine Nat.lt_of_not_le λl =>?_;rw[wV (by simpa using l),List.getElem?_replicate] at e
   split at e <;> cases e
  rw[wT (by simpa using l),wN] at e
  cases ed:ds[i]? with
  | none=>rw[ed] at e;cases e
  | some I=>
   rw[ed] at e;cases e;obtain⟨v,L,r⟩:=rs.get ed;refine⟨v,by rw[wT (by simpa[u] using l),wN,L];rfl,r.mono λa o q=>⟨keep a o q.1,λz =>?_⟩⟩
   rcases z with z | z | ⟨j,d,e,_⟩
   .exact q.2 z
   .exact z (prot q.1)
   .exact p e
def zha (F:Fun K x qual st f fd)(S:z8D N ps (z0n st))(z:z0b K fd ps [])(L:∀t A s,Room k (A.deeper (envOfC qual (z0n st) s.heap.objs.size f t))->QZs (cxD P w K mg N qual (z0n st) f t A s) (z2Q st) b)(hp:ps.length=np)(J:N.length=nn):FnOk P w K mg (k+1) f (Fn.mkN np nn b):=by
 obtain⟨oc,od,kV,C,pm,Y,d,Z,V,rfl,U,h⟩:=F.ex;rintro A s O m E X Q j M H rs ⟨i,e⟩ u;have l:m.length=E.length:=rs.len;have a:∀y∈ps.zip m,(z0n st).names.lookup y.1=some .local\/((z0n st).names.lookup y.1=some .cell/\((cellsFrom (s.heap.objs.size+1) (z0n st).names []).lookup y.1).isSome=true):=by
  rintro⟨n,v⟩ T
  rcases S.par n (j8 T).1 with q | q
  .exact .inl q
  .exact .inr ⟨q,W.cellsFrom_some _ _ _ (.inl q)⟩
 have o:=z s m M.kin (by simp[l,i,hp]);rw[vi] at o;refine codeAny_call_function (by have:=j.dp;lia) (M.kin _ _ U) rfl S.co S.gen rfl (W.codeRec_of M.kin h) (o _ _ _ _ ?_);refine wpAny_newFunctionEnv_cells S.kind a λG R s1 x =>?_;subst R;refine⟨M.nolimit.keeps x.toInCall.keep,codeAny_func ?_⟩;have I:=zc5 (P:=P) (w:=w) S (j.deeper (envOfC qual (z0n st) s.heap.objs.size f d)) M H rs (i.trans hp.symm) J x;rw[i] at I;exact z2A ((L d A s (j.deeper _)).p I e ⟨λn S=>u _ _ _ n S.k0 .non',λr g rd=>u _ _ _ r g rd⟩)
end
structure Nm (sc:Scope)(x:Str):Prop where
 loc:sc.names.lookup x=some .local\/sc.names.lookup x=some .cell
 hd:(x == ("__debug__":Str))=false
 hcd:(x == ("__classdict__":Str))=false
structure Sc (N ps:List Str)(sc:Scope):Prop where
 fs:z8D N ps sc
 nm:∀x∈N,Nm sc x
def Sc.of {N ps:List Str}{sc:Scope}(h:(sc.kind = .function/\sc.isCoroutine=false/\sc.isGenerator=false)/\N.Nodup/\N.take ps.length=ps/\(∀y∈sc.names,y.2 ≠ .free)/\∀x∈N,(sc.names.lookup x=some .local\/sc.names.lookup x=some .cell)/\(x == ("__debug__":Str))=false/\(x == ("__classdict__":Str))=false):Sc N ps sc:=
 ⟨⟨h.1.1,h.1.2.1,h.1.2.2,h.2.1,h.2.2.1,λx a=>(h.2.2.2.2 x (wU (by rw[h.2.2.1];exact a))).1,h.2.2.2.1⟩,λx a=>⟨(h.2.2.2.2 x a).1,(h.2.2.2.2 x a).2.1,(h.2.2.2.2 x a).2.2⟩⟩
def Std (K:W.Frag)(n:Str)(st:Stmt)(f:Addr):Prop:=∃(h:Value) (i:Option Addr) (sl:Array (Option Value)) (g e j:Value) (b:Option Addr) (a d:Value),
 W.nsIn K mainGlobals n=some (some (.ref f))/\K.lookup f=some ⟨h,i,.func (W.fnOf n n (z3K st) (z2Q st) (z0n st) .none g e j b a d),sl⟩/\W.codeIn K a n=true/\W.keepIn K (.ref f)=true
def Std.mk {K:W.Frag}{n:Str}{st:Stmt}{f:Addr}{h:Value}{i:Option Addr}{sl:Array (Option Value)}{g e j:Value}{d:Option Addr}{b ct:Value}(a:W.nsIn K mainGlobals n=some (some (.ref f)))(l:K.lookup f=some ⟨h,i,.func (W.fnOf n n (z3K st) (z2Q st) (z0n st) .none g e j d b ct),sl⟩)(c:W.codeIn K b n=true)(k:W.keepIn K (.ref f)=true):Std K n st f:=⟨h,i,sl,g,e,j,d,b,ct,a,l,c,k⟩
structure Te where
 k:Nat
 x:Str
 i:Nat
 np:Nat
 N:List Str
 F:Fn
abbrev Te.ps (t:Te):List Str:=t.N.take t.np
structure Wd where
 P:Program
 w:World
 K:W.Frag
 mg:WmP
def Wd.of (P:Program)(w:World)(K:W.Frag)(mg:WmP):∃G:Wd,G.P=P/\G.w=w/\G.K=K/\G.mg=mg:=⟨⟨P,w,K,mg⟩,rfl,rfl,rfl,rfl⟩
abbrev Ft (G:Wd)(t:Te)(f:Addr):Prop:=FnOk G.P G.w G.K G.mg t.k f t.F
structure Cf (G:Wd)(F:Fn)(t:Te):Prop where
 c:Cal G.P G.w G.K G.mg t.k t.x F
section
variable {G:Wd}{t:Te}{f fa:Addr}{fd:FuncData}{st:Stmt}{k np nn:Nat}{b:Sm}{h:Heap}{x:Str}
def fnT (F:Fun G.K t.x t.x st f fd)(S:Sc t.N t.ps (z0n st))(d:z0b G.K fd t.ps [])(e:t.F=Fn.mkN np nn b)(i:t.k=k+1)
  (h:∀a A s,Sc t.N t.ps (z0n st)->Room k (A.deeper (envOfC t.x (z0n st) s.heap.objs.size f a))->QZs (cxD G.P G.w G.K G.mg t.N t.x (z0n st) f a A s) (z2Q st) b) (hp:t.ps.length=np) (g:t.N.length=nn):Ft G t f:=by
 show FnOk _ _ _ _ t.k _ t.F;rw[e,i];exact zha F S.fs d (λa A s j=>h a A s S j) hp g
def ctG (X:G.K.In h)(g:h.Ns mainGlobals G.mg)(t:Te)(d:Std G.K t.x st f)(ok:∀j,Fun G.K t.x t.x st f j->z0b G.K j t.ps []->Ft G t f)
  (o:∀(k i n:Value) (b:Option Addr) (e ct:Value) (us:List Value),us.length=t.ps.length->bindArgs (W.fnOf t.x t.x (z3K st) (z2Q st) (z0n st) .none k i n b e ct) ⟨us,[]⟩=pure (t.ps.zip us)):Cf G t.F t:=by
 obtain⟨p,q,sl,k,i,n,b,e,ct,a,l,c,m⟩:=d;have F:=zh9 (st:=st) l c m;exact⟨_,ok _ F (F.binds (ps:=t.ps) o),W.mg_of X g a,m⟩
def Cf.top {F:Fn}(C:Cf G F t)(b:x=t.x)(e:G.mg x=some (.ref fa)):FnOk G.P G.w G.K G.mg t.k fa F:=by
 subst b;obtain⟨f,ok,a,_⟩:=C.c.ex;rw[a] at e;cases e;exact ok
end
def us_s {P:List Value->Prop}{n:Nat}(h:∀a us,us.length=n->P (a::us))(us:List Value)(e:us.length=n+1):P us:=by
 cases us with
 | nil=>cases e
 | cons a us=>exact h a us (Nat.succ.inj e)
def us1 {P:List Value->Prop}(h:∀b,P [b]):∀us,us.length=1->P us:=us_s λa us e=>by
 cases us with
 | nil=>exact h a
 | cons _ _=>cases e
def us2 {P:List Value->Prop}(h:∀b d,P [b,d]):∀us,us.length=2->P us:=us_s λa=>us1 (P:=λus=>P (a::us)) (h a)
def us3 {P:List Value->Prop}(h:∀b d e,P [b,d,e]):∀us,us.length=3->P us:=us_s λa=>us2 (P:=λus=>P (a::us)) (h a)
def us4 {P:List Value->Prop}(h:∀b d e f,P [b,d,e,f]):∀us,us.length=4->P us:=us_s λa=>us3 (P:=λus=>P (a::us)) (h a)
def walk {l:W.OpenLaw}{q:Program}{e:List Str}{XP:WmP->Heap->Prop}{g:World->Heap->Prop}{d:DefRec}{K:Params->W.Frag}{F:Fn}{k:Nat}(V:l.most=some 63)(u:d.params.defaults=[])(X:Room k callerA)(R:∀(w:World) (h:Heap),g w h->(K w.params).In h)
  (N:∀(w:World) (mg:WmP) (j:Addr) (h:Heap),(K w.params).In h->h.Ns mainGlobals mg->mg d.name=some (.ref j)->FnOk l.prog w (K w.params) mg k j F) (y:∀ns:List Int,ns.length<=63->F.run [.lst (ns.map .int)] (λd=>d = .bl true) NX):
  W.WalkO q e XP g l.row.toRowW d [] (λf vs=>PySem.call f vs):=by
 refine Att.z8A V u λw H p mg mb J o pm cd I a vs ns G Y ho hd S x s i m U =>?_;have C:=R w _ Y;have M:Mod (K w.params) mg p.heap:=⟨C,G.T.g,⟨mb,G.T.b,G.T.builtins⟩,G.T.nolimit⟩
 have E:vs.length=ns.length:=i.length;have rs:Rws ⟨l.prog,w,mg⟩ (hp (λ_=>False) p.heap) (ns.map D.int) vs:=by
  clear s m E
  induction i with
  | nil=>exact .nil
  | cons n t _ Z=>exact .cons .int' Z
 refine Wj (N w mg J _ C G.T.g x (O:=λ_=>False) (us:=[.ref a]) (ds:=[.lst (ns.map .int)]) (Q:=λv A=>v = .bool true/\Pu.Gx p A) X M (λ_ z=>z.elim) (.cons (z1L.2 ⟨a,_,vs,rfl,⟨s,id⟩,⟨rfl,rfl,by rw[E];exact vd m (by decide),_,rfl⟩,rs⟩) .nil) (y ns m) λd v A e g r=>⟨by subst e;exact z4U.1 r,g⟩) λr A h =>?_
 cases r with
 | error e=>exact h.elim
 | ok L=>
  cases L with
  | ret v=>
   obtain⟨rfl,g⟩:=h;obtain⟨h',t',rfl⟩:=g.e;exact⟨rfl,⟨λb o e =>.inl (g.k b o e),λb o e=>⟨o,g.k b o e⟩⟩,rfl,.of_eq U⟩
  | _=>exact h.elim
end Pu
namespace Lcg
def orb (x:Nat):Nat->Nat
 | 0=>x
 | n+1=>orb x n*5+1
theorem z87 (x m:Nat):∀n,orb x (m+n)=orb (orb x m) n
 | 0=>rfl
 | n+1=>congrArg (· * 5+1) (z87 x m n)
theorem zb6:∀k:Nat,∃c d,∀y,orb y (2 ^ k)=y+2 ^ k*(2*d+1+4*c*y)
 | 0=>⟨1,0,λy=>by show y*5+1=_;lia⟩
 | k+1=>by
  obtain⟨c,d,h⟩:=zb6 k;exact⟨c+2*c*c*2 ^ k,d+(2*d+1)*c*2 ^ k,λy=>by
   rw[Nat.pow_succ,Nat.mul_two,z87,h,h]
   grind⟩
theorem zb7 (x e:Nat):∀k,∃n,n<2 ^ k/\orb x n % 2 ^ k=e % 2 ^ k
 | 0=>⟨0,by decide,by lia⟩
 | k+1=>by
  obtain⟨n,h,g⟩:=zb7 x e k;obtain⟨c,d,t⟩:=zb6 k;simp only[Nat.pow_succ,Nat.mod_mul]
  by_cases q:orb x n / 2 ^ k % 2=e / 2 ^ k % 2
  .exact⟨n,by lia,by rw[g,q]⟩
  .refine⟨n+2 ^ k,by lia,?_⟩;rw[z87,t,Nat.add_mul_mod_self_left,g,Nat.add_mul_div_left _ _ (Nat.two_pow_pos k)]
   congr 2
   lia
end Lcg
namespace Tab
open PySem PySem.SetTable
theorem z6R (xs:Array Nat)(j:Nat)(k:∀a b,a<b->b<xs.size->xs.getD a 0<xs.getD b 0):∀(fuel lo hi:Nat),hi<=xs.size->hi - lo<=fuel->lo<=hi->(∀i,i<lo->xs.getD i 0<j)->(∀i,hi<=i->i<xs.size->j<=xs.getD i 0)->
  below.go xs j fuel lo hi<=xs.size/\(∀i,i<below.go xs j fuel lo hi->xs.getD i 0<j)/\(∀i,below.go xs j fuel lo hi<=i->i<xs.size->j<=xs.getD i 0)
 | 0,lo,hi,f,p,q,g,h=>by
  have:lo=hi:=by lia
  k_end;exact⟨f,g,h⟩
 | fuel+1,lo,hi,f,p,q,g,h=>by
  rw[below.go]
  by_cases d:lo<hi
  .rw[if_pos d];have o:(lo+hi) / 2<xs.size:=by lia
   have e:xs.getD ((lo+hi) / 2) j=xs.getD ((lo+hi) / 2) 0:=by simp[Array.getD,o]
   kt_k;rw[e]
   by_cases n:xs.getD ((lo+hi) / 2) 0<j
   .rw[if_pos n];refine z6R xs j k fuel _ hi f (by lia) (by lia) (λi l =>?_) h
    rcases vp i ((lo+hi) / 2) with z | z
    .have:=k i _ z o;lia
    .have:i=(lo+hi) / 2:=by lia
     k_end;exact n
   .rw[if_neg n];refine z6R xs j k fuel lo _ (by lia) (by lia) (by lia) g (λi l m =>?_)
    rcases vp ((lo+hi) / 2) i with z | z
    .have:=k _ i z m;lia
    .have:i=(lo+hi) / 2:=by lia
     k_end;lia
  .rw[if_neg d];have:lo=hi:=by lia
   k_end;exact⟨f,g,h⟩
abbrev Rise (xs:Array Nat):Prop:=∀a b,a<b->b<xs.size->xs.getD a 0<xs.getD b 0
def z4J {xs:Array Nat}(b:Rise xs)(j:Nat):below xs j<=xs.size/\(∀i,i<below xs j->xs.getD i 0<j)/\(∀i,below xs j<=i->i<xs.size->j<=xs.getD i 0):=
 z6R xs j b xs.size 0 xs.size (ww _) (by lia) (vj _) (λ_ h=>absurd h (jJ _)) (λi a d=>absurd a (by lia))
def zeW {xs:Array Nat}{i j:Nat}(h:xs[i]? = some j):i<xs.size/\xs.getD i 0=j:=by
 obtain⟨a,e⟩:=Array.getElem?_eq_some_iff.mp h;exact⟨a,by simp[Array.getD,a,e]⟩
def ziG {xs:Array Nat}{i:Nat}(h:i<xs.size):xs[i]? = some (xs.getD i 0):=by simp[Array.getD,h]
def zd8 {xs:Array Nat}(a:Rise xs){i j:Nat}(h:xs[i]? = some j):below xs j=i:=by
 obtain⟨g,b,d⟩:=z4J a j;obtain⟨f,e⟩:=zeW h
 rcases uN (below xs j) i with z | z | z
 .have:=d _ (ww _) (by lia);have:=a _ _ z f;lia
 .exact z
 .have:=b i z;lia
def z74 {t:SetTable}(a:Rise t.place){i j:Nat}(h:t.place[i]? = some j):t.slot j = .live i:=by
 unfold SetTable.slot;rw[zd8 a h];kt_k;rw[h];simp
def z9C {t:SetTable}(d:t.dummies = #[]){j:Nat}(h:∀i:Nat,t.place[i]? ≠ some j):t.slot j = .empty:=by
 unfold SetTable.slot;have a:(t.place[below t.place j]? == some j)=false:=by
  have:=h (below t.place j);k_ne
 have b:has t.dummies j=false:=by rw[d];unfold has;simp
 simp only[a,b]
 rfl
def adv (mask:Nat)(p:Probe):Probe:=
 if p.more > 0 then { p with j:=p.j+1,more:=p.more - 1 } else
 { p with j:=(leap mask p.i p.perturb).1,more:=runEnd mask (leap mask p.i p.perturb).1 - (leap mask p.i p.perturb).1,i:=(leap mask p.i p.perturb).1,perturb:=(leap mask p.i p.perturb).2 }
def advs (mask:Nat)(p:Probe):Nat->Probe
 | 0=>p
 | n+1=>adv mask (advs mask p n)
theorem z2L (mask:Nat)(p:Probe)(m:Nat):∀n,advs mask p (m+n)=advs mask (advs mask p m) n
 | 0=>rfl
 | n+1=>congrArg (adv mask) (z2L mask p m n)
def z4k (mask:Nat)(p:Probe)(n:Nat):advs mask p (n+1)=advs mask (adv mask p) n:=by
 rw[Nat.add_comm,z2L]
 rfl
def z7T (mask:Nat)(p:Probe):(adv mask p).dummy=p.dummy:=by
 unfold adv;split <;> rfl
theorem z6b (mask:Nat)(p:Probe):∀n,(advs mask p n).dummy=p.dummy
 | 0=>rfl
 | n+1=>by rw[advs,z7T,z6b mask p n]
theorem z6T (mask:Nat):∀(p:Probe) (n:Nat),n<=p.more->advs mask p n={ p with j:=p.j+n,more:=p.more - n }
 | p,0,_=>rfl
 | p,n+1,h=>by
  rw[advs,z6T mask p n (by lia)];unfold adv;rw[if_pos (by show p.more - n > 0;lia)];show ({ p with j:=p.j+n+1,more:=p.more - n - 1 }:Probe)=_
  congr 1
def z6l (mask i:Nat):runEnd mask i - i<=9:=by unfold runEnd;split <;> lia
def lp (mask:Nat)(i q:Nat):Nat->Nat × Nat
 | 0=>(i,q)
 | c+1=>leap mask (lp mask i q c).1 (lp mask i q c).2
theorem zbk (mask:Nat)(i q:Nat):∀c,lp mask i q (c+1)=lp mask (leap mask i q).1 (leap mask i q).2 c
 | 0=>rfl
 | c+1=>by
  show leap mask (lp mask i q (c+1)).1 (lp mask i q (c+1)).2=_;rw[zbk mask i q c]
  rfl
def z3B (mask:Nat)(p:Probe):advs mask p (p.more+1)={ p with j:=(leap mask p.i p.perturb).1,more:=runEnd mask (leap mask p.i p.perturb).1 - (leap mask p.i p.perturb).1,i:=(leap mask p.i p.perturb).1,perturb:=(leap mask p.i p.perturb).2 }:=by
 rw[advs,z6T mask p p.more (ww _)];unfold adv;rw[if_neg (by show ¬ p.more - p.more > 0;lia)]
theorem runs (mask:Nat):∀(c:Nat) (p:Probe),p.more<=9->∃s,s<=10*(c+1)/\(advs mask p s).j=(lp mask p.i p.perturb (c+1)).1/\(advs mask p s).i=(lp mask p.i p.perturb (c+1)).1/\(advs mask p s).perturb=(lp mask p.i p.perturb (c+1)).2/\(advs mask p s).more<=9
 | 0,p,h=>⟨p.more+1,by lia,by rw[z3B];rfl,by rw[z3B];rfl,by rw[z3B];rfl,by rw[z3B];exact z6l _ _⟩
 | c+1,p,h=>by
  obtain⟨s,d,e,a,b,f⟩:=runs mask c p h;refine⟨s+((advs mask p s).more+1),by lia,?_⟩;rw[z2L,z3B];refine⟨?_,?_,?_,z6l _ _⟩
  .show (leap mask (advs mask p s).i (advs mask p s).perturb).1=_;rw[a,b];rfl
  .show (leap mask (advs mask p s).i (advs mask p s).perturb).1=_;rw[a,b];rfl
  .show (leap mask (advs mask p s).i (advs mask p s).perturb).2=_;rw[a,b];rfl
theorem z4G (mask i q:Nat):∀c,(lp mask i q c).2=q / 32 ^ c
 | 0=>by simp[lp]
 | c+1=>by
  show (lp mask i q c).2 / 32=_;rw[z4G mask i q c,Nat.div_div_eq_div_mul,Nat.pow_succ]
theorem zdJ {mask i q:Nat}(a:q=0):∀c:Nat,(lp mask i q c).1 % (mask+1)=Lcg.orb i c % (mask+1)
 | 0=>rfl
 | c+1=>by
  show ((lp mask i q c).1*5+1+(lp mask i q c).2 / 32) % (mask+1) % _=(_*5+1) % _;rw[z4G,a,Nat.zero_div,Nat.zero_div,Nat.add_zero,Nat.mod_mod,Nat.add_mod,Nat.mul_mod, <- a,zdJ a c, <- Nat.mul_mod, <- Nat.add_mod]
theorem zdK (mask i q m:Nat):∀n,lp mask i q (m+n)=lp mask (lp mask i q m).1 (lp mask i q m).2 n
 | 0=>rfl
 | n+1=>by
  show leap mask (lp mask i q (m+n)).1 (lp mask i q (m+n)).2=_;rw[zdK mask i q m n]
  rfl
def zdo {k mask i q e:Nat}(f:mask+1=2 ^ k)(j:q<2 ^ 64)(m:e<=mask):∃c,c<=13+mask/\13<=c/\(lp mask i q c).1=e:=by
 have b:(lp mask i q 13).2=0:=by
  rw[z4G];exact Nat.div_eq_of_lt (u7 j (by decide))
 obtain⟨d,l,h⟩:=Lcg.zb7 (lp mask i q 13).1 e k;refine⟨13+d,by lia,by lia,?_⟩;have g := @zdJ mask (lp mask i q 13).1 _ b d;rw[f,h, <- f, <- zdK,Nat.add_comm,wP (a:=e) (by lia)] at g;rw[Nat.add_comm, <- g];exact(wP (uX _ (by lia))).symm
def zau {k mask e:Nat}{p:Probe}(g:mask+1=2 ^ k)(h:p.perturb<2 ^ 64)(hp:p.more<=9)(f:e<=mask):∃s,s<10*turns mask/\(advs mask p s).j=e:=by
 obtain⟨c,m,n,d⟩:=zdo (i:=p.i) (q:=p.perturb) g h f;obtain⟨a,rfl⟩:∃a,c=a+1:=⟨c - 1,by lia⟩
 obtain⟨s,l,b,_⟩:=runs mask a p hp;exact⟨s,by unfold turns;lia,b.trans d⟩
def zhr {mask:Nat}{p:Probe}(a:p.perturb<2 ^ 64)(hp:p.more<=9):(adv mask p).perturb<2 ^ 64/\(adv mask p).more<=9:=by
 unfold adv
 split
 .exact⟨a,by show p.more - 1<=9;lia⟩
 .exact⟨Nat.lt_of_le_of_lt (Nat.div_le_self _ _) a,z6l _ _⟩
theorem z8B {mask:Nat}{p:Probe}(a:p.perturb<2 ^ 64)(hp:p.more<=9):∀n,(advs mask p n).perturb<2 ^ 64/\(advs mask p n).more<=9
 | 0=>⟨a,hp⟩
 | n+1=>zhr (z8B a hp n).1 (z8B a hp n).2
def z3P (t:SetTable)(h:Int):(t.probeStart h).perturb<2 ^ 64/\(t.probeStart h).more<=9:=by
 refine⟨?_,z6l _ _⟩;show (h % (2 ^ 64:Int)).toNat<2 ^ 64;have a:=jF h (show (2 ^ 64:Int)≠0 by decide);have b:=u6 h (show (0:Int)<2 ^ 64 by decide);lia
theorem z8V {t:SetTable}(l:t.dummies = #[])(q:Rise t.place)(a:Nat->Int)(h:Int):∀(fuel:Nat) (p:Probe),(∃s,s<fuel/\∀i:Nat,t.place[i]? ≠ some (advs t.mask p s).j)->
  ∃s,(∀m,m<s->∃i:Nat,t.place[i]? = some (advs t.mask p m).j/\a i≠h)/\
   (((∀i:Nat,t.place[i]? ≠ some (advs t.mask p s).j)/\probe.go t a h fuel p=some (.empty (advs t.mask p s).j p.dummy))\/
    ∃i:Nat,t.place[i]? = some (advs t.mask p s).j/\a i=h/\probe.go t a h fuel p=some (.candidate (advs t.mask p s).j i (advs t.mask p (s+1))))
 | 0,p,⟨s,u,_⟩=>absurd u (jJ _)
 | fuel+1,p,⟨s,u,f⟩=>by
  by_cases n:∃i:Nat,t.place[i]? = some p.j
  .obtain⟨i,d⟩:=n;have k:probe.go t a h (fuel+1) p=if a i == h then some (.candidate p.j i (t.advance p)) else probe.go t a h fuel (t.advance p):=by
    rw[probe.go,z74 q d]
   by_cases b:a i=h
   .refine⟨0,λm e=>absurd e (jJ _),.inr ⟨i,d,b,?_⟩⟩;rw[k,if_pos (by simpa using b)]
    rfl
   .have A:s≠0:=λz=>by subst z;exact f i d
    obtain⟨g,rfl⟩:∃g,s=g+1:=⟨s - 1,by lia⟩
    rw[z4k] at f;obtain⟨r,x,y⟩:=z8V l q a h fuel (adv t.mask p) ⟨g,by lia,f⟩;refine⟨r+1,λm e =>?_,?_⟩
    .cases m with
     | zero=>exact⟨i,d,b⟩
     | succ m=>rw[z4k];exact x m (by lia)
    .rw[k,if_neg (by simpa using b),z4k,z4k, <- z7T t.mask p];exact y
  .have o:∀i:Nat,t.place[i]? ≠ some p.j:=λi z=>n ⟨i,z⟩;refine⟨0,λm e=>absurd e (jJ _),.inl ⟨o,?_⟩⟩;rw[probe.go,z9C l o]
   rfl
theorem z36:∀{l l':List Nat},l.Nodup->(∀x∈l,x∈l')->l.length<=l'.length
 | [],_,_,_=>vj _
 | a::l,l',h,d=>by
  obtain⟨f,g⟩:=vP.mp h;have b:=d a (by simp);have:=z36 (l:=l) (l':=l'.erase a) g λx e=>(List.mem_erase_of_ne (λ(z:x=a)=>f (z ▸ e))).mpr (d x (by simp[e]));rw[List.length_erase_of_mem b] at this;have hp:0<l'.length:=List.length_pos_of_mem b;simp only[wI];lia
theorem z3Z:∀{l l':List Nat},l.Nodup->l'.Nodup->(∀x,x∈l↔x∈l')->l.Perm l'
 | [],l',_,_,h=>by
  cases l' with
  | nil=>exact Wh _
  | cons b l'=>exact absurd ((h b).mpr (by simp)) (by simp)
 | a::l,l',g,f,h=>by
  obtain⟨j,k⟩:=vP.mp g;have i:a∈l':=(h a).mp (by simp);have p:=z3Z (l:=l) (l':=l'.erase a) k (f.erase a) λx=>by
   o_rec
   .intro d;exact(List.mem_erase_of_ne (λ(z:x=a)=>j (z ▸ d))).mpr ((h x).mp (by simp[d]))
   .intro d;have e:x≠a:=λz=>by
     subst z;exact(List.Nodup.not_mem_erase f) d
    rcases wj.mp ((h x).mpr (List.mem_of_mem_erase d)) with z | z
    .exact absurd z e
    .exact z
  exact(List.Perm.cons a p).trans (List.perm_cons_erase i).symm
variable {α:Type}
abbrev Rw (α:Type):=Nat × Int × α
def zac (mask:Nat)(occ:Nat->Prop)(h:Int)(j:Nat):Prop:=∃n,(advs mask (probeStart { mask:=mask,place := #[],dummies := #[],finger:=0,led:=true,moves:=0,plain:=true } h) n).j=j/\∀m,m<n->occ (advs mask (probeStart { mask:=mask,place := #[],dummies := #[],finger:=0,led:=true,moves:=0,plain:=true } h) m).j
abbrev st0 (mask:Nat)(h:Int):Probe:=probeStart { mask:=mask,place := #[],dummies := #[],finger:=0,led:=true,moves:=0,plain:=true } h
def zac.mono {mask:Nat}{occ b:Nat->Prop}{h:Int}{j:Nat}(x:zac mask occ h j)(i:∀a,occ a->b a):zac mask b h j:=by
 obtain⟨n,d,e⟩:=x;exact⟨n,d,λm f=>i _ (e m f)⟩
structure TabW (t:SetTable)(es:Array (Int × α))(L:List (Rw α)):Prop where
 place:t.place=(L.map (·.1)).toArray
 es:es=(L.map (·.2)).toArray
 rise:L.Pairwise λa b=>a.1<b.1
 le:∀r∈L,r.1<=t.mask
 dum:t.dummies = #[]
 pow:∃k,3<=k/\t.mask+1=2 ^ k
 reach:∀r∈L,zac t.mask (λj=>∃r'∈L,r'.1=j) r.2.1 r.1
def TabW.occ {t:SetTable}{es:Array (Int × α)}{L:List (Rw α)}(w:TabW t es L){j:Nat}:(∃i:Nat,t.place[i]? = some j)↔∃r∈L,r.1=j:=by
 rw[w.place]
 o_rec
 .rintro⟨i,h⟩;have b:(L.map (·.1))[i]? = some j:=by simpa using h
  obtain⟨r,a,e⟩:=we.mp (wu b);exact⟨r,a,e⟩
 .rintro⟨r,a,rfl⟩;obtain⟨i,d,e⟩:=w5.mp a;exact⟨i,by simp[d,e]⟩
def TabW.riseP {t:SetTable}{es:Array (Int × α)}{L:List (Rw α)}(w:TabW t es L):Rise t.place:=by
 rw[w.place];intro a b e f;have d:b<L.length:=by simpa using f
 have:=vh.mp w.rise a b (by lia) d e;simpa[Array.getD,show a<L.length by lia,d] using this
theorem TabW.size {t:SetTable}{es:Array (Int × α)}{L:List (Rw α)}(w:TabW t es L):t.place.size=L.length/\es.size=L.length/\t.fill=L.length:=by
 refine⟨by rw[w.place];simp,by rw[w.es];simp,?_⟩;unfold fill;rw[w.place,w.dum];simp
def TabW.nodup {t:SetTable}{es:Array (Int × α)}{L:List (Rw α)}(w:TabW t es L):(L.map (·.1)).Nodup:=by
 rw[List.nodup_iff_pairwise_ne,vf];exact w.rise.imp λh=>wX h
def TabW.room {t:SetTable}{es:Array (Int × α)}{L:List (Rw α)}(w:TabW t es L)(h:L.length<=t.mask):∃e,e<=t.mask/\¬ ∃r∈L,r.1=e:=by
 refine wZ λa =>?_;have all:∀e,e<=t.mask->∃r∈L,r.1=e:=λe b=>wZ λz=>a ⟨e,b,z⟩;have:=z36 (l:=List.range (t.mask+1)) (l':=L.map (·.1)) List.nodup_range λx f=>by
  obtain⟨r,d,e⟩:=all x (by have:=vI.mp f;lia);exact we.mpr ⟨r,d,e⟩
 simp at this;lia
theorem TabW.probe {t:SetTable}{es:Array (Int × α)}{L:List (Rw α)}(w:TabW t es L)(b:L.length<=t.mask)(a:Nat->Int)(h:Int)(n:Nat):
  ∃s,(∀m,n<=m->m<n+s->∃i:Nat,t.place[i]? = some (advs t.mask (st0 t.mask h) m).j/\a i≠h)/\
   (((∀i:Nat,t.place[i]? ≠ some (advs t.mask (st0 t.mask h) (n+s)).j)/\t.probe a h (advs t.mask (st0 t.mask h) n)=some (.empty (advs t.mask (st0 t.mask h) (n+s)).j none))\/
    ∃i:Nat,t.place[i]? = some (advs t.mask (st0 t.mask h) (n+s)).j/\a i=h/\t.probe a h (advs t.mask (st0 t.mask h) n)=some (.candidate (advs t.mask (st0 t.mask h) (n+s)).j i (advs t.mask (st0 t.mask h) (n+s+1)))):=by
 obtain⟨e,r,f⟩:=w.room b;obtain⟨k,_,u⟩:=w.pow;have ok:=z8B (mask:=t.mask) (z3P t h).1 (z3P t h).2 n;obtain⟨A,g,o⟩:=zau (p:=advs t.mask (st0 t.mask h) n) u ok.1 ok.2 r;obtain⟨s,q,l⟩:=z8V w.dum w.riseP a h (10*turns t.mask) (advs t.mask (st0 t.mask h) n) ⟨A,g,λi z=>by
  rw[o] at z;exact f (w.occ.mp ⟨i,z⟩)⟩
 refine⟨s,λm x y =>?_,?_⟩
 .obtain⟨d,rfl⟩:∃d,m=n+d:=⟨m - n,by lia⟩
  rw[z2L];exact q d (by lia)
 .rw[Nat.add_assoc,z2L,z2L];rw[z6b] at l;exact l
def TabW.soon {t:SetTable}{es:Array (Int × α)}{L:List (Rw α)}(w:TabW t es L)(a:L.length<=t.mask)(h:Int):∃N,N<10*turns t.mask/\¬ ∃r∈L,r.1=(advs t.mask (st0 t.mask h) N).j:=by
 obtain⟨e,g,b⟩:=w.room a;obtain⟨k,_,i⟩:=w.pow;obtain⟨l,d,f⟩:=zau (p:=st0 t.mask h) i (z3P t h).1 (z3P t h).2 g;exact⟨l,d,by rw[f];exact b⟩
def ins (L:List (Rw α))(p:Nat)(r:Rw α):List (Rw α):=L.take p++r::L.drop p
def z6D {L:List (Rw α)}{p:Nat}{r x:Rw α}:x∈ins L p r↔x=r\/x∈L:=by
 unfold ins;rw[wp,wj]
 o_rec
 .rintro(h | h | h)
  .exact .inr (wU h)
  .exact .inl h
  .exact .inr (uH h)
 .rintro(h | h)
  .exact .inr (.inl h)
  .rw[<- vH p L,wp] at h
   rcases h with h | h
   .exact .inl h
   .exact .inr (.inr h)
def z49 {a:Type}(l:List a){p:Nat}(x:a):insertAt l.toArray p x=(l.take p++x::l.drop p).toArray:=by
 unfold insertAt;apply Array.ext';simp;exact ud (by simp)
theorem TabW.put {t:SetTable}{es:Array (Int × α)}{L:List (Rw α)}(w:TabW t es L){h:Int}{x:α}{n:Nat}(s:∀m,m<n->∃r∈L,r.1=(advs t.mask (st0 t.mask h) m).j)(q:¬ ∃r∈L,r.1=(advs t.mask (st0 t.mask h) n).j)(A:(advs t.mask (st0 t.mask h) n).j<=t.mask):
  TabW (t.put (advs t.mask (st0 t.mask h) n).j).1 (insertAt es (t.put (advs t.mask (st0 t.mask h) n).j).2 (h,x)) (ins L (t.put (advs t.mask (st0 t.mask h) n).j).2 ((advs t.mask (st0 t.mask h) n).j,h,x)):=by
 generalize J:(advs t.mask (st0 t.mask h) n).j=j at*;obtain⟨F,G,H⟩:=z4J w.riseP j;have hp:(t.put j).2=below t.place j:=rfl;rw[hp];generalize O:below t.place j=p at*;have N:p<=L.length:=by rw[<- w.size.1];exact F
 have l:∀i (g:i<L.length),t.place.getD i 0=(L[i]).1:=λi g=>by rw[w.place];simp[Array.getD,g]
 have Q:∀r∈L.take p,r.1<j:=λr f=>by
  obtain⟨i,g,rfl⟩:=w5.mp f;have d:i<p/\i<L.length:=by simp at g;lia
  have:=G i d.1;rw[l i d.2] at this;k_ne
 have g:∀r∈L.drop p,j<r.1:=λr f=>by
  obtain⟨i,g,rfl⟩:=w5.mp f;have d:p+i<L.length:=by simp at g;lia
  have I:=H (p+i) (by lia) (by rw[w.size.1];exact d);rw[l _ d] at I;have R:(L[p+i]).1≠j:=λz=>q ⟨L[p+i],uv d,z⟩;simp only[List.getElem_drop];lia
 have o:(t.put j).1.dummies = #[]:=by
  show (if has t.dummies j then eraseAt t.dummies (below t.dummies j) else t.dummies) = #[];rw[w.dum];simp[has]
 refine⟨?_,?_,?_,λr f =>?_,o,w.pow,λr f =>?_⟩
 .show insertAt t.place (below t.place j) j=_;rw[O,w.place,z49];unfold ins;rw[wv,wC,List.map_take,List.map_drop]
 .rw[w.es,z49];unfold ins;rw[wv,wC,List.map_take,List.map_drop]
 .unfold ins;rw[vB];have u:=w.rise;rw[<- vH p L,vB] at u;refine⟨u.1,w9.mpr ⟨λr f=>g r f,u.2.1⟩,λa E b y =>?_⟩
  rcases wj.mp y with rfl | y
  .exact Q a E
  .exact u.2.2 a E b y
 .show r.1<=t.mask
  rcases z6D.mp f with rfl | f
  .exact A
  .exact w.le r f
 .show zac t.mask _ r.2.1 r.1
  rcases z6D.mp f with rfl | f
  .exact⟨n,J,λm K=>by
    obtain⟨C,k,e⟩:=s m K;exact⟨C,z6D.mpr (.inr k),e⟩⟩
  .exact(w.reach r f).mono λa ⟨C,k,e⟩=>⟨C,z6D.mpr (.inr k),e⟩
theorem j_le {mask:Nat}:∀(n:Nat) {p:Probe},p.j+p.more<=mask->(advs mask p n).j+(advs mask p n).more<=mask
 | 0,_,h=>h
 | n+1,p,h=>by
  have b:=j_le n h;show (adv mask (advs mask p n)).j+(adv mask (advs mask p n)).more<=mask;unfold adv
  split
  .show (advs mask p n).j+1+((advs mask p n).more - 1)<=mask;lia
  .have a:(leap mask (advs mask p n).i (advs mask p n).perturb).1<=mask:=Nat.le_of_lt_succ (uX _ (Nat.succ_pos _));show (leap mask (advs mask p n).i (advs mask p n).perturb).1+(runEnd mask (leap mask (advs mask p n).i (advs mask p n).perturb).1 - (leap mask (advs mask p n).i (advs mask p n).perturb).1)<=mask;generalize (leap mask (advs mask p n).i (advs mask p n).perturb).1=x at a;unfold runEnd
   split <;> lia
def zat (mask:Nat)(h:Int)(n:Nat):(advs mask (st0 mask h) n).j<=mask:=by
 have:(st0 mask h).j+(st0 mask h).more<=mask:=by
  show bits h % (mask+1)+(runEnd mask (bits h % (mask+1)) - bits h % (mask+1))<=mask;have a:bits h % (mask+1)<=mask:=Nat.le_of_lt_succ (uX _ (Nat.succ_pos _));generalize bits h % (mask+1)=x at a;unfold runEnd
  split <;> lia
 have:=j_le n this;lia
variable {α:Type}
def rp (mask i q:Nat):Probe:={ j:=i,more:=runEnd mask i - i,i:=i,perturb:=q,dummy:=none }
def zft (mask:Nat)(h:Int):st0 mask h=rp mask (bits h % (mask+1)) (bits h):=rfl
def zaP (mask i q:Nat):advs mask (rp mask i q) (runEnd mask i - i+1)=rp mask (leap mask i q).1 (leap mask i q).2:=z3B mask (rp mask i q)
def zcf (mask i q:Nat){m:Nat}(h:m<=runEnd mask i - i):(advs mask (rp mask i q) m).j=i+m:=by rw[z6T mask (rp mask i q) m h];rfl
def zfI (mask i:Nat):i<=runEnd mask i:=by unfold runEnd;split <;> lia
theorem z7B {mask:Nat}{owner:Array (Option Nat)}:∀(fuel i q:Nat),(∃c,c<fuel/\(owner.getD (lp mask i q c).1 (some 0)).isNone=true)->
  ∃s,layClean.free mask owner fuel i q=some (advs mask (rp mask i q) s).j/\(owner.getD (advs mask (rp mask i q) s).j (some 0)).isNone=true/\∀m,m<s->(owner.getD (advs mask (rp mask i q) m).j (some 0)).isNone=false
 | 0,i,q,⟨c,l,_⟩=>absurd l (jJ _)
 | fuel+1,i,q,⟨c,l,h⟩=>by
  rw[layClean.free];have r:=zfI mask i
  cases n:(List.range (runEnd mask i+1 - i)).find? λk=>(owner.getD (i+k) (some 0)).isNone with
  | some k=>
   obtain⟨b,e,g⟩:=List.find?_range_eq_some.mp n;have t:k<runEnd mask i+1 - i:=by simpa using e
   kt_k;refine⟨k,by rw[zcf mask i q (by lia)],by rw[zcf mask i q (by lia)];exact b,λm o =>?_⟩;rw[zcf mask i q (by lia)];have:=g m o;k_ne
  | none=>
   have u:=List.find?_range_eq_none.mp n;have all:∀k,k<=runEnd mask i - i->(owner.getD (i+k) (some 0)).isNone=false:=λk t=>by
    have:=u k (by lia);k_ne
   have p:c≠0:=λz=>by
    subst z;have:=all 0 (vj _);rw[Nat.add_zero] at this;have a:(owner.getD i (some 0)).isNone=true:=h;rw[this] at a
    cases a
   obtain⟨f,rfl⟩:∃f,c=f+1:=⟨c - 1,by lia⟩
   rw[zbk] at h;obtain⟨s,b,e,g⟩:=z7B fuel _ _ ⟨f,by lia,h⟩;rw[<- zaP, <- z2L] at b e;kt_k;refine⟨runEnd mask i - i+1+s,b,e,λm o =>?_⟩
   rcases vp m (runEnd mask i - i+1) with z | z
   .rw[zcf mask i q (by lia)];exact all m (by lia)
   .obtain⟨d,rfl⟩:∃d,m=runEnd mask i - i+1+d:=⟨m - (runEnd mask i - i+1),by lia⟩
    rw[z2L,zaP];exact g d (by lia)
structure Own (mask:Nat)(hs:List Int)(owner:Array (Option Nat))(pos:List Nat):Prop where
 size:owner.size=mask+1
 len:pos.length=hs.length
 le:∀j∈pos,j<=mask
 nd:pos.Nodup
 own:∀j,j<=mask->∀k,owner.getD j (some 0)=some k↔pos[k]? = some j
 reach:∀(k:Nat) (h:Int) (j:Nat),hs[k]? = some h->pos[k]? = some j->zac mask (· ∈ pos) h j
def Own.free {mask:Nat}{d:List Int}{owner:Array (Option Nat)}{pos:List Nat}(o:Own mask d owner pos){j:Nat}(a:j<=mask):(owner.getD j (some 0)).isNone=true↔j ∉ pos:=by
 o_rec
 .intro h z;obtain⟨k,b,e⟩:=w5.mp z;have:=(o.own j a k).mpr (by rw[wf b,e]);rw[this] at h
  cases h
 .intro h
  cases e:owner.getD j (some 0) with
  | none=>rfl
  | some k=>exact absurd (wu ((o.own j a k).mp e)) h
def Own.add {mask k:Nat}{g:List Int}{owner:Array (Option Nat)}{pos:List Nat}(o:Own mask g owner pos)(F:mask+1=2 ^ k)(I:g.length<=mask)(h:Int):
  ∃j,layClean.free mask owner (turns mask) (bits h % (mask+1)) (bits h)=some j/\Own mask (g++[h]) (owner.setIfInBounds j (some g.length)) (pos++[j]):=by
 have C:∃e,e<=mask/\e ∉ pos:=by
  refine wZ λH =>?_;have:=z36 (l:=List.range (mask+1)) (l':=pos) List.nodup_range λx t=>wZ λz=>H ⟨x,by have:=vI.mp t;lia,z⟩;rw[vK,o.len] at this;lia
 obtain⟨e,O,G⟩:=C;have W:bits h<2 ^ 64:=(z3P { mask:=mask,place := #[],dummies := #[],finger:=0,led:=true,moves:=0,plain:=true } h).1;obtain⟨c,c1,c2,Q⟩:=zdo (i:=bits h % (mask+1)) (q:=bits h) F W O;obtain⟨s,K,L,N⟩:=z7B (mask:=mask) (owner:=owner) (turns mask) (bits h % (mask+1)) (bits h) ⟨c,by unfold turns;lia,by rw[Q];exact(o.free O).mpr G⟩;rw[<- zft] at K L N;have p:=zat mask h s;refine⟨_,K,?_⟩;generalize T:(advs mask (st0 mask h) s).j=j at*;have r:j ∉ pos:=(o.free p).mp L;refine⟨by rw[Array.size_setIfInBounds];exact o.size,by rw[wB,wB,o.len];rfl,λx t =>?_,?_,λx t n =>?_,λn J Y u y =>?_⟩
 .rcases wp.mp t with z | z
  .exact o.le x z
  .ks_is;exact p
 .rw[List.nodup_append];exact⟨o.nd,by simp,λa A b S z=>r (by rw[wg.mp S] at z;exact z ▸ A)⟩
 .have X:x<owner.size:=by rw[o.size];lia
  have R:(owner.setIfInBounds j (some g.length)).getD x (some 0)=if j=x then some g.length else owner.getD x (some 0):=by
   have E:j<owner.size:=by rw[o.size];lia
   rw[Array.getD_eq_getD_getElem?, Array.getD_eq_getD_getElem?, Array.getElem?_setIfInBounds]
   by_cases d:j=x
   .subst d;rw[if_pos rfl,if_pos E,if_pos rfl];rfl
   .rw[if_neg d,if_neg d]
  rw[R]
  by_cases d:j=x
  .subst d;rw[if_pos rfl]
   o_rec
   .intro z;have:g.length=n:=wQ z;rw[<- this, <- o.len,wV (ww _)];simp
   .intro z
    rcases vp n pos.length with f | f
    .rw[wT f] at z;exact absurd (wu z) r
    .rw[wV f] at z;have V:n - pos.length=0:=by
      rcases Nat.eq_zero_or_pos (n - pos.length) with w | w
      .exact w
      .rw[List.getElem?_eq_none (by show 1<=_;lia)] at z;cases z
     rw[<- o.len]
     congr 1
     lia
  .rw[if_neg d,o.own x t n]
   o_rec
   .intro z;obtain⟨U,_⟩:=wo.mp z;rw[wT U];exact z
   .intro z
    rcases vp n pos.length with f | f
    .rw[wT f] at z;exact z
    .rw[wV f] at z;exact absurd (wg.mp (wu z)).symm d
 .rcases vp n pos.length with f | f
  .rw[wT f] at y;rw[wT (by rw[<- o.len];exact f)] at u;exact(o.reach n J Y u y).mono λa A=>ur _ A
  .rw[wV f] at y;rw[wV (by rw[<- o.len];exact f)] at u;have Z:=wg.mp (wu u);have z2:=wg.mp (wu y);subst Z z2;refine⟨s,T,λm F=>ur _ ?_⟩;have:=N m F;refine wZ λz =>?_;rw[(o.free (zat mask J m)).mpr z] at this
   cases this
theorem z5q {mask k:Nat}(g:mask+1=2 ^ k):∀(b done:List Int) (owner:Array (Option Nat)) (pos:List Nat),Own mask done owner pos->done.length+b.length<=mask+1->
  ∃a d,(b.foldl (init:=some (owner,done.length)) λf h=>do
   let (owner,k) <- f
   let j <- layClean.free mask owner (turns mask) (bits h % (mask+1)) (bits h)
   pure (owner.setIfInBounds j (some k),k+1))=some (a,done.length+b.length)/\Own mask (done++b) a d
 | [],done,owner,pos,o,_=>⟨owner,pos,rfl,by rw[vi];exact o⟩
 | h::b,done,owner,pos,o,l=>by
  simp only[wI] at l;obtain⟨j,e,m⟩:=o.add g (by lia) h;obtain⟨p,ps,i,n⟩:=z5q g b (done++[h]) _ _ m (by simp;lia);refine⟨p,ps,?_,by simpa using n⟩;rw[List.foldl_cons];have:(do
   let (owner,k) <- some (owner,done.length)
   let j <- layClean.free mask owner (turns mask) (bits h % (mask+1)) (bits h)
   pure (owner.setIfInBounds j (some k),k+1))=some (owner.setIfInBounds j (some done.length),(done++[h]).length):=by
   simp[e]
  rw[this,i];simp;lia
def own0 (mask:Nat):Own mask [] (Array.replicate (mask+1) none) []:=by
 refine⟨by simp,rfl,by simp,by simp,λj a k =>?_,λk h j e _=>by simp at e⟩;have:(Array.replicate (mask+1) (none:Option Nat)).getD j (some 0)=none:=by simp[Array.getD,show j<mask+1 by lia]
 rw[this];simp
def zeO {mask k finger moves:Nat}{led plain:Bool}(T:mask+1=2 ^ k)(hk:3<=k){es:Array (Int × α)}(hl:es.size<=mask+1):
  ∃t' d X,laid mask finger moves led plain (es.map (·.1))=some (t',d)/\t'.mask=mask/\t'.finger=finger/\t'.moves=moves/\t'.led=led/\t'.plain=plain/\(d.filterMap (es[·]?)).size=es.size/\TabW t' (d.filterMap (es[·]?)) X/\(d.filterMap (es[·]?)).toList.Perm es.toList:=by
 obtain⟨owner,s,e,o⟩:=z5q T (es.map (·.1)).toList [] _ _ (own0 mask) (by simpa using hl);simp only[List.nil_append,uO,j6] at e o;have H:layClean mask (es.map (·.1))=some owner:=by
  unfold layClean;rw[<- Array.foldl_toList,e]
  rfl
 have hn:(es.map (·.1)).toList.length=es.size:=by simp
 have a0:s.length=es.size:=by rw[o.len,hn]
 generalize f:((List.range (mask+1)).filterMap λj=>(owner.getD j none).map (j, ·))=live;have S:∀j,j<=mask->owner.getD j none=owner.getD j (some 0):=λj G=>by
  have:j<owner.size:=by rw[o.size];lia
  simp[Array.getD,this]
 have mem:∀j n,(j,n)∈live↔s[n]? = some j:=λj n=>by
  rw[<- f,We]
  o_rec
  .rintro⟨x,q,e⟩;have u:x<=mask:=by have:=vI.mp q;lia
   rw[S x u] at e;obtain⟨y,hy,N⟩:=vk.mp e
   cases N
   exact(o.own j u n).mp hy
  .intro h;have G:j<=mask:=o.le j (wu h);refine⟨j,vI.mpr (by lia),?_⟩;rw[S j G,(o.own j G n).mpr h]
   rfl
 have g:live.Pairwise λa b=>a.1<b.1:=by
  rw[<- f];have m:(List.range (mask+1)).Pairwise (· < ·):=List.pairwise_lt_range;generalize List.range (mask+1)=W at m
  induction W with
  | nil=>simp
  | cons x W L=>
   obtain⟨p1,U⟩:=w9.mp m;rw[jq]
   cases q:(owner.getD x none).map (x, ·) with
   | none=>exact L U
   | some y=>
    obtain⟨z,_,rfl⟩:=vk.mp q;refine w9.mpr ⟨λb F =>?_,L U⟩;obtain⟨x',u,Y⟩:=We.mp F;obtain⟨z',_,rfl⟩:=vk.mp Y;exact p1 x' u
 have R:(live.map (·.2)).Nodup:=by
  rw[List.nodup_iff_pairwise_ne,vf];refine List.Pairwise.imp_of_mem ?_ g;intro a b t F Z z;have m:=(mem a.1 a.2).mp t;have E:=(mem b.1 b.2).mp F;rw[<- z,m] at E;have:a.1=b.1:=wQ E;lia
 have perm:(live.map (·.2)).Perm (List.range es.size):=by
  refine z3Z R List.nodup_range λn =>?_;rw[vI]
  o_rec
  .intro h;obtain⟨a,t,rfl⟩:=we.mp h;obtain⟨O,_⟩:=wo.mp ((mem a.1 a.2).mp t);lia
  .intro h;refine we.mpr ⟨(s[n]'(by lia),n),(mem _ _).mpr (wf (by lia)),rfl⟩
 have K:(List.range es.size).filterMap (es[·]?)=es.toList:=by
  have:∀(l:List (Int × α)),(List.range l.length).filterMap (l[·]?)=l:=λl=>by
   have C:(List.range l.length).map (l[·]?)=l.map some:=by
    apply List.ext_getElem
    .simp
    .intro i m E;simp at m;simp[m]
   have N:(List.range l.length).filterMap (l[·]?)=((List.range l.length).map (l[·]?)).filterMap id:=by rw[List.filterMap_map];rfl
   rw[N,C,List.filterMap_map];simp
  have h:=this es.toList;simpa using h
 have V:(((live.map (·.2)).toArray).filterMap (es[·]?)).toList.Perm es.toList:=by
  have:=perm.filterMap (es[·]?);rw[K] at this;k_ne
 refine⟨{ mask,place:=(live.map (·.1)).toArray,dummies := #[],finger,led,moves,plain },(live.map (·.2)).toArray,live.filterMap λa=>(es[a.2]?).map λx=>(a.1,x),?_,rfl,rfl,rfl,rfl,rfl,?_,?_,V⟩
 .unfold laid;rw[H];simp only[Option.bind_eq_bind,Option.bind_some];rw[f]
  rfl
 .have:=V.length_eq;k_ne
 ·-- each live row p an element
  have p:∀a∈live,∃x,es[a.2]? = some x:=λa t=>by
   obtain⟨O,_⟩:=wo.mp ((mem a.1 a.2).mp t);exact⟨es[a.2]'(by lia),Array.getElem?_eq_getElem (by lia)⟩
  have C:∀(l:List (Nat × Nat)),(∀a∈l,∃x,es[a.2]? = some x)->(l.filterMap λa=>(es[a.2]?).map λx=>(a.1,x)).map (·.1)=l.map (·.1)/\(l.filterMap λa=>(es[a.2]?).map λx=>(a.1,x)).map (·.2)=(l.map (·.2)).filterMap (es[·]?):=λl=>by
   induction l with
   | nil=>intro _;exact⟨rfl,rfl⟩
   | cons a l L=>
    intro h;obtain⟨x,q⟩:=h a (by simp);obtain⟨i1,i2⟩:=L λb F=>h b (by simp[F]);refine⟨?_,?_⟩
    .rw[jq,q];simp only[Option.map_some,wC];rw[i1]
    .rw[jq,q];simp only[Option.map_some,wC,jq,q];rw[i2]
  have A:∀r:Rw α,r∈(live.filterMap λa=>(es[a.2]?).map λx=>(a.1,x))->∃n,s[n]? = some r.1/\es[n]? = some r.2:=λr J=>by
   obtain⟨a,t,e⟩:=We.mp J;obtain⟨x,q,rfl⟩:=vk.mp e;exact⟨a.2,(mem a.1 a.2).mp t,q⟩
  have occ:∀j,j∈s->∃r'∈(live.filterMap λa=>(es[a.2]?).map λx=>(a.1,x)),r'.1=j:=λj G=>by
   obtain⟨n,Q,e⟩:=w5.mp G;have I:(j,n)∈live:=(mem j n).mpr (by rw[wf Q,e]);obtain⟨x,q⟩:=p _ I;exact⟨(j,x),We.mpr ⟨(j,n),I,by rw[show es[(j,n).2]? = some x from q];rfl⟩,rfl⟩
  refine⟨by rw[(C live p).1],?_,?_,λr J =>?_,rfl,⟨k,hk,T⟩,λr J =>?_⟩
  .rw[(C live p).2];apply Array.ext';simp
  .have:((live.filterMap λa=>(es[a.2]?).map λx=>(a.1,x)).map (·.1)).Pairwise (· < ·):=by
    rw[(C live p).1,vf];exact g
   rw[vf] at this;exact this
  .obtain⟨n,m,_⟩:=A r J;exact o.le r.1 (wu m)
  .obtain⟨n,m,E⟩:=A r J;exact(o.reach n r.2.1 r.1 (by simp[E]) m).mono λa t=>occ a t
open PyProof.Rows
section
variable {prog:Program}{w:World}{A:Around}{E:Value->Shared->Prop}{s:Shared}
abbrev TK (prog:Program)(w:World)(h:Heap)(k:List Int)(a:Addr):Prop:=IsTupleKey (intKind prog w) h k a
def z8h {n:Nat}{v:Value}(h:carriedByValue v=true):ofAClassStatement n v=pure false:=by
 cases v with
 | ref a=>simp[carriedByValue] at h
 | _=>first | rfl | (unfold ofAClassStatement;rfl) | (cases n <;> rfl)
def z2o {ks:List Int}{a:Addr}{Q:Bool->Shared->Prop}(i:TK prog w s.heap ks a)(h:Q false s):wpAny (model prog w) A (ofAClassStatement 8 (.ref a)) Q E s:=by
 have j:=i.typeIs;obtain⟨o,items,n,m,_,k,l⟩:=i;unfold ofAClassStatement;refine wc (Wl j ?_);kt_k;rw[if_pos (by decide)];refine wc (wm ?_);simp only[jO,wL,ug];refine wc (vC m k ?_);refine wc ?_;show wpAny _ _ (forIn items _ _) _ _ s;rw[<- Array.forIn_toList];refine jV _ (λd r g=>r.1=none/\g=s/\∀v∈d,carriedByValue v=true) _ ?_ ?_ _ _ ⟨rfl,rfl,l.byValue⟩
 .rintro v d r g ⟨e,rfl,b⟩;rw[z8h (b v wq)];refine wc (wm ?_);tb_rel;exact wm ⟨rfl,rfl,λu f=>b u (wn _ f)⟩
 .rintro⟨p,q⟩ g ⟨e,rfl,_⟩;simp only at e;subst e;exact wm h
def za2 {n:Nat}{k:Int}{v:Value}(h:(intKind prog w).is k v=true):hashByValue n v=pure true:=by
 obtain⟨t,rfl⟩:=Value.isInt_shape h
 cases n <;> rfl
def z3O {ks:List Int}{a:Addr}{Q:Bool->Shared->Prop}(f:TK prog w s.heap ks a)(h:Q true s):wpAny (model prog w) A (hashByValue 8 (.ref a)) Q E s:=by
 have j:=f.typeIs;obtain⟨o,items,n,q,_,k,m⟩:=f;unfold hashByValue;refine wc (wpAny_specialOf j F.slot_tuple_hash.lookup ?_);kt_k;refine wc (vC q k ?_);refine wc ?_;show wpAny _ _ (forIn items _ _) _ _ s;rw[<- Array.forIn_toList];refine jV _ (λb r e=>r.1=none/\e=s/\∃l,ItemsAre (intKind prog w) l b) _ ?_ ?_ _ _ ⟨rfl,rfl,ks,m⟩
 .rintro v b r e ⟨d,rfl,l,p⟩
  cases p with
  | cons g i=>
   rw[za2 g];refine wc (wm ?_);simp only[jO,wL,ug];exact wm ⟨rfl,rfl,_,i⟩
 .rintro⟨t,u⟩ e ⟨d,rfl,_⟩;simp only at d;subst d;exact wm h
def z9y {ks:List Int}{a:Addr}{d:List Value}{Q:Bool->Shared->Prop}(n:TK prog w s.heap ks a)(i:∀y∈d,∃b k,y = .ref b/\TK prog w s.heap k b)(h:Q false s):wpAny (model prog w) A (searchCouldBeSeen (.ref a) d) Q E s:=by
 unfold searchCouldBeSeen;refine wc ?_;refine jV _ (λf r l=>r.1=none/\l=s/\∀y∈f,∃b k,y = .ref b/\TK prog w s.heap k b) _ ?_ ?_ _ _ ⟨rfl,rfl,i⟩
 .rintro y f r l ⟨g,rfl,e⟩;obtain⟨b,k,rfl,m⟩:=e y wq;kt_k
  split
  .exact wm ⟨rfl,rfl,λu j=>e u (wn _ j)⟩
  .refine wc (wpAny_eqIsQuiet_tuple n ?_);simp only[jO,wL,ug];refine wc (wpAny_eqIsQuiet_tuple m ?_);simp only[jO,wL,ug];refine wc (z2o n ?_);tb_rel;refine wc (z2o m ?_);tb_rel;exact wm ⟨rfl,rfl,λu j=>e u (wn _ j)⟩
 .rintro⟨o,p⟩ l ⟨g,rfl,_⟩;simp only at g;subst g;exact wm h
structure z7V (prog:Program)(w:World)(h:Heap)(a:Addr)(L:List (Rw Value))(o:Obj)(es:Array (Int × Value))(ep:Nat)(t:SetTable):Prop where
 get:h.get? a=some o
 ex:o.ExactSet
 data:o.data = .set es ep t
 tab:TabW t es L
 room:L.length<=t.mask
 small:t.mask<=8191
 plain:t.plain=true
 led:t.led = !w.params.followText "set-order"
 key:∀r∈L,∃b k,r.2.2 = .ref b/\TK prog w h k b/\r.2.1=tupleKeyHash (intKind prog w) k
theorem z7V.fits {h:Heap}{a:Addr}{L:List (Rw Value)}{o:Obj}{es:Array (Int × Value)}{ep:Nat}{t:SetTable}(x:z7V prog w h a L o es ep t):t.fits es.size=true:=by
 unfold SetTable.fits;rw[x.tab.size.1,x.tab.size.2.1,x.tab.size.2.2];simp[x.room]
def z7V.odd {h:Heap}{a:Addr}{L:List (Rw Value)}{o:Obj}{es:Array (Int × Value)}{ep:Nat}{t:SetTable}(x:z7V prog w h a L o es ep t):t.gaveWay=false:=by
 unfold SetTable.gaveWay;obtain⟨k,d,e⟩:=x.tab.pow;have:2 ^ k=2*2 ^ (k - 1):=by rw[<- Nat.pow_succ'];congr 1;lia
 have b:t.mask % 2=1:=by lia
 rw[b]
 rfl
def zdp {t:SetTable}{es:Array (Int × Value)}{L:List (Rw Value)}(w:TabW t es L){i j:Nat}(h:t.place[i]? = some j):∃r,L[i]? = some r/\r.1=j/\es[i]? = some r.2:=by
 have a:(L.map (·.1))[i]? = some j:=by rw[w.place] at h;simpa using h
 rw[wN] at a;obtain⟨r,b,e⟩:=vk.mp a;refine⟨r,b,e,?_⟩;rw[w.es];simp[b]
def z6X {a b:Addr}{u:List Int}{L:List (Rw Value)}{o:Obj}{es:Array (Int × Value)}{ep:Nat}{t:SetTable}(x:z7V prog w s.heap a L o es ep t)(hu:A.units<cLine)(hk:TK prog w s.heap u b){N:Nat}
  (hN:¬ ∃r∈L,r.1=(advs t.mask (st0 t.mask (tupleKeyHash (intKind prog w) u)) N).j) {Q:SetFound->Shared->Prop}
  (R:(∃r∈L,∃c,r.2.2 = .ref c/\TK prog w s.heap u c)->Q (.there none) s)
  (X:∀n,(∀m,m<n->∃r∈L,r.1=(advs t.mask (st0 t.mask (tupleKeyHash (intKind prog w) u)) m).j/\∀c,r.2.2 = .ref c->¬ TK prog w s.heap u c)->(¬ ∃r∈L,r.1=(advs t.mask (st0 t.mask (tupleKeyHash (intKind prog w) u)) n).j)->Q (.free (advs t.mask (st0 t.mask (tupleKeyHash (intKind prog w) u)) n).j false) s):
  ∀(g n:Nat) (q:Option Probe),q.getD (t.probeStart (tupleKeyHash (intKind prog w) u))=advs t.mask (st0 t.mask (tupleKeyHash (intKind prog w) u)) n->N<g+n->
   (∀m,m<n->∃r∈L,r.1=(advs t.mask (st0 t.mask (tupleKeyHash (intKind prog w) u)) m).j/\∀c,r.2.2 = .ref c->¬ TK prog w s.heap u c)->
   wpAny (model prog w) A (setSearchFrom a (.ref b) (tupleKeyHash (intKind prog w) u) true g q) Q E s:=by
 intro g
 induction g with
 | zero=>
  intro n q hs hl I;obtain⟨r,O,e,_⟩:=I N (by lia);exact absurd ⟨r,O,e⟩ hN
 | succ g ih=>
  intro n q hs hl I;generalize hh:tupleKeyHash (intKind prog w) u=F at*;unfold setSearchFrom;refine wc (vL x.get x.data x.fits ?_);kt_k;rw[x.odd];tb_rel
  try refine wc (wm ?_)
  rw[hs];obtain⟨f,hf⟩:∃f:Nat->Int,f=λi=>(es[i]?.map (·.1)).getD 0:=⟨_,rfl⟩
  show wpAny (model prog w) A (match t.probe (λi=>(es[i]?.map (·.1)).getD 0) F (advs t.mask (st0 t.mask F) n) with
   | some a9=>_
   | _=>_) Q E s
  rw[<- hf];have a0:∀r∈L,r.2.1≠F->∀c,r.2.2 = .ref c->¬ TK prog w s.heap u c:=λr O K c e z=>by
   obtain⟨b',k,S,Y,eh⟩:=x.key r O;rw[S] at e
   cases e
   rw[Y.inj z] at eh;exact K (eh.trans hh)
  obtain⟨d,h1,h2⟩:=x.tab.probe x.room f F n;have H:∀m,m<n+d->∃r∈L,r.1=(advs t.mask (st0 t.mask F) m).j/\∀c,r.2.2 = .ref c->¬ TK prog w s.heap u c:=λm hm=>by
   rcases vp m n with z | z
   .exact I m z
   .obtain⟨i,hi,K⟩:=h1 m z hm;obtain⟨r,O,e1,e2⟩:=zdp x.tab hi;have G:r∈L:=wu O;refine⟨r,G,e1,a0 r G ?_⟩;rw[hf] at K;simpa[e2] using K
  rcases h2 with ⟨a1,e⟩ | ⟨i,hi,a5,e⟩
  .rw[e];kt_k;exact wm (X (n+d) H <| by
    rintro⟨r,O,S⟩;obtain⟨i,hi⟩:=x.tab.occ.mpr ⟨r,O,S⟩;exact a1 i hi)
  .rw[e];kt_k;obtain⟨r,O,e1,e2⟩:=zdp x.tab hi;have G:r∈L:=wu O;obtain⟨c,k,ec,hc,a4⟩:=x.key r G;have V:wpAny (model prog w) A (match es[i]? with
             | some (_,y)=>do
              let l <- holding [y] (eqBool y (Value.ref b))
              let W <- setState a
              if (true && l)=true then pure (SetFound.there none)
               else
                match W.2.snd.sameMemory t.moves t.mask with
                | some a3=>
                 match if a3=true then W.2.snd.slot (advs t.mask (st0 t.mask F) (n+d)).j else Slot.empty with
                 | Slot.live U=>
                  match W.fst[U]? with
                  | some (_,y')=>do
                   let C <- isSame y' y
                   let h <- pure (if C=true then some U else none)
                   match h with
                    | none=>do
                     rule "set.search.anew"
                     setSearchFrom a (Value.ref b) F true g none
                    | some U=>if l=true then pure (SetFound.there (some U)) else setSearchFrom a (Value.ref b) F true g (some (advs t.mask (st0 t.mask F) (n+d+1)))
                  | none=>do
                   let h <- pure none
                   match h with
                    | none=>do
                     rule "set.search.anew"
                     setSearchFrom a (Value.ref b) F true g none
                    | some U=>if l=true then pure (SetFound.there (some U)) else setSearchFrom a (Value.ref b) F true g (some (advs t.mask (st0 t.mask F) (n+d+1)))
                 | _=>do
                  let h <- pure none
                  match h with
                   | none=>do
                    rule "set.search.anew"
                    setSearchFrom a (Value.ref b) F true g none
                   | some U=>if l=true then pure (SetFound.there (some U)) else setSearchFrom a (Value.ref b) F true g (some (advs t.mask (st0 t.mask F) (n+d+1)))
                | _=>unsupported "set.changed-during-lookup:is-the-new-block-at-the-old-address"
             | _=>unsupported "internal:set-entry") Q E s:=by
    rw[e2, <- Prod.eta r.2];kt_k;rw[ec];refine wc (vO (wpAny_eqBool_tuple hu hc hk ?_));refine wc (vL x.get x.data x.fits ?_);kt_k
    by_cases J:k=u
    .rw[vU J];simp only[Bool.and_self,jc];exact wm (R ⟨r,G,c,ec,J ▸ hc⟩)
    .rw[vz J];simp only[Bool.and_false,wL,ug];have a8:t.sameMemory t.moves t.mask=some true:=by unfold SetTable.sameMemory;simp
     rw[a8];kt_k;rw[if_pos rfl,z74 x.tab.riseP hi];kt_k;rw[e2, <- Prod.eta r.2];kt_k;rw[ec];refine wc (wpAny_isSame_ref_self ?_);refine wc (wm ?_);simp only[jc];refine ih (n+d+1) _ rfl (by lia) λm hm =>?_
     rcases vp m (n+d) with z | z
     .exact H m z
     .have:m=n+d:=by lia
      k_end;exact⟨r,G,e1,λc' S z=>by
       rw[ec] at S
       cases S
       exact J (hc.inj z)⟩
   by_cases T:t.led=true
   .rw[T];simp only[jO,wL,ug];exact V
   .have Z:t.led=false:=by simpa using T
    rw[Z];simp only[Bool.not_false,jc];refine wc (z9y hk (λy hy =>?_) ?_)
    .obtain⟨p,hp,rfl⟩:=we.mp hy;have a2:p∈es:=by
      have:=Array.mem_toList_iff.mp hp;exact(Array.mem_filter.mp this).1
     have a6:p∈L.map (·.2):=by rw[x.tab.es] at a2;simpa using a2
     obtain⟨r',a7,rfl⟩:=we.mp a6;obtain⟨b',k',S,Y,_⟩:=x.key r' a7;exact⟨b',k',S,Y⟩
    .tb_rel;exact V
end
theorem z4M (n:Nat):∀(fuel j:Nat),n<2 ^ (j+fuel)->∃k,sizeAbove.go n fuel (2 ^ j)=2 ^ k/\j<=k/\n<2 ^ k/\(k=j\/2 ^ k<=2*n)
 | 0,j,h=>⟨j,rfl,ww _,h,.inl rfl⟩
 | fuel+1,j,h=>by
  rw[sizeAbove.go]
  by_cases b:2 ^ j<=n
  .rw[if_pos b, <- Nat.pow_succ];obtain⟨k,d,f,e,a⟩:=z4M n fuel (j+1) (by rw[show j+1+fuel=j+(fuel+1) by lia];exact h);refine⟨k,d,by lia,e,.inr ?_⟩
   rcases a with a | a
   .subst a;rw[Nat.pow_succ];lia
   .exact a
  .rw[if_neg b];exact⟨j,rfl,ww _,by lia,.inl rfl⟩
def z5B {n:Nat}(h:n<2 ^ 60):∃k,sizeAbove n=2 ^ k/\3<=k/\n<2 ^ k/\(k=3\/2 ^ k<=2*n):=z4M n 64 3 (u7 h (by decide))
section
variable {prog:Program}{w:World}{A:Around}{E:Value->Shared->Prop}{s:Shared}
def TK.stay {h h':Heap}{k:List Int}{a b:Addr}{o:Obj}{es ep t}(x:TK prog w h k b)(m:h.get? a=some o)(j:o.data = .set es ep t)(p:Heap.SameBut a h h'):TK prog w h' k b:=by
 obtain⟨g,items,n,e,i,d,l⟩:=x;have f:b≠a:=by
  rintro rfl;obtain rfl:g=o:=wQ (e.symm.trans m);rw[j] at d
  cases d
 exact⟨g,items,n,(p.2 b f).trans e,i,d,l⟩
structure zbW (prog:Program)(w:World)(h:Heap)(a:Addr)(L:List (Rw Value)):Prop where
 ex:∃o es ep t,z7V prog w h a L o es ep t/\L.length*5<t.mask*3
def z73 {h:Heap}{a:Addr}{o:Obj}{es:Array (Int × Value)}{ep:Nat}{t:SetTable}(e:h.get? a=some o)(d:o.data = .set es ep t)(b:Array (Int × Value))(t':SetTable):
  (h.update a (Obj.putSet b t')).get? a=some { o with data :=.set b (ep+1) t' }:=by
 have:=vr (Obj.putSet b t') e (by rw[putSet_of b t' d];rfl);rw[putSet_of b t' d] at this;exact this
def z4Q {a b:Addr}{S:List Int}{L:List (Rw Value)}(x:zbW prog w s.heap a L)(hu:A.units<cLine)(hk:TK prog w s.heap S b)(c9:L.length<2047){Q:Bool->Shared->Prop}
  (Y:(∃r∈L,∃c,r.2.2 = .ref c/\TK prog w s.heap S c)->∀tk,Q false { s with toks:=tk })
  (b6:(¬ ∃r∈L,∃c,r.2.2 = .ref c/\TK prog w s.heap S c)->∀h' tk L',Heap.SameBut a s.heap h'->zbW prog w h' a L'->(L'.map (·.2)).Perm ((tupleKeyHash (intKind prog w) S,.ref b)::L.map (·.2))->Q true { s with heap:=h',toks:=tk }):
  wpAny (model prog w) A (setAdd a (.ref b)) Q E s:=by
 obtain⟨o,es,ep,t,y,c3⟩:=x.ex;unfold setAdd;refine vO (wc (wpAny_pyHash_tuple hu hk ?_));generalize X:({ s with toks:=s.toks+(S.length+1) }:Shared)=T;have d:z7V prog w T.heap a L o es ep t:=by rw[<- X];exact y
 have a7:TK prog w T.heap S b:=by rw[<- X];exact hk
 unfold setAddHashed;refine vO ?_;show wpAny _ _ (setAddHashedIn a (.ref b) _ (99999+1)) _ _ _;unfold setAddHashedIn;refine wc (vL d.get d.data d.fits ?_);kt_k;have c2:byScan (Value.ref b) es=false:=by unfold byScan;simp[Value.scannable]
 rw[c2];tb_rel;obtain⟨N,hN,c1⟩:=d.tab.soon d.room (tupleKeyHash (intKind prog w) S);have a9:t.mask<=8191:=d.small;refine wc ?_;unfold setSearch;refine z6X (s:=T) d hu a7 c1 ?_ ?_ 100000 0 none rfl (by unfold turns at hN;lia) (λm hm=>absurd hm (jJ _))
 .intro b3;kt_k;refine wm ?_;rw[<- X] at b3 ⊢;exact Y b3 _
 .intro n a3 I;kt_k;refine wc (vL d.get d.data d.fits ?_);kt_k;have a0:¬ ∃r∈L,∃c,r.2.2 = .ref c/\TK prog w T.heap S c:=by
   rintro⟨r,C,c,ec,hc⟩;obtain⟨U,k',Z,l,eh⟩:=d.key r C;rw[ec] at Z
   cases Z
   have ek:=l.inj hc;subst ek;obtain⟨m,e1,e2⟩:=d.tab.reach r C;rw[eh] at e1 e2
   rcases uN m n with z | z | z
   .obtain⟨r',K,e3,e4⟩:=a3 m z;have:r'=r:=by
     have nd:=d.tab.nodup;have e5:r'.1=r.1:=e3.trans e1;obtain⟨i,hi,ei⟩:=w5.mp K;obtain⟨j,hj,ej⟩:=w5.mp C;have c5:i=j:=by
      rcases uN i j with q | q | q
      .have:=vh.mp d.tab.rise i j hi hj q;rw[ei,ej] at this;lia
      .f_int
      .have:=vh.mp d.tab.rise j i hj hi q;rw[ei,ej] at this;lia
     subst c5;exact ei.symm.trans ej
    k_end;exact e4 c ec hc
   .subst z;exact I ⟨r,C,e1.symm⟩
   .obtain⟨r',K,e3⟩:=e2 n z;exact I ⟨r',K,e3⟩
  generalize hh:tupleKeyHash (intKind prog w) S=H at*;generalize hj:(advs t.mask (st0 t.mask H) n).j=j at*;have c6:j<=t.mask:=by rw[<- hj];exact zat t.mask H n
  have G:TabW (t.put j).1 (insertAt es (t.put j).2 (H,Value.ref b)) (ins L (t.put j).2 (j,H,Value.ref b)):=by
   have:=d.tab.put (x:=Value.ref b) (h:=H) (n:=n) (λm hm=>by
    obtain⟨r,C,e,_⟩:=a3 m hm;exact⟨r,C,e⟩) (by rw[hj];exact I) (by rw[hj];exact c6)
   rw[hj] at this;exact this
  have W:(ins L (t.put j).2 (j,H,Value.ref b)).length=L.length+1:=by
   unfold ins;rw[wB,wI,w8,uY];lia
  have b5:(t.put j).1.mask=t.mask:=rfl;have b0:(t.put j).1.plain=true:=d.plain;have p:((ins L (t.put j).2 (j,H,Value.ref b)).map (·.2)).Perm ((H,Value.ref b)::L.map (·.2)):=by
   unfold ins;rw[wv,wC];refine jT.trans ?_;refine List.Perm.cons _ ?_;rw[<- wv,vH]
  generalize b2:(t.put j).1=t2 at*;generalize d3:ins L (t.put j).2 (j,H,Value.ref b)=L2 at*;generalize d1:insertAt es (t.put j).2 (H,Value.ref b)=f at*;have d0:t.put j=(t2,(t.put j).2):=by rw[<- b2]
  rw[b0];simp only[jc];refine wc (z3O a7 ?_);simp only[jc];have O:f.size=L.length+1:=by rw[G.size.2.1,W]
  refine wc (wpAny_storeSet_of d.get d.data ?_ (by rw[O];exact fits_of_scanBound (by unfold scanBound;lia)));have g2:=z73 d.get d.data f t2;have b1:=uA T.heap a (Obj.putSet f t2);have J:t2.led=t.led:=by rw[<- b2];rfl
  have a5:∀h',Heap.SameBut a T.heap h'->∀r:Int × Value,r∈(H,Value.ref b)::L.map (·.2)->∃U k,r.2 = .ref U/\TK prog w h' k U/\r.1=tupleKeyHash (intKind prog w) k:=λh' sb r C=>by
   rcases wj.mp C with rfl | C
   .exact⟨b,S,rfl,a7.stay d.get d.data sb,hh.symm⟩
   .obtain⟨r',K,rfl⟩:=we.mp C;obtain⟨U,k',Z,l,eh⟩:=d.key r' K;exact⟨U,k',Z,l.stay d.get d.data sb,eh⟩
  have fin:∀h' L',Heap.SameBut a T.heap h'->zbW prog w h' a L'->(L'.map (·.2)).Perm ((H,.ref b)::L.map (·.2))->Q true { T with heap:=h' }:=λh' L' sb ok pm=>by
   rw[<- X] at sb a0 ⊢;exact b6 a0 h' _ L' sb ok pm
  have h7:7<=t.mask:=by
   obtain⟨k,a8,e⟩:=d.tab.pow;have:2 ^ 3<=2 ^ k:=jP (by decide) a8;lia
  have g:z7V prog w (T.heap.update a (Obj.putSet f t2)) a L2 { o with data :=.set f (ep+1) t2 } f (ep+1) t2:=by
   refine⟨g2,d.ex,rfl,G,?_,?_,b0,?_,λr C =>?_⟩
   .rw[W,b5];lia
   .rw[b5];exact a9
   .rw[J];exact d.led
   .obtain⟨U,k',Z,l,eh⟩:=a5 _ b1 r.2 (p.mem_iff.mp (we.mpr ⟨r,C,rfl⟩));exact⟨U,k',Z,l,eh⟩
  have a6:t2.fill=L.length+1:=by rw[G.size.2.2,W]
  by_cases b7:t2.tooFull=true
  .rw[b7];simp only[Bool.not_false,Bool.and_self,jc];obtain⟨k,a1,a8,d4,c7⟩:=z5B (n:=SetTable.grown (es.size+1)) (by
    have:es.size=L.length:=d.tab.size.2.1;unfold SetTable.grown;rw[this,if_neg (by lia)];exact u7 (show (L.length+1)*4<8192 by lia) (by decide))
   have c4:SetTable.grown (es.size+1)=(L.length+1)*4:=by
    have:es.size=L.length:=d.tab.size.2.1;unfold SetTable.grown;rw[this,if_neg (by lia)]
   have d5:2 ^ k<=8192:=by
    rcases c7 with z | z
    .subst z;decide
    .rw[c4] at z
     rcases vp k 14 with y | y
     .exact jP (by decide) (show k<=13 by lia)
     .have:=jP (show 0<2 by decide) y;have:(2:Nat) ^ 14=16384:=by decide
      lia
   have a2:2 ^ k - 1+1=2 ^ k:=Nat.sub_add_cancel (Nat.one_le_two_pow);obtain⟨t3,u,L3,hl,m1,m2,m3,m4,m5,m6,R,b8⟩:=zeO (es:=f) (mask:=2 ^ k - 1) (finger:=t2.finger) (moves:=t2.movedTo (2 ^ k - 1)) (led:=t2.led) (plain:=t2.plain) a2 a8 (by rw[O,a2];lia);unfold setRelay;refine wc (wc (vL g.get g.data g.fits ?_));kt_k;rw[a1];rw[if_neg (show ¬ 2 ^ k > sizeLine by rw[sizeLine_eq];lia)]
   try refine wc (wm ?_)
   have c8:t2.relaid (f.map (·.1)) (SetTable.grown (es.size+1))=some (t3,u):=by
    unfold SetTable.relaid;rw[a1];exact hl
   rw[c8];refine wc ?_;show wpAny _ _ (if (((u.filterMap (f[·]?)).size != f.size)=true) then _ else _) _ _ _;rw[if_neg (by rw[m6];simp)];refine wm ?_;kt_k;generalize d2:u.filterMap (f[·]?)=V at*;have a4:V.size=L.length+1:=by rw[m6,O]
   have b4:L3.length=L.length+1:=by rw[<- R.size.2.1,a4]
   refine wpAny_storeSet_of g.get g.data ?_ (by rw[a4];exact fits_of_scanBound (by unfold scanBound;lia));have g3:=z73 g.get g.data V t3;have b9:=b1.trans (uA (T.heap.update a (Obj.putSet f t2)) a (Obj.putSet V t3));have e3:V.toList=L3.map (·.2):=by rw[R.es]
   have c0:f.toList=L2.map (·.2):=by rw[G.es]
   have pm:(L3.map (·.2)).Perm ((H,Value.ref b)::L.map (·.2)):=by
    rw[e3,c0] at b8;exact b8.trans p
   refine wm (fin _ L3 b9 ⟨_,_,_,_,⟨g3,d.ex,rfl,R,?_,?_,m5.trans b0,?_,λr C =>?_⟩,?_⟩ pm)
   .rw[b4,m1];lia
   .rw[m1];lia
   .rw[m4,J];exact d.led
   .obtain⟨U,k',Z,l,eh⟩:=a5 _ b9 r.2 (pm.mem_iff.mp (we.mpr ⟨r,C,rfl⟩));exact⟨U,k',Z,l,eh⟩
   .rw[b4,m1];lia
  .have F:t2.tooFull=false:=by simpa using b7
   rw[F];simp only[Bool.and_false,wL,ug];refine wm (fin _ L2 b1 ⟨_,_,_,_,g,?_⟩ p);unfold SetTable.tooFull at F;rw[a6] at F;rw[W];have:=u5 F;lia
end
inductive Two {α β:Type}(R:α->β->Prop):List α->List β->Prop
 | nil:Two R [] []
 | cons {a b l m}:R a b->Two R l m->Two R (a::l) (b::m)
def Two.imp {α d:Type}{R R':α->d->Prop}(i:∀a b,R a b->R' a b){l:List α}{m:List d}(h:Two R l m):Two R' l m:=by
 induction h with
 | nil=>exact .nil
 | cons h _ e=>exact .cons (i _ _ h) e
def Two.perm {α n:Type}{R:α->n->Prop}{l l':List α}(p:l.Perm l'):∀{m:List n},Two R l m->∃m',m.Perm m'/\Two R l' m':=by
 induction p with
 | nil=>intro m h;exact⟨m,Wh _,h⟩
 | cons x _ r=>
  intro m h
  cases h with
  | cons d e=>
   obtain⟨m',j,a⟩:=r e;exact⟨_::m',j.cons _,.cons d a⟩
 | swap x y l=>
  intro m h
  cases h with
  | cons d e=>
   cases e with
   | cons o q=>exact⟨_,List.Perm.swap _ _ _,.cons o (.cons d q)⟩
 | trans _ _ f g=>
  intro m h;obtain⟨m',j,a⟩:=f h;obtain⟨i,k,b⟩:=g a;exact⟨i,j.trans k,b⟩
def Two.mem_left {α e:Type}{R:α->e->Prop}{l:List α}{m:List e}(h:Two R l m){a:α}(d:a∈l):∃b∈m,R a b:=by
 induction h with
 | nil=>simp at d
 | cons h _ g=>
  rcases wj.mp d with rfl | d
  .exact⟨_,by simp,h⟩
  .obtain⟨b,f,r⟩:=g d;exact⟨b,by simp[f],r⟩
def Two.mem_right {α e:Type}{R:α->e->Prop}{l:List α}{m:List e}(h:Two R l m){b:e}(d:b∈m):∃a∈l,R a b:=by
 induction h with
 | nil=>simp at d
 | cons h _ g=>
  rcases wj.mp d with rfl | d
  .exact⟨_,by simp,h⟩
  .obtain⟨a,f,r⟩:=g d;exact⟨a,by simp[f],r⟩
section
variable {prog:Program}{w:World}
def IsK (prog:Program)(w:World)(M:Value->Prop)(h:Heap)(v:Value)(k:List Int):Prop:=M v/\∃b,v = .ref b/\TK prog w h k b
structure SetK (prog:Program)(w:World)(M:Value->Prop)(h:Heap)(a:Addr)(kl:List (List Int)):Prop where
 ex:∃L,zbW prog w h a L/\Two (IsK prog w M h) (L.map (·.2.2)) kl
 nd:kl.Nodup
def SetK.len {M:Value->Prop}{h:Heap}{a:Addr}{b:List (List Int)}(x:SetK prog w M h a b):∃L,zbW prog w h a L/\Two (IsK prog w M h) (L.map (·.2.2)) b/\L.length=b.length:=by
 obtain⟨L,e,d⟩:=x.ex;refine⟨L,e,d,?_⟩;have:∀{l:List Value}{m:List (List Int)},Two (IsK prog w M h) l m->l.length=m.length:=by
  intro l m t
  induction t with
  | nil=>rfl
  | cons _ _ f=>simp[f]
 have:=this d;k_ne
def SetK.stay {M:Value->Prop}{h h':Heap}{a:Addr}{kl:List (List Int)}{wr:List Addr}(x:SetK prog w M h a kl)(k:∀b o,b ∉ wr->h.get? b=some o->h'.get? b=some o)(j:a ∉ wr)(hw:∀b∈wr,∀ks,¬ TK prog w h ks b):SetK prog w M h' a kl:=by
 obtain⟨L,⟨o,g,f,t,y,p⟩,i⟩:=x.ex;have d:∀{ks:List Int}{b:Addr},TK prog w h ks b->TK prog w h' ks b:=λ{ks b} z=>by
  have l:b ∉ wr:=λq=>hw b q ks z;obtain⟨o,u,n,e,r⟩:=z;exact⟨o,u,n,k _ _ l e,r⟩
 refine⟨⟨L,⟨o,g,f,t,⟨k _ _ j y.get,y.ex,y.data,y.tab,y.room,y.small,y.plain,y.led,λr s =>?_⟩,p⟩,i.imp λa b ⟨m,c,e,z⟩=>⟨m,c,e,d z⟩⟩,x.nd⟩;obtain⟨b,ks,e,z,q⟩:=y.key r s;exact⟨b,ks,e,d z,q⟩
variable {A:Around}{R:Result->Shared->Prop}{I:Addr}{fp wr:List Addr}{G:Array GenState->Array GenState->Prop}{n:Nat}{P:Nat->Value->Prop}{St:Nat->Shared->Prop}
def z31 {M:Value->Prop}(W:WalksS prog w A.in1 I fp wr G n P St)(S:Addr)(X:S ∉ fp)(hu:A.in1.units<cLine)(ks:Nat->List Int)(hn:n<=2040)(hw:∀i s,St i s->∀b∈wr,∀k,¬ TK prog w s.heap k b)(hM:∀j v,P j v->M v):
  ∀(k i:Nat) (s:Shared) (kl:List (List Int)),n - i=k->i<=n->St i s->(∀j v,P j v->∃b,v = .ref b/\TK prog w s.heap (ks j) b)->
   SetK prog w M s.heap S kl->kl.length<=i->(∀x,x∈kl↔∃j,j<i/\ks j=x)->
   (∀s' d,Moved (S::wr) G s s'->SetK prog w M s'.heap S d->d.length<=n->(∀x,x∈d↔∃j,j<n/\ks j=x)->R (.ok (.ret .none)) s')->
   codeAny (model prog w) A (.builtin "set.update.loop" ⟨[.ref S,.ref I],[]⟩) R s:=by
 have Y:S ∉ wr:=λh=>X (W.sub _ h);have J:∀b∈wr,b∈S::wr:=λb hb=>wn _ hb;intro k
 induction k with
 | zero=>
  intro i s kl hk hi p hP hS hl hm hR;have a6:i=n:=by lia
  subst a6;refine vR F.entry_set_update_loop ?_;rw[vD ju _];show wpAny _ A.in1 (pyNext (.ref I) >>= _) _ _ s;refine wc (W.done s _ _ p λs' l =>?_);show wpAny _ A.in1 (ret Value.none) _ _ s';exact wm (hR s' kl (l.mono J) (hS.stay l.heap Y (hw _ _ p)) hl hm)
 | succ k ih=>
  intro i s kl hk hi p hP hS hl hm hR;have N:i<n:=by lia
  refine vR F.entry_set_update_loop ?_;rw[vD ju _];show wpAny _ A.in1 (pyNext (.ref I) >>= _) _ _ s;refine wc (W.item i s _ _ N p λv s' U a1 l =>?_);have V:=hS.stay l.heap Y (hw _ _ p);have T:∀j v,P j v->∃b,v = .ref b/\TK prog w s'.heap (ks j) b:=λj u O=>by
   obtain⟨b,e,z⟩:=hP j u O;have hb:b ∉ wr:=λq=>hw _ _ p b q _ z;obtain⟨o,it,m,e',r⟩:=z;exact⟨b,e,o,it,m,l.heap _ _ hb e',r⟩
  obtain⟨b,rfl,a0⟩:=T i v U;show wpAny _ A.in1 (holding [Value.ref b] (setAdd S (.ref b)) >>= _) _ _ s';refine wc (vO ?_);obtain⟨L,hL,h2,b1⟩:=V.len;have E:∀(H:Heap) (K:Nat),s'.toks<=K->Heap.SameBut S s'.heap H->St (i+1) { s' with heap:=H,toks:=K }/\(∀j v,P j v->∃b,v = .ref b/\TK prog w H (ks j) b)/\∀s'',Moved (S::wr) G { s' with heap:=H,toks:=K } s''->Moved (S::wr) G s s'':=λH K C g=>by
   obtain⟨o,es,ep,t,y,_⟩:=hL.ex;refine⟨W.frame _ s' _ _ a1 C λc hc o' e =>?_,λj u O =>?_,λs'' f =>?_⟩
   .rw[g.2 c (λz:c=S=>X (by rw[<- z];exact hc))];exact e
   .obtain⟨c,e,z⟩:=T j u O;exact⟨c,e,z.stay y.get y.data g⟩
   .refine Moved.trans W.gtrans ((l.mono J).then_heap C λc o' hc e =>?_) f;rw[g.2 c (λz:c=S=>hc (by rw[z];exact wq))];exact e
  refine wpAny_with_toks (ww s'.toks) ?_;refine z4Q hL hu a0 (by lia) ?_ ?_
  .intro a5 K C;obtain⟨g1,g2,g3⟩:=E s'.heap K C (Heap.SameBut.refl _ _);refine wm ⟨uc ju _,ih (i+1) _ kl (by lia) N g1 g2 V (by lia) (λx =>?_) λs'' d f=>hR s'' d (g3 s'' f)⟩;rw[hm x]
   o_rec
   .rintro⟨j,hj,e⟩;exact⟨j,by lia,e⟩
   .rintro⟨j,hj,e⟩
    rcases vp j i with z | z
    .exact⟨j,z,e⟩
    .have:j=i:=by lia
     k_end;obtain⟨r,hr,c,ec,hc⟩:=a5;obtain⟨y,hy,_,c',Q,a4⟩:=h2.mem_left (we.mpr ⟨r,hr,rfl⟩);rw[ec] at Q
     cases Q
     have:=hc.inj a4;rw[<- e,this];exact(hm y).mp hy
  .intro Z H K L' g a8 pm C;obtain⟨g1,g2,g3⟩:=E H K C g;obtain⟨o,es,ep,t,y,_⟩:=hL.ex;have t1:Two (IsK prog w M H) (Value.ref b::L.map (·.2.2)) (ks i::kl) :=.cons ⟨hM i _ U,b,rfl,a0.stay y.get y.data g⟩ (h2.imp λa k ⟨m,c,e,z⟩=>⟨m,c,e,z.stay y.get y.data g⟩);have b0:(Value.ref b::L.map (·.2.2)).Perm (L'.map (·.2.2)):=by
    have:=pm.symm.map (·.2);simpa[Function.comp_def] using this
   obtain⟨d,p',t'⟩:=t1.perm b0;have a7:ks i ∉ kl:=λz=>by
    obtain⟨a',a3,_,c,e,z'⟩:=h2.mem_right z;obtain⟨r,hr,rfl⟩:=we.mp a3;exact Z ⟨r,hr,c,e,z'⟩
   have a9:d.Nodup:=p'.nodup_iff.mp (vP.mpr ⟨a7,hS.nd⟩);have b2:d.length=kl.length+1:=by rw[<- p'.length_eq];rfl
   refine wm ⟨uc ju _,ih (i+1) _ d (by lia) N g1 g2 ⟨⟨L',a8,t'⟩,a9⟩ (by lia) (λx =>?_) λs'' a2 f=>hR s'' a2 (g3 s'' f)⟩;rw[<- p'.mem_iff,wj,hm x]
   o_rec
   .rintro(e | ⟨j,hj,e⟩)
    .exact⟨i,by lia,e.symm⟩
    .exact⟨j,by lia,e⟩
   .rintro⟨j,hj,e⟩
    rcases vp j i with z | z
    .exact .inr ⟨j,z,e⟩
    .have:j=i:=by lia
     k_end;exact .inl e.symm
end
section
variable {prog:Program}{w:World}{A:Around}{E:Value->Shared->Prop}{s:Shared}
def z6g:isSubtype (.type "tuple") (.type "set")=pure false:=by rw[jS];kernel_rfl
def z3G:isSubtype (.type "tuple") (.type "frozenset")=pure false:=by rw[jS];kernel_rfl
abbrev led0 (w:World):Bool := !w.params.followText "set-order"
def z4h (a:Value){Q₁:Value->Shared->Prop}
  (h:Q₁ (.ref s.heap.objs.size) { s with heap:=s.heap.push { cls :=.type "set",dict:=none,data :=.set #[] 0 (.fresh 0 0 (led0 w)) } }):
  codeAny (model prog w) A (.call (.builtin "set.__new__") ⟨[.type "set",a],[]⟩) (wants Q₁ E) s:=by
 refine codeAny_of_tree ?_;show wpAny _ A.in1 (do checkBuiltinCall "set.__new__" ⟨[.type "set",a],[]⟩;again (.builtin "set.__new__" ⟨[.type "set",a],[]⟩)) _ _ s;refine wc (wpAny_of_eq (F.newCall_set_1 a) (wm ⟨uc F.plain_set_new _,vR F.entry_set_new ?_⟩));rw[vD F.plain_set_new _];unfold Builtin.«set.__new__» Builtin.Frozenset.newClass;have b:=sub_set_self;obtain⟨hp,g,d,f,e⟩:=s;kt_k
 wp_walk
 refine jW (wm ?_);kt_k;simp only[newObj];refine wc (wpAny_alloc (wm ?_));exact wm h
def z5U {M:Value->Prop}{h:Heap}{a:Addr}(e:h.get? a=some { cls :=.type "set",dict:=none,data :=.set #[] 0 (.fresh 0 0 (led0 w)) }):SetK prog w M h a []:=by
 refine⟨⟨[],⟨_, #[],0,_,⟨e,⟨rfl,rfl,rfl⟩,rfl,⟨rfl,rfl,.nil,(λr b=>by simp at b),rfl,⟨3,ww _,rfl⟩,(λr b=>by simp at b)⟩,(by show 0<=7;decide),(by show 7<=8191;decide),rfl,rfl,(λr b=>by simp at b)⟩,(by show 0*5<7*3;decide)⟩,.nil⟩,.nil⟩
set_option hygiene false in
def z6Q {M:Value->Prop}{l:Addr}{items:Array Value}{ks:List (List Int)}{Q:Value->Shared->Prop}
  (hh:A.handled=none) (hu:A.units+8<cLine) (hl:s.heap.IsList l items) (hi:Two (IsK prog w M s.heap) items.toList ks) (J:items.size<=2040)
  (h:∀(h':Heap) (tk:Nat) (p:List (List Int)),SetK prog w M h' s.heap.objs.size p->p.length<=items.size->(∀x,x∈p↔x∈ks)->
   (∀b o,b<s.heap.objs.size->s.heap.get? b=some o->h'.get? b=some o)->Q (.ref s.heap.objs.size) { s with heap:=h',toks:=tk }):
  wpAny (model prog w) A (call (.type "set") [.ref l]) Q E s:=by
 have b3:=F.sub_list_set;have b2:=F.sub_list_frozenset;have b9:(Value.type "list" == Value.type "dict")=false:=by decide
 obtain⟨c,tl,b1⟩:=v8.mro;have a7:=v8.made;have b4:=v8.sub;refine wpAny_call (codeAny_of_tree ?_);show wpAny _ _ (callAny (.type "set") _) _ _ _;w_left;rw[Around.under_plain (weight_type_call_type "set" [.ref l] []) rfl];have h1:=v8.notType;have h2:=v8.canCreate;have b7:=F.typeCall_set_1 (.ref l)
 repeat (any_goals (first | assumption | wp_step))
 refine Wj (z4h (.ref l) (E:=E) (Q₁:=λX y=>X = .ref s.heap.objs.size/\y={ s with heap:=s.heap.push { cls :=.type "set",dict:=none,data :=.set #[] 0 (.fresh 0 0 (led0 w)) } }) ⟨rfl,rfl⟩) λr y hr =>?_
 cases r with
 | error e=>exact hr
 | ok fl=>
  cases fl with
  | ret X=>
   obtain⟨rfl,rfl⟩:=hr;generalize U:led0 w=a at*;have hS:(s.heap.push { cls :=.type "set",dict:=none,data :=.set #[] 0 (.fresh 0 0 a) }).get? s.heap.objs.size=some { cls :=.type "set",dict:=none,data :=.set #[] 0 (.fresh 0 0 a) }:=wt _ rfl;have hT:Shared.TypeIs { s with heap:=s.heap.push { cls :=.type "set",dict:=none,data :=.set #[] 0 (.fresh 0 0 a) } } (.ref s.heap.objs.size) "set":=⟨_,hS,rfl⟩
   have b8:=v8.init.lookup;have b6:=v8.init.bind (.ref s.heap.objs.size)
   repeat (any_goals (first | assumption | wp_step))
   refine Wj (codeAny_call_builtin (R:=wants (λr C=>r = .none/\∃h' tk p,C={ s with heap:=h',toks:=tk }/\SetK prog w M h' s.heap.objs.size p/\p.length<=items.size/\(∀x,x∈p↔x∈ks)/\
     (∀b o,b<s.heap.objs.size->s.heap.get? b=some o->h'.get? b=some o)) E) v8.init.plain F.entry_set_init (check_set_init_1 hT ?_)) λY C d =>?_
   .obtain⟨ol,W,K,nl,L⟩:=hl;obtain⟨b5,b0,a9,a0⟩:=ol;simp only at K L;subst K;subst L;have g:=wi (show Obj from { cls :=.type "set",dict:=none,data :=.set #[] 0 (.fresh 0 0 a) }) W;unfold Builtin.«set.__init__» noKeywords Builtin.Frozenset.updateFrom;generalize a1:pyIter=PI
    wp_walk
    subst a1
    first | refine wpAny_pyIter_list ⟨_,g,rfl,nl,rfl⟩ ?_ | refine u8 ⟨_,g,rfl,nl,rfl⟩ ?_
    refine wc (wpAny_runValue ?_);have T:l<s.heap.objs.size:=wO W;have N:A.in1.in1.in1.handled=none:=by simp[hh]
    have u:l≠(s.heap.push { cls :=.type "set",dict:=none,data :=.set #[] 0 (.fresh 0 0 a) }).objs.size:=by
     rw[vq];exact wX (uk T)
    have I:s.heap.objs.size ∉ [(s.heap.push { cls :=.type "set",dict:=none,data :=.set #[] 0 (.fresh 0 0 a) }).objs.size,l]:=by
     rw[vq];simp only[wj,wg,wF,vS,not_or];exact⟨wX (jx _),Wm T⟩
    have f:∀(i:Nat) (v:Value),items[i]? = some v->M v/\∃b,v = .ref b/\TK prog w s.heap (ks.getD i []) b:=λi v q=>by
     have n:items.toList[i]? = some v:=by simpa using q
     generalize items.toList=il at hi n;clear q h
     induction hi generalizing i with
     | nil=>simp at n
     | cons h0 _ ih=>
      cases i with
      | zero=>
       simp at n;subst n;exact h0
      | succ i=>exact ih i (by simpa using n)
    have S:ks.length=items.size:=by
     have:∀{l:List Value}{m:List (List Int)},Two (IsK prog w M s.heap) l m->l.length=m.length:=by
      intro l m t
      induction t with
      | nil=>rfl
      | cons _ _ ih=>simp[ih]
     have:=this hi;simpa using this.symm
    first | refine z31 ((Walks.list N _ l u items).toS) s.heap.objs.size I (by simp;lia) (λi=>ks.getD i []) J ?hw (λj v q=>(f j v q).1) (items.size - 0) 0 _ [] (by lia) (vj _) ⟨⟨_,wt _ rfl,rfl,rfl⟩,?hl2⟩ (λj v q => ?hP) ?hS0 (vj _) (λx=>by simp) ?hR | refine z31 ((Walks.tuple N _ l u items).toS) s.heap.objs.size I (by simp;lia) (λi=>ks.getD i []) J ?hw (λj v q=>(f j v q).1) (items.size - 0) 0 _ [] (by lia) (vj _) ⟨⟨_,wt _ rfl,rfl,rfl⟩,?hl2⟩ (λj v q => ?hP) ?hS0 (vj _) (λx=>by simp) ?hR
    case hl2=>exact⟨_,wi _ g,rfl,nl,rfl⟩
    case hw=>
     intro i s0 a8 b a2 k z;rw[wg.mp a2] at z;obtain⟨⟨o1,e1,c1,_⟩,_⟩:=a8;obtain⟨o2,_,_,Z,c2,_⟩:=z;rw[e1] at Z
     cases Z
     rw[c1] at c2
     injection c2 with c3
     exact absurd c3 (by decide)
    case hP=>
     obtain⟨_,b,e,o2,it,m,Z,r⟩:=f j v q;exact⟨b,e,o2,it,m,wi _ (wi _ Z),r⟩
    case hS0=>
     refine z5U (h:=(s.heap.push { cls :=.type "set",dict:=none,data :=.set #[] 0 (.fresh 0 0 a) }).push _) ?_;rw[U];exact wi _ hS
    case hR=>
     intro s' p hm H a6 V;kpf_c;have eg:g'=s.gens:=hm.gens;have ed:d'=s.drawn:=hm.drawn;have eo:os'=s.os:=hm.os;subst eg;subst ed;subst eo;show wpAny _ _ _ _ _ _;refine wm ?_;show wpAny _ _ (ret Value.none) _ _ _;refine wm ⟨rfl,h',tk',p,rfl,H,a6,λx =>?_,λb o J e =>?_⟩
     .rw[V x]
      o_rec
      .rintro⟨j,hj,e⟩;have O:j<ks.length:=by rw[S];exact hj
       rw[<- e];show ks.getD j []∈ks;rw[wG,wf O];exact uv O
      .intro hx;obtain⟨j,hj,e⟩:=w5.mp hx;refine⟨j,by rw[<- S];exact hj,?_⟩;show ks.getD j []=x;rw[wG,wf hj];exact e
     .have hb1:b≠s.heap.objs.size:=wX J;have hb2:b≠(s.heap.push { cls :=.type "set",dict:=none,data :=.set #[] 0 (.fresh 0 0 a) }).objs.size:=by
       rw[vq];exact wX (uk J)
      k_go0
   .cases Y with
    | error e=>exact d
    | ok G=>
     cases G with
     | ret r=>
      obtain⟨rfl,h',tk,p,rfl,H,a4,a5,a3⟩:=d
      repeat (any_goals (first | assumption | wp_step))
      exact h _ _ _ H a4 a5 a3
     | _=>exact d.elim
  | _=>exact hr.elim
def z5O {M:Value->Prop}{l:Addr}{items:Array Value}{ks:List (List Int)}{Q:Value->Shared->Prop}
  (hh:A.handled=none) (hu:A.units+8<cLine) (hl:s.heap.IsTuple l items) (hi:Two (IsK prog w M s.heap) items.toList ks) (J:items.size<=2040)
  (h:∀(h':Heap) (tk:Nat) (p:List (List Int)),SetK prog w M h' s.heap.objs.size p->p.length<=items.size->(∀x,x∈p↔x∈ks)->
   (∀b o,b<s.heap.objs.size->s.heap.get? b=some o->h'.get? b=some o)->Q (.ref s.heap.objs.size) { s with heap:=h',toks:=tk }):
  wpAny (model prog w) A (call (.type "set") [.ref l]) Q E s:=by
 have b3:=z6g;have b2:=z3G;have b9:(Value.type "tuple" == Value.type "dict")=false:=by decide
 obtain⟨c,tl,b1⟩:=v8.mro;have a7:=v8.made;have b4:=v8.sub;refine wpAny_call (codeAny_of_tree ?_);show wpAny _ _ (callAny (.type "set") _) _ _ _;w_left;rw[Around.under_plain (weight_type_call_type "set" [.ref l] []) rfl];have h1:=v8.notType;have h2:=v8.canCreate;have b7:=F.typeCall_set_1 (.ref l)
 repeat (any_goals (first | assumption | wp_step))
 refine Wj (z4h (.ref l) (E:=E) (Q₁:=λX y=>X = .ref s.heap.objs.size/\y={ s with heap:=s.heap.push { cls :=.type "set",dict:=none,data :=.set #[] 0 (.fresh 0 0 (led0 w)) } }) ⟨rfl,rfl⟩) λr y hr =>?_
 cases r with
 | error e=>exact hr
 | ok fl=>
  cases fl with
  | ret X=>
   obtain⟨rfl,rfl⟩:=hr;generalize U:led0 w=a at*;have hS:(s.heap.push { cls :=.type "set",dict:=none,data :=.set #[] 0 (.fresh 0 0 a) }).get? s.heap.objs.size=some { cls :=.type "set",dict:=none,data :=.set #[] 0 (.fresh 0 0 a) }:=wt _ rfl;have hT:Shared.TypeIs { s with heap:=s.heap.push { cls :=.type "set",dict:=none,data :=.set #[] 0 (.fresh 0 0 a) } } (.ref s.heap.objs.size) "set":=⟨_,hS,rfl⟩
   have b8:=v8.init.lookup;have b6:=v8.init.bind (.ref s.heap.objs.size)
   repeat (any_goals (first | assumption | wp_step))
   refine Wj (codeAny_call_builtin (R:=wants (λr C=>r = .none/\∃h' tk p,C={ s with heap:=h',toks:=tk }/\SetK prog w M h' s.heap.objs.size p/\p.length<=items.size/\(∀x,x∈p↔x∈ks)/\
     (∀b o,b<s.heap.objs.size->s.heap.get? b=some o->h'.get? b=some o)) E) v8.init.plain F.entry_set_init (check_set_init_1 hT ?_)) λY C d =>?_
   .obtain⟨ol,W,K,nl,L⟩:=hl;obtain⟨b5,b0,a9,a0⟩:=ol;simp only at K L;subst K;subst L;have g:=wi (show Obj from { cls :=.type "set",dict:=none,data :=.set #[] 0 (.fresh 0 0 a) }) W;unfold Builtin.«set.__init__» noKeywords Builtin.Frozenset.updateFrom;generalize a1:pyIter=PI
    wp_walk
    subst a1
    first | refine wpAny_pyIter_list ⟨_,g,rfl,nl,rfl⟩ ?_ | refine u8 ⟨_,g,rfl,nl,rfl⟩ ?_
    refine wc (wpAny_runValue ?_);have T:l<s.heap.objs.size:=wO W;have N:A.in1.in1.in1.handled=none:=by simp[hh]
    have u:l≠(s.heap.push { cls :=.type "set",dict:=none,data :=.set #[] 0 (.fresh 0 0 a) }).objs.size:=by
     rw[vq];exact wX (uk T)
    have I:s.heap.objs.size ∉ [(s.heap.push { cls :=.type "set",dict:=none,data :=.set #[] 0 (.fresh 0 0 a) }).objs.size,l]:=by
     rw[vq];simp only[wj,wg,wF,vS,not_or];exact⟨wX (jx _),Wm T⟩
    have f:∀(i:Nat) (v:Value),items[i]? = some v->M v/\∃b,v = .ref b/\TK prog w s.heap (ks.getD i []) b:=λi v q=>by
     have n:items.toList[i]? = some v:=by simpa using q
     generalize items.toList=il at hi n;clear q h
     induction hi generalizing i with
     | nil=>simp at n
     | cons h0 _ ih=>
      cases i with
      | zero=>
       simp at n;subst n;exact h0
      | succ i=>exact ih i (by simpa using n)
    have S:ks.length=items.size:=by
     have:∀{l:List Value}{m:List (List Int)},Two (IsK prog w M s.heap) l m->l.length=m.length:=by
      intro l m t
      induction t with
      | nil=>rfl
      | cons _ _ ih=>simp[ih]
     have:=this hi;simpa using this.symm
    first | refine z31 ((Walks.list N _ l u items).toS) s.heap.objs.size I (by simp;lia) (λi=>ks.getD i []) J ?hw (λj v q=>(f j v q).1) (items.size - 0) 0 _ [] (by lia) (vj _) ⟨⟨_,wt _ rfl,rfl,rfl⟩,?hl2⟩ (λj v q => ?hP) ?hS0 (vj _) (λx=>by simp) ?hR | refine z31 ((Walks.tuple N _ l u items).toS) s.heap.objs.size I (by simp;lia) (λi=>ks.getD i []) J ?hw (λj v q=>(f j v q).1) (items.size - 0) 0 _ [] (by lia) (vj _) ⟨⟨_,wt _ rfl,rfl,rfl⟩,?hl2⟩ (λj v q => ?hP) ?hS0 (vj _) (λx=>by simp) ?hR
    case hl2=>exact⟨_,wi _ g,rfl,nl,rfl⟩
    case hw=>
     intro i s0 a8 b a2 k z;rw[wg.mp a2] at z;obtain⟨⟨o1,e1,c1,_⟩,_⟩:=a8;obtain⟨o2,_,_,Z,c2,_⟩:=z;rw[e1] at Z
     cases Z
     rw[c1] at c2
     injection c2 with c3
     exact absurd c3 (by decide)
    case hP=>
     obtain⟨_,b,e,o2,it,m,Z,r⟩:=f j v q;exact⟨b,e,o2,it,m,wi _ (wi _ Z),r⟩
    case hS0=>
     refine z5U (h:=(s.heap.push { cls :=.type "set",dict:=none,data :=.set #[] 0 (.fresh 0 0 a) }).push _) ?_;rw[U];exact wi _ hS
    case hR=>
     intro s' p hm H a6 V;kpf_c;have eg:g'=s.gens:=hm.gens;have ed:d'=s.drawn:=hm.drawn;have eo:os'=s.os:=hm.os;subst eg;subst ed;subst eo;show wpAny _ _ _ _ _ _;refine wm ?_;show wpAny _ _ (ret Value.none) _ _ _;refine wm ⟨rfl,h',tk',p,rfl,H,a6,λx =>?_,λb o J e =>?_⟩
     .rw[V x]
      o_rec
      .rintro⟨j,hj,e⟩;have O:j<ks.length:=by rw[S];exact hj
       rw[<- e];show ks.getD j []∈ks;rw[wG,wf O];exact uv O
      .intro hx;obtain⟨j,hj,e⟩:=w5.mp hx;refine⟨j,by rw[<- S];exact hj,?_⟩;show ks.getD j []=x;rw[wG,wf hj];exact e
     .have hb1:b≠s.heap.objs.size:=wX J;have hb2:b≠(s.heap.push { cls :=.type "set",dict:=none,data :=.set #[] 0 (.fresh 0 0 a) }).objs.size:=by
       rw[vq];exact wX (uk J)
      k_go0
   .cases Y with
    | error e=>exact d
    | ok G=>
     cases G with
     | ret r=>
      obtain⟨rfl,h',tk,p,rfl,H,a4,a5,a3⟩:=d
      repeat (any_goals (first | assumption | wp_step))
      exact h _ _ _ H a4 a5 a3
     | _=>exact d.elim
  | _=>exact hr.elim
end
end Tab
namespace Tim
open PySem PyProof.Rows
def z8o:Bool->Keyed->Array Keyed->Nat->Nat->Nat->StateT SortSt Sem (Option Nat):=sortPriv% PySem.Builtin.gallop
def z1J:Nat->StateT SortSt Sem Unit:=sortPriv% PySem.Builtin.setMinGallop
def zcL:Array Keyed->Array Keyed->StateT SortSt Sem (Array Keyed):=sortPriv% PySem.Builtin.mergeLo
def zcM:Array Keyed->Array Keyed->StateT SortSt Sem (Array Keyed):=sortPriv% PySem.Builtin.mergeHi
abbrev z1K (st:SortSt)(g:Nat):SortSt:=SortSt.mk' (kindOf st) (arrOf st) (pendingOf st) g (failedOf st)
def z1t (g:Nat):z1J g=modify λs=>z1K s g:=rfl
section
variable {M:Model}{A:Around}{E:Value->Shared->Prop}{s:Shared}{rk:Keyed->Nat}{κ:SortKind}{a₀:Array Keyed}
def Asks (M:Model)(A:Around)(s:Shared)(κ:SortKind)(a₀:Array Keyed)(rk:Keyed->Nat):Prop:=
 ∀x y,x∈a₀.toList->y∈a₀.toList->∀(Q:Bool->Shared->Prop) (E:Value->Shared->Prop),Q (decide (rk x<rk y)) s->wpAny M A (keyLt' κ x.1 y.1) Q E s
structure TB (κ:SortKind)(a₀:Array Keyed)(st:SortSt):Prop where
 kind:kindOf st=κ
 failed:failedOf st=none
 perm:(arrOf st).Perm a₀
def zgp {α:Type}{P:α->Prop}{G:Prop}(p:∀x,P x)(u:(∀x,P x)->G):G:=u p
def zcC {α a:Type}{H P:α->a->Prop}{G:Prop}(p:∀x y,H x y->P x y)(u:(∀x y,H x y->P x y)->G):G:=u p
def zgo {α:Type}{H P:α->Prop}{G:Prop}(p:∀x,H x->P x)(u:(∀x,H x->P x)->G):G:=u p
def z6V (a:Asks M A s κ a₀ rk){st:SortSt}{x y:Keyed}{Q:Option Bool->SortSt->Prop}(b:kindOf st=κ)(d:x∈a₀.toList)(e:y∈a₀.toList)(h:Q (some (decide (rk x<rk y))) st):
  wpS M A E s (lt' x y) Q st:=by
 rw[lt'_eq];k_mem;rw[b];refine wz (wpS_lift (wpAny_attempt (a x y d e _ _ ⟨rfl,?_⟩)));exact wD h
def z0g {st:SortSt}{a:Array Keyed}{i:Nat}{p:Keyed}{Q:Keyed->SortSt->Prop}(e:a[i]? = some p)(h:Q p st):wpS M A E s (elem' a i) Q st:=by
 rw[elem'_eq,e];exact wD h
theorem TB.size {st:SortSt}(h:TB κ a₀ st):(arrOf st).size=a₀.size:=h.perm.size_eq
def TB.mem {st:SortSt}(h:TB κ a₀ st){p:Keyed}(hp:p∈(arrOf st).toList):p∈a₀.toList:=(uU.mp h.perm).mem_iff.mp hp
def Rk (rk:Keyed->Nat)(xs:Array Keyed)(i:Nat):Nat:=match xs[i]? with
 | some p=>rk p
 | none=>0
def z0u {xs:Array Keyed}{i:Nat}{p:Keyed}(h:xs[i]? = some p):Rk rk xs i=rk p:=by unfold Rk;rw[h]
def z1m {xs ys:Array Keyed}{i j:Nat}(h:xs[i]? = ys[j]?):Rk rk xs i=Rk rk ys j:=by unfold Rk;rw[h]
def z1y {xs:Array Keyed}{i:Nat}(h:i<xs.size):∃p,xs[i]? = some p/\p∈xs.toList:=⟨xs[i],ul xs i h,by simp⟩
theorem TB.setArr {st:SortSt}(h:TB κ a₀ st){xs:Array Keyed}(hp:xs.Perm (arrOf st)):TB κ a₀ (setArr st xs):=⟨h.kind,h.failed,hp.trans h.perm⟩
def z4m (e:Asks M A s κ a₀ rk){st:SortSt}{i j:Nat}{Q:Option Bool->SortSt->Prop}(a:TB κ a₀ st)(f:i<a₀.size)(g:j<a₀.size)
  (h:Q (some (decide (Rk rk (arrOf st) i<Rk rk (arrOf st) j))) st):wpS M A E s (ltAt' i j) Q st:=by
 obtain⟨p,b,k⟩:=z1y (xs:=arrOf st) (i:=i) (by rw[a.size];exact f);obtain⟨q,d,l⟩:=z1y (xs:=arrOf st) (i:=j) (by rw[a.size];exact g);rw[z0u b,z0u d] at h;rw[ltAt'_eq];k_mem;exact wz (z0g b (wz (z0g d (z6V e a.kind (a.mem k) (a.mem l) h))))
def z5R (hL:Asks M A s κ a₀ rk){st:SortSt}{left:Bool}{key:Keyed}{y:Array Keyed}{m n a:Nat}{Q:Option Nat->SortSt->Prop}(U:kindOf st=κ)(N:key∈a₀.toList)
  (L:∀p∈y.toList,p∈a₀.toList) (hn:m+n<=y.size) (hh:a<n) (P:Nat->Bool)
  (hP:∀i,i<n->P i=(if left then decide (Rk rk y (m+i)<rk key) else !decide (rk key<Rk rk y (m+i))))
  (t:∀i j,i<=j->j<n->P j=true->P i=true)
  (h:∀k,k<=n->(∀i,i<k->P i=true)->(∀i,k<=i->i<n->P i=false)->Q (some k) st):wpS M A E s (z8o left key y m n a) Q st:=by
 have H:∀(i:Nat) (R:Option Bool->SortSt->Prop),i<n->R (some (P i)) st->wpS M A E s (do
   let x <- elem' y (m+i)
   if left=true then lt' x key else do
    let r <- lt' key x
    pure (r.map (!·))) R st:=by
  intro i R G K;obtain⟨p,e1,m1⟩:=z1y (xs:=y) (i:=m+i) (by omega);rw[hP i G,z0u e1] at K;refine wz (z0g e1 ?_)
  cases left with
  | true=>exact z6V hL U (L _ m1) N K
  | false=>exact wz (z6V hL U N (L _ m1) (wD K))
 have u:∀i j,i<=j->j<n->P i=false->P j=false:=λi j a2 hj G=>by
  cases q:P j with
  | false=>rfl
  | true=>rw[t i j a2 hj q] at G;cases G
 have O:∀S G,S<=G->G<=n->(∀i,i<S->P i=true)->(∀i,G<=i->i<n->P i=false)->∀(f:Nat->Option (Option Nat) × Nat × Nat->StateT SortSt Sem (ForInStep (Option (Option Nat) × Nat × Nat))) (k:Option (Option Nat) × Nat × Nat->StateT SortSt Sem (Option Nat)),
   (∀x l r (R:ForInStep (Option (Option Nat) × Nat × Nat)->SortSt->Prop),r<=n->(l>=r->R (.done (none,l,r)) st)->(l<r->P (l+(r - l) / 2)=true->R (.yield (none,l+(r - l) / 2+1,r)) st)->(l<r->P (l+(r - l) / 2)=false->R (.yield (none,l,l+(r - l) / 2)) st)->wpS M A E s (f x (none,l,r)) R st)->
   (∀l r (R:Option Nat->SortSt->Prop),R (some r) st->wpS M A E s (k (none,l,r)) R st)->wpS M A E s (forIn [0:n] ((none,S,G):Option (Option Nat) × Nat × Nat) f >>= k) Q st:=by
  intro S G a3 a1 a4 a0 f k hf U;refine wz (jv (v9 (I:=λx c b=>b=st/\∃l r,c=(none,l,r)/\l<=r/\r<=n/\r - l<=n - x/\(∀i,i<l->P i=true)/\(∀i,r<=i->i<n->P i=false))
   (Q:=λc b=>b=st/\∃l,c=(none,l,l)/\l<=n/\(∀i,i<l->P i=true)/\(∀i,l<=i->i<n->P i=false)) ?step ?fin ⟨rfl,S,G,rfl,a3,a1,by omega,a4,a0⟩) ?post)
  case fin=>
   rintro c b ⟨rfl,l,r,rfl,z,g,C,F,J⟩;have:l=r:=by omega
   k_end;exact⟨rfl,l,rfl,g,F,J⟩
  case post=>
   rintro c b ⟨rfl,l,rfl,g,F,J⟩;exact U _ _ _ (h l g F J)
  case step=>
   rintro x c b _ hx ⟨rfl,l,r,rfl,z,g,C,F,J⟩;refine hf x l r _ g (λe =>?_) (λa5 q =>?_) (λa5 q =>?_)
   .have:l=r:=by omega
    k_end;exact⟨rfl,l,rfl,g,F,J⟩
   .exact⟨rfl,_,_,rfl,by omega,g,by omega,λi G=>t i _ (by omega) (by omega) q,J⟩
   .exact⟨rfl,_,_,rfl,by omega,by omega,by omega,F,λi z g=>u _ i z g q⟩
 try dsimp only
 refine wz (H a _ hh ?_)
 cases q:P a with
 | true=>
  simp only[jc];refine wz (jv (v9 (I:=λx c b=>b=st/\∃d o,c=(none,d,o)/\d<o/\x<o/\a+d<n/\P (a+d)=true)
   (Q:=λc b=>b=st/\∃d o,c=(none,d,o)/\d<o/\a+d<n/\P (a+d)=true/\(o>=n - a\/(a+o<n/\P (a+o)=false))) ?step ?fin ⟨rfl,0,1,rfl,by omega,by omega,by omega,q⟩) ?post)
  case post=>
   rintro c b ⟨rfl,d,o,rfl,z,g,C,F⟩;kt_k;refine O (a+d+1) (a+min o (n - a)) (by omega) (by omega) (λi G=>t i (a+d) (by omega) g C) (λi J W =>?_) _ _ ?_ ?_
   rotate_left
   .intro x l r R K Y Z hc;kt_k
    by_cases e:l>=r
    .rw[if_pos e];exact wD (Y e)
    .rw[if_neg e];refine wz (H (l+(r - l) / 2) _ (by omega) ?_)
     cases T:P (l+(r - l) / 2) with
     | true=>simp only[jc];exact wD (Z (by omega) T)
     | false=>simp only[wL,ug];exact wD (hc (by omega) T)
   .intro l r R K;exact wD K
   rcases F with F | ⟨F,X⟩
   .omega
   .exact u (a+o) i (by omega) W X
  case fin=>
   rintro c b ⟨rfl,d,o,rfl,z,V,g,C⟩;exact⟨rfl,d,o,rfl,z,g,C,.inl (by omega)⟩
  case step=>
   rintro x c b _ hx ⟨rfl,d,o,rfl,z,V,g,C⟩;kt_k
   by_cases e:o>=n - a
   .rw[if_pos e];exact wD ⟨rfl,d,o,rfl,z,g,C,.inl e⟩
   .rw[if_neg e];refine wz (H (a+o) _ (by omega) ?_)
    cases q':P (a+o) with
    | true=>
     simp only[jO,wL,ug];k_upd
    | false=>
     simp only[Bool.not_false,jc];exact wD ⟨rfl,d,o,rfl,z,g,C,.inr ⟨by omega,q'⟩⟩
 | false=>
  tb_rel;refine wz (jv (v9 (I:=λx c b=>b=st/\∃d o,c=(none,d,o)/\d<o/\x<o/\d<=a/\P (a - d)=false)
   (Q:=λc b=>b=st/\∃d o,c=(none,d,o)/\d<o/\d<=a/\P (a - d)=false/\(o>=a+1\/(o<=a/\P (a - o)=true))) ?step ?fin ⟨rfl,0,1,rfl,by omega,by omega,by omega,q⟩) ?post)
  case post=>
   rintro c b ⟨rfl,d,o,rfl,z,g,C,F⟩;kt_k;refine O (a+1 - min o (a+1)) (a - d) (by omega) (by omega) (λi G =>?_) (λi J W=>u (a - d) i J W C) _ _ ?_ ?_
   rotate_left
   .intro x l r R K Y Z hc;kt_k
    by_cases e:l>=r
    .rw[if_pos e];exact wD (Y e)
    .rw[if_neg e];refine wz (H (l+(r - l) / 2) _ (by omega) ?_)
     cases T:P (l+(r - l) / 2) with
     | true=>simp only[jc];exact wD (Z (by omega) T)
     | false=>simp only[wL,ug];exact wD (hc (by omega) T)
   .intro l r R K;exact wD K
   rcases F with F | ⟨F,X⟩
   .omega
   .exact t i (a - o) (by omega) (by omega) X
  case fin=>
   rintro c b ⟨rfl,d,o,rfl,z,V,g,C⟩;exact⟨rfl,d,o,rfl,z,g,C,.inl (by omega)⟩
  case step=>
   rintro x c b _ hx ⟨rfl,d,o,rfl,z,V,g,C⟩;kt_k
   by_cases e:o>=a+1
   .rw[if_pos e];exact wD ⟨rfl,d,o,rfl,z,g,C,.inl e⟩
   .rw[if_neg e];refine wz (H (a - o) _ (by omega) ?_)
    cases q':P (a - o) with
    | false=>
     tb_rel
     by_cases h9:2*o+1<=a+1
     .k_upd
     .k_upd
    | true=>
     simp only[jc];exact wD ⟨rfl,d,o,rfl,z,g,C,.inr ⟨by omega,q'⟩⟩
def z08 {a α:Type}{c:Prop}[Decidable c]{x y:StateT a Sem α}{Q:α->a->Prop}{st:a}(h:c)(k:wpS M A E s x Q st):wpS M A E s (if c then x else y) Q st:=by
 rw[if_pos h];exact k
def z06 {a α:Type}{c:Prop}[Decidable c]{x y:StateT a Sem α}{Q:α->a->Prop}{st:a}(h:¬ c)(k:wpS M A E s y Q st):wpS M A E s (if c then x else y) Q st:=by
 rw[if_neg h];exact k
end
section
variable {t1 t2 t3 t4 t5 t6 t7 C S:Type}{c:C}{s:S}{G:C->S->Prop}
def el5 {F:t1->t2->t3->t4->t5->C}{H:t1->t2->t3->t4->t5->S}{P:t1->t2->t3->t4->t5->Prop}(h:∃a b x d e,c=F a b x d e/\s=H a b x d e/\P a b x d e)(k:∀a b x d e,P a b x d e->G (F a b x d e) (H a b x d e)):G c s:=by
 obtain⟨a,b,x,d,e,rfl,rfl,p⟩:=h;exact k a b x d e p
def el7 {F:t1->t2->t3->t4->t5->t6->t7->C}{H:t1->t2->t3->t4->t5->t6->t7->S}{P:t1->t2->t3->t4->t5->t6->t7->Prop}(h:∃a b x d e f g,c=F a b x d e f g/\s=H a b x d e f g/\P a b x d e f g)(k:∀a b x d e f g,P a b x d e f g->G (F a b x d e f g) (H a b x d e f g)):G c s:=by
 obtain⟨a,b,x,d,e,f,g,rfl,rfl,p⟩:=h;exact k a b x d e f g p
def elc0 {C:Type}{c F:C}{P:Prop}{G:C->Prop}(h:c=F/\P)(k:P->G F):G c:=by
 obtain⟨rfl,p⟩:=h;exact k p
def elc1 {b C:Type}{c:C}{F:b->C}{P:b->Prop}{G:C->Prop}(h:∃a,c=F a/\P a)(k:∀a,P a->G (F a)):G c:=by
 obtain⟨a,rfl,p⟩:=h;exact k a p
end
section
variable {M:Model}{A:Around}{E:Value->Shared->Prop}{s:Shared}{rk:Keyed->Nat}{κ:SortKind}{a₀:Array Keyed}
def Seg (rk:Keyed->Nat)(xs:Array Keyed)(i j:Nat):Prop:=∀p q,i<=p->p<=q->q<j->Rk rk xs p<=Rk rk xs q
def Gec (rk:Keyed->Nat)(xs:Array Keyed)(i j:Nat):Prop:=∀p q,i<=p->p<=q->q<j->Rk rk xs q<=Rk rk xs p
def Low (xs ys:Array Keyed)(lo:Nat):Prop:=∀k,k<lo->xs[k]? = ys[k]?
def Seg.one {xs:Array Keyed}{i j:Nat}(h:j<=i+1):Seg rk xs i j:=λp q a b d=>by
 obtain rfl:p=q:=by lia
 exact ww _
def Low.refl {xs:Array Keyed}{lo:Nat}:Low xs xs lo:=λ_ _=>rfl
theorem Low.trans {xs ys b:Array Keyed}{lo:Nat}(h:Low xs ys lo)(k:Low ys b lo):Low xs b lo:=λi a=>(h i a).trans (k i a)
def z5z {xs:Array Keyed}{i j:Nat}(b:j<=xs.size)(k:Nat):
  Rk rk (mirror xs i j ((j - i) / 2)) k=if i<=k/\k<j then Rk rk xs (i+j - 1 - k) else Rk rk xs k:=by
 have e:=getElem?_mirror_all (i:=i) b k
 by_cases a:i<=k/\k<j
 .rw[if_pos a] at e ⊢;exact z1m e
 .rw[if_neg a] at e ⊢;exact z1m e
def z1f {xs:Array Keyed}{i j:Nat}(b:j<=xs.size)(a:∀k,i<=k->k<j->Rk rk xs k=Rk rk xs (j - 1))(k:Nat):
  Rk rk (mirror xs i j ((j - i) / 2)) k=Rk rk xs k:=by
 rw[z5z b]
 split
 .rw[a _ (by lia) (by lia),a k (by lia) (by lia)]
 .rfl
def z3D {xs:Array Keyed}{i j lo:Nat}(a:j<=xs.size)(b:lo<=i):Low (mirror xs i j ((j - i) / 2)) xs lo:=λk d=>by
 rw[getElem?_mirror_all a k,if_neg (by lia)]
def z7W {xs:Array Keyed}{a d:Nat}(h:a<xs.size)(g:d<=a)(k:Nat):
  Rk rk (bubble xs a d) k=if k=a - d then Rk rk xs a else if a - d<k/\k<=a then Rk rk xs (k - 1) else Rk rk xs k:=by
 have e:=getElem?_bubble h d g k
 by_cases b:k=a - d
 .rw[if_pos b] at e ⊢;exact z1m e
 .rw[if_neg b] at e ⊢
  by_cases f:a - d<k/\k<=a
  .rw[if_pos f] at e ⊢;exact z1m e
  .rw[if_neg f] at e ⊢;exact z1m e
def zad {xs:Array Keyed}{a d lo:Nat}(e:a<xs.size)(b:d<=a)(g:lo<=a - d):Low (bubble xs a d) xs lo:=λk f=>by
 rw[getElem?_bubble e d b k,if_neg (by lia),if_neg (by lia)]
def z2z {st:SortSt}{i j:Nat}{Q:Unit->SortSt->Prop}(h:Q () (setArr st (mirror (arrOf st) i j ((j - i) / 2)))):
  wpS M A E s (reverseSlice' i j) Q st:=by
 rw[reverseSlice'_eq];exact jz h
def zae {st:SortSt}{lo a b:Nat}{Q:Option Nat->SortSt->Prop}{f:Nat->Option (Option Nat) × Nat->StateT SortSt Sem (ForInStep (Option (Option Nat) × Nat))}{k:Option (Option Nat) × Nat->StateT SortSt Sem (Option Nat)}
  (F:1<=a) (j:a<=b) (C:Seg rk (arrOf st) lo (lo+a))
  (u:∀x n (R:ForInStep (Option (Option Nat) × Nat)->SortSt->Prop),1<=n->n<b->(Rk rk (arrOf st) (lo+n)<Rk rk (arrOf st) (lo+n - 1)->R (.done (none,n)) st)->(Rk rk (arrOf st) (lo+n - 1)<=Rk rk (arrOf st) (lo+n)->R (.yield (none,n+1)) st)->wpS M A E s (f x (none,n)) R st)
  (y:∀n,a<=n->n<=b->Seg rk (arrOf st) lo (lo+n)->(n=b\/Rk rk (arrOf st) (lo+n)<Rk rk (arrOf st) (lo+n - 1))->wpS M A E s (k (none,n)) Q st):
  wpS M A E s (forIn [a:b] ((none,a):Option (Option Nat) × Nat) f >>= k) Q st:=by
 refine wz (jv (v9 (I:=λx c g=>g=st/\c=(none,x)/\Seg rk (arrOf st) lo (lo+x))
  (Q:=λc g=>g=st/\∃n,c=(none,n)/\a<=n/\n<=b/\Seg rk (arrOf st) lo (lo+n)/\(n=b\/Rk rk (arrOf st) (lo+n)<Rk rk (arrOf st) (lo+n - 1))) ?step ?fin ⟨rfl,rfl,C⟩) ?post)
 case fin=>
  rintro c g ⟨rfl,rfl,d⟩;rw[show max a b=b by lia] at d ⊢;exact⟨rfl,b,rfl,j,ww _,d,.inl rfl⟩
 case post=>
  rintro c g ⟨rfl,n,rfl,h,i,r,t⟩;exact y n h i r t
 case step=>
  rintro x c g l o ⟨rfl,rfl,d⟩;refine u x x _ (by lia) o (λm=>⟨rfl,x,rfl,l,by lia,d,.inr m⟩) (λm=>⟨rfl,rfl,λp q h i r =>?_⟩)
  by_cases z:q<lo+x
  .exact d p q h i z
  .have e:q=lo+x:=by lia
   subst e
   by_cases hp:p=lo+x
   .subst hp;exact ww _
   .exact vd (d p (lo+x - 1) h (by lia) (by lia)) m
def z6W (hL:Asks M A s κ a₀ rk){st:SortSt}{lo r:Nat}{Q:Option Nat->SortSt->Prop}(hn:lo+r<=a₀.size)(h1:1<=r)(Z:TB κ a₀ st)
  (h:∀m S,TB κ a₀ S->pendingOf S=pendingOf st->1<=m->m<=r->Seg rk (arrOf S) lo (lo+m)->Low (arrOf S) (arrOf st) lo->Q (some m) S):
  wpS M A E s (countRun' lo r) Q st:=by
 try dsimp only
 refine zae (rk:=rk) (lo:=lo) (ww 1) h1 (Seg.one (ww _)) ?f ?k
 case f=>
  intro x n R n1 n2 ha hb;kt_k;refine wz (z4m hL Z (by lia) (by lia) ?_)
  by_cases Y:Rk rk (arrOf st) (lo+n)<Rk rk (arrOf st) (lo+n - 1)
  .refine z08 (by simpa using Y) ?_;exact wD (ha Y)
  .refine z06 (by simpa using Y) ?_;exact wD (hb (by lia))
 case k=>
  intro n a7 V L c0;kt_k
  by_cases a8:n=r
  .refine z08 (by simpa using a8) ?_;exact wD (h n st Z rfl a7 V L Low.refl)
  .refine z06 (by simpa using a8) ?_;have b9:=c0.resolve_left a8;have b3:lo+n<=(arrOf st).size:=by rw[Z.size];lia
   refine zgo (H:=λj:SortSt=>TB κ a₀ j/\pendingOf j=pendingOf st/\Gec rk (arrOf j) lo (lo+n+1)/\Low (arrOf j) (arrOf st) lo) (P := ?pp1) ?tl1 ?us1
   case us1=>
    intro J
    by_cases b7:n > 1
    .refine z08 b7 ?_;refine wz (z4m hL Z (by lia) (by lia) ?_)
     by_cases N:Rk rk (arrOf st) lo<Rk rk (arrOf st) (lo+n - 1)
     .refine z08 (by simpa using N) ?_;exact wD (h n st Z rfl a7 V L Low.refl)
     refine z06 (by simpa using N) ?_;have z:∀k,lo<=k->k<lo+n->Rk rk (arrOf st) k=Rk rk (arrOf st) (lo+n - 1):=by
      intro k k1 k2;have a1:=L lo k (by lia) (by lia) k2;have a2:=L k (lo+n - 1) (by lia) (by lia) (by lia);lia
     refine wz (z2z ?_);obtain⟨j,e1,a0,b0,a3,a5⟩:∃j:SortSt,j=setArr st (mirror (arrOf st) lo (lo+n) ((lo+n - lo) / 2))/\TB κ a₀ j/\pendingOf j=pendingOf st/\Gec rk (arrOf j) lo (lo+n+1)/\Low (arrOf j) (arrOf st) lo:=by
      refine⟨_,rfl,Z.setArr (mirror_perm _ _ _ _),rfl,λp q y G p3 =>?_,z3D b3 (ww _)⟩;show Rk rk (mirror (arrOf st) _ _ _) q<=Rk rk (mirror (arrOf st) _ _ _) p;rw[z1f b3 z,z1f b3 z]
      by_cases hq:q<lo+n
      .rw[z p (by lia) (by lia),z q (by lia) hq];exact ww _
      .have e:q=lo+n:=by lia
       subst e
       by_cases hp:p=lo+n
       .subst hp;exact ww _
       .rw[z p (by lia) (by lia)];lia
     rw[<- e1];exact J j ⟨a0,b0,a3,a5⟩
    .refine z06 b7 ?_;refine J st ⟨Z,rfl,λp q y G p3 =>?_,Low.refl⟩
     by_cases hp:p=q
     .subst hp;exact ww _
     .obtain rfl:p=lo:=by lia
      obtain rfl:q=p+n:=by lia
      obtain rfl:n=1:=by lia
      rw[show p+1 - 1=p by lia] at b9;lia
   rintro j ⟨a0,b0,a3,a5⟩;kw_lk;refine wz (jv (v9 (I:=λx c a=>∃d,c=(none,x,d)/\TB κ a₀ a/\pendingOf a=pendingOf st/\Low (arrOf a) (arrOf st) lo/\Gec rk (arrOf a) lo (lo+x)/\d+1<=x/\
     (∀i,lo+x - (d+1)<=i->i<lo+x->Rk rk (arrOf a) i=Rk rk (arrOf a) (lo+x - 1)))
    (Q:=λc a=>∃m d,c=(none,m,d)/\m<=r/\TB κ a₀ a/\pendingOf a=pendingOf st/\Low (arrOf a) (arrOf st) lo/\Gec rk (arrOf a) lo (lo+m)/\d+1<=m/\
     (∀i,lo+m - (d+1)<=i->i<lo+m->Rk rk (arrOf a) i=Rk rk (arrOf a) (lo+m - 1))) ?step ?fin ⟨0,rfl,a0,b0,a5,a3,by lia,λi h1 h2=>by congr 1;lia⟩) ?post)
   case fin=>
    rintro c a b5;apply elc1 (c:=c) b5;intro d y;have g:=y.1;have u:=y.2.1;have t:=y.2.2.1;have l:=y.2.2.2.1;have hq:=y.2.2.2.2.1;have W:=y.2.2.2.2.2;clear y b5;refine⟨_,d,rfl,by lia,g,u,t,l,hq,W⟩
   case step=>
    rintro x c a c1 c2 b6;apply elc1 (c:=c) b6;intro d G;have g:=G.1;have u:=G.2.1;have t:=G.2.2.1;have l:=G.2.2.2.1;have hq:=G.2.2.2.2.1;have W:=G.2.2.2.2.2;clear G b6;kt_k;have o:lo+x<=(arrOf a).size:=by rw[g.size];lia
    refine wz (z4m hL g (by lia) (by lia) ?_)
    by_cases K:Rk rk (arrOf a) (lo+x)<Rk rk (arrOf a) (lo+x - 1)
    .refine z08 (by simpa using K) ?_;have T:∀xs:Array Keyed,(∀k,Rk rk xs k=Rk rk (arrOf a) k)->Gec rk xs lo (lo+(x+1)):=by
      intro xs hk p q y G p3;rw[hk,hk]
      by_cases b2:q<lo+x
      .exact l p q y G b2
      .obtain rfl:q=lo+x:=by lia
       by_cases a9:p=lo+x
       .subst a9;exact ww _
       .exact vd (Wk K) (l p (lo+x - 1) y (by lia) (by lia))
     by_cases F:d > 0
     .refine z08 F ?_;refine wz (z2z (wD ⟨0,rfl,g.setArr (mirror_perm _ _ _ _),u,(z3D o (by lia)).trans t,T _ (z1f o W),by lia,λi h1 h2=>by congr 1;lia⟩))
     .refine z06 F ?_;exact wD ⟨0,rfl,g,u,t,T _ (λ_=>rfl),by lia,λi h1 h2=>by congr 1;lia⟩
    .refine z06 (by simpa using K) ?_;refine wz (z4m hL g (by lia) (by lia) ?_)
     by_cases C:Rk rk (arrOf a) (lo+x - 1)<Rk rk (arrOf a) (lo+x)
     .refine z08 (by simpa using C) ?_;exact wD ⟨x,d,rfl,by lia,g,u,t,l,hq,W⟩
     .refine z06 (by simpa using C) ?_;have X:Rk rk (arrOf a) (lo+x)=Rk rk (arrOf a) (lo+x - 1):=by lia
      refine wD ⟨d+1,rfl,g,u,t,λp q y G p3 =>?_,by lia,λi h1 h2 =>?_⟩
      .by_cases b2:q<lo+x
       .exact l p q y G b2
       .obtain rfl:q=lo+x:=by lia
        by_cases a9:p=lo+x
        .subst a9;exact ww _
        .rw[X];exact l p (lo+x - 1) y (by lia) (by lia)
      .rw[show lo+(x+1) - 1=lo+x by lia]
       by_cases b8:i=lo+x
       .subst b8;rfl
       .rw[X];exact W i (by lia) (by lia)
   case post=>
    rintro c a ⟨m,d,rfl,hm,g,u,t,l,hq,W⟩;kt_k;have o:lo+m<=(arrOf a).size:=by rw[g.size];lia
    refine zgo (H:=λb:SortSt=>TB κ a₀ b/\pendingOf b=pendingOf st/\Low (arrOf b) (arrOf st) lo/\Gec rk (arrOf b) lo (lo+m)) (P := ?pp2) ?tl2 ?us2
    case us2=>
     intro J
     by_cases F:d > 0
     .refine z08 F ?_;refine wz (z2z ?_);obtain⟨b,e3,U,b1,a6,a4⟩:∃b:SortSt,b=setArr a (mirror (arrOf a) (lo+m - (d+1)) (lo+m) ((lo+m - (lo+m - (d+1))) / 2))/\TB κ a₀ b/\pendingOf b=pendingOf st/\Low (arrOf b) (arrOf st) lo/\Gec rk (arrOf b) lo (lo+m):=by
       refine⟨_,rfl,g.setArr (mirror_perm _ _ _ _),u,(z3D o (by lia)).trans t,λp q y G p3 =>?_⟩;show Rk rk (mirror (arrOf a) _ _ _) q<=Rk rk (mirror (arrOf a) _ _ _) p;rw[z1f o W,z1f o W];exact l p q y G p3
      rw[<- e3];exact J b ⟨U,b1,a6,a4⟩
     .refine z06 F ?_;exact J a ⟨g,u,t,l⟩
    rintro b ⟨U,b1,a6,a4⟩;have O:lo+m<=(arrOf b).size:=by rw[U.size];lia
    refine wz (z2z ?_);have b4:TB κ a₀ (setArr b (mirror (arrOf b) lo (lo+m) ((lo+m - lo) / 2))):=U.setArr (mirror_perm _ _ _ _);refine zae (rk:=rk) (lo:=lo) (by lia) hm (λp q y G p3 =>?_) ?f ?k
    case f=>
     intro x n R n1 n2 ha hb;kt_k;refine wz (z4m hL b4 (by lia) (by lia) ?_)
     by_cases Y:Rk rk (mirror (arrOf b) lo (lo+m) ((lo+m - lo) / 2)) (lo+n)<Rk rk (mirror (arrOf b) lo (lo+m) ((lo+m - lo) / 2)) (lo+n - 1)
     .refine z08 (by simpa using Y) ?_;exact wD (ha Y)
     .refine z06 (by simpa using Y) ?_;exact wD (hb (Nat.le_of_not_lt Y))
    case k=>
     intro n a7 V L _;exact wD (h n _ b4 b1 (by lia) V L ((z3D O (ww _)).trans a6))
    show Rk rk (mirror (arrOf b) lo (lo+m) ((lo+m - lo) / 2)) p<=Rk rk (mirror (arrOf b) lo (lo+m) ((lo+m - lo) / 2)) q;rw[z5z O,z5z O,if_pos (by lia),if_pos (by lia)];exact a4 _ _ (by lia) (by lia) (by lia)
def z5A (R:Asks M A s κ a₀ rk){st:SortSt}{lo n ok:Nat}{Q:Bool->SortSt->Prop}(hn:lo+n<=a₀.size)(Z:ok<=n)(u:1<=ok)(O:TB κ a₀ st)(hs:Seg rk (arrOf st) lo (lo+ok))
  (h:∀a,TB κ a₀ a->pendingOf a=pendingOf st->Seg rk (arrOf a) lo (lo+n)->Low (arrOf a) (arrOf st) lo->Q true a):wpS M A E s (binarySort' lo n ok) Q st:=by
 refine wz (jv (v9 (I:=λk c a=>c=(none,())/\TB κ a₀ a/\pendingOf a=pendingOf st/\Seg rk (arrOf a) lo (lo+k)/\Low (arrOf a) (arrOf st) lo)
  (Q:=λc a=>c=(none,())/\TB κ a₀ a/\pendingOf a=pendingOf st/\Seg rk (arrOf a) lo (lo+n)/\Low (arrOf a) (arrOf st) lo) ?step ?fin ?init) ?post)
 case post=>
  rintro c a y;apply elc0 (c:=c) y;intro H;have f:=H.1;have p:=H.2.1;have e:=H.2.2.1;have o:=H.2.2.2;clear H y;exact wD (h a f p e o)
 case init=>
  rw[show max ok 1=ok by lia];exact⟨rfl,O,rfl,hs,Low.refl⟩
 case fin=>
  rintro c a ⟨T,f,p,e,o⟩;rw[show max (max ok 1) n=n by lia] at e;exact⟨T,f,p,e,o⟩
 case step=>
  rintro k c a S W z;apply elc0 (c:=c) z;intro J;have f:=J.1;have p:=J.2.1;have e:=J.2.2.1;have o:=J.2.2.2;clear J z;kt_k;have N:lo+k<a₀.size:=by lia
  refine wz (jv (v9 (I:=λx c b=>b=a/\∃l r,c=(none,l,r)/\l<=r/\r<=k/\r - l<=k - x/\
    (∀i,i<l->Rk rk (arrOf a) (lo+i)<=Rk rk (arrOf a) (lo+k))/\(∀i,r<=i->i<k->Rk rk (arrOf a) (lo+k)<Rk rk (arrOf a) (lo+i)))
   (Q:=λc b=>b=a/\∃l r,c=(none,l,r)/\l<=k/\
    (∀i,i<l->Rk rk (arrOf a) (lo+i)<=Rk rk (arrOf a) (lo+k))/\(∀i,l<=i->i<k->Rk rk (arrOf a) (lo+k)<Rk rk (arrOf a) (lo+i))) ?istep ?ifin ?iinit) ?ipost)
  case iinit=>exact⟨rfl,0,k,rfl,by lia,by lia,by lia,λi U=>by lia,λi u K=>by lia⟩
  case ifin=>
   rintro c b ⟨rfl,l,r,rfl,L,t,Y,m,g⟩;obtain rfl:l=r:=by lia
   exact⟨rfl,l,l,rfl,t,m,g⟩
  case istep=>
   rintro x c b _ a0 ⟨rfl,l,r,rfl,L,t,Y,m,g⟩;kt_k
   by_cases C:l>=r
   .refine z08 C ?_;obtain rfl:l=r:=by lia
    exact wD ⟨rfl,l,l,rfl,t,m,g⟩
   .refine z06 C ?_;refine wz (z4m R f N (by lia) ?_)
    by_cases d:Rk rk (arrOf b) (lo+k)<Rk rk (arrOf b) (lo+(l+r) / 2)
    .refine z08 (by simpa using d) ?_;refine wD ⟨rfl,l,(l+r) / 2,rfl,by lia,by lia,by lia,m,λi u K =>?_⟩;exact u7 d (e _ _ (by lia) (by lia) (by lia))
    .refine z06 (by simpa using d) ?_;refine wD ⟨rfl,(l+r) / 2+1,r,rfl,by lia,by lia,by lia,λi u =>?_,g⟩;exact vd (e (lo+i) (lo+(l+r) / 2) (by lia) (by lia) (by lia)) (Nat.le_of_not_lt d)
  case ipost=>
   rintro c b ⟨rfl,l,r,rfl,X,m,g⟩;kt_k;show wpS M A E s (moveDown' _ _ >>= _) _ _;rw[moveDown'_eq];have q:lo+k<(arrOf b).size:=by rw[f.size];exact N
   refine wz (jz (wD ⟨rfl,f.setArr (bubble_perm _ _ _),p,?_,(zad q (by lia) (by lia)).trans o⟩));intro i j U V hj;show Rk rk (bubble (arrOf b) (lo+k) (lo+k - (lo+l))) i<=Rk rk (bubble (arrOf b) (lo+k) (lo+k - (lo+l))) j;rw[z7W q (by lia),z7W q (by lia),show lo+k - (lo+k - (lo+l))=lo+l by lia];have G:∀i,lo<=i->i<lo+l->Rk rk (arrOf b) i<=Rk rk (arrOf b) (lo+k):=λi u K=>by
    have:=m (i - lo) (by lia)
    rwa [show lo+(i - lo)=i by lia] at this
   have F:∀i,lo+l<=i->i<lo+k->Rk rk (arrOf b) (lo+k)<Rk rk (arrOf b) i:=λi u K=>by
    have:=g (i - lo) (by lia) (by lia)
    rwa [show lo+(i - lo)=i by lia] at this
   repeat' split
   all_goals first
    | (exfalso;lia)
    | exact ww _
    | exact G _ (by lia) (by lia)
    | exact Wk (F _ (by lia) (by lia))
    | exact e _ _ (by lia) (by lia) (by lia)
def Up (rk:Keyed->Nat)(l:List Keyed):Prop:=l.Pairwise λx y=>rk x<=rk y
def z2d (rk:Keyed->Nat)(l m:List Keyed):Prop:=∀x∈l,∀y∈m,rk x<=rk y
def Up.append {l m:List Keyed}(h:Up rk l)(k:Up rk m)(c:z2d rk l m):Up rk (l++m):=vB.mpr ⟨h,k,c⟩
theorem Up.drop {l:List Keyed}(h:Up rk l)(n:Nat):Up rk (l.drop n):=List.Pairwise.sublist (List.drop_sublist n l) h
theorem Up.take {l:List Keyed}(h:Up rk l)(n:Nat):Up rk (l.take n):=List.Pairwise.sublist (List.take_sublist n l) h
def Up.cut {l:List Keyed}(h:Up rk l)(n:Nat):z2d rk (l.take n) (l.drop n):=by
 have:=h;unfold Up at this;rw[<- vH n l] at this;exact(vB.mp this).2.2
def Up.seg {a:Array Keyed}(h:Up rk a.toList):Seg rk a 0 a.size:=λp q _ d b=>by
 by_cases e:p=q
 .subst e;exact ww _
 .have:=vh.mp h p q (by simpa using (by lia:p<a.size)) (by simpa using b) (by lia);rw[z0u (ul a p (by lia)),z0u (ul a q b)];k_ne
def zaA {a:Array Keyed}{i j:Nat}(h:Seg rk a i j)(k:j<=a.size):Up rk (a.extract i j).toList:=by
 refine vh.mpr λp q hp e d =>?_;have b:p<(a.extract i j).size:=by rw[<- vg];exact hp
 have f:q<(a.extract i j).size:=by rw[<- vg];exact e
 have g:(a.extract i j).size=j - i:=by rw[jE];lia
 have:=h (i+p) (i+q) (by lia) (by lia) (by lia);rw[z0u (ul a (i+p) (by lia)),z0u (ul a (i+q) (by lia))] at this;simpa[Array.getElem_extract] using this
structure Mrg (rk:Keyed->Nat)(a b o:List Keyed)(ia ib:Nat):Prop where
 up:Up rk o
 ina:z2d rk o (a.drop ia)
 inb:z2d rk o (b.drop ib)
 perm:(o++a.drop ia++b.drop ib).Perm (a++b)
def z55 (l:List Keyed)(i k:Nat):l.drop i=(l.drop i).take k++l.drop (i+k):=by
 rw[<- List.drop_drop];exact(vH k _).symm
def Mrg.moveA {a b o:List Keyed}{g ib:Nat}(h:Mrg rk a b o g ib)(j:Up rk a)(k:Nat)(i:z2d rk ((a.drop g).take k) (b.drop ib)):Mrg rk a b (o++(a.drop g).take k) (g+k) ib:=by
 have e:=z55 a g k;refine⟨h.up.append ((j.drop g).take k) (λx d y f=>h.ina x d y (wU f)),λx d y f =>?_,λx d y f =>?_,?_⟩
 .rcases wp.mp d with d | d
  .exact h.ina x d y (by rw[e];exact wp.mpr (.inr f))
  .exact(j.drop g).cut k x d y (by rw[List.drop_drop];exact f)
 .rcases wp.mp d with d | d
  .exact h.inb x d y f
  .exact i x d y f
 .have:=h.perm;rw[e] at this;simpa[wS] using this
def Mrg.moveB {a b o:List Keyed}{j g:Nat}(h:Mrg rk a b o j g)(l:Up rk b)(k:Nat)(i:z2d rk ((b.drop g).take k) (a.drop j)):Mrg rk a b (o++(b.drop g).take k) j (g+k):=by
 have e:=z55 b g k;refine⟨h.up.append ((l.drop g).take k) (λx d y f=>h.inb x d y (wU f)),λx d y f =>?_,λx d y f =>?_,?_⟩
 .rcases wp.mp d with d | d
  .exact h.ina x d y f
  .exact i x d y f
 .rcases wp.mp d with d | d
  .exact h.inb x d y (by rw[e];exact wp.mpr (.inr f))
  .exact(l.drop g).cut k x d y (by rw[List.drop_drop];exact f)
 .have hp:=h.perm;rw[e] at hp;refine List.Perm.trans ?_ hp;simp only[wS];refine v5 o ?_;rw[<- wS, <- wS];exact jC _ jK
def Mrg.done {a b o:List Keyed}{d f:Nat}(h:Mrg rk a b o d f)(g:Up rk a)(i:Up rk b)(e:a.length<=d\/b.length<=f):Up rk (o++a.drop d++b.drop f):=by
 rcases e with e | e
 .rw[jA e,vi];exact h.up.append (i.drop _) h.inb
 .rw[jA e,vi];exact h.up.append (g.drop _) h.ina
def Mrg.lastA {a b o:List Keyed}{f g:Nat}(h:Mrg rk a b o f g)(j:Up rk a)(k:Up rk b)(e:z2d rk (b.drop g) (a.drop f)):Up rk (o++b.drop g++a.drop f)/\(o++b.drop g++a.drop f).Perm (a++b):=by
 refine⟨(h.up.append (k.drop _) h.inb).append (j.drop _) (λx d y i =>?_),?_⟩
 .rcases wp.mp d with d | d
  .exact h.ina x d y i
  .exact e x d y i
 .refine List.Perm.trans ?_ h.perm;simp only[wS];exact v5 o jK
def z1X {l:List Keyed}{i:Nat}{p:Keyed}(h:l[i]? = some p):(l.drop i).take 1=[p]:=by
 obtain⟨a,rfl⟩:=wo.mp h;rw[vJ a];rfl
def z48 {l:List Keyed}{i k:Nat}{x:Keyed}(h:x∈(l.drop i).take k):∃j,j<k/\i+j<l.length/\l[i+j]? = some x:=by
 obtain⟨j,b,e⟩:=uP h;have a:j<k/\i+j<l.length:=by simp at b;lia
 refine⟨j,a.1,a.2,?_⟩;rw[List.getElem_take,List.getElem_drop] at e;rw[wf a.2,e]
def z8k {l:List Keyed}{i:Nat}{x:Keyed}(h:x∈l.drop i):∃j,i+j<l.length/\l[i+j]? = some x:=by
 obtain⟨j,b,e⟩:=uP h;have a:i+j<l.length:=by simp at b;lia
 refine⟨j,a,?_⟩;rw[List.getElem_drop] at e;rw[wf a,e]
def z2y {a:Array Keyed}{j:Nat}{x:Keyed}(h:a.toList[j]? = some x):Rk rk a j=rk x:=z0u (by rw[<- w6];exact h)
def z6c (u:Asks M A s κ a₀ rk){st:SortSt}{key:Keyed}{b:Array Keyed}{a n d:Nat}{Q:Option Nat->SortSt->Prop}(g:kindOf st=κ)(f:key∈a₀.toList)
  (e:∀p∈b.toList,p∈a₀.toList) (z:a+n<=b.size) (x:d<n) (C:Seg rk b a (a+n))
  (h:∀k,k<=n->(∀i,i<k->Rk rk b (a+i)<=rk key)->(∀i,k<=i->i<n->rk key<Rk rk b (a+i))->Q (some k) st):wpS M A E s (z8o false key b a n d) Q st:=by
 refine z5R u g f e z x (λi => !decide (rk key<Rk rk b (a+i))) (λi l=>by simp) (λi j y F q =>?_) (λk g m o=>h k g (λi l =>?_) (λi r t =>?_))
 .have:=C (a+i) (a+j) (by lia) (by lia) (by lia);simp at q ⊢;lia
 .have:=m i l;simp at this;lia
 .have:=o i r t;simp at this;lia
def z6d (u:Asks M A s κ a₀ rk){st:SortSt}{key:Keyed}{b:Array Keyed}{a n d:Nat}{Q:Option Nat->SortSt->Prop}(g:kindOf st=κ)(f:key∈a₀.toList)
  (e:∀p∈b.toList,p∈a₀.toList) (z:a+n<=b.size) (x:d<n) (C:Seg rk b a (a+n))
  (h:∀k,k<=n->(∀i,i<k->Rk rk b (a+i)<rk key)->(∀i,k<=i->i<n->rk key<=Rk rk b (a+i))->Q (some k) st):wpS M A E s (z8o true key b a n d) Q st:=by
 refine z5R u g f e z x (λi=>decide (Rk rk b (a+i)<rk key)) (λi l=>by simp) (λi j y F q =>?_) (λk g m o=>h k g (λi l =>?_) (λi r t =>?_))
 .have:=C (a+i) (a+j) (by lia) (by lia) (by lia);simp at q ⊢;lia
 .have:=m i l;simp at this;lia
 .have:=o i r t;simp at this;lia
def z2B {a:Array Keyed}{i j:Nat}:(a.extract i j).toList=(a.toList.drop i).take (j - i):=by
 rw[Array.toList_extract]
def z8F {a:Array Keyed}{i:Nat}:(a.extract i a.size).toList=a.toList.drop i:=by
 rw[z2B];exact ud (by simp)
def z1B {a:Array Keyed}{i:Nat}{p:Keyed}(h:a[i]? = some p):a.toList[i]? = some p:=by rw[w6];exact h
def z7Y (hL:Asks M A s κ a₀ rk){st:SortSt}{a b:Array Keyed}{Q:Array Keyed->SortSt->Prop}(hk:kindOf st=κ)
  (hma:∀p∈a.toList,p∈a₀.toList) (hmb:∀p∈b.toList,p∈a₀.toList) (ha:Up rk a.toList) (Y:Up rk b.toList) (h1:1<=a.size) (h2:1<=b.size)
  (hf:z2d rk (b.toList.take 1) a.toList) (hl:z2d rk b.toList (a.toList.drop (a.size - 1)))
  (h:∀r g,Up rk r.toList->r.toList.Perm (a.toList++b.toList)->Q r (z1K st g)):wpS M A E s (zcL a b) Q st:=by
 have sa:=ha.seg;have sb:=Y.seg;have la:a.toList.length=a.size:=by simp
 have lb:b.toList.length=b.size:=by simp
 have fin:∀(d:Array Keyed) (ia ib g:Nat),Mrg rk a.toList b.toList d.toList ia ib->(a.size<=ia\/b.size<=ib)->Q (d++a.extract ia a.size++b.extract ib b.size) (z1K st g):=λd ia ib g m e=>by
  have t:(d++a.extract ia a.size++b.extract ib b.size).toList=d.toList++a.toList.drop ia++b.toList.drop ib:=by
   rw[vA,vA,z8F,z8F]
  exact h _ g (by rw[t];exact m.done ha Y (by rw[la,lb];exact e)) (by rw[t];exact m.perm)
 have N:∀(d:Array Keyed) (ia ib g:Nat),Mrg rk a.toList b.toList d.toList ia ib->ia+1=a.size->Q (d++b.extract ib b.size++a.extract ia a.size) (z1K st g):=λd ia ib g m e=>by
  have t:(d++b.extract ib b.size++a.extract ia a.size).toList=d.toList++b.toList.drop ib++a.toList.drop ia:=by
   rw[vA,vA,z8F,z8F]
  have q:=m.lastA ha Y (λx hx y hy=>hl x (uH hx) y (by rw[show a.size - 1=ia by lia];exact hy));exact h _ g (by rw[t];exact q.1) (by rw[t];exact q.2)
 kw_lk;kt_k;obtain⟨b0,a0,b2⟩:=z1y (xs:=b) (i:=0) (by lia);refine wz (z0g a0 ?_);have m0:Mrg rk a.toList b.toList (#[b0]:Array Keyed).toList 0 1:=by
  have z:Mrg rk a.toList b.toList [] 0 0:=⟨List.Pairwise.nil,(λx hx=>by cases hx),(λx hx=>by cases hx),by simp⟩
  have:=z.moveB Y 1 (by rw[List.drop_zero];exact hf);rw[z1X (z1B a0)] at this;k_ne
 by_cases c1:1=b.size
 .refine z08 (by simpa using c1) ?_;exact wD (fin _ _ _ (gallopOf st) m0 (.inr (by lia)))
 refine z06 (by simpa using c1) ?_
 by_cases c2:0+1=a.size
 .refine z08 (by simpa using c2) ?_;exact wD (N _ _ _ (gallopOf st) m0 c2)
 refine z06 (by simpa using c2) ?_;k_mem;refine wz (jv (v9
  (I:=λx c f=>∃d ia ib mg g,c=(none,d,ia,ib,mg)/\f=z1K st g/\Mrg rk a.toList b.toList d.toList ia ib/\ia+1<a.size/\ib<b.size/\x+1<=ia+ib)
  (Q:=λc f=>∃r o,c=(some r,o)/\Q r f) ?step ?fin ⟨_,_,_,_,gallopOf st,rfl,rfl,m0,by lia,by lia,by lia⟩) ?post)
 case post=>
  rintro c f ⟨r,o,rfl,q⟩;exact wD q
 case fin=>
  rintro c f a1;apply el5 (c:=c) (s:=f) a1;intro d ia ib mg g p1;have m:=p1.1;have i1:=p1.2.1;have i2:=p1.2.2.1;have i3:=p1.2.2.2;clear p1 a1;lia
 case step=>
  rintro x c f _ hx a2;apply el5 (c:=c) (s:=f) a2;intro d ia ib mg g p2;have m:=p2.1;have i1:=p2.2.1;have i2:=p2.2.2.1;have i3:=p2.2.2.2;clear p2 a2;kt_k;refine wz (jv (v9
   (I:=λy c f=>∃d n jb O R,c=(none,d,n,jb,O,R)/\f=z1K st g/\Mrg rk a.toList b.toList d.toList n jb/\n+1<a.size/\jb<b.size/\ia+ib+y<=n+jb)
   (Q:=λc f=>(∃r o,c=(some r,o)/\Q r f)\/∃d n jb O R,c=(none,d,n,jb,O,R)/\f=z1K st g/\Mrg rk a.toList b.toList d.toList n jb/\n+1<a.size/\jb<b.size/\ia+ib+1<=n+jb)
   ?istep ?ifin ⟨_,_,_,_,_,rfl,rfl,m,i1,i2,by lia⟩) ?ipost)
  case ifin=>
   rintro c f a3;apply el5 (c:=c) (s:=f) a3;intro d n jb O R p3;have m:=p3.1;have V:=p3.2.1;have U:=p3.2.2.1;have j3:=p3.2.2.2;clear p3 a3;exact .inr ⟨_,_,_,_,_,rfl,rfl,m,V,U,by lia⟩
  case istep=>
   rintro y c f _ hy a4;apply el5 (c:=c) (s:=f) a4;intro d n jb O R p4;have m:=p4.1;have V:=p4.2.1;have U:=p4.2.2.1;have j3:=p4.2.2.2;clear p4 a4;kt_k;obtain⟨W,eb,mb⟩:=z1y (xs:=b) (i:=jb) U;obtain⟨pa,ea,ma⟩:=z1y (xs:=a) (i:=n) (by lia);refine wz (z0g eb (wz (z0g ea (wz (z6V hL hk (hmb _ mb) (hma _ ma) ?_)))))
   by_cases hw:rk W<rk pa
   .refine z08 (by simpa using hw) ?_;ac_nf0;have Z:Mrg rk a.toList b.toList (d.push W).toList n (jb+1):=by
     have:=m.moveB Y 1 (by
      rw[z1X (z1B eb)];k_asm;obtain rfl:=wg.mp hx;obtain⟨j,hj,e⟩:=z8k hy;have:=sa n (n+j) (by lia) (by lia) (by lia);rw[z0u ea,z2y e] at this;lia)
     rw[z1X (z1B eb)] at this;k_ne
    by_cases c3:jb+1=b.size
    .x_form;exact wD (.inl ⟨_,_,rfl,fin _ _ _ g Z (.inr (by lia))⟩)
    k_same
    split
    .exact wD (.inr ⟨_,_,_,_,_,rfl,rfl,Z,V,by lia,by lia⟩)
    .exact wD ⟨_,_,_,_,_,rfl,rfl,Z,V,by lia,by lia⟩
   .refine z06 (by simpa using hw) ?_;tb_any;have Z:Mrg rk a.toList b.toList (d.push pa).toList (n+1) jb:=by
     have:=m.moveA ha 1 (by
      rw[z1X (z1B ea)];k_asm;obtain rfl:=wg.mp hx;obtain⟨j,hj,e⟩:=z8k hy;have:=sb jb (jb+j) (by lia) (by lia) (by lia);rw[z0u eb,z2y e] at this;lia)
     rw[z1X (z1B ea)] at this;k_ne
    by_cases c3:n+1+1=a.size
    .x_form;exact wD (.inl ⟨_,_,rfl,N _ _ _ g Z c3⟩)
    k_same
    split
    .exact wD (.inr ⟨_,_,_,_,_,rfl,rfl,Z,by lia,U,by lia⟩)
    .exact wD ⟨_,_,_,_,_,rfl,rfl,Z,by lia,U,by lia⟩
  case ipost=>
   rintro c f (hA | a5)
   .obtain⟨r,o,rfl,q⟩:=hA;obtain⟨r1,r2,r3,r4,r5⟩:=o;exact wD ⟨_,_,rfl,q⟩
   apply el5 (c:=c) (s:=f) a5;intro d C kb O R p5;have m:=p5.1;have V:=p5.2.1;have U:=p5.2.2.1;have j3:=p5.2.2.2;clear p5 a5;kt_k;kw_lk;refine wz (jv (v9
    (I:=λy c f=>∃d n jb mg O R g,c=(none,d,n,jb,mg,O,R)/\f=z1K st g/\Mrg rk a.toList b.toList d.toList n jb/\n+1<a.size/\jb<b.size/\ia+ib+1<=n+jb)
    (Q:=λc f=>(∃r o,c=(some r,o)/\Q r f)\/∃d n jb mg O R g,c=(none,d,n,jb,mg,O,R)/\f=z1K st g/\Mrg rk a.toList b.toList d.toList n jb/\n+1<a.size/\jb<b.size/\ia+ib+1<=n+jb)
    ?gstep ?gfin ⟨_,_,_,_,_,_,g,rfl,rfl,m,V,U,j3⟩) ?gpost)
   case gfin=>
    rintro c f z;exact .inr z
   case gpost=>
    rintro c f (hA | a6)
    .obtain⟨r,o,rfl,q⟩:=hA;obtain⟨r1,r2,r3,r4,r5,r6⟩:=o;exact wD ⟨_,_,rfl,q⟩
    apply el7 (c:=c) (s:=f) a6;intro d C kb mg O R g p6;have m:=p6.1;have V:=p6.2.1;have U:=p6.2.2.1;have j3:=p6.2.2.2;clear p6 a6;kt_k;kpc_if;rw[z1t];refine wz (jz (wD ⟨_,_,_,_,mg+1,rfl,rfl,m,V,U,by lia⟩))
   case gstep=>
    clear m V U j3 d C kb O R g;rintro y c f _ hy a7;apply el7 (c:=c) (s:=f) a7;intro d n jb mg O R g p7;have m:=p7.1;have V:=p7.2.1;have U:=p7.2.2.1;have j3:=p7.2.2.2;clear p7 a7;kt_k;obtain⟨W,eb,mb⟩:=z1y (xs:=b) (i:=jb) U;refine zgp (α:=Nat) (P := ?pp1) ?tl1 ?us1
    case us1=>
     intro J
     by_cases cg:mg > 1
     .refine z08 cg ?_;generalize mg - 1=F;exact J F
     .refine z06 cg ?_;exact J mg
    intro F;kpc_if;rw[z1t];refine wz (jz ?_);ac_nf0;z_run;kt_k;have mA:Mrg rk a.toList b.toList (d.toList++(a.toList.drop n).take k) (n+k) jb:=m.moveA ha k (by
     k_asm;obtain⟨i,hi,a9,e⟩:=z48 hx;obtain⟨j,hj,e2⟩:=z8k hy;have q1:=g1 i hi;have q2:=sb jb (jb+j) (by lia) (by lia) (by lia);rw[z2y e] at q1;rw[z0u eb,z2y e2] at q2;lia)
    have S:z2d rk [W] (a.toList.drop (n+k)):=by
     k_asm;obtain rfl:=wg.mp hx;obtain⟨j,hj,e⟩:=z8k hy;have:=g2 (k+j) (by lia) (by lia);rw[show n+(k+j)=n+k+j by lia,z2y e] at this;lia
    refine zcC (H:=λ(C:Nat) (u:Array Keyed)=>C+1<a.size/\n<=C/\Mrg rk a.toList b.toList u.toList C jb/\z2d rk [W] (a.toList.drop C)) (P := ?pp2) ?tl2 ?us2
    case us2=>
     intro J
     by_cases c3:k > 0
     .refine z08 c3 ?_;have K:Mrg rk a.toList b.toList (d++a.extract n (n+k)).toList (n+k) jb:=by
       rw[vA,z2B,show n+k - n=k by lia];exact mA
      by_cases c4:n+k+1=a.size
      .refine z08 (by simpa using c4) ?_;exact wD (.inl ⟨_,_,rfl,N _ _ _ F K c4⟩)
      refine z06 (by simpa using c4) ?_
      by_cases c5:n+k=a.size
      .refine z08 (by simpa using c5) ?_;exact wD (.inl ⟨_,_,rfl,fin _ _ _ F K (.inl (by lia))⟩)
      refine z06 (by simpa using c5) ?_;have X:n+k+1<a.size/\n<=n+k:=by lia
      generalize d++a.extract n (n+k)=u at K ⊢;have hg:=S;generalize n+k=C at K hg X ⊢;exact J C u ⟨X.1,X.2,K,hg⟩
     .refine z06 c3 ?_;obtain rfl:k=0:=by lia
      exact J n d ⟨by lia,by lia,m,S⟩
    clear mA S g1 g2 m;rintro C u ⟨X,kk,K,S⟩;ac_nf0;have mB:Mrg rk a.toList b.toList (u.push W).toList C (jb+1):=by
     have:=K.moveB Y 1 (by rw[z1X (z1B eb)];exact S);rw[z1X (z1B eb)] at this;k_ne
    by_cases c6:jb+1=b.size
    case pos=>
     refine z08 (by simpa using c6) ?_;exact wD (.inl ⟨_,_,rfl,fin _ _ _ F mB (.inr (by lia))⟩)
    refine z06 (by simpa using c6) ?_;obtain⟨pa,ea,ma⟩:=z1y (xs:=a) (i:=C) (by lia);tb_any;w_why;kt_k;have mC:Mrg rk a.toList b.toList ((u.push W).toList++(b.toList.drop (jb+1)).take l) C (jb+1+l):=mB.moveB Y l (by
     k_asm;obtain⟨i,hi,a9,e⟩:=z48 hx;obtain⟨j,hj,e2⟩:=z8k hy;have q1:=f1 i hi;have q2:=sa C (C+j) (by lia) (by lia) (by lia);rw[z2y e] at q1;rw[z0u ea,z2y e2] at q2;lia)
    have G:z2d rk [pa] (b.toList.drop (jb+1+l)):=by
     k_asm;obtain rfl:=wg.mp hx;obtain⟨j,hj,e⟩:=z8k hy;have:=f2 (l+j) (by lia) (by lia);rw[show jb+1+(l+j)=jb+1+l+j by lia,z2y e] at this;lia
    refine zcC (H:=λ(kb:Nat) (L:Array Keyed)=>kb<b.size/\jb+1<=kb/\Mrg rk a.toList b.toList L.toList C kb/\z2d rk [pa] (b.toList.drop kb)) (P := ?pp3) ?tl3 ?us3
    case us3=>
     intro J
     by_cases c7:l > 0
     .refine z08 c7 ?_;have T:Mrg rk a.toList b.toList (u.push W++b.extract (jb+1) (jb+1+l)).toList C (jb+1+l):=by
       rw[vA,z2B,show jb+1+l - (jb+1)=l by lia];exact mC
      by_cases c8:jb+1+l=b.size
      .refine z08 (by simpa using c8) ?_;exact wD (.inl ⟨_,_,rfl,fin _ _ _ F T (.inr (by lia))⟩)
      refine z06 (by simpa using c8) ?_;have X:jb+1+l<b.size/\jb+1<=jb+1+l:=by lia
      generalize u.push W++b.extract (jb+1) (jb+1+l)=L at T ⊢;have hg:=G;generalize jb+1+l=kb at T hg X ⊢;exact J kb L ⟨X.1,X.2,T,hg⟩
     .refine z06 c7 ?_;obtain rfl:l=0:=by lia
      exact J (jb+1) (u.push W) ⟨by lia,by lia,mB,G⟩
    clear mC G f1 f2 mB K S;rintro kb L ⟨a8,b1,T,G⟩;tb_any;have mD:Mrg rk a.toList b.toList (L.push pa).toList (C+1) kb:=by
     have:=T.moveA ha 1 (by rw[z1X (z1B ea)];exact G);rw[z1X (z1B ea)] at this;k_ne
    by_cases c9:C+1+1=a.size
    case pos=>
     refine z08 (by simpa using c9) ?_;exact wD (.inl ⟨_,_,rfl,N _ _ _ F mD c9⟩)
    refine z06 (by simpa using c9) ?_
    split
    .exact wD (.inr ⟨_,_,_,_,_,_,F,rfl,rfl,mD,by lia,a8,by lia⟩)
    .exact wD ⟨_,_,_,_,_,_,F,rfl,rfl,mD,by lia,a8,by lia⟩
structure Mrh (rk:Keyed->Nat)(a b o:List Keyed)(na nb:Nat):Prop where
 up:Up rk o
 ina:z2d rk (a.take na) o
 inb:z2d rk (b.take nb) o
 perm:(a.take na++b.take nb++o).Perm (a++b)
def z8H (l:List Keyed){n k:Nat}(h:k<=n):l.take n=l.take k++(l.take n).drop k:=by
 have:=(vH k (l.take n)).symm
 rwa [List.take_take,Wc h] at this
def Mrh.moveA {a b o:List Keyed}{g nb:Nat}(h:Mrh rk a b o g nb)(j:Up rk a)(k:Nat)(l:k<=g)(i:z2d rk (b.take nb) ((a.take g).drop k)):Mrh rk a b ((a.take g).drop k++o) k nb:=by
 have e:=z8H a l;refine⟨((j.take g).drop k).append h.up (λx f y d=>h.ina x (uH f) y d),λx f y d =>?_,λx f y d =>?_,?_⟩
 .rcases wp.mp d with d | d
  .have:=(j.take g).cut k x (by rw[List.take_take,Wc l];exact f) y d;exact this
  .exact h.ina x (by rw[e];exact wp.mpr (.inl f)) y d
 .rcases wp.mp d with d | d
  .exact i x f y d
  .exact h.inb x f y d
 .have hp:=h.perm;rw[e] at hp;refine List.Perm.trans ?_ hp;simp only[wS];refine v5 _ ?_;rw[<- wS, <- wS];exact jC _ jK
def Mrh.moveB {a b o:List Keyed}{j g:Nat}(h:Mrh rk a b o j g)(l:Up rk b)(k:Nat)(m:k<=g)(i:z2d rk (a.take j) ((b.take g).drop k)):Mrh rk a b ((b.take g).drop k++o) j k:=by
 have e:=z8H b m;refine⟨((l.take g).drop k).append h.up (λx f y d=>h.inb x (uH f) y d),λx f y d =>?_,λx f y d =>?_,?_⟩
 .rcases wp.mp d with d | d
  .exact i x f y d
  .exact h.ina x f y d
 .rcases wp.mp d with d | d
  .have:=(l.take g).cut k x (by rw[List.take_take,Wc m];exact f) y d;exact this
  .exact h.inb x (by rw[e];exact wp.mpr (.inl f)) y d
 .have hp:=h.perm;rw[e] at hp;simpa[wS] using hp
def Mrh.done {a b o:List Keyed}{d f:Nat}(h:Mrh rk a b o d f)(g:Up rk a)(i:Up rk b)(e:d=0\/f=0):Up rk (a.take d++b.take f++o):=by
 rcases e with rfl | rfl
 .rw[List.take_zero,List.nil_append];exact(i.take _).append h.up h.inb
 .rw[List.take_zero,vi];exact(g.take _).append h.up h.ina
def Mrh.firstB {a b o:List Keyed}{f g:Nat}(h:Mrh rk a b o f g)(j:Up rk a)(k:Up rk b)(e:z2d rk (b.take g) (a.take f)):Up rk (b.take g++a.take f++o)/\(b.take g++a.take f++o).Perm (a++b):=by
 refine⟨((k.take _).append (j.take _) e).append h.up (λx d y i =>?_),?_⟩
 .rcases wp.mp d with d | d
  .exact h.inb x d y i
  .exact h.ina x d y i
 .exact List.Perm.trans (jC _ jK) h.perm
def z21 {l:List Keyed}{n:Nat}{p:Keyed}(h:l[n]? = some p):(l.take (n+1)).drop n=[p]:=by
 obtain⟨a,rfl⟩:=wo.mp h;rw[List.drop_take,show n+1 - n=1 by lia];exact z1X (wf a)
def z9Z {l:List Keyed}{n:Nat}{x:Keyed}(h:x∈l.take n):∃j,j<n/\j<l.length/\l[j]? = some x:=by
 have:=z48 (i:=0) (k:=n) (l:=l) (x:=x) (by simpa using h);obtain⟨j,a,d,b⟩:=this;exact⟨j,a,by lia,by simpa using b⟩
def zdH {l:List Keyed}{n k:Nat}{x:Keyed}(h:x∈(l.take n).drop k):∃j,k<=j/\j<n/\j<l.length/\l[j]? = some x:=by
 rw[List.drop_take] at h;obtain⟨j,d,a,b⟩:=z48 h;exact⟨k+j,by lia,by lia,a,b⟩
def z8G {a:Array Keyed}{n:Nat}:(a.extract 0 n).toList=a.toList.take n:=by
 rw[z2B,List.drop_zero,Nat.sub_zero]
def z7Z (hL:Asks M A s κ a₀ rk){st:SortSt}{a b:Array Keyed}{Q:Array Keyed->SortSt->Prop}(hk:kindOf st=κ)
  (hma:∀p∈a.toList,p∈a₀.toList) (hmb:∀p∈b.toList,p∈a₀.toList) (ha:Up rk a.toList) (hb:Up rk b.toList) (h1:1<=a.size) (h2:1<=b.size)
  (hf:z2d rk (b.toList.take 1) a.toList) (hl:z2d rk b.toList (a.toList.drop (a.size - 1)))
  (h:∀r g,Up rk r.toList->r.toList.Perm (a.toList++b.toList)->Q r (z1K st g)):wpS M A E s (zcM a b) Q st:=by
 have sa:=ha.seg;have sb:=hb.seg;have la:a.toList.length=a.size:=by simp
 have lb:b.toList.length=b.size:=by simp
 have fin:∀(d:Array Keyed) (C u g:Nat),Mrh rk a.toList b.toList d.toList.reverse C u->(C=0\/u=0)->Q (a.extract 0 C++b.extract 0 u++d.reverse) (z1K st g):=λd C u g m e=>by
  have t:(a.extract 0 C++b.extract 0 u++d.reverse).toList=a.toList.take C++b.toList.take u++d.toList.reverse:=by
   rw[vA,vA,z8G,z8G,jQ]
  exact h _ g (by rw[t];exact m.done ha hb e) (by rw[t];exact m.perm)
 have N:∀(d:Array Keyed) (C u g:Nat),Mrh rk a.toList b.toList d.toList.reverse C u->u=1->Q (b.extract 0 u++a.extract 0 C++d.reverse) (z1K st g):=λd C u g m e=>by
  have t:(b.extract 0 u++a.extract 0 C++d.reverse).toList=b.toList.take u++a.toList.take C++d.toList.reverse:=by
   rw[vA,vA,z8G,z8G,jQ]
  have q:=m.firstB ha hb (λx hx y hy=>hf x (by rw[e] at hx;exact hx) y (wU hy));exact h _ g (by rw[t];exact q.1) (by rw[t];exact q.2)
 kw_lk;kt_k;obtain⟨pz,ez,mz⟩:=z1y (xs:=a) (i:=a.size - 1) (by lia);refine wz (z0g ez ?_);have m0:Mrh rk a.toList b.toList (#[pz]:Array Keyed).toList.reverse (a.size - 1) b.size:=by
  have z:Mrh rk a.toList b.toList [] (a.size - 1+1) b.size:=⟨List.Pairwise.nil,(λx _ y hy=>by cases hy),(λx _ y hy=>by cases hy),by
   rw[show a.size - 1+1=a.toList.length by lia, <- lb,List.take_length,List.take_length,vi]⟩
  have:=z.moveA ha (a.size - 1) (by lia) (by
   rw[z21 (z1B ez)];k_asm;exact hl x (wU hx) y (by
    obtain rfl:=wg.mp hy;rw[vJ (by lia)];have:=z1B ez;rw[wf (by lia)] at this;rw[wQ this];exact wq))
  rw[z21 (z1B ez)] at this;k_ne
 by_cases c1:a.size - 1=0
 .refine z08 (by simpa using c1) ?_;exact wD (fin _ _ _ (gallopOf st) m0 (.inl c1))
 refine z06 (by simpa using c1) ?_
 by_cases c2:b.size=1
 .refine z08 (by simpa using c2) ?_;exact wD (N _ _ _ (gallopOf st) m0 c2)
 refine z06 (by simpa using c2) ?_;k_mem;refine wz (jv (v9
  (I:=λx c f=>∃d C u mg g,c=(none,C,u,d,mg)/\f=z1K st g/\Mrh rk a.toList b.toList d.toList.reverse C u/\0<C/\1<u/\C<a.size/\u<=b.size/\C+u+x+1<=a.size+b.size)
  (Q:=λc f=>∃r n,c=(some r,n)/\Q r f) ?step ?fin ⟨_,_,_,_,gallopOf st,rfl,rfl,m0,by lia,by lia,by lia,by lia,by lia⟩) ?post)
 case post=>
  rintro c f ⟨r,n,rfl,q⟩;exact wD q
 case fin=>
  rintro c f a1;apply el5 (c:=c) (s:=f) a1;intro d C u mg g p1;have m:=p1.1;have i1:=p1.2.1;have i2:=p1.2.2.1;have i3:=p1.2.2.2;clear p1 a1;lia
 case step=>
  rintro x c f _ hx a2;apply el5 (c:=c) (s:=f) a2;intro d C u mg g p2;have m:=p2.1;have i1:=p2.2.1;have i2:=p2.2.2.1;have i3:=p2.2.2.2.1;have i4:=p2.2.2.2.2.1;have i5:=p2.2.2.2.2.2;clear p2 a2;kt_k;refine wz (jv (v9
   (I:=λy c f=>∃d ja jb O R,c=(none,ja,jb,d,O,R)/\f=z1K st g/\Mrh rk a.toList b.toList d.toList.reverse ja jb/\0<ja/\1<jb/\ja<a.size/\jb<=b.size/\ja+jb+y<=C+u)
   (Q:=λc f=>(∃r n,c=(some r,n)/\Q r f)\/∃d ja jb O R,c=(none,ja,jb,d,O,R)/\f=z1K st g/\Mrh rk a.toList b.toList d.toList.reverse ja jb/\0<ja/\1<jb/\ja<a.size/\jb<=b.size/\ja+jb+1<=C+u)
   ?istep ?ifin ⟨_,_,_,_,_,rfl,rfl,m,i1,i2,i3,i4,by lia⟩) ?ipost)
  case ifin=>
   rintro c f a3;apply el5 (c:=c) (s:=f) a3;intro d ja jb O R p3;have m:=p3.1;have V:=p3.2.1;have W:=p3.2.2.1;have j3:=p3.2.2.2.1;have X:=p3.2.2.2.2.1;have j5:=p3.2.2.2.2.2;clear p3 a3;exact .inr ⟨_,_,_,_,_,rfl,rfl,m,V,W,j3,X,by lia⟩
  case istep=>
   rintro y c f _ hy a4;apply el5 (c:=c) (s:=f) a4;intro d ja jb O R p4;have m:=p4.1;have V:=p4.2.1;have W:=p4.2.2.1;have j3:=p4.2.2.2.1;have X:=p4.2.2.2.2.1;have j5:=p4.2.2.2.2.2;clear p4 a4;obtain⟨ja,rfl⟩:∃i,ja=i+1:=⟨ja - 1,by lia⟩
   obtain⟨jb,rfl⟩:∃i,jb=i+1:=⟨jb - 1,by lia⟩
   dsimp only[Nat.add_one_sub_one];obtain⟨Y,eb,mb⟩:=z1y (xs:=b) (i:=jb) (by lia);obtain⟨pa,ea,ma⟩:=z1y (xs:=a) (i:=ja) (by lia);refine wz (z0g eb (wz (z0g ea (wz (z6V hL hk (hmb _ mb) (hma _ ma) ?_)))))
   by_cases hw:rk Y<rk pa
   .refine z08 (by simpa using hw) ?_;tb_any;have m':Mrh rk a.toList b.toList (d.push pa).toList.reverse ja (jb+1):=by
     have:=m.moveA ha ja (by lia) (by
      rw[z21 (z1B ea)];k_asm;obtain rfl:=wg.mp hy;k_qdec;have:=sb j jb (by lia) (by lia) (by lia);rw[z0u eb,z2y e] at this;lia)
     rw[z21 (z1B ea)] at this;k_ne
    by_cases c3:ja=0
    .x_form;exact wD (.inl ⟨_,_,rfl,fin _ _ _ g m' (.inl c3)⟩)
    k_same
    split
    .exact wD (.inr ⟨_,_,_,_,_,rfl,rfl,m',by lia,W,by lia,X,by lia⟩)
    .exact wD ⟨_,_,_,_,_,rfl,rfl,m',by lia,W,by lia,X,by lia⟩
   .refine z06 (by simpa using hw) ?_;ac_nf0;have m':Mrh rk a.toList b.toList (d.push Y).toList.reverse (ja+1) jb:=by
     have:=m.moveB hb jb (by lia) (by
      rw[z21 (z1B eb)];k_asm;obtain rfl:=wg.mp hy;k_qdec;have:=sa j ja (by lia) (by lia) (by lia);rw[z0u ea,z2y e] at this;lia)
     rw[z21 (z1B eb)] at this;k_ne
    by_cases c3:jb=1
    .x_form;exact wD (.inl ⟨_,_,rfl,N _ _ _ g m' c3⟩)
    k_same
    split
    .exact wD (.inr ⟨_,_,_,_,_,rfl,rfl,m',V,by lia,by lia,by lia,by lia⟩)
    .exact wD ⟨_,_,_,_,_,rfl,rfl,m',V,by lia,by lia,by lia,by lia⟩
  case ipost=>
   rintro c f (hA | a5)
   .obtain⟨r,n,rfl,q⟩:=hA;obtain⟨r1,r2,r3,r4,r5⟩:=n;exact wD ⟨_,_,rfl,q⟩
   apply el5 (c:=c) (s:=f) a5;intro d S kb O R p5;have m:=p5.1;have V:=p5.2.1;have W:=p5.2.2.1;have j3:=p5.2.2.2.1;have X:=p5.2.2.2.2.1;have j5:=p5.2.2.2.2.2;clear p5 a5;kt_k;kw_lk;refine wz (jv (v9
    (I:=λy c f=>∃d ja jb mg O R g,c=(none,ja,jb,d,mg,O,R)/\f=z1K st g/\Mrh rk a.toList b.toList d.toList.reverse ja jb/\0<ja/\1<jb/\ja<a.size/\jb<=b.size/\ja+jb+1<=C+u)
    (Q:=λc f=>(∃r n,c=(some r,n)/\Q r f)\/∃d ja jb mg O R g,c=(none,ja,jb,d,mg,O,R)/\f=z1K st g/\Mrh rk a.toList b.toList d.toList.reverse ja jb/\0<ja/\1<jb/\ja<a.size/\jb<=b.size/\ja+jb+1<=C+u)
    ?gstep ?gfin ⟨_,_,_,_,_,_,g,rfl,rfl,m,V,W,j3,X,j5⟩) ?gpost)
   case gfin=>
    rintro c f z;exact .inr z
   case gpost=>
    rintro c f (hA | a6)
    .obtain⟨r,n,rfl,q⟩:=hA;obtain⟨r1,r2,r3,r4,r5,r6⟩:=n;exact wD ⟨_,_,rfl,q⟩
    apply el7 (c:=c) (s:=f) a6;intro d S kb mg O R g p6;have m:=p6.1;have V:=p6.2.1;have W:=p6.2.2.1;have j3:=p6.2.2.2.1;have X:=p6.2.2.2.2.1;have j5:=p6.2.2.2.2.2;clear p6 a6;kt_k;kpc_if;rw[z1t];refine wz (jz (wD ⟨_,_,_,_,mg+1,rfl,rfl,m,V,W,j3,X,by lia⟩))
   case gstep=>
    clear m V W j3 X j5 d S kb O R g;rintro y c f _ hy a7;apply el7 (c:=c) (s:=f) a7;intro d ja jb mg O R g p7;have m:=p7.1;have V:=p7.2.1;have W:=p7.2.2.1;have j3:=p7.2.2.2.1;have X:=p7.2.2.2.2.1;have j5:=p7.2.2.2.2.2;clear p7 a7;obtain⟨jb,rfl⟩:∃i,jb=i+1:=⟨jb - 1,by lia⟩
    dsimp only[Nat.add_one_sub_one];obtain⟨Y,eb,mb⟩:=z1y (xs:=b) (i:=jb) (by lia);refine zgp (α:=Nat) (P := ?pp1) ?tl1 ?us1
    case us1=>
     intro J
     by_cases cg:mg > 1
     .refine z08 cg ?_;generalize mg - 1=F;exact J F
     .refine z06 cg ?_;exact J mg
    intro F;kpc_if;rw[z1t];refine wz (jz ?_);ac_nf0;z_run;simp only[j6] at g1 g2;kt_k;have mA:Mrh rk a.toList b.toList ((a.toList.take ja).drop k++d.toList.reverse) k (jb+1):=m.moveA ha k hk1 (by
     k_asm;obtain⟨i,hi,a9,e⟩:=z9Z hx;obtain⟨j,hj,hj2,b0,e2⟩:=zdH hy;have q1:=g2 j hj hj2;have q2:=sb i jb (by lia) (by lia) (by lia);rw[z2y e2] at q1;rw[z0u eb,z2y e] at q2;lia)
    have a0:z2d rk (a.toList.take k) [Y]:=by
     k_asm;obtain rfl:=wg.mp hy;k_qdec;have:=g1 j hj;rw[z2y e] at this;lia
    refine zcC (H:=λ(S:Nat) (o:Array Keyed)=>0<S/\S<=ja/\Mrh rk a.toList b.toList o.toList.reverse S (jb+1)/\z2d rk (a.toList.take S) [Y]) (P := ?pp2) ?tl2 ?us2
    case us2=>
     intro J;have U:=hk1;have hg:=a0
     by_cases c3:ja - k > 0
     .refine z08 c3 ?_;have T:Mrh rk a.toList b.toList (d++(a.extract k ja).reverse).toList.reverse k (jb+1):=by
       rw[vA,List.reverse_append,jQ,List.reverse_reverse,z2B, <- List.drop_take];exact mA
      by_cases c4:k=0
      .refine z08 (by simpa using c4) ?_;exact wD (.inl ⟨_,_,rfl,fin _ _ _ F T (.inl c4)⟩)
      refine z06 (by simpa using c4) ?_;generalize d++(a.extract k ja).reverse=o at T ⊢;generalize k=S at T hg U c4 ⊢;exact J S o ⟨by lia,U,T,hg⟩
     .refine z06 c3 ?_;obtain rfl:k=ja:=by lia
      exact J k d ⟨by lia,by lia,m,hg⟩
    clear mA a0 g1 g2;rintro S o ⟨kl,kn,T,a0⟩;ac_nf0;have mB:Mrh rk a.toList b.toList (o.push Y).toList.reverse S jb:=by
     have:=T.moveB hb jb (by lia) (by rw[z21 (z1B eb)];exact a0);rw[z21 (z1B eb)] at this;k_ne
    by_cases c6:jb=1
    case pos=>
     refine z08 (by simpa using c6) ?_;exact wD (.inl ⟨_,_,rfl,N _ _ _ F mB c6⟩)
    refine z06 (by simpa using c6) ?_;obtain⟨kc,a8⟩:∃i,S=i+1:=⟨S - 1,by lia⟩
    subst a8;dsimp only[Nat.add_one_sub_one];obtain⟨pa,ea,ma⟩:=z1y (xs:=a) (i:=kc) (by lia);tb_any;w_why;simp only[j6] at f1 f2;kt_k;have mC:Mrh rk a.toList b.toList ((b.toList.take jb).drop l++(o.push Y).toList.reverse) (kc+1) l:=mB.moveB hb l hl1 (by
     k_asm;obtain⟨i,hi,a9,e⟩:=z9Z hx;obtain⟨j,hj,hj2,b0,e2⟩:=zdH hy;have q1:=f2 j hj hj2;have q2:=sa i kc (by lia) (by lia) (by lia);rw[z2y e2] at q1;rw[z0u ea,z2y e] at q2;lia)
    have G:z2d rk (b.toList.take l) [pa]:=by
     k_asm;obtain rfl:=wg.mp hy;k_qdec;have:=f1 j hj;rw[z2y e] at this;lia
    refine zcC (H:=λ(kb:Nat) (K:Array Keyed)=>1<kb/\kb<=jb/\Mrh rk a.toList b.toList K.toList.reverse (kc+1) kb/\z2d rk (b.toList.take kb) [pa]) (P := ?pp3) ?tl3 ?us3
    case us3=>
     intro J;have U:=hl1;have hg:=G
     by_cases c7:jb - l > 0
     .refine z08 c7 ?_;have L:Mrh rk a.toList b.toList (o.push Y++(b.extract l jb).reverse).toList.reverse (kc+1) l:=by
       rw[vA,List.reverse_append,jQ,List.reverse_reverse,z2B, <- List.drop_take];exact mC
      by_cases c8:l=1
      .refine z08 (by simpa using c8) ?_;exact wD (.inl ⟨_,_,rfl,N _ _ _ F L c8⟩)
      refine z06 (by simpa using c8) ?_
      by_cases Z:l=0
      .refine z08 (by simpa using Z) ?_;exact wD (.inl ⟨_,_,rfl,fin _ _ _ F L (.inr Z)⟩)
      refine z06 (by simpa using Z) ?_;generalize o.push Y++(b.extract l jb).reverse=K at L ⊢;generalize l=kb at L hg U c8 Z ⊢;exact J kb K ⟨by lia,U,L,hg⟩
     .refine z06 c7 ?_;obtain rfl:l=jb:=by lia
      exact J l (o.push Y) ⟨by lia,by lia,mB,G⟩
    clear mC G f1 f2;rintro kb K ⟨b1,b2,L,G⟩;tb_any;have mD:Mrh rk a.toList b.toList (K.push pa).toList.reverse kc kb:=by
     have:=L.moveA ha kc (by lia) (by rw[z21 (z1B ea)];exact G);rw[z21 (z1B ea)] at this;k_ne
    by_cases c9:kc=0
    case pos=>
     refine z08 (by simpa using c9) ?_;exact wD (.inl ⟨_,_,rfl,fin _ _ _ F mD (.inl c9)⟩)
    refine z06 (by simpa using c9) ?_
    split
    .exact wD (.inr ⟨_,_,_,_,_,_,F,rfl,rfl,mD,by lia,by lia,by lia,by lia,by lia⟩)
    .exact wD ⟨_,_,_,_,_,_,F,rfl,rfl,mD,by lia,by lia,by lia,by lia,by lia⟩
def Runs (rk:Keyed->Nat)(xs:Array Keyed):List (Nat × Nat)->Nat->Nat->Prop
 | [],i,j=>i=j
 | (b,n)::r,i,j=>b=i/\1<=n/\Seg rk xs i (i+n)/\Runs rk xs r (i+n) j
theorem Runs.le {xs:Array Keyed}:∀{l:List (Nat × Nat)}{i j:Nat},Runs rk xs l i j->i+l.length<=j
 | [],i,j,h=>by cases h;simp
 | (b,n)::r,i,j,h=>by
  have:=Runs.le h.2.2.2;have:=h.2.1;simp only[wI];lia
theorem Runs.app {xs:Array Keyed}:∀{l m:List (Nat × Nat)}{i j:Nat},Runs rk xs (l++m) i j↔∃k,Runs rk xs l i k/\Runs rk xs m k j
 | [],m,i,j=>⟨λh=>⟨i,rfl,h⟩,λ⟨k,h,g⟩=>by cases h;exact g⟩
 | (b,n)::r,m,i,j=>by
  o_rec
  .rintro⟨a,d,e,f⟩;obtain⟨k,o,p⟩:=Runs.app.mp f;exact⟨k,⟨a,d,e,o⟩,p⟩
  .rintro⟨k,⟨a,d,e,f⟩,q⟩;exact⟨a,d,e,Runs.app.mpr ⟨k,f,q⟩⟩
def Seg.congr {xs ys:Array Keyed}{i j:Nat}(e:∀k,i<=k->k<j->ys[k]? = xs[k]?)(h:Seg rk xs i j):Seg rk ys i j:=λp q a d b=>by
 rw[z1m (e p a (by lia)),z1m (e q (by lia) b)];exact h p q a d b
theorem Runs.congr {xs ys:Array Keyed}:∀{l:List (Nat × Nat)}{i j:Nat},(∀k,i<=k->k<j->ys[k]? = xs[k]?)->Runs rk xs l i j->Runs rk ys l i j
 | [],_,_,_,h=>h
 | (b,n)::r,i,j,e,h=>by
  have:=Runs.le h.2.2.2;exact⟨h.1,h.2.1,h.2.2.1.congr λk a d=>e k a (by lia),Runs.congr (λk a d=>e k (by lia) d) h.2.2.2⟩
def prs (p:Array (Nat × Nat × Nat)):List (Nat × Nat):=p.toList.map λr=>(r.1,r.2.1)
def zaW (p:Array (Nat × Nat × Nat)):(prs p).length=p.size:=by simp[prs]
theorem zfj (i:Nat):∀(m:List Keyed) (n:Nat) (b:Array Keyed),i+n+m.length<=b.size->
  ((m.zipIdx n).foldl (λa x=>match x with | (p,j)=>a.setIfInBounds (i+j) p) b).size=b.size/\
  ∀k,((m.zipIdx n).foldl (λa x=>match x with | (p,j)=>a.setIfInBounds (i+j) p) b)[k]? = if i+n<=k/\k<i+n+m.length then m[k - (i+n)]? else b[k]?
 | [],n,b,_=>⟨rfl,λk=>by rw[if_neg (by simp)];rfl⟩
 | x::m,n,b,h=>by
  simp only[wI] at h;have e:=zfj i m (n+1) (b.setIfInBounds (i+n) x) (by rw[Array.size_setIfInBounds];lia);rw[List.zipIdx_cons,List.foldl_cons];refine⟨e.1.trans Array.size_setIfInBounds,λk =>?_⟩;rw[e.2 k];simp only[wI]
  by_cases d:i+(n+1)<=k/\k<i+(n+1)+m.length
  .rw[if_pos d,if_pos (by lia),show k - (i+n)=k - (i+(n+1))+1 by lia,uJ]
  .rw[if_neg d]
   by_cases f:k=i+n
   .subst f;rw[if_pos (by lia),Nat.sub_self,Array.getElem?_setIfInBounds_self_of_lt (by lia)];rfl
   .rw[if_neg (by lia),Array.getElem?_setIfInBounds_ne (by lia)]
def z56 (hL:Asks M A s κ a₀ rk){st:SortSt}{i hi:Nat}{Q:Bool->SortSt->Prop}(hB:TB κ a₀ st)(hr:Runs rk (arrOf st) (prs (pendingOf st)) 0 hi)(b4:hi<=a₀.size)(U:i+1<(pendingOf st).size)
  (h:∀st',TB κ a₀ st'->Runs rk (arrOf st') (prs (pendingOf st')) 0 hi->(pendingOf st').size+1=(pendingOf st).size->(∀k,hi<=k->(arrOf st')[k]? = (arrOf st)[k]?)->Q true st'):
  wpS M A E s (mergeAt' i) Q st:=by
 obtain⟨kd,X,P,G,F⟩:=st
 replace U:i+1<P.size:=U
 replace h:∀st',TB κ a₀ st'->Runs rk (arrOf st') (prs (pendingOf st')) 0 hi->(pendingOf st').size+1=P.size->(∀k,hi<=k->(arrOf st')[k]? = X[k]?)->Q true st':=h
 obtain⟨⟨b,na,H⟩,ep⟩:∃v,P[i]? = some v:=⟨_,ul _ i (by lia)⟩
 obtain⟨⟨sb,m,a5⟩,a2⟩:∃v,P[i+1]? = some v:=⟨_,ul _ (i+1) U⟩
 obtain⟨N,l2,el,ll⟩:∃N l2,P.toList=N++(b,na,H)::(sb,m,a5)::l2/\N.length=i:=by
  have T:P.toList[i]? = some (b,na,H):=by rw[w6];exact ep
  have e2:P.toList[i+1]? = some (sb,m,a5):=by rw[w6];exact a2
  obtain⟨q1,r1⟩:=wo.mp T;obtain⟨q2,r2⟩:=wo.mp e2;refine⟨P.toList.take i,P.toList.drop (i+2),?_,by rw[w8];lia⟩;rw[<- r1, <- r2, <- vJ q2, <- vJ q1,vH]
 have Y:Runs rk X (prs P) 0 hi:=hr;unfold prs at Y;rw[el,wv,wC,wC] at Y;obtain⟨k0,r1,r2⟩:=Runs.app.mp Y;obtain⟨f1,f2,K,f4,f5,C,f7⟩:=r2;dsimp only at f1 f2 K f4 f5 C f7;subst f1;subst f4;have b3:=Runs.le f7;have b7:X.size=a₀.size:=hB.size;have u:(P.setIfInBounds i (b,na+m,H)).eraseIdxIfInBounds (i+1)=(N++(b,na+m,H)::l2).toArray:=by
  apply Array.toList_inj.mp;rw[Array.toList_eraseIdxIfInBounds,Array.toList_setIfInBounds,el, <- ll,List.set_append_right _ _ (ww _),Nat.sub_self,List.set_cons_zero,List.eraseIdx_append_of_length_le (by lia),show N.length+1 - N.length=1 by lia]
  rfl
 have b1:P.size=N.length+l2.length+2:=by
  rw[<- vg,el,wB,wI,wI];lia
 have fin:∀(st':SortSt),TB κ a₀ st'->pendingOf st'=(P.setIfInBounds i (b,na+m,H)).eraseIdxIfInBounds (i+1)->Seg rk (arrOf st') b (b+na+m)->(∀k,k<b\/b+na+m<=k->(arrOf st')[k]? = X[k]?)->Q true st':=by
  intro st' b0 a3 b2 ho;refine h st' b0 ?_ ?_ (λk hk=>ho k (.inr (by lia)))
  .rw[a3,u];unfold prs;rw[wv,wC];refine Runs.app.mpr ⟨b,r1.congr (λk _ hk=>ho k (.inl hk)),rfl,(by show 1<=na+m;lia),?_,?_⟩
   .rw[show b+(na+m)=b+na+m by lia];exact b2
   .rw[show b+(na+m)=b+na+m by lia];exact f7.congr (λk hk _=>ho k (.inr hk))
  .rw[a3,u,b1];show (N++(b,na+m,H)::l2).length+1=_;rw[wB,wI];lia
 k_mem;rw[ep,a2];kt_k;refine wz ?_;show wpS M A E s (set (setPending (SortSt.mk' kd X P G F) ((P.setIfInBounds i (b,na+m,H)).eraseIdxIfInBounds (i+1))):StateT SortSt Sem PUnit) _ (SortSt.mk' kd X P G F);obtain⟨st1,T⟩:∃st1:SortSt,st1=setPending (SortSt.mk' kd X P G F) ((P.setIfInBounds i (b,na+m,H)).eraseIdxIfInBounds (i+1)):=⟨_,rfl⟩
 rw[<- T];have a4:∀(R:PUnit->SortSt->Prop),R ⟨⟩ st1->wpS M A E s (set st1:StateT SortSt Sem PUnit) R (SortSt.mk' kd X P G F):=λR hR=>by
  unfold wpS;rw[StateT.run_set];exact wm ⟨rfl,hR⟩
 refine a4 _ ?_;have a1:arrOf st1=X:=by rw[T]
 have p1:pendingOf st1=(P.setIfInBounds i (b,na+m,H)).eraseIdxIfInBounds (i+1):=by rw[T]
 have f:TB κ a₀ st1:=by rw[T];exact⟨hB.kind,hB.failed,hB.perm⟩
 clear T;have e:∀p∈X.toList,p∈a₀.toList:=λp hp=>hB.mem (st:=SortSt.mk' kd X P G F) hp;obtain⟨qb,eb,mb⟩:=z1y (xs:=X) (i:=b+na) (by lia);ac_nf0;refine wz (z6c hL f.kind (e _ mb) e (by lia) (by lia) K λk b5 g1 g2 =>?_);kt_k
 by_cases c1:na - k=0
 .rw[if_pos (by simpa using c1)];obtain rfl:k=na:=by lia
  refine wD (fin st1 f p1 (λp q I t z =>?_) (λk _=>by rw[a1]));rw[a1]
  by_cases y1:q<b+k
  .exact K p q I t y1
  .by_cases y2:b+k<=p
   .exact C p q y2 t z
   .have o:=g1 (p - b) (by lia);have J:=C (b+k) q (by lia) (by lia) z;rw[show b+(p - b)=p by lia] at o;rw[z0u eb] at J;lia
 rw[if_neg (by simpa using c1)];rw[show b+k+(na - k) - 1=b+na - 1 by lia];obtain⟨qa,ea,ma⟩:=z1y (xs:=X) (i:=b+na - 1) (by lia);tb_any;refine wz (z6d hL f.kind (e _ ma) e (by lia) (by lia) C λl b6 u1 u2 =>?_);kt_k
 by_cases c2:l=0
 .rw[if_pos (by simpa using c2)];refine wD (fin st1 f p1 (λp q I t z =>?_) (λk _=>by rw[a1]));rw[a1]
  by_cases y1:q<b+na
  .exact K p q I t y1
  .by_cases y2:b+na<=p
   .exact C p q y2 t z
   .have o:=u2 (q - (b+na)) (by lia) (by lia);have J:=K p (b+na - 1) I (by lia) (by lia);rw[show b+na+(q - (b+na))=q by lia] at o;rw[z0u ea] at J;lia
 rw[if_neg (by simpa using c2)];have back:∀(r:Array Keyed) (g:Nat),Up rk r.toList->r.toList.Perm ((X.extract (b+k) (b+na)).toList++(X.extract (b+na) (b+na+l)).toList)->
   ∀(d:Array Keyed),d=r.toList.zipIdx.foldl (λa x=>match x with | (p,j)=>a.setIfInBounds (b+k+j) p) X->Q true (setArr (z1K st1 g) d):=by
  intro r g Z rp d a0;have rl:r.toList.length=na - k+l:=by
   rw[rp.length_eq,wB,vg,vg,jE,jE];lia
  have w:=zfj (b+k) r.toList 0 X (by lia);rw[<- a0] at w;simp only[Nat.add_zero,rl] at w;rw[show b+k+(na - k+l)=b+na+l by lia] at w;have rm:∀x∈r.toList,Rk rk X (b+na)<=rk x/\rk x<=Rk rk X (b+na - 1):=by
   intro x hx
   rcases wp.mp (rp.mem_iff.mp hx) with hx | hx
   .rw[z2B] at hx;obtain⟨j,j1,j2,L⟩:=z48 hx;have o:=g2 (k+j) (by lia) (by lia);have J:=K (b+k+j) (b+na - 1) (by lia) (by lia) (by lia);rw[show b+(k+j)=b+k+j by lia,z2y L] at o;rw[z2y L] at J;rw[z0u eb];lia
   .rw[z2B] at hx;obtain⟨j,j1,j2,L⟩:=z48 hx;have o:=u1 j (by lia);have J:=C (b+na) (b+na+j) (by lia) (by lia) (by lia);rw[z2y L] at o J;rw[z0u ea];lia
  have n:∀p,p<b+k\/b+na+l<=p->d[p]? = X[p]? := λp hp=>by rw[w.2 p,if_neg (by lia)]
  have S:∀p,b+k<=p->p<b+na+l->∃x,x∈r.toList/\r.toList[p - (b+k)]? = some x/\Rk rk d p=rk x:=λp h1 h2=>by
   have V:p - (b+k)<r.toList.length:=by lia
   refine⟨r.toList[p - (b+k)],uv V,wf V,z0u ?_⟩;rw[w.2 p,if_pos ⟨h1,h2⟩,wf V]
  have W:d.Perm X:=by
   apply uU.mpr;have ex:d.toList=X.toList.take (b+k)++(r.toList++X.toList.drop (b+na+l)):=by
    apply jN;intro p;rw[w6,w.2 p,List.getElem?_append,w8,vg,Wc (by lia)]
    by_cases h1:p<b+k
    .rw[if_neg (by lia),if_pos h1,List.getElem?_take,if_pos h1,w6]
    .rw[if_neg h1,List.getElem?_append,rl]
     by_cases h2:p<b+na+l
     .rw[if_pos (by lia),if_pos (by lia)]
     .rw[if_neg (by lia),if_neg (by lia),List.getElem?_drop,w6]
      congr 1;lia
   have ey:X.toList=X.toList.take (b+k)++(((X.extract (b+k) (b+na)).toList++(X.extract (b+na) (b+na+l)).toList)++X.toList.drop (b+na+l)):=by
    rw[z2B,z2B];have d1:=z55 X.toList (b+k) (b+na - (b+k));have d2:=z55 X.toList (b+na) (b+na+l - (b+na));rw[show b+k+(b+na - (b+k))=b+na by lia] at d1;rw[show b+na+(b+na+l - (b+na))=b+na+l by lia] at d2;rw[wS, <- d2, <- d1,vH]
   rw[ex]
   conv=>rhs;rw[ey]
   exact v5 _ (jC _ rp)
  refine fin _ ⟨f.kind,f.failed,W.trans hB.perm⟩ p1 (λp q I t z =>?_) (λp hp=>n p (by lia));show Rk rk d p<=Rk rk d q
  by_cases p2:p<b+k
  .rw[z1m (n p (.inl p2))]
   by_cases q2:q<b+k
   .rw[z1m (n q (.inl q2))];exact K p q I t (by lia)
   .have o:=g1 (p - b) (by lia);rw[show b+(p - b)=p by lia] at o
    by_cases q3:q<b+na+l
    .obtain⟨x,xm,_,xr⟩:=S q (by lia) q3;rw[xr];have:=(rm x xm).1;rw[z0u eb] at this;lia
    .rw[z1m (n q (.inr (by lia)))];have:=C (b+na) q (by lia) (by lia) z;rw[z0u eb] at this;lia
  .by_cases p3:p<b+na+l
   .obtain⟨x,xm,xi,xr⟩:=S p (by lia) p3;rw[xr]
    by_cases q3:q<b+na+l
    .obtain⟨y,ym,yi,yr⟩:=S q (by lia) q3;rw[yr]
     by_cases a9:p=q
     .subst a9;rw[xi] at yi;cases yi;exact ww _
     .obtain⟨v1,w1⟩:=wo.mp xi;obtain⟨v2,w2⟩:=wo.mp yi;have:=vh.mp Z (p - (b+k)) (q - (b+k)) v1 v2 (by lia);rw[w1,w2] at this;exact this
    .rw[z1m (n q (.inr (by lia)))];have o:=(rm x xm).2;have J:=u2 (q - (b+na)) (by lia) (by lia);rw[show b+na+(q - (b+na))=q by lia] at J;rw[z0u ea] at o;lia
   .rw[z1m (n p (.inr (by lia))),z1m (n q (.inr (by lia)))];exact C p q (by lia) t z
 have a7:Up rk (X.extract (b+k) (b+na)).toList:=zaA (λp q I t z=>K p q (by lia) t z) (by lia);have a8:Up rk (X.extract (b+na) (b+na+l)).toList:=zaA (λp q I t z=>C p q I t (by lia)) (by lia);have a6:(X.extract (b+k) (b+na)).size=na - k:=by rw[jE];lia
 have b8:(X.extract (b+na) (b+na+l)).size=l:=by rw[jE];lia
 have mx:∀p∈(X.extract (b+k) (b+na)).toList,p∈a₀.toList:=λp hp=>e p (by rw[z2B] at hp;exact uH (wU hp));have my:∀p∈(X.extract (b+na) (b+na+l)).toList,p∈a₀.toList:=λp hp=>e p (by rw[z2B] at hp;exact uH (wU hp));have c3:z2d rk ((X.extract (b+na) (b+na+l)).toList.take 1) (X.extract (b+k) (b+na)).toList:=by
  k_asm;rw[z2B] at hx hy;rw[List.take_take] at hx;obtain⟨i1,j1,j2,L⟩:=z48 hx;obtain⟨i2,k1,k2,ke⟩:=z48 hy;have o:=g2 (k+i2) (by lia) (by lia);rw[show b+(k+i2)=b+k+i2 by lia,z2y ke] at o;obtain rfl:i1=0:=by lia
  have z3:Rk rk X (b+na)=rk x:=z2y L;rw[z0u eb] at z3;lia
 have c4:z2d rk (X.extract (b+na) (b+na+l)).toList ((X.extract (b+k) (b+na)).toList.drop ((X.extract (b+k) (b+na)).size - 1)):=by
  k_asm;rw[z2B] at hx;obtain⟨i1,j1,j2,L⟩:=z48 hx;rw[a6] at hy;obtain⟨i2,k2,ke⟩:=z8k hy;rw[vg,a6] at k2;obtain rfl:i2=0:=by lia
  have o:=u1 i1 (by lia);rw[z2y L] at o;rw[w6,Array.getElem?_extract,if_pos (by lia),show b+k+(na - k - 1+0)=b+na - 1 by lia,ea] at ke
  cases ke
  lia
 have O:∀(r:Array Keyed) (g:Nat),Up rk r.toList->r.toList.Perm ((X.extract (b+k) (b+na)).toList++(X.extract (b+na) (b+na+l)).toList)->
   Q ((failedOf st1).isNone) (setArr (z1K st1 g) (r.toList.zipIdx.foldl (λa x=>match x with | (p,j)=>a.setIfInBounds (b+k+j) p) (arrOf st1))):=λr g Z rp=>by
  rw[f.failed,a1];exact back r g Z rp _ rfl
 by_cases c5:na - k<=l
 .rw[if_pos c5];refine wz (z7Y hL f.kind mx my a7 a8 (by lia) (by lia) c3 c4 λr g Z rp =>?_);exact wz (jz (wz (wpS_get (wD (O r g Z rp)))))
 .rw[if_neg c5];refine wz (z7Z hL f.kind mx my a7 a8 (by lia) (by lia) c3 c4 λr g Z rp =>?_);exact wz (jz (wz (wpS_get (wD (O r g Z rp)))))
def zew (p:Array (Nat × Nat × Nat))(i w:Nat):prs (p.modify i λx=>match x with | (st,len,_)=>(st,len,w))=prs p:=by
 unfold prs;rw[Array.toList_modify];apply jN;intro k;rw[wN,wN,List.getElem?_modify]
 cases p.toList[k]? with
 | none=>rfl
 | some v=>
  obtain⟨a,b,d⟩:=v
  by_cases e:i=k <;> simp[e]
def zex {c:Prop}[Decidable c]{n:Nat}(h:1<n):(if c then n - 2 - 1 else n - 2)+1<n:=by
 split <;> lia
def zcz (p:Array (Nat × Nat × Nat))(v:Nat × Nat × Nat):prs (p.push v)=prs p++[(v.1,v.2.1)]:=by
 unfold prs;rw[Array.toList_push,wv];rfl
set_option tactic.hygienic true in
def z6U (hL:Asks M A s κ a₀ rk){st:SortSt}{Q:Unit->SortSt->Prop}(hB:TB κ a₀ st)(hp:pendingOf st = #[])(h1:1<=a₀.size)
  (h:∀g,TB κ a₀ g->Seg rk (arrOf g) 0 a₀.size->Q () g):wpS M A E s sortRuns' Q st:=by
 k_mem;kt_k;have hz:(PyProof.Rows.arrOf st).size=a₀.size:=hB.size;rw[hz];obtain⟨mr,H⟩:∃mr,minRun' a₀.size a₀.size 0=mr:=⟨_,rfl⟩
 delta minRun' at H
 rw[H];refine wz (jv (v9
  (I:=λx c g=>∃lo,c=(none,lo)/\TB κ a₀ g/\Runs rk (arrOf g) (prs (pendingOf g)) 0 lo/\lo<=a₀.size/\x<=lo)
  (Q:=λc g=>c=(none,a₀.size)/\TB κ a₀ g/\Runs rk (arrOf g) (prs (pendingOf g)) 0 a₀.size) ?step ?fin ⟨0,rfl,hB,by rw[hp];exact rfl,by lia,by lia⟩) ?post)
 case fin=>
  rintro c g K;apply elc1 (c:=c) K;intro lo Z;have l:=Z.1;have j:=Z.2.1;have l1:=Z.2.2.1;have l2:=Z.2.2.2;clear Z K;obtain rfl:lo=a₀.size:=by lia
  exact⟨rfl,l,j⟩
 case step=>
  rintro x c g _ hx L;apply elc1 (c:=c) L;intro lo p2;have l:=p2.1;have j:=p2.2.1;have l1:=p2.2.2.1;have l2:=p2.2.2.2;clear p2 L;kt_k
  by_cases c1:lo>=a₀.size
  .refine z08 c1 ?_;obtain rfl:lo=a₀.size:=by lia
   exact wD ⟨rfl,l,j⟩
  refine z06 c1 ?_;refine wz (z6W hL (by lia) (by lia) l λm F J a3 m1 m2 Y a0 =>?_);kt_k;have X:Runs rk (arrOf F) (prs (pendingOf F)) 0 lo:=by rw[a3];exact j.congr (λk _ V=>a0 k V)
  by_cases c2:m<mr
  case' pos=>
   refine z08 c2 ?_;kw_lk;refine wz (z5A hL (by lia) (by lia) m1 J Y λi p a4 o a1 =>?_);refine z06 (by decide) ?_;have t:Runs rk (arrOf i) (prs (pendingOf i)) 0 lo:=by rw[a4];exact X.congr (λk _ V=>a1 k V)
   obtain⟨n,G,n1,n2⟩:∃n,n=min (a₀.size - lo) mr/\1<=n/\lo+n<=a₀.size:=⟨_,rfl,by lia,by lia⟩
   rw[<- G] at o ⊢;clear G
  case' neg=>
   refine z06 c2 ?_;obtain⟨n,G,n1,n2⟩:∃n,n=m/\1<=n/\lo+n<=a₀.size:=⟨_,rfl,by lia,by lia⟩
   obtain⟨i,e2,p,t⟩:∃i,i=F/\TB κ a₀ i/\Runs rk (arrOf i) (prs (pendingOf i)) 0 lo:=⟨_,rfl,J,X⟩
   have o:Seg rk (arrOf i) lo (lo+n):=by rw[e2,G];exact Y
   rw[<- G, <- e2];clear G e2
  all_goals
   k_mem;have push:∀a,TB κ a₀ a->Runs rk (arrOf a) (prs (pendingOf a)) 0 lo->Seg rk (arrOf a) lo (lo+n)->TB κ a₀ (setPending a ((pendingOf a).push (lo,n,0)))/\Runs rk (arrOf a) (prs ((pendingOf a).push (lo,n,0))) 0 (lo+n):=λa d e f=>by
    refine⟨⟨d.kind,d.failed,d.perm⟩,?_⟩;rw[zcz];exact Runs.app.mpr ⟨lo,e,rfl,n1,f,rfl⟩
   split
   .rename_i s1 C w eb
    refine wz (jv (v9 (I:=λy c a=>c=(none,())/\TB κ a₀ a/\Runs rk (arrOf a) (prs (pendingOf a)) 0 lo/\Seg rk (arrOf a) lo (lo+n))
     (Q:=λc a=>c=(none,())/\TB κ a₀ a/\Runs rk (arrOf a) (prs (pendingOf a)) 0 lo/\Seg rk (arrOf a) lo (lo+n)) ?istep (λ_ _ z=>z) ⟨rfl,p,t,o⟩) ?ipost)
    case istep=>
     rintro y c a _ _ N;apply elc0 (c:=c) N;intro p3;have d:=p3.1;have e:=p3.2.1;have f:=p3.2.2;clear p3 N;k_mem
     split
     .rename_i f1 f2 a8 eo
      split
      .exact wD ⟨rfl,d,e,f⟩
      .have a6:(pendingOf a).size > 1:=by
        by_cases q:(pendingOf a).size > 1
        .f_int
        .rw[if_neg q] at eo;cases eo
       refine wz (z56 hL d e l1 (by show (pendingOf a).size - 2+1<(pendingOf a).size;lia) λa5 r u _ W =>?_);refine z06 (by decide) ?_;exact wD ⟨rfl,r,u,f.congr λk V _=>W k V⟩
     .exact wD ⟨rfl,d,e,f⟩
    case ipost=>
     rintro c a O;apply elc0 (c:=c) O;intro p4;have d:=p4.1;have e:=p4.2.1;have f:=p4.2.2;clear p4 O;kt_k;refine wz (jz (wz (jz (wD ?_))));have:=push (setPending a ((pendingOf a).modify ((pendingOf a).size - 1) λx=>match x with | (st,len,_)=>(st,len,power' a₀.size (2*s1+C) (2*s1+C+C+n) a₀.size))) ⟨d.kind,d.failed,d.perm⟩ (by
      show Runs rk (arrOf a) (prs ((pendingOf a).modify _ _)) 0 lo;rw[zew];exact e) f
     exact⟨lo+n,rfl,this.1,this.2,n2,by lia⟩
   .have:=push i p t o;exact wz (jz (wD ⟨lo+n,rfl,this.1,this.2,n2,by lia⟩))
 case post=>
  rintro c g R;apply elc0 (c:=c) R;intro p5;have l:=p5.1;have j:=p5.2;clear p5 R;kt_k;have a2:=j.le;rw[zaW] at a2;refine wz (jv (v9 (I:=λy c a=>c=(none,())/\TB κ a₀ a/\Runs rk (arrOf a) (prs (pendingOf a)) 0 a₀.size/\((pendingOf a).size<=1\/(pendingOf a).size+y<=a₀.size))
   (Q:=λc a=>c=(none,())/\TB κ a₀ a/\Runs rk (arrOf a) (prs (pendingOf a)) 0 a₀.size/\(pendingOf a).size<=1) ?fstep ?ffin ⟨rfl,l,j,.inr (by lia)⟩) ?fpost)
  case ffin=>
   rintro c a S;apply elc0 (c:=c) S;intro p6;have d:=p6.1;have e:=p6.2.1;have f:=p6.2.2;clear p6 S;exact⟨rfl,d,e,by lia⟩
  case fpost=>
   rintro c a T;apply elc0 (c:=c) T;intro p7;have d:=p7.1;have e:=p7.2.1;have f:=p7.2.2;clear p7 T;refine wD (h a d ?_);rw[<- zaW] at f
   match hl:prs (pendingOf a),e,f with
   | [],e,_=>have:0=a₀.size:=e;lia
   | [(b,n)],e,_=>
    obtain⟨q1,q2,q3,q4⟩:=e;have:0+n=a₀.size:=q4;rw[<- this];exact q3
   | _::_::_,_,f=>simp at f
  case fstep=>
   rintro y c a _ _ U;apply elc0 (c:=c) U;intro p8;have d:=p8.1;have e:=p8.2.1;have f:=p8.2.2;clear p8 U;k_mem
   by_cases c3:(pendingOf a).size<=1
   .refine z08 c3 ?_;exact wD ⟨rfl,d,e,c3⟩
   .refine z06 c3 ?_;refine wz (z56 hL d e (ww _) ?_ λa5 r u a7 W =>?_)
    .show (if _ then (pendingOf a).size - 2 - 1 else (pendingOf a).size - 2)+1<(pendingOf a).size;exact zex (by lia)
    .refine z06 (by decide) ?_;exact wD ⟨rfl,r,u,by lia⟩
end
open PySem.W HT
def rkL (l:List (List Int))(k:List Int):Nat:=l.countP λq=>z0B q k
def z7K {α:Type}{p q:α->Bool}{l:List α}(h:∀x,p x=true->q x=true){a:α}(b:a∈l)(hp:p a=false)(e:q a=true):l.countP p<l.countP q:=by
 induction l with
 | nil=>cases b
 | cons y l g=>
  rw[List.countP_cons,List.countP_cons];have d:l.countP p<=l.countP q:=List.countP_mono_left λx _ f=>h x f
  rcases wj.mp b with rfl | b
  .rw[hp,e];simp;omega
  .have:=g b
   by_cases py:p y=true
   .rw[py,h y py];simp;omega
   .rw[if_neg py];split <;> omega
def z8R {l:List (List Int)}{a b:List Int}(g:a∈l)(h:b∈l):z0B a b=decide (rkL l a<rkL l b):=by
 cases q:z0B a b with
 | true=>
  symm
  apply vU;exact z7K (λx e=>z97 e q) g (z5p a) q
 | false=>
  symm
  apply vz;intro d
  cases f:z0B b a with
  | true=>
   have:=z7K (p:=λx=>z0B x b) (q:=λx=>z0B x a) (λx e=>z97 e f) h (z5p b) f;unfold rkL at d;omega
  | false=>
   rw[z8m a b q f] at d;omega
section
variable {prog:Program}{w:World}{A:Around}{E:Value->Shared->Prop}{s:Shared}
theorem z5r {b fin:Bool}{Q:Bool->Shared->Prop}:∀{vs ws:List Value}{ns d:List Int}(i:Nat),IntsAre vs ns->IntsAre ws d->fin=decide (ns.length<d.length)->Q (z0B ns d) s->KatLex prog w A b fin Q (vs.zip ws) i s
 | _,_,_,_,i,.nil,.nil,a,h=>by
  refine kat_nil ?_;rw[a];exact h
 | _,_,_,_,i,.nil,.cons m u r,a,h=>by
  refine kat_nil ?_;rw[a];rw[show decide (([]:List Int).length<(m::_).length)=true by simp];exact h
 | _,_,_,_,i,.cons n t r,.nil,a,h=>by
  refine kat_nil ?_;rw[a];rw[show decide ((n::_).length<([]:List Int).length)=false by simp];exact h
 | _,_,_,_,i,.cons n t r,.cons m u f,a,h=>by
  refine kat_cons (wpAny_eqBool_int ?_);rw[z0G] at h
  by_cases e:n=m
  .subst e;rw[if_pos rfl] at h;rw[show (n == n)=true by simp];exact kat_yes (z5r (i+1) r f (by rw[a];simp) h)
  .rw[if_neg e] at h;rw[show (n == m)=false by simpa using e];refine kat_no ?_
   cases g:(b && i == 0) with
   | true=>exact oneLt_int h
   | false=>exact kat_one _ _ (lt_int h)
def TI (h:Heap)(v:Value)(k:List Int):Prop:=∃a o items n,v = .ref a/\h.get? a=some o/\o.cls = .type "tuple"/\o.data = .seq items n/\IntsAre items.toList k
def TI.keep {h h':Heap}{v:Value}{k:List Int}(x:TI h v k)(g:∀b o,h.get? b=some o->o.cls = .type "tuple"->h'.get? b=some o):TI h' v k:=by
 obtain⟨a,o,items,n,e,f,d,i,j⟩:=x;exact⟨a,o,items,n,e,g _ _ f d,d,i,j⟩
def zda {vs:List Value}{key:Value->List Int}(g:∀v∈vs,TI s.heap v (key v))(b:Bool):Asks (model prog w) A s (tuples' b) (pairsOf vs) (λp=>rkL (vs.map key) (key p.1)):=by
 intro x y i j Q E h;rw[pairsOf_toList] at i j;have k:=(mem_zip_self i).2;have l:=(mem_zip_self j).2;rw[<- z8R (we.mpr ⟨_,k,rfl⟩) (we.mpr ⟨_,l,rfl⟩)] at h;obtain⟨r,I,C,G,e,o,u,m,a⟩:=g _ k;obtain⟨t,J,F,H,f,q,z,n,d⟩:=g _ l;rw[e] at h a;rw[f] at h d;rw[e,f];exact kat_lt o m q n (z5r 0 a d (by rw[<- IntsAre.length a, <- IntsAre.length d,vg,vg]) h)
theorem z5s {h:Heap}{key:Value->List Int}:∀{vs:List Value},(∀v∈vs,TI h v (key v)/\key v≠[])->∃b:List Value,KatTups h vs b/\b.length=vs.length/\∀f∈b,∃n t,f = .int n t
 | [],_=>⟨[],.nil,rfl,λ_ h=>by cases h⟩
 | v::vs,j=>by
  obtain⟨b,u,y,z⟩:=z5s (vs:=vs) (λv s=>j v (wn _ s));obtain⟨⟨a,o,items,n,e,k,l,m,d⟩,i⟩:=j v (wq ..);subst e;obtain⟨x,xs,ex⟩:∃x xs,key (.ref a)=x::xs:=by
   cases q:key (.ref a) with
   | nil=>exact(i q).elim
   | cons x xs=>exact⟨x,xs,rfl⟩
  rw[ex] at d;generalize p:items.toList=A at d
  cases d with
  | cons _ t r=>
   refine⟨.int x t::b,.cons k l m ?_ u,by simp[y],λf g =>?_⟩
   .rw[<- w6,p];rfl
   .rcases wj.mp g with rfl | g
    .exact⟨_,_,rfl⟩
    .exact z f g
def zcR {vs:List Value}{key:Value->List Int}{Q:SortKind->Shared->Prop}(a:∀v∈vs,TI s.heap v (key v)/\key v≠[])(b:0<vs.length)(h:Q (tuples' true) s):wpAny (model prog w) A (keyKind' vs.toArray) Q E s:=by
 obtain⟨g,e,i,f⟩:=z5s a;refine kat_kind (T :=.type "int") e (by omega) (λv d =>?_) rfl h;obtain⟨n,t,rfl⟩:=f v d;exact Looks.now
def zcy {α:Type}{R:α->α->Prop}{l:List α}(h:l.length<2):l.Pairwise R:=by
 match l,h with
 | [],_=>exact List.Pairwise.nil
 | [x],_=>exact List.pairwise_singleton _ _
def z4V (prog:Program)(w:World)(h:Heap)(vs:List Value)(rk:Value->Nat):Prop:=∀(A:Around) (s:Shared),(∀b o,h.get? b=some o->o.cls = .type "tuple"->s.heap.get? b=some o)->
 ∃a,Asks (model prog w) A s a (pairsOf vs) (λp=>rk p.1)/\(1<vs.length->∀(Q:SortKind->Shared->Prop) (E:Value->Shared->Prop),Q a s->wpAny (model prog w) A (keyKind' vs.toArray) Q E s)
def z4V.keep {h h':Heap}{vs:List Value}{rk:Value->Nat}(x:z4V prog w h vs rk)(k:∀b o,h.get? b=some o->h'.get? b=some o):z4V prog w h' vs rk:=λA s a=>x A s λb o e c=>a b o (k b o e) c
def z4V.tups {h:Heap}{vs:List Value}{key:Value->List Int}(b:∀v∈vs,TI h v (key v)/\key v≠[]):z4V prog w h vs (λv=>rkL (vs.map key) (key v)):=λA s k=>
 ⟨_,zda (λv a=>(b v a).1.keep k) true,λd Q E q=>zcR (λv a=>⟨(b v a).1.keep k,(b v a).2⟩) (by omega) q⟩
def z7u {a:Addr}{vs:List Value}{rk:Value->Nat}{n:Nat}{P:PySem.Fin->Shared->Prop}(l:s.heap.get? a=some (seqObj "list" vs.toArray n))(W:vs.length<=sizeLine)
  (T:z4V prog w s.heap vs rk)
  (h:∀out:List Value,out.Perm vs->out.Pairwise (λx y=>rk x<=rk y)->P (.done (.ret .none)) { s with heap:=sortedHeap s.heap a vs out.toArray }):
  wpAny (model prog w) A (Builtin.«list.sort» ⟨[.ref a],[]⟩) P E s:=by
 rw[list_sort_plain];have J:a<s.heap.objs.size:=wO l;refine wc (listItems_at l rfl ?_);refine wc (listUpdate_at l rfl ?_ (by rw[wH];omega) (vj _));obtain⟨C,m⟩:∃C,(s.heap.update a (Obj.mapSeq λ_ => #[])).get? a=some (seqObj "list" #[] C):=⟨_,get?_update_seq l (λ_ => #[])⟩
 refine wc (seqEpoch_at m rfl ?_);refine wc (wpAny_newTuple ?_ (by show vs.length<=_;omega));refine wc (wpAny_newList ?_ (vj _));refine vO ?_;have i:(((s.heap.update a (Obj.mapSeq λ_ => #[])).push (seqObj "tuple" vs.toArray 0)).push (seqObj "list" #[] 0)).get? a=some (seqObj "list" #[] C):=by
  rw[Heap.get?_push_ne _ _ _ (by rw[size_push',Heap.size_update];exact wX (uk J)),Heap.get?_push_ne _ _ _ (by rw[Heap.size_update];exact wX J)];exact m
 have keep:∀b o,s.heap.get? b=some o->o.cls = .type "tuple"->(((s.heap.update a (Obj.mapSeq λ_ => #[])).push (seqObj "tuple" vs.toArray 0)).push (seqObj "list" #[] 0)).get? b=some o:=λb o u S=>by
  have k:b<s.heap.objs.size:=wO u;have F:b≠a:=by
   rintro rfl;rw[l] at u
   cases u
   exact absurd (show Value.type "list"=Value.type "tuple" from S) (by decide)
  rw[Heap.get?_push_ne _ _ _ (by rw[size_push',Heap.size_update];exact wX (uk k)),Heap.get?_push_ne _ _ _ (by rw[Heap.size_update];exact wX k),Heap.get?_update_ne _ _ _ _ F];exact u
 show wpAny (model prog w) A _ P E { s with heap:=((s.heap.update a (Obj.mapSeq λ_ => #[])).push (seqObj "tuple" vs.toArray 0)).push (seqObj "list" #[] 0) };kt_k;have V:vs.toArray.size=vs.length:=by simp
 have r:∀d:SortSt,(arrOf d).Perm (pairsOf vs)->∃out:List Value,(arrOf d).map (·.2)=out.toArray/\out.Perm vs/\(arrOf d).toList.map (·.1)=out:=λd hp=>by
  refine⟨(arrOf d).toList.map (·.2),?_,?_,?_⟩
  .apply Array.toList_inj.mp;rw[Array.toList_map]
  .have:=(uU.mp hp).map (·.2);rw[pairsOf_toList] at this;refine this.trans ?_;rw[List.map_snd_zip (ww _)]
  .apply v7;intro p G;have:=(uU.mp hp).mem_iff.mp G;rw[pairsOf_toList] at this;exact(mem_zip_self this).1
 have g:∀d:SortSt,(arrOf d).Perm (pairsOf vs)->((arrOf d).map (·.2)).size<=sizeLine:=λd hp=>by
  rw[Array.size_map,hp.size_eq,pairsOf_size];exact W
 by_cases t:vs.toArray.size<2
 .rw[if_pos t,if_pos t];refine wc (wm ?_);rw[StateT.run_pure];refine wc (wm ?_);kt_k;refine wc (seqEpoch_at i rfl ?_);have q:(arrOf (SortSt.mk' general' (vs.toArray.zip vs.toArray) #[] 7 none)).Perm (pairsOf vs):=Array.Perm.refl _;refine wc (listUpdate_at i rfl ?_ (vj _) (Nat.le_succ_of_le (g _ q)));simp only[bne_self_eq_false,wL,ug];obtain⟨out,I,z,L⟩:=r _ q;have R:sortedHeap s.heap a vs out.toArray=sortedHeap s.heap a vs ((arrOf (SortSt.mk' general' (vs.toArray.zip vs.toArray) #[] 7 none)).map (·.2)):=by rw[I]
  have f:=h out z (by
   have U:out.length<2:=by rw[z.length_eq];omega
   exact zcy U)
  rw[R] at f;exact wm f
 .rw[if_neg t,if_neg t];obtain⟨κ,X,Y⟩:=T A { s with heap:=((s.heap.update a (Obj.mapSeq λ_ => #[])).push (seqObj "tuple" vs.toArray 0)).push (seqObj "list" #[] 0) } keep;refine wc (Y (by omega) _ _ ?_);refine wc (vV (z6U (a₀:=pairsOf vs) (κ:=κ) (rk:=λp=>rk p.1) (st:=SortSt.mk' κ (vs.toArray.zip vs.toArray) #[] 7 none)
   (Q:=λ_ d=>TB κ (pairsOf vs) d/\Seg (λp=>rk p.1) (arrOf d) 0 (pairsOf vs).size)
   X ⟨rfl,rfl,Array.Perm.refl _⟩ rfl (by rw[pairsOf_size];omega) λd N O=>⟨N,O⟩) ?_ λ_ _ e=>e)
  rintro⟨⟨⟩,d⟩ Z ⟨rfl,j,K⟩;dsimp only at j K ⊢;refine wc (seqEpoch_at i rfl ?_);refine wc (listUpdate_at i rfl ?_ (vj _) (Nat.le_succ_of_le (g d j.perm)));rw[j.failed];simp only[bne_self_eq_false,wL,ug];obtain⟨out,I,z,L⟩:=r d j.perm;have f:=h out z (by
   have H:Up (λp=>rk p.1) (arrOf d).toList:=by
    have:=zaA K (by rw[j.perm.size_eq];exact ww _);rw[<- j.perm.size_eq] at this;k_ne
   rw[<- L];exact vf.mpr H)
  rw[<- I] at f;exact wm f
def zht (prog:Program)(w:World)(rk:Value->Nat)(Q:Value->Shared->Prop)(vs:List Value)(s1:Shared):Prop:=
 vs.length<=sizeLine/\z4V prog w s1.heap vs rk/\∀a:List Value,a.Perm vs->a.Pairwise (λx y=>rk x<=rk y)->
  ∀d,(∀b o,s1.heap.get? b=some o->d.get? b=some o)->(∃e,d.get? s1.heap.objs.size=some (seqObj "list" a.toArray e))->Q (.ref s1.heap.objs.size) { s1 with heap:=d }
def z5c {v:Value}{Q:Value->Shared->Prop}(d:∀k,wpAny (model prog w) A.in1 (collect v) (λvs s1=>∃rk,zht prog w rk Q vs s1) k s):wpAny (model prog w) A (call (.builtin "sorted") [v]) Q E s:=by
 refine Calls.call_function_entry kind_sorted plain_sorted entry_sorted (args_sorted1 _) ?_;unfold Builtin.«sorted»;refine wc (m:=checkCount "sorted" 1 1 _) (wm ?_);refine wc (vV (d _) (λvs s1 q =>?_) λ_ _ e=>e);obtain⟨rk,j,l,h⟩:=q;refine wc (wpAny_newList ?_ j);have a:(s1.heap.push (seqObj "list" vs.toArray 0)).get? s1.heap.objs.size=some (seqObj "list" vs.toArray 0):=wt _ rfl;have keep:∀b o,s1.heap.get? b=some o->(s1.heap.push (seqObj "list" vs.toArray 0)).get? b=some o:=λb o q=>wi _ q;show wpAny _ _ _ _ _ { s1 with heap:=s1.heap.push (seqObj "list" vs.toArray 0) };refine wc (vO (uh slot_list_sort ⟨_,a,rfl⟩ entry_list_sort (z7u a j (l.keep keep) λi n p=>⟨_,rfl,?_⟩) (args_list_sort _)));refine wm ⟨_,rfl,h i n p _ (λb o g =>?_) ?_⟩
 .have f:b<s1.heap.objs.size:=wO g;rw[sortedHeap_old (wX f) (by rw[size_push'];exact uk f)];exact keep b o g
 .exact sortedHeap_at a
def zhs (key:Value->List Int)(Q:Value->Shared->Prop)(vs:List Value)(s1:Shared):Prop:=
 vs.length<=sizeLine/\(∀x∈vs,TI s1.heap x (key x)/\key x≠[])/\∀a:List Value,a.Perm vs->a.Pairwise (λx y=>z0B (key y) (key x)=false)->
  ∀d,(∀b o,s1.heap.get? b=some o->d.get? b=some o)->(∃e,d.get? s1.heap.objs.size=some (seqObj "list" a.toArray e))->Q (.ref s1.heap.objs.size) { s1 with heap:=d }
def z82 {v:Value}{key:Value->List Int}{Q:Value->Shared->Prop}(a:∀b,wpAny (model prog w) A.in1 (collect v) (zhs key Q) b s):wpAny (model prog w) A (call (.builtin "sorted") [v]) Q E s:=
 z5c λb=>vV (a b) (λvs n ⟨l,i,h⟩=>⟨_,l,z4V.tups i,λg f m=>h g f (m.imp_of_mem λ{x y} j k d=>by
  rw[z8R (we.mpr ⟨_,f.mem_iff.mp k,rfl⟩) (we.mpr ⟨_,f.mem_iff.mp j,rfl⟩)];exact vz (Nat.not_lt.mpr d))⟩) λ_ _ e=>e
end
end Tim
namespace Tab
open PySem PySem.SetTable PyProof.Rows
def z5N:entryFor table "set.__iter__"=some Builtin.«frozenset.__iter__»:=
 entryFor_alias (id':="frozenset.__iter__") (by kernel_rfl) rfl (by decide +kernel) (by kernel_rfl)
def z1A:Slot "set_iterator" "__next__" "set_iterator.__next__":=
 .of (owner:="set_iterator") (n:="__next__") (by rw[typeLookup_type,jL];kernel_rfl) (by decide +kernel) (by decide +kernel) (by decide +kernel)
  (by first | exact .inl (by decide +kernel) | exact .inr (by decide +kernel)) (by rw[jS];kernel_rfl)
def z4L:Slot "set_iterator" "__iter__" "set_iterator.__iter__":=
 .of (owner:="set_iterator") (n:="__iter__") (by rw[typeLookup_type,jL];kernel_rfl) (by decide +kernel) (by decide +kernel) (by decide +kernel)
  (by first | exact .inl (by decide +kernel) | exact .inr (by decide +kernel)) (by rw[jS];kernel_rfl)
def z4d:entryFor table "set_iterator.__next__"=some Builtin.«set_iterator.__next__»:=entryFor_of_fast (by kernel_rfl)
def z4P (a:Value):argsOk "set_iterator.__next__" ⟨[a],[]⟩:=by unfold argsOk;kernel_rfl
section
variable {prog:Program}{w:World}{A:Around}{E:Value->Shared->Prop}{s:Shared}
def z2x (h:Heap)(b S:Addr)(a i n ep:Nat):Prop:=∃o,h.get? b=some o/\o.cls = .type "set_iterator"/\o.data = .fields #[.int a 0,.int i 0,.ref S,.int n 0,.int ep 0]
def z2x.typeIs {b S:Addr}{a i n ep:Nat}(x:z2x s.heap b S a i n ep):s.TypeIs (.ref b) "set_iterator":=let ⟨o,e,d,_⟩:=x;⟨o,e,d⟩
def z4R {S:Addr}{o:Obj}{es:Array (Int × Value)}{ep:Nat}{t:SetTable}{Q:Value->Shared->Prop}(b:s.heap.get? S=some o)(g:o.cls = .type "set")(d:o.data = .set es ep t)(e:t.fits es.size=true)(hp:t.plain=true)
  (h:Q (.ref s.heap.objs.size) { s with heap:=s.heap.push { cls :=.type "set_iterator",data :=.fields #[.int 0 0,.int 0 0,.ref S,.int es.size 0,.int ep 0] } }):wpAny (model prog w) A (pyIter (.ref S)) Q E s:=by
 have f:s.TypeIs (.ref S) "set":=⟨o,b,g⟩
 refine wpAny_pyIter_slot f F.slot_set_iter (uh F.slot_set_iter f z5N ?_ (F.args_set_iter_1 _));show wpAny _ _ (Builtin.Frozenset.sizeOf S >>= _) _ _ s;unfold Builtin.Frozenset.sizeOf setEntries setDrawn setEpoch;refine wc (wc (wc (vL b d e (wm (wm ?_)))));refine wc (wc (vL b d e ?_));show wpAny _ _ (setsByText >>= λa=>pure (!a && (!t.plain && decide (es.size > 1)))) _ _ s;unfold setsByText;refine wc (wc (jW (wm (wm ?_))));rw[hp];simp only[jO,Bool.false_and,Bool.and_false,wL,ug];refine wc (wm (wc (wc (vL b d e (wm ?_)))));exact wc (ub (wm ⟨_,rfl,"set_iterator",_,⟨_,wt _ rfl,rfl⟩,z1A.lookup,h⟩))
def nxt (w:World)(S:Addr)(es:Array (Int × Value))(ep:Nat)(t:SetTable)(a i:Nat):Option (Value × Nat):=
 if w.params.followText "set-order"=true then ((pickOrder (w.params.setOrder S ep) es)[i]?).map λe=>(e.2,a) else
  match es[below t.place a]?, t.place[below t.place a]? with
  | some (_,x),some j=>some (x,j+1)
  | _,_=>none
def z3N {S:Addr}{o:Obj}{es:Array (Int × Value)}{ep:Nat}{t:SetTable}{a i:Nat}{Q:Option (Value × Nat)->Shared->Prop}(g:s.heap.get? S=some o)(e:o.data = .set es ep t)(f:t.fits es.size=true)(hp:t.plain=true)(j:t.led = !w.params.followText "set-order")
  (h:Q (nxt w S es ep t a i) s):wpAny (model prog w) A (setNext S a i ep) Q E s:=by
 unfold setNext;refine wc (vL g e f ?_);show wpAny _ _ (setsByText >>= _) _ _ s;unfold setsByText;refine wc (wc (jW (wm ?_)));unfold nxt at h
 by_cases c:w.params.followText "set-order"=true
 .have d:(model prog w).w.params.followText "set-order"=true:=c;rw[if_pos c] at h;rw[if_pos d];rw[if_neg (by simp)];unfold setWalk;refine wc (wc (vL g e f ?_));show wpAny _ _ (setsByText >>= _) _ _ s;unfold setsByText;refine wc (wc (jW (wm ?_)));rw[if_pos d];exact wc (jW (wm (wm h)))
 .have d:¬ (model prog w).w.params.followText "set-order"=true:=c;rw[if_neg c] at h;rw[if_neg d];have b:t.led=true:=by rw[j];simpa using c
  show wpAny _ _ (if (!t.plain && decide (es.size > 1))=true then _ else _) _ _ s;rw[hp,if_neg (by simp)];show wpAny _ _ ((if (!t.led && !es.isEmpty)=true then unsupported "set:maker-not-led" else pure PUnit.unit) >>= _) _ _ s;rw[b,if_neg (by simp)];exact wc (wm (wm h))
def z3h {f S:Addr}{o:Obj}{es:Array (Int × Value)}{ep:Nat}{t:SetTable}{slot i a:Nat}{x:Value}{Q:Option Value->Shared->Prop}(d:z2x s.heap f S slot i es.size ep)
  (l:s.heap.get? S=some o) (j:o.data = .set es ep t) (k:t.fits es.size=true) (hp:t.plain=true) (n:t.led = !w.params.followText "set-order") (p:nxt w S es ep t slot i=some (x,a))
  (m:∀h',z2x h' f S a (i+1) es.size ep->Heap.SameBut f s.heap h'->Q (some x) { s with heap:=h' }):wpAny (model prog w) A (pyNext (.ref f)) Q E s:=by
 obtain⟨q,e,g,b⟩:=id d;unfold pyNext;refine wc (wpAny_attempt (ua (name:=Str.ofString "__next__") d.typeIs z1A
  (uh z1A d.typeIs z4d ?_ (z4P _))))
 show wpAny _ _ (fieldsOf (.ref f) >>= _) _ _ s;refine wc (wpAny_fieldsOf e b ?_);show wpAny _ _ (setEntries S >>= _) _ _ s;unfold setEntries;refine wc (wc (vL l j k (wm ?_)));rw[if_neg (by simp)];kst_p;simp only[Int.toNat_natCast];refine wc (z3N l j k hp n ?_);rw[p];kt_k;refine wc (Wi e b (by simp) ?_);have h:=vr (Obj.mapFields (·.setIfInBounds 0 (rawInt (a:Int)))) e (Obj.isFreed_of_fields (uq b _));refine wc (Wi h (uq b _) (by simp) ?_);refine wm ⟨x,rfl,wm (m _ ?_ ((uA ..).trans (uA ..)))⟩;refine⟨_,vr _ h (Obj.isFreed_of_fields (uq (uq b _) _)),((Obj.cls_mapFields ..).trans (Obj.cls_mapFields ..)).trans g,?_⟩;rw[uq (uq b _)];simp[rawInt]
def z3E {g S:Addr}{o:Obj}{es:Array (Int × Value)}{ep:Nat}{t:SetTable}{slot i:Nat}{Q:Option Value->Shared->Prop}(k:A.handled=none)(d:z2x s.heap g S slot i es.size ep)
  (l:s.heap.get? S=some o) (h:o.data = .set es ep t) (j:t.fits es.size=true) (hp:t.plain=true) (q:t.led = !w.params.followText "set-order") (r:nxt w S es ep t slot i=none)
  (n:∀h',Heap.ExtBut g s.heap h'->Q none { s with heap:=h' }):wpAny (model prog w) A (pyNext (.ref g)) Q E s:=by
 obtain⟨u,f,p,e⟩:=id d;unfold pyNext;refine wc (wpAny_attempt (ua (name:=Str.ofString "__next__") d.typeIs z1A
  (uh z1A d.typeIs z4d ?_ (z4P _))))
 show wpAny _ _ (fieldsOf (.ref g) >>= _) _ _ s;refine wc (wpAny_fieldsOf f e ?_);show wpAny _ _ (setEntries S >>= _) _ _ s;unfold setEntries;refine wc (wc (vL l h j (wm ?_)));rw[if_neg (by simp)];kst_p;simp only[Int.toNat_natCast];refine wc (z3N l h j hp q ?_);rw[r];kt_k;refine wc (Wi f e (by simp) ?_);show wpAny _ _ (newExc (.type "StopIteration") [] >>= _) _ _ _;refine wc ?_;simp only[newExc,newTuple];refine wc (ub ?_ (by size_fits));refine wc (m:=firstArgMember _ _) (wpAny_of_eq (a:=Value.none) (by first | rfl | (simp only[firstArgMember];rfl)) ?_);refine ub ?_ (by size_fits);simp only[raiseNew];refine wc (wpAny_handled ?_)
 first | rw[show A.in1.handled=none from k] | rw[k]
 refine wc (wm (wpAny_throw ?_));refine wc (wpAny_isInstance (T:="StopIteration") (b:=true) ⟨_,wt _ rfl,rfl⟩ isSubtype_stop ?_);exact wm (n _ (((uA ..).extBut.push _).push _))
end
theorem z7h {α:Type}(next:Nat->Nat):∀(n k:Nat) (left:List α) (a:Array α),left.length=n->(pickOrder.go next n k left a).toList.Perm (a.toList++left)
 | 0,k,left,a,h=>by
  rw[List.eq_nil_of_length_eq_zero h,vi];exact Wh _
 | n+1,k,left,a,h=>by
  have b:next k % left.length<left.length:=uX _ (by lia);rw[pickOrder.go,wf b];refine(z7h next n (k+1) _ _ (by rw[List.length_eraseIdx_of_lt b];lia)).trans ?_;rw[Array.toList_push,wS];refine v5 _ ?_;show (left[next k % left.length]::left.eraseIdx (next k % left.length)).Perm left;rw[List.eraseIdx_eq_take_drop_succ];refine(jT.symm).trans ?_;rw[<- vJ b,vH]
def z5E {α:Type}(next:Nat->Nat)(xs:Array α):(pickOrder next xs).toList.Perm xs.toList:=by
 have:=z7h next xs.size 0 xs.toList #[] (by simp);simpa[pickOrder] using this
def ordE (w:World)(S:Addr)(es:Array (Int × Value))(ep:Nat):Array (Int × Value):=if w.params.followText "set-order"=true then pickOrder (w.params.setOrder S ep) es else es
def z7m (w:World)(S:Addr)(es:Array (Int × Value))(ep:Nat):(ordE w S es ep).toList.Perm es.toList:=by
 unfold ordE
 split
 .exact z5E _ _
 .exact Wh _
def z5j (w:World)(S:Addr)(es:Array (Int × Value))(ep:Nat):(ordE w S es ep).size=es.size:=by
 rw[<- vg,(z7m w S es ep).length_eq,vg]
def z5d (w:World)(t:SetTable)(i:Nat):Nat:=if w.params.followText "set-order"=true then 0 else if i=0 then 0 else t.place.getD (i - 1) 0+1
def z6a {t:SetTable}(d:Rise t.place){i:Nat}(l:i<=t.place.size):below t.place (if i=0 then 0 else t.place.getD (i - 1) 0+1)=i:=by
 obtain⟨j,a,b⟩:=z4J d (if i=0 then 0 else t.place.getD (i - 1) 0+1);generalize below t.place (if i=0 then 0 else t.place.getD (i - 1) 0+1)=k at*
 by_cases e:i=0
 .subst e;rw[if_pos rfl] at a
  by_cases z:k=0
  .exact z
  .have:=a 0 (by lia);lia
 .rw[if_neg e] at a b
  by_cases c:k<i
  .have:=b (i - 1) (by lia) (by lia);lia
  .by_cases f:i<k
   .have g:=a i f;have h:=d (i - 1) i (by lia) (by lia);lia
   .lia
def zcJ {w:World}{S:Addr}{es:Array (Int × Value)}{ep:Nat}{t:SetTable}(f:Rise t.place)(hsz:t.place.size=es.size){i:Nat}(d:i<es.size):
  ∃e,(ordE w S es ep)[i]? = some e/\nxt w S es ep t (z5d w t i) i=some (e.2,z5d w t (i+1)):=by
 have a:i<(ordE w S es ep).size:=by rw[z5j];exact d
 refine⟨(ordE w S es ep)[i],ul _ i a,?_⟩;unfold nxt z5d
 by_cases c:w.params.followText "set-order"=true
 .simp only[if_pos c];have b:ordE w S es ep=pickOrder (w.params.setOrder S ep) es:=by unfold ordE;rw[if_pos c]
  rw[<- b,ul _ i a]
  rfl
 .simp only[if_neg c];have b:ordE w S es ep=es:=by unfold ordE;rw[if_neg c]
  rw[z6a f (by lia),ul es i d,ziG (xs:=t.place) (by lia)];simp only[Nat.add_sub_cancel,if_neg (Nat.succ_ne_zero i)]
  congr 1
  simp only[b]
def zeE {w:World}{S:Addr}{es:Array (Int × Value)}{ep:Nat}{t:SetTable}(b:Rise t.place)(hsz:t.place.size=es.size):nxt w S es ep t (z5d w t es.size) es.size=none:=by
 unfold nxt z5d
 by_cases c:w.params.followText "set-order"=true
 .simp only[if_pos c];have a:ordE w S es ep=pickOrder (w.params.setOrder S ep) es:=by unfold ordE;rw[if_pos c]
  rw[<- a,getElem?_neg _ _ (by rw[z5j];lia)]
  rfl
 .simp only[if_neg c];rw[z6a b (by lia),getElem?_neg es es.size (by lia)]
def z6L:entryFor table "set_iterator.__iter__"=some Builtin.«dict_keyiterator.__iter__»:=
 entryFor_alias (id':="dict_keyiterator.__iter__") (by kernel_rfl) rfl (by decide +kernel) (by kernel_rfl)
def z7S (a:Value):argsOk "set_iterator.__iter__" ⟨[a],[]⟩:=by unfold argsOk;kernel_rfl
section
variable {prog:Program}{w:World}{A:Around}{E:Value->Shared->Prop}{s:Shared}
def z57 {d S:Addr}{b i n ep:Nat}{Q:Value->Shared->Prop}(a:z2x s.heap d S b i n ep)(h:Q (.ref d) s):wpAny (model prog w) A (pyIter (.ref d)) Q E s:=by
 refine wpAny_pyIter_slot a.typeIs z4L (uh z4L a.typeIs z6L ?_ (z7S _));show wpAny _ _ (ret (.ref d)) _ _ s;exact wm ⟨_,rfl,"set_iterator",_,a.typeIs,z1A.lookup,h⟩
theorem Walks.set (C:A.handled=none)(I S:Addr)(l:S≠I){o:Obj}{es:Array (Int × Value)}{ep:Nat}{t:SetTable}(m:o.data = .set es ep t)(n:t.fits es.size=true)(hp:t.plain=true)(q:t.led = !w.params.followText "set-order")(r:Rise t.place)(hsz:t.place.size=es.size):
  Walks prog w A I [I,S] [I] es.size (λi v=>∃e,(ordE w S es ep)[i]? = some e/\v=e.2) (λi h=>z2x h I S (z5d w t i) i es.size ep/\h.get? S=some o) where
 sub:=λb a=>by simp at a;simp[a]
 frame:=λi h j st p=>⟨let ⟨G,y,z⟩:=st.1;⟨G,p I (by simp) _ y,z⟩,p S (by simp) _ st.2⟩
 item:=λi s Q E F st d=>by
  obtain⟨e,u,x⟩:=zcJ (w:=w) (S:=S) (ep:=ep) r hsz F;refine z3h st.1 st.2 m n hp q x λj f g =>?_;exact d _ j s.toks ⟨e,u,rfl⟩ ⟨f,g.extBut S _ l st.2⟩ λb o a e=>g.extBut b o (λh=>a (by simp[h])) e
 done:=λs Q E st d=>z3E C st.1 st.2 m n hp q (zeE r hsz) λj k=>d j s.toks λb o a e=>k b o (λh=>a (by simp[h])) e
 self:=λ_ _ _ _ st d=>z57 st.1 d
def z8x {S:Addr}{o:Obj}{es:Array (Int × Value)}{ep:Nat}{t:SetTable}{Q:List Value->Shared->Prop}(hh:A.handled=none)(W:s.heap.get? S=some o)(O:o.cls = .type "set")(U:o.data = .set es ep t)(V:t.fits es.size=true)(hp:t.plain=true)(hl:t.led = !w.params.followText "set-order")(hr:Rise t.place)(hsz:t.place.size=es.size)(hz:es.size<=sizeLine)
  (h:∀s',(∀b o,s.heap.get? b=some o->s'.heap.get? b=some o)->s'.gens=s.gens->s'.drawn=s.drawn->s'.os=s.os->s.toks<=s'.toks->Q ((ordE w S es ep).toList.map (·.2)) s'):wpAny (model prog w) A (collect (.ref S)) Q E s:=by
 have d:S<s.heap.objs.size:=wO W;unfold collect;refine wc (wpAny_runValue (vR F.entry_proto_collect ?_));rw[vD F.plain_proto_collect _];show wpAny _ A.in1 (newList [] >>= λl=>again (.builtin "list.__iadd__" ⟨[l,.ref S],[]⟩)) _ _ s;refine wc (ub ?_);refine wm ⟨uc F.plain_list_iadd _,vR F.entry_list_iadd ?_⟩;rw[vD F.plain_list_iadd _];show wpAny _ A.in1 (Builtin.List.listExtendWith (.ref s.heap.objs.size) (.ref S) (.ref s.heap.objs.size)) _ _ _;unfold Builtin.List.listExtendWith;have j:(s.heap.push { cls :=.type "list",data :=.seq ([]:List Value).toArray }).get? S=some o:=wi _ W;have N:Shared.TypeIs { s with heap:=s.heap.push { cls :=.type "list",data :=.seq ([]:List Value).toArray } } (.ref S) "set":=⟨o,j,O⟩
 refine wc (Wl N ?_);have h1:Builtin.List.listSameRef (.ref s.heap.objs.size) (.ref S)=false:=by simp[Builtin.List.listSameRef];exact Wm d
 have h2:(Value.type "set" == Value.type "list")=false:=by decide
 have h3:(Value.type "set" == Value.type "tuple")=false:=by decide
 simp only[h1,h2,h3,Bool.or_false,wL,ug];refine wc (z4R j O U V hp ?_);refine wc (vO ?_);generalize G:s.heap.push { cls :=.type "list",data :=.seq ([]:List Value).toArray }=H at*;have q:H.objs.size=s.heap.objs.size+1:=by rw[<- G,vq]
 kt_k;have u:Shared.TypeIs { s with heap:=H.push { cls :=.type "set_iterator",data :=.fields #[.int 0 0,.int 0 0,.ref S,.int es.size 0,.int ep 0] } } (.ref S) "set":=⟨o,wi _ j,O⟩
 unfold Builtin.List.listLengthHint;refine wc (wpAny_specialOf u F.slot_set_len.lookup ?_)
 wp_delta
 refine wc (wpAny_isInstance (b:=true) u (by rw[jS];kernel_rfl) ?_);show wpAny _ A.in1 (typeOf (Value.ref S) >>= _) _ _ _;refine wc (Wl u ?_);refine wm ?_;rw[if_pos (by decide)];refine wc (jy ?_);refine wc ?_;show wpAny _ A.in1 (updateSeq s.heap.objs.size (·.push .none) >>= λ_=>updateSeq s.heap.objs.size (·.pop)) _ _ _;generalize I:({ cls :=.type "set_iterator",data :=.fields #[.int 0 0,.int 0 0,.ref S,.int es.size 0,.int ep 0] }:Obj)=io at*;have f:(H.push io).get? s.heap.objs.size=some { cls :=.type "list",data :=.seq ([]:List Value).toArray }:=wi _ (G ▸ wt _ rfl);refine wc (uE f rfl ?_);have g:=vr (Obj.mapSeq (·.push Value.none)) f rfl;refine uE g rfl ?_;have r:=vr (Obj.mapSeq (·.pop)) g rfl;have x:∀b o,b≠s.heap.objs.size->(H.push io).get? b=some o->(((H.push io).update s.heap.objs.size (Obj.mapSeq (·.push Value.none))).update s.heap.objs.size (Obj.mapSeq (·.pop))).get? b=some o:=
  λb o C e=>(wW _ _ (jX C)).trans ((wW _ _ (jX C)).trans e)
 have p:S≠s.heap.objs.size:=wX d;have n:H.objs.size≠s.heap.objs.size:=by rw[q];exact Wm (jx _)
 have K:S≠H.objs.size:=by rw[q];exact wX (uk d)
 have L:s.heap.objs.size ∉ [H.objs.size,S]:=by
  simp only[wj,wF,vS,not_or];exact⟨jX n,jX p⟩
 have R:(H.push io).get? H.objs.size=some io:=wt _ (by rw[<- I];rfl);refine wm ⟨uc F.plain_extend_loop _,codeAny_extend_loopS (Walks.set (A:=A.in1) (w:=w) (prog:=prog) hh H.objs.size S K U V hp hl hr hsz).toS hz _ L _ es.size 0 _ _ _ rfl (vj _)
  ⟨⟨io,x _ _ n R,by rw[<- I],by rw[<- I];simp[z5d]⟩,x _ _ p (wi _ j)⟩ r (ItemsOf.nil _) λs' a c' z J i =>?_⟩
 show wpAny _ A (load s.heap.objs.size >>= _) _ _ s';refine wc (wpAny_load J ?_);have hq:a.toList=(ordE w S es ep).toList.map (·.2):=by
  apply jN;intro k;rw[w6,wN,w6]
  by_cases T:k<es.size
  .have y:k<a.size:=by rw[i.1];exact T
   obtain⟨e,Y,Z⟩:=i.2 k a[k] (ul a k y);rw[ul a k y,Y,Z];rfl
  .rw[getElem?_neg a k (by rw[i.1];exact T),getElem?_neg (ordE w S es ep) k (by rw[z5j];exact T)];rfl
 have m:=h s' (λb X e=>z.heap b X (λC =>?_) (x b X (wX (wO e)) (wi _ (G ▸ wi _ e)))) z.gens z.drawn z.os z.toks
 .rw[<- hq] at m;exact wm m
 .have d:=wO e
  rcases wj.mp C with h | h
  .exact absurd d (h ▸ uL _)
  .rw[wg.mp h,q] at d;exact absurd d (Nat.not_lt.mpr (Nat.le_succ _))
def za1 {k:List Int}{vs:List Value}(h:ItemsAre (intKind prog w) k vs):IntsAre vs k:=by
 induction h with
 | nil=>exact .nil
 | cons a _ b=>
  obtain⟨t,rfl⟩:=Value.isInt_shape a;exact .cons _ _ b
def TK.ti {h:Heap}{k:List Int}{b:Addr}(x:TK prog w h k b):Tim.TI h (.ref b) k:=by
 obtain⟨o,items,n,a,d,e,f⟩:=x;exact⟨b,o,items,n,rfl,a,d,e,za1 f⟩
def zfq {h:Heap}{v:Value}{k k':List Int}(x:Tim.TI h v k)(y:Tim.TI h v k'):k=k':=by
 obtain⟨a,o,items,n,e,i,q,j,l⟩:=x;obtain⟨m,s,b,r,d,f,p,g3,g⟩:=y;rw[e] at d;cases d;rw[i] at f;cases f;rw[j] at g3;cases g3;exact(IntsAre.nums l).symm.trans (IntsAre.nums g)
def z5M (h:Heap)(v:Value):List Int:=by
 classical exact if c:∃k,Tim.TI h v k then c.choose else []
def z6G {h:Heap}{v:Value}{k:List Int}(x:Tim.TI h v k):z5M h v=k:=by
 unfold z5M;have c:∃k,Tim.TI h v k:=⟨k,x⟩
 rw[dif_pos c];exact zfq c.choose_spec x
def zbZ {M:Value->Prop}{h:Heap}{l:List Value}{m:List (List Int)}(t:Two (IsK prog w M h) l m):l.map (z5M h)=m:=by
 induction t with
 | nil=>rfl
 | cons a _ d=>
  obtain⟨_,b,rfl,z⟩:=a;rw[wC,d,z6G (TK.ti z)]
def z9B {M:Value->Prop}{S:Addr}{n:List (List Int)}{Q:Value->Shared->Prop}(U:A.handled=none)(x:SetK prog w M s.heap S n)(u:∀k∈n,k≠[])(Y:n.length<=sizeLine)
  (h:∀s' (d:List Value),(∀b o,s.heap.get? b=some o->s'.heap.get? b=some o)->s'.gens=s.gens->s'.drawn=s.drawn->s'.os=s.os->s.toks<=s'.toks->
   (d.map (z5M s.heap)).Perm n->(∀v∈d,M v/\Tim.TI s.heap v (z5M s.heap v))->(d.map (z5M s.heap)).Pairwise (λa b=>HT.z0B b a=false)->
   ∀D,s.heap.get? D=none->(∃e,s'.heap.get? D=some (seqObj "list" d.toArray e))->Q (.ref D) s'):wpAny (model prog w) A (call (.builtin "sorted") [.ref S]) Q E s:=by
 obtain⟨L,T,r,I⟩:=x.len;obtain⟨o,p,H,t,y,_⟩:=T.ex;have q:p.size=L.length:=by rw[y.tab.es];simp
 have f:=zbZ r;have l:∀v∈L.map (·.2.2),Tim.TI s.heap v (z5M s.heap v):=λv j=>by
  obtain⟨k,_,_,b,rfl,z⟩:=r.mem_left j;rw[z6G (TK.ti z)];exact TK.ti z
 have i:((ordE w S p H).toList.map (·.2)).Perm (L.map (·.2.2)):=by
  refine((z7m w S p H).map (·.2)).trans ?_;rw[y.tab.es];simp only[wR];exact Wh _
 refine Tim.z82 (key:=z5M s.heap) λX =>?_;refine z8x (A:=A.in1) U y.get y.ex.1 y.data y.fits y.plain y.led y.tab.riseP (by rw[y.tab.place,q];simp) (by lia) λG C J K g3 N =>?_;refine⟨by rw[i.length_eq,wd];lia,λv j =>?_,λd F W O keep R =>?_⟩
 .have m:=i.mem_iff.mp j;refine⟨(l v m).keep λb o g _=>C b o g,u _ ?_⟩;rw[<- f];exact we.mpr ⟨v,m,rfl⟩
 .refine h { G with heap:=O } d (λb o g=>keep b o (C b o g)) J K g3 N ?_ (λv j=>⟨(r.mem_left (i.mem_iff.mp (F.mem_iff.mp j))).choose_spec.2.1,l v (i.mem_iff.mp (F.mem_iff.mp j))⟩) (vf.mpr W) G.heap.objs.size ?_ R
  .rw[<- f];exact(F.trans i).map _
  .cases V:s.heap.get? G.heap.objs.size with
   | none=>rfl
   | some o=>exact absurd (wO (C _ _ V)) (uL _)
end
end Tab
namespace Rev
open PySem PyProof.Rows
def zgK:typeLookup (.type "list_reverseiterator") "__len__"=pure none:=by
 rw[typeLookup_type,jL]
 kernel_rfl
def zcS:typeLookup (.type "list_reverseiterator") "__length_hint__"=pure (some (.builtin "list_reverseiterator.__length_hint__")):=by
 rw[typeLookup_type,jL]
 kernel_rfl
section
variable {prog:Program}{w:World}{A:Around}{E:Value->Shared->Prop}{s:Shared}{R:Result->Shared->Prop}{r:Addr}
def zeU {Q:Bool->Shared->Prop}(a:s.TypeIs (.ref r) "list_reverseiterator")(q:Q false s):wpAny (model prog w) A (Builtin.List.listLengthHint (.ref r)) Q E s:=by
 unfold Builtin.List.listLengthHint;refine wc (wpAny_specialOf a zgK ?_);show wpAny _ A (specialOf (.ref r) (Str.ofString "__length_hint__") >>= _) Q E s;refine wc (wpAny_specialOf a zcS ?_);generalize d:("list_reverseiterator.__length_hint__":String)=e
 wp_delta
 rw[show splitId e=some ("list_reverseiterator","__length_hint__") from by rw[<- d];decide +kernel];refine wc (wpAny_isInstance (b:=true) a (by rw[jS];kernel_rfl) ?_);subst d;exact wm q
def za4 {fp wr:List Addr}{G:Array GenState->Array GenState->Prop}{n:Nat}{P:Nat->Value->Prop}{St:Nat->Shared->Prop}(W:WalksS prog w A.in1 r fp wr G n P St)(l:∀i s,St i s->s.TypeIs (.ref r) "list_reverseiterator")(S:Addr)(a:Value)(k:Nat)(st:St 0 s)(g:S ∉ fp)(d:r∈fp)(m:n<=sizeLine)
  (h:s.heap.get? S=some { cls :=.type "list",data :=.seq #[] k }) (q:∀s' b c,Moved (S::wr) G s s'->s'.heap.get? S=some { cls :=.type "list",dict:=none,data :=.seq b c,slots := #[] }->ItemsOf P b n->R (.ok (.ret a)) s'):
  wpAny (model prog w) A.in1 (Builtin.List.listExtendWith (.ref S) (.ref r) a) (λfin s'=>match fin with | .done f=>R (.ok f) s' | .again j=>j.quiet=true/\codeAny (model prog w) A j R s') (λe s'=>R (.error e) s') s:=by
 have ne:S≠r:=λe=>g (by rw[e];exact d);unfold Builtin.List.listExtendWith;refine wc (Wl (l 0 s st) ?_);have o:Builtin.List.listSameRef (.ref S) (.ref r)=false:=by simp[Builtin.List.listSameRef,ne]
 have p:(Value.type "list_reverseiterator" == .type "list")=false:=by decide
 have t:(Value.type "list_reverseiterator" == .type "tuple")=false:=by decide
 rw[o,p,t];refine wc (W.self 0 s _ _ st (wc (vO (zeU (l 0 s st) ?_))));exact wm ⟨uc F.plain_extend_loop _,codeAny_extend_loopS W m S g a n 0 s #[] k rfl (vj _) st h (ItemsOf.nil P) q⟩
def zcT {fp wr:List Addr}{G:Array GenState->Array GenState->Prop}{n:Nat}{P:Nat->Value->Prop}{St:Nat->Shared->Prop}(W:WalksS prog w A.in1 r fp wr G n P St)(u:∀i s,St i s->s.TypeIs (.ref r) "list_reverseiterator")(S:Addr)(st:St 0 s)(h:S ∉ fp)(g:r∈fp)(p:n<=sizeLine)
  (d:s.heap.get? S=some { cls :=.type "list",data :=.seq #[] }) (q:∀s' a c,Moved (S::wr) G s s'->s'.heap.get? S=some { cls :=.type "list",dict:=none,data :=.seq a c,slots := #[] }->ItemsOf P a n->R (.ok (.ret .none)) s'):
  wpAny (model prog w) A.in1 (Builtin.«list.__init__» ⟨[.ref S,.ref r],[]⟩) (λfin s'=>match fin with | .done f=>R (.ok f) s' | .again l=>l.quiet=true/\codeAny (model prog w) A l R s') (λe s'=>R (.error e) s') s:=by
 show wpAny _ A.in1 (Builtin.List.listItems (.ref S) >>= λk=>Builtin.List.listUpdate (.ref S) (λ_ => #[]) >>= λ_=>letGo k.toList.reverse >>= λ_=>Builtin.List.listExtendWith (.ref S) (.ref r) .none) _ _ s;unfold Builtin.List.listItems;refine wc (wc (vC d rfl (wm ?_)));refine wc (m:=updateSeq S λ_ => #[]) (uE d rfl (wc (uS ?_)));have keep:∀b o,b≠S->s.heap.get? b=some o->(s.heap.update S (Obj.mapSeq λ_=>(#[]:Array Value))).get? b=some o:=λb o z e=>by rw[wW _ _ (jX z)];exact e
 refine za4 W u S .none _ (W.frame 0 s _ s.toks st (ww _) λb j o e=>keep b o (λz=>h (z ▸ j)) e) h g p (vr _ d rfl) λs' a c mv e t=>q s' a c ?_ e t;exact Moved.trans W.gtrans ((Moved.refl W.grefl).then_heap (ww _) λb o j e=>keep b o (λz=>j (by rw[z];exact wq)) e) mv
end
section
variable {prog:Program}{w:World}{A:Around}{E:Value->Shared->Prop}{R:Result->Shared->Prop}{r:Addr}{fp wr:List Addr}{G:Array GenState->Array GenState->Prop}{n:Nat}{P:Nat->Value->Prop}{St:Nat->Shared->Prop}{bt:Nat->Nat->Bool}{Ok:Shared->Prop}
def zfg (prog:Program)(w:World)(A:Around)(Ok:Shared->Prop)(P:Nat->Value->Prop)(bt:Nat->Nat->Bool):Prop:=∀(i j:Nat) (x y:Value) (s:Shared) (Q:Value->Shared->Prop) (E:Value->Shared->Prop),Ok s->P i x->P j y->Q (.bool (bt i j)) s->wpAny (model prog w) A (richCompare .Lt x y) Q E s
def zgR (W:WalksS prog w A.in1 r fp wr G n P St)(cmp:zfg prog w A.in1 Ok P bt)(S:Addr)(out:S ∉ fp)(stay:∀s s',Ok s->Moved (S::wr) G s s'->Ok s'):
  ∀(left at_:Nat) (s:Shared) (best:Value) (c:Nat),n=at_+1+left->St (at_+1) s->Ok s->P (argBest bt at_) best->s.heap.get? S=some { cls :=.type "list",dict:=none,data :=.seq #[best,best] c,slots := #[] }->
   (∀v s',P (argBest bt (n - 1)) v->Moved (S::wr) G s s'->R (.ok (.ret v)) s')->codeAny (model prog w) A (.builtin "min.loop" ⟨[.ref r,.none,.ref S],[]⟩) R s:=by
 k_accD;have more:∀b∈wr,b∈S::wr:=λb z=>wn S z;kl_no;have k:(toString "min"++toString ".loop":String)="min.loop":=by decide
 intro left
 induction left with
 | zero=>
  k_fold;refine vR F.entry_min_loop ?_;rw[vD uZ _];refine wc (m:=seqItems? (.ref S)) (vC hS rfl ?_);w_fin;gp_on;refine wc (m:=updateSeq S λ_ => #[]) (uE hS1 rfl (wc (uS (wm ?_))));sr_in;rw[wW _ _ (apart z)];exact e
 | succ left l=>
  k_fold;refine vR F.entry_min_loop ?_;rw[vD uZ _];refine wc (m:=seqItems? (.ref S)) (vC hS rfl ?_);k_dec;gp_on;have a:=mv.mono more;have ok1:Ok s1:=stay s s1 ok a;show wpAny _ A.in1 (tryCatch (holding [v,v] (richCompare .Lt v best >>= _)) _ >>= _) _ _ s1;by_in;refine wc (vO (jm (wc (uS (wm ?_)))));have step:∀(s2:Shared) (u:Value) (f:Nat),Moved (S::wr) G s s2->St (at_+2) s2->P (argBest bt (at_+1)) u->s2.heap.get? S=some { cls :=.type "list",dict:=none,data :=.seq #[u,u] f,slots := #[] }->codeAny (model prog w) A (.builtin "min.loop" ⟨[.ref r,.none,.ref S],[]⟩) R s2:=λs2 u f d i p g=>
   l (at_+1) s2 u f (by lia) i (stay s s2 ok d) p g λx t q h=>fin x t q (Moved.trans W.gtrans d h)
  cases j:bt (at_+1) (argBest bt at_) with
  | true=>
   rw[if_pos rfl];refine wc (uE hS1 rfl (wc (uS ?_)));rw[k];refine wm ⟨uc uZ _,step _ v _ (a.then_heap (ww _) λb o z e =>?_) (W.frame _ s1 _ s1.toks st1 (ww _) λb z o e =>?_) (by rw[argBest,j];exact pv) (vr _ hS1 rfl)⟩
   .rw[wW _ _ (apart z)];exact e
   .f_len;exact e
  | false=>
   rw[if_neg (by decide)];refine wc (uS ?_);rw[k];exact wm ⟨uc uZ _,step s1 best c a st1 (by rw[argBest,j];exact hb) hS1⟩
def zbh (W:WalksS prog w A.in1 r fp wr G n P St)(d:zfg prog w A.in1 Ok P bt)(S:Addr)(out:S ∉ fp)(stay:∀s s',Ok s->Moved (S::wr) G s s'->Ok s')(hn:0<n){s:Shared}{c:Nat}(st:St 0 s)(ok:Ok s)
  (hS:s.heap.get? S=some { cls :=.type "list",dict:=none,data :=.seq #[] c,slots := #[] }) (fin:∀v s',P (argBest bt (n - 1)) v->Moved (S::wr) G s s'->R (.ok (.ret v)) s'):codeAny (model prog w) A (.builtin "min.loop" ⟨[.ref r,.none,.ref S],[]⟩) R s:=by
 k_accD;kl_no;have h:(toString "min"++toString ".loop":String)="min.loop":=by decide
 refine vR F.entry_min_loop ?_;rw[vD uZ _];refine wc (m:=seqItems? (.ref S)) (vC hS rfl ?_);mg_lt;gp_on;have f:=mv.mono λb z=>wn S z;refine wc (m:=updateSeq S λ_ => #[v,v]) (uE hS1 rfl ?_);rw[h];have a:Moved (S::wr) G s { s1 with heap:=s1.heap.update S (Obj.mapSeq λ_ => #[v,v]) }:=f.then_heap (ww _) λb o z e=>by rw[wW _ _ (apart z)];exact e
 refine wm ⟨uc uZ _,zgR W d S out stay (n - 1) 0 _ v _ (by lia) (W.frame _ s1 _ s1.toks st1 (ww _) λb z o e =>?_) (stay _ _ ok a) pv (vr _ hS1 rfl) λx j i g=>fin x j i (Moved.trans W.gtrans a g)⟩;f_len;exact e
def zcK {x:Value}{s:Shared}{Q:Value->Shared->Prop}
  (h:wpAny (model prog w) A.in1 (pyIter x) (λi d=>∃r fp wr G n P St bt Ok,i = .ref r/\WalksS prog w A.in1 r fp wr G n P St/\St 0 d/\Ok d/\(∀s s',Ok s->(∀b o,b ∉ wr->b<d.heap.objs.size->s.heap.get? b=some o->s'.heap.get? b=some o)->Ok s')/\(∀b∈fp,b<d.heap.objs.size)/\0<n/\zfg prog w A.in1 Ok P bt/\
   ∀v s',P (argBest bt (n - 1)) v->Moved wr G d s'->Q v s') E s):wpAny (model prog w) A (call (.builtin "min") [x]) Q E s:=by
 have q:(toString "min"++toString ".loop":String)="min.loop":=by decide
 refine call_function_tree F.kind_min F.plain_min F.entry_min (F.args_min1 _) ?_;refine wc (m:=Builtin.Builtins.bindParams "min" ["key","default"] 0 ⟨[],[]⟩) (wpAny_of_eq (a:=[none,none]) rfl (wc (wm ?_)));refine wc (vV h (λi d j =>?_) λ_ _ e=>e);obtain⟨r,fp,wr,G,n,P,St,bt,Ok,rfl,W,st,ok,stay,low,p,f,fin⟩:=j;have g:d.heap.objs.size ∉ fp:=λz=>uL _ (low _ z);refine wc (ub ?_);rw[q];refine wm ⟨uc uZ _,zbh (Ok:=Ok) W f d.heap.objs.size g (λs s' o mv=>stay s s' o λb u k l e=>mv.heap b u (λz =>?_) e) p (W.frame 0 d _ d.toks st (ww _) λb _ o e=>wi _ e) (stay d _ ok λb o _ _ e=>wi _ e) (wt _ rfl) λv s' t mv=>fin v s' t (Moved.drop_new (tk:=d.toks) mv (ww _))⟩
 rcases wj.mp z with e | e
 .exact absurd (e ▸ l) (uL _)
 .exact k e
def zff (prog:Program)(w:World)(A:Around)(Ok:Shared->Prop)(P:Nat->Value->Prop)(bt:Nat->Nat->Bool):Prop:=∀(i j:Nat) (x y:Value) (s:Shared) (Q:Value->Shared->Prop) (E:Value->Shared->Prop),Ok s->P i x->P j y->Q (.bool (bt i j)) s->wpAny (model prog w) A (richCompare .Gt x y) Q E s
def zgU (W:WalksS prog w A.in1 r fp wr G n P St)(cmp:zff prog w A.in1 Ok P bt)(S:Addr)(out:S ∉ fp)(stay:∀s s',Ok s->Moved (S::wr) G s s'->Ok s'):
  ∀(left at_:Nat) (s:Shared) (best:Value) (c:Nat),n=at_+1+left->St (at_+1) s->Ok s->P (argBest bt at_) best->s.heap.get? S=some { cls :=.type "list",dict:=none,data :=.seq #[best,best] c,slots := #[] }->
   (∀v s',P (argBest bt (n - 1)) v->Moved (S::wr) G s s'->R (.ok (.ret v)) s')->codeAny (model prog w) A (.builtin "max.loop" ⟨[.ref r,.none,.ref S],[]⟩) R s:=by
 k_accD;have more:∀b∈wr,b∈S::wr:=λb z=>wn S z;kl_no;have k:(toString "max"++toString ".loop":String)="max.loop":=by decide
 intro left
 induction left with
 | zero=>
  k_fold;refine vR F.entry_max_loop ?_;rw[vD u3 _];refine wc (m:=seqItems? (.ref S)) (vC hS rfl ?_);w_fin;gp_on;refine wc (m:=updateSeq S λ_ => #[]) (uE hS1 rfl (wc (uS (wm ?_))));sr_in;rw[wW _ _ (apart z)];exact e
 | succ left l=>
  k_fold;refine vR F.entry_max_loop ?_;rw[vD u3 _];refine wc (m:=seqItems? (.ref S)) (vC hS rfl ?_);k_dec;gp_on;have a:=mv.mono more;have ok1:Ok s1:=stay s s1 ok a;show wpAny _ A.in1 (tryCatch (holding [v,v] (richCompare .Gt v best >>= _)) _ >>= _) _ _ s1;by_in;refine wc (vO (jm (wc (uS (wm ?_)))));have step:∀(s2:Shared) (u:Value) (f:Nat),Moved (S::wr) G s s2->St (at_+2) s2->P (argBest bt (at_+1)) u->s2.heap.get? S=some { cls :=.type "list",dict:=none,data :=.seq #[u,u] f,slots := #[] }->codeAny (model prog w) A (.builtin "max.loop" ⟨[.ref r,.none,.ref S],[]⟩) R s2:=λs2 u f d i p g=>
   l (at_+1) s2 u f (by lia) i (stay s s2 ok d) p g λx t q h=>fin x t q (Moved.trans W.gtrans d h)
  cases j:bt (at_+1) (argBest bt at_) with
  | true=>
   rw[if_pos rfl];refine wc (uE hS1 rfl (wc (uS ?_)));rw[k];refine wm ⟨uc u3 _,step _ v _ (a.then_heap (ww _) λb o z e =>?_) (W.frame _ s1 _ s1.toks st1 (ww _) λb z o e =>?_) (by rw[argBest,j];exact pv) (vr _ hS1 rfl)⟩
   .rw[wW _ _ (apart z)];exact e
   .f_len;exact e
  | false=>
   rw[if_neg (by decide)];refine wc (uS ?_);rw[k];exact wm ⟨uc u3 _,step s1 best c a st1 (by rw[argBest,j];exact hb) hS1⟩
def zbi (W:WalksS prog w A.in1 r fp wr G n P St)(d:zff prog w A.in1 Ok P bt)(S:Addr)(out:S ∉ fp)(stay:∀s s',Ok s->Moved (S::wr) G s s'->Ok s')(hn:0<n){s:Shared}{c:Nat}(st:St 0 s)(ok:Ok s)
  (hS:s.heap.get? S=some { cls :=.type "list",dict:=none,data :=.seq #[] c,slots := #[] }) (fin:∀v s',P (argBest bt (n - 1)) v->Moved (S::wr) G s s'->R (.ok (.ret v)) s'):codeAny (model prog w) A (.builtin "max.loop" ⟨[.ref r,.none,.ref S],[]⟩) R s:=by
 k_accD;kl_no;have h:(toString "max"++toString ".loop":String)="max.loop":=by decide
 refine vR F.entry_max_loop ?_;rw[vD u3 _];refine wc (m:=seqItems? (.ref S)) (vC hS rfl ?_);mg_lt;gp_on;have f:=mv.mono λb z=>wn S z;refine wc (m:=updateSeq S λ_ => #[v,v]) (uE hS1 rfl ?_);rw[h];have a:Moved (S::wr) G s { s1 with heap:=s1.heap.update S (Obj.mapSeq λ_ => #[v,v]) }:=f.then_heap (ww _) λb o z e=>by rw[wW _ _ (apart z)];exact e
 refine wm ⟨uc u3 _,zgU W d S out stay (n - 1) 0 _ v _ (by lia) (W.frame _ s1 _ s1.toks st1 (ww _) λb z o e =>?_) (stay _ _ ok a) pv (vr _ hS1 rfl) λx j i g=>fin x j i (Moved.trans W.gtrans a g)⟩;f_len;exact e
def zcO {x:Value}{s:Shared}{Q:Value->Shared->Prop}
  (h:wpAny (model prog w) A.in1 (pyIter x) (λi d=>∃r fp wr G n P St bt Ok,i = .ref r/\WalksS prog w A.in1 r fp wr G n P St/\St 0 d/\Ok d/\(∀s s',Ok s->(∀b o,b ∉ wr->b<d.heap.objs.size->s.heap.get? b=some o->s'.heap.get? b=some o)->Ok s')/\(∀b∈fp,b<d.heap.objs.size)/\0<n/\zff prog w A.in1 Ok P bt/\
   ∀v s',P (argBest bt (n - 1)) v->Moved wr G d s'->Q v s') E s):wpAny (model prog w) A (call (.builtin "max") [x]) Q E s:=by
 have q:(toString "max"++toString ".loop":String)="max.loop":=by decide
 refine call_function_tree F.kind_max F.plain_max F.entry_max (F.args_max1 _) ?_;refine wc (m:=Builtin.Builtins.bindParams "max" ["key","default"] 0 ⟨[],[]⟩) (wpAny_of_eq (a:=[none,none]) rfl (wc (wm ?_)));refine wc (vV h (λi d j =>?_) λ_ _ e=>e);obtain⟨r,fp,wr,G,n,P,St,bt,Ok,rfl,W,st,ok,stay,low,p,f,fin⟩:=j;have g:d.heap.objs.size ∉ fp:=λz=>uL _ (low _ z);refine wc (ub ?_);rw[q];refine wm ⟨uc u3 _,zbi (Ok:=Ok) W f d.heap.objs.size g (λs s' o mv=>stay s s' o λb u k l e=>mv.heap b u (λz =>?_) e) p (W.frame 0 d _ d.toks st (ww _) λb _ o e=>wi _ e) (stay d _ ok λb o _ _ e=>wi _ e) (wt _ rfl) λv s' t mv=>fin v s' t (Moved.drop_new (tk:=d.toks) mv (ww _))⟩
 rcases wj.mp z with e | e
 .exact absurd (e ▸ l) (uL _)
 .exact k e
end
end Rev
namespace Pu
open PySem PySem.Spec PyProof.Rows L2
section
variable {X:Cx}{O:AP}{ρ:Pu.Env}{s:Shared}{mg:Rm}{d:D}{v:Value}{l:List D}
set_option tactic.hygienic true in
theorem z9w (f:Nat->Int):∀k,argBest (λi j=>decide (f i<f j)) k<=k/\∀j,j<=k->f (argBest (λi j=>decide (f i<f j)) k)<=f j
 | 0=>⟨ww _,λj h=>by rw[show j=0 by lia];exact uw _⟩
 | k+1=>by
  obtain⟨e,b⟩:=z9w f k;rw[argBest]
  split
  .rename_i a
   have a:=ux a;refine⟨ww _,λj d =>?_⟩
   rcases vp j (k+1) with z | z
   .have:=b j (by lia);lia
   .rw[show j=k+1 by lia];exact uw _
  .rename_i a
   have a:¬ f (k+1)<f (argBest (λi j=>decide (f i<f j)) k):=λz=>a (vU z);refine⟨by lia,λj d =>?_⟩
   rcases vp j (k+1) with z | z
   .exact b j (by lia)
   .rw[show j=k+1 by lia];lia
def zgX (a b:Int × Int)(h:HT.z0B [a.1,a.2] [b.1,b.2]=false):LxG a b:=by
 rw[HT.z0G] at h;unfold LxG
 by_cases e:a.1=b.1
 .rw[if_pos e,HT.z0G] at h
  by_cases d:a.2=b.2
  .omega
  .rw[if_neg d] at h;have:=u5 h;omega
 .rw[if_neg e] at h;have:=u5 h;omega
set_option tactic.hygienic true in
theorem zbS (f:Nat->List Int):∀k j,j<=k->HT.z0B (f (argBest (λi j=>HT.z0B (f j) (f i)) k)) (f j)=false
 | 0,j,h=>by
  obtain rfl:j=0:=by lia
  exact Tim.z5p _
 | k+1,j,h=>by
  have b:=zbS f k;rw[argBest]
  split
  .rename_i a
   rcases vp j (k+1) with z | z
   .cases q:HT.z0B (f (k+1)) (f j) with
    | false=>rfl
    | true=>have:=b j (by lia);rw[Tim.z97 a q] at this;cases this
   .obtain rfl:j=k+1:=by lia
    exact Tim.z5p _
  .rename_i a
   rcases vp j (k+1) with z | z
   .exact b j (by lia)
   .obtain rfl:j=k+1:=by lia
    exact Bool.eq_false_iff.mpr a
structure zaa (mg:Rm)(O:AP)(s:Shared)(l:List D)(a:Addr)(vs:List Value):Prop where
 rs:Rws mg (hp O s.heap) l vs
 sz:vs.length<=sizeLine
 lt:a<s.heap.objs.size
 wk:∀{prog w A},A.handled=none->∃io St,Walks prog w A s.heap.objs.size [s.heap.objs.size,a] [s.heap.objs.size] vs.toArray.size (λi v=>vs.toArray[i]? = some v) St/\St 0 (s.heap.push io)/\∀{Q':WvP}{E':WvP},Q' (.ref s.heap.objs.size) { s with heap:=s.heap.push io }->wpAny (model prog w) A (pyIter (.ref a)) Q' E' s
def z5V (r:RD mg (hp O s.heap) d v)(j:items d=some l):∃a vs,v = .ref a/\zaa mg O s l a vs:=by
 cases d with
 | lst l=>
  cases j
  obtain⟨a,o,vs,rfl,b,k,rs⟩:=z1L.1 r;obtain⟨e,m,h,n,f⟩:=k;have g:=wO b.1;exact⟨a,vs,rfl,rs,h,g,λi=>⟨_,_,Walks.list i _ a (wX g) vs.toArray,⟨⟨_,wt _ rfl,rfl,rfl⟩,⟨o,wi _ b.1,e,n,f⟩⟩,λq=>wpAny_pyIter_list ⟨o,b.1,e,n,f⟩ q⟩⟩
 | tup l=>
  cases j
  obtain⟨a,o,vs,rfl,b,k,rs⟩:=z0O.1 r;obtain⟨e,m,h,n,f⟩:=k;have g:=wO b.1;exact⟨a,vs,rfl,rs,h,g,λi=>⟨_,_,Walks.tuple i _ a (wX g) vs.toArray,⟨⟨_,wt _ rfl,rfl,rfl⟩,⟨o,wi _ b.1,e,n,f⟩⟩,λq=>u8 ⟨o,b.1,e,n,f⟩ q⟩⟩
 | _=>cases j
def zaa.low {a:Addr}{vs:List Value}(h:zaa mg O s l a vs)(f:Obj):∀b∈[s.heap.objs.size,a],b<(s.heap.push f).objs.size:=λb d=>by
 rw[vq];simp only[wj,wF,vS] at d
 rcases d with e | e
 .rw[e];exact jx _
 .rw[e];exact uk h.lt
def zbx {h':Heap}{tk:Nat}{d:Obj}(a:∀b o,b ∉ [s.heap.objs.size]->(s.heap.push d).get? b=some o->h'.get? b=some o):Gx s { s with heap:=h',toks:=tk } :=.heap λb o e=>a b o (by simpa using wX (wO e)) (wi _ e)
theorem z9v:∀{a:List Bool}{vs:List Value}{G:Hp},Rws mg G (a.map .bl) vs->vs=a.map .bool
 | [],_,_,r=>by cases r;rfl
 | b::a,_,_,r=>by
  cases r with
  | cons r t=>rw[z4U.1 r,z9v t];rfl
def zfc (d:List Bool):(List.range d.length).all (λi=>d[i]?.getD true)=d.all id:=by
 apply Bool.eq_iff_iff.mpr;simp only[List.all_eq_true,vI,id]
 o_rec
 .intro h b f;obtain⟨i,a,e⟩:=w5.mp f;have:=h i a;rw[wf a] at this;simpa[e] using this
 .intro h i a;rw[wf a];exact h _ (uv a)
def zhl:z4l X (.builtin "all") pAll:=λ{O y s t vs p Q} I rs r k=>by
 obtain⟨d,rfl,g,rfl,q⟩:=z2D r;kd_in;l_out;l_bnd
 cases z9v S.rs
 refine call_all_walk (it ⟨_,_,_,_,_,_,λi=>g[i]?.getD true,rfl,W,st,λi v s' h o j l =>?_,λu x n =>?_⟩)
 .have e:(g.map Value.bool)[i]? = some v:=by simpa using j
  rw[wN] at e;obtain⟨b,m,rfl⟩:=vk.mp e;have f:h (g[i]?.getD true) s':=l;rw[m] at f;exact wm f
 .rw[wH,wd,zfc];exact k _ _ _ q (zbx n) .bl'
def zeR {ns:List Int}{vs:List Value}{G:Hp}(r:Rws mg G (ns.map .int) vs){i:Nat}{v:Value}(e:vs[i]? = some v):∃t,v = .int (ns.getD i 0) t/\i<ns.length:=by
 obtain⟨d,a,rd⟩:=r.getR e;rw[wN] at a;obtain⟨n,b,rfl⟩:=vk.mp a;obtain⟨t,rfl⟩:=z0x.1 rd;exact⟨t,by rw[wG,b];rfl,(wo.mp b).1⟩
def zdg {ns:List Int}{a:Addr}{vs:List Value}{Q:WvP}(I:St X O ρ s)(S:zaa X.rm O s (ns.map .int) a vs)(k:∀{s'},Gx s s'->∀t,Q (.int ns.sum t) s'):wpAny X.M X.A (call (.builtin "sum") [.ref a]) Q NE s:=by
 l_bnd;refine call_sum_walkG (it ⟨_,_,_,_,_,_,λi=>ns.getD i 0,rfl,W,st,S.low io,λi v e=>(zeR S.rs (by simpa using e)).imp λt q=>q.1,λg h f b =>?_⟩);have d:=S.rs.len;rw[wd] at d;rw[preSum_getD,ud (by simp;lia)];exact k (zbx b) f
def zhj:z4l X (.builtin "sum") pSum:=λ{O j s h vs f Q} I rs r k=>by
 obtain⟨d,rfl,b⟩:=z2D r;unfold gSum at b
 split at b
 .obtain⟨i,e,q⟩:=z50 b;kd_in;rw[z3s e] at rd;l_out;exact zdg I S λg t=>k _ _ _ q g .int'
 .exact b.elim
def zf2:z4l X (.builtin "sum") zgj:=λ{O h s e vs b Q} I rs r k=>by
 obtain⟨d,rfl,f,rfl,q⟩:=z2D r;kd_in;l_out;exact zdg I S λg t=>k _ _ _ q g .int'
def zgS {a:Addr}{vs:List Value}{Q:WvP}{bt:Nat->Nat->Bool}(I:St X O ρ s)(S:zaa X.rm O s l a vs)(N:0<l.length)
  (n:∀{i j f p x y s1 m E},l[i]? = some f->l[j]? = some p->RD X.rm (λb o=>s1.heap.get? b=some o) f x->RD X.rm (λb o=>s1.heap.get? b=some o) p y->m (Value.bool (bt i j)) s1->wpAny X.M X.A.in1 (richCompare .Lt x y) m E s1)
  (k:∀{d v s'},l[argBest bt (l.length - 1)]? = some d->Gx s s'->RD X.rm (hp O s'.heap) d v->Q v s'):wpAny X.M X.A (call (.builtin "min") [.ref a]) Q NE s:=by
 l_bnd;have F:=S.rs.len;have keep:∀{s1 C:Shared},(∀b o,hp O s.heap b o->s1.heap.get? b=some o)->(∀b o,b≠s.heap.objs.size->b<s.heap.objs.size->s1.heap.get? b=some o->C.heap.get? b=some o)->∀b o,hp O s.heap b o->C.heap.get? b=some o:=λh q b o z=>q b o (wX (wO z.1)) (wO z.1) (h b o z);refine Rev.zcK (it ⟨_,_,_,_,_,_,_,bt,λs'=>∀b o,hp O s.heap b o->s'.heap.get? b=some o,rfl,W.toS,st,λb o z=>wi _ z.1,λs1 C o q=>keep o λb u L F e=>q b u (by simpa using L) (by rw[vq];lia) e,S.low io,by simp;lia,λi j x y s1 m E ok R py T =>?_,λv s' G mv =>?_⟩)
 .obtain⟨f,r,t⟩:=S.rs.getR (show vs[i]? = some x by simpa using R);obtain⟨p,K,U⟩:=S.rs.getR (show vs[j]? = some y by simpa using py);exact n r K (t.mono ok) (U.mono ok) T
 .kpf_c;have H:g'=s.gens:=mv.gens;have ed:d'=s.drawn:=mv.drawn;have J:os'=s.os:=mv.os;subst H;subst ed;subst J;rw[wH,F] at G;obtain⟨f,r,t⟩:=S.rs.getR (show vs[_]? = some v by simpa using G);kpc_g;exact k r g (t.up g)
def zdI {a:Addr}{vs:List Value}{Q:WvP}{bt:Nat->Nat->Bool}(I:St X O ρ s)(S:zaa X.rm O s l a vs)(N:0<l.length)
  (n:∀{i j f p x y s1 m E},l[i]? = some f->l[j]? = some p->RD X.rm (λb o=>s1.heap.get? b=some o) f x->RD X.rm (λb o=>s1.heap.get? b=some o) p y->m (Value.bool (bt i j)) s1->wpAny X.M X.A.in1 (richCompare .Gt x y) m E s1)
  (k:∀{d v s'},l[argBest bt (l.length - 1)]? = some d->Gx s s'->RD X.rm (hp O s'.heap) d v->Q v s'):wpAny X.M X.A (call (.builtin "max") [.ref a]) Q NE s:=by
 l_bnd;have F:=S.rs.len;have keep:∀{s1 C:Shared},(∀b o,hp O s.heap b o->s1.heap.get? b=some o)->(∀b o,b≠s.heap.objs.size->b<s.heap.objs.size->s1.heap.get? b=some o->C.heap.get? b=some o)->∀b o,hp O s.heap b o->C.heap.get? b=some o:=λh q b o z=>q b o (wX (wO z.1)) (wO z.1) (h b o z);refine Rev.zcO (it ⟨_,_,_,_,_,_,_,bt,λs'=>∀b o,hp O s.heap b o->s'.heap.get? b=some o,rfl,W.toS,st,λb o z=>wi _ z.1,λs1 C o q=>keep o λb u L F e=>q b u (by simpa using L) (by rw[vq];lia) e,S.low io,by simp;lia,λi j x y s1 m E ok R py T =>?_,λv s' G mv =>?_⟩)
 .obtain⟨f,r,t⟩:=S.rs.getR (show vs[i]? = some x by simpa using R);obtain⟨p,K,U⟩:=S.rs.getR (show vs[j]? = some y by simpa using py);exact n r K (t.mono ok) (U.mono ok) T
 .kpf_c;have H:g'=s.gens:=mv.gens;have ed:d'=s.drawn:=mv.drawn;have J:os'=s.os:=mv.os;subst H;subst ed;subst J;rw[wH,F] at G;obtain⟨f,r,t⟩:=S.rs.getR (show vs[_]? = some v by simpa using G);kpc_g;exact k r g (t.up g)
def z63 {ns:List Int}{i:Nat}{d:D}(e:(ns.map D.int)[i]? = some d):d = .int (ns.getD i 0)/\i<ns.length:=by
 rw[wN] at e;obtain⟨n,a,rfl⟩:=vk.mp e;exact⟨by rw[wG,a];rfl,(wo.mp a).1⟩
def zby {ns:List Int}{i:Nat}(h:i<ns.length):ns.getD i 0∈ns:=by rw[wG,wf h];exact uv h
def zf3:z4l X (.builtin "min") zgk:=λ{O E s z vs y Q} I rs r k=>by
 obtain⟨d,rfl,b,rfl,e,q⟩:=z2D r;kd_in;l_out;have hp:=w4.mpr e;refine zgS (bt:=λi j=>decide (b.getD i 0<b.getD j 0)) I S (by rw[wd];exact hp) (λh l r1 f u =>?_) λ{d v A} m g rd =>?_
 .rw[(z63 h).1] at r1;rw[(z63 l).1] at f;k_few;obtain⟨C,rfl⟩:=z0x.1 f;exact lt_int u
 .obtain⟨rfl,n⟩:=z63 m;refine k _ _ _ (q _ (zby n) λx p =>?_) g rd;obtain⟨j,o,rfl⟩:=w5.mp p;have:=(z9w (λi=>b.getD i 0) ((b.map D.int).length - 1)).2 j (by rw[wd];lia)
  rwa [show b.getD j 0=b[j] by rw[wG,wf o];rfl] at this
def zf6:z4l X (.builtin "max") zez:=λ{O F s A vs z Q} I rs r k=>by
 obtain⟨d,rfl,r1⟩:=z2D r;unfold zbC at r1
 split at r1
 .obtain⟨b,e,f,q⟩:=z50 r1;kd_in;rw[z3s e] at rd;l_out;have hp:=w4.mpr f;refine zdI (bt:=λi j=>decide (b.getD i 0 > b.getD j 0)) I S (by rw[wd];exact hp) (λl m r1 h y =>?_) λ{d v C} n g rd =>?_
  .rw[(z63 l).1] at r1;rw[(z63 m).1] at h;k_few;obtain⟨E,rfl⟩:=z0x.1 h;exact gt_int y
  .obtain⟨rfl,o⟩:=z63 n;refine k _ _ _ (q _ (zby o) λx u =>?_) g rd;obtain⟨j,p,rfl⟩:=w5.mp u;have:=z5y (λi=>b.getD i 0) ((b.map D.int).length - 1) j (by rw[wd];lia)
   rwa [show b.getD j 0=b[j] by rw[wG,wf p];rfl] at this
 .exact r1.elim
def zam {ks:List (List Int)}{i:Nat}{d:D}(e:(ks.map tupD)[i]? = some d):d=tupD (ks.getD i [])/\i<ks.length/\ks.getD i []∈ks:=by
 rw[wN] at e;obtain⟨n,a,rfl⟩:=vk.mp e;have b:=(wo.mp a).1;have h:ks.getD i []=n:=by rw[wG,a];rfl
 exact⟨by rw[h],b,by rw[h];exact wu a⟩
def zan {k:List Int}{x:Value}{h:Heap}(r:RD mg (λb o=>h.get? b=some o) (tupD k) x):∃a vs,x = .ref a/\IsTup h a vs.toArray/\IntsAre vs k:=by
 obtain⟨a,o,vs,rfl,f,⟨d,g,i,n,e⟩,rs⟩:=z0O.1 r;exact⟨a,vs,rfl,⟨o,f,d,n,e⟩,rs.ints⟩
def z9D {d:D}{P:List (List Int)->Prop}(h:zaz d P):∃ks,items d=some (ks.map tupD)/\ks.length<=2040/\P ks:=by
 cases d with
 | lst l=>obtain⟨ks,rfl,a,q⟩:=h;exact⟨ks,rfl,by simpa using a,q⟩
 | tup l=>obtain⟨ks,rfl,a,q⟩:=h;exact⟨ks,rfl,by simpa using a,q⟩
 | _=>exact h.elim
def zfm (I:St X O ρ s):X.A.in1.units<cLine:=by
 have:=I.ok.un;have:X.A.in1.units<=X.A.units+1:=by simp
 lia
def zf5:z4l X (.builtin "max") zgl:=λ{O W s L vs H Q} I rs r k=>by
 obtain⟨d,rfl,ps,rfl,e,R,q⟩:=z2D r;kd_in;rw[show ps.map vec=(ps.map λp=>[p.1,p.2]).map tupD by rw[wR];rfl] at rd;generalize h:(ps.map λp=>[p.1,p.2])=b at rd;l_out;have hp:0<b.length:=by rw[<- h,wd];exact w4.mpr e
 refine zdI (bt:=λi j=>HT.z0B (b.getD j []) (b.getD i [])) I S (by rw[wd];exact hp) (λt u n o E =>?_) λ{d v T} y g rd =>?_
 .rw[(zam t).1] at n;rw[(zam u).1] at o;obtain⟨J,U,rfl,F,A⟩:=zan n;obtain⟨K,V,rfl,G,C⟩:=zan o;exact HT.z5x (.inr ⟨rfl,rfl⟩) F G (by simpa using A) (by simpa using C) (zfm I) E
 .obtain⟨rfl,N,l⟩:=zam y;have top:∀x∈b,HT.z0B (b.getD (argBest (λi j=>HT.z0B (b.getD j []) (b.getD i [])) ((b.map tupD).length - 1)) []) x=false:=λx f=>by
   obtain⟨j,z,rfl⟩:=w5.mp f;have:=zbS (λi=>b.getD i []) ((b.map tupD).length - 1) j (by rw[wd];lia)
   rwa [show b.getD j []=b[j] by rw[wG,wf z];rfl] at this
  generalize b.getD (argBest (λi j=>HT.z0B (b.getD j []) (b.getD i [])) ((b.map tupD).length - 1)) []=m at rd l top;subst h;obtain⟨p,hp,rfl⟩:=we.mp l;exact k _ _ _ (q p hp λx f=>zgX _ _ (top _ (we.mpr ⟨x,f,rfl⟩))) g rd
end
open Tab
section
variable {X:Cx}{O:AP}{ρ:Pu.Env}{s:Shared}{mg:Rm}{d:D}{v:Value}{ks:List (List Int)}
theorem z62 {P:Program}{w:World}:∀{ns:List Int}{us:List Value},IntsAre us ns->ItemsAre (intKind P w) ns us
 | _,_,.nil =>.nil
 | _,_,.cons n t h =>.cons (by simp[intKind,Value.isInt]) (z62 h)
def zfp {P:Program}{w:World}{h:Heap}{k:List Int}{x:Value}(r:RD mg (hp O h) (tupD k) x):∃b,x = .ref b/\TK P w h k b:=by
 obtain⟨a,o,vs,rfl,f,⟨d,g,i,n,e⟩,rs⟩:=z0O.1 r;exact⟨a,rfl,o,vs.toArray,n,f.1,d,e,by simpa using z62 rs.ints⟩
def z4b {e:Expr}{f:Str}{u:Value}{id:String}{p pos:Pos}{Q:WvP}(I:St X O ρ s)(g:Gl X f)(i:X.mg f=none)(k:bootBuiltins f=some u)(l:u = .builtin id\/u = .type id)(j:f≠"__name__")(d:(f == ("__debug__":Str))=false)(a:starEach [e] X.env=(false,eval e X.env)::starEach [] X.env)
  (h:wpAny X.M X.A (eval e X.env) (λv s1=>wpAny X.M X.A (call u [v]) Q NE s1) NE s):wpAny X.M X.A (eval (.Call (.Name f p) [e] [] pos) X.env) Q NE s:=by
 have b:wpAny X.M X.A (spliced (backTo pos (starEach [e] X.env))) (λvs s1=>wpAny X.M X.A (call u vs) Q NE s1) NE s:=by
  rw[a];exact vX (vV h (λv s1 h=>uz h) λ_ _ z=>z)
 rcases l with rfl | rfl
 .exact vY (z4c I g i k (uD b a rfl) j d)
 .exact vY (z4c I g i k (uR b a rfl) j d)
def MemK (mg:Rm)(O:AP)(h:Heap)(v:Value):Prop:=∃k,RD mg (hp O h) (tupD k) v
def zd7 {Q:WvP}(I:St X O ρ s)(rd:RD X.rm (hp O s.heap) d v)(h:items d=some (ks.map tupD))(F:ks.length<=2040)
  (k:∀{s' p g},Gx s s'->s.heap.get? p=none->SetK X.prog X.w (MemK X.rm O s.heap) s'.heap p g->(∀x,x∈g↔x∈ks)->g.length<=2040->Q (.ref p) s'):wpAny X.M X.A (call (.type "set") [v]) Q NE s:=by
 have J:=I.ok.un;have two:∀{vs:List Value},Rws X.rm (hp O s.heap) (ks.map tupD) vs->Two (IsK X.prog X.w (MemK X.rm O s.heap) s.heap) vs ks:=λ{vs} r=>by
  clear h F k
  induction ks generalizing vs with
  | nil=>cases r;exact .nil
  | cons a ks G=>
   cases r with
   | cons r t=>exact .cons ⟨⟨a,r⟩,zfp r⟩ (G t)
 cases d with
 | lst l=>
  cases h
  obtain⟨a,o,vs,rfl,m,⟨i,z,C,n,j⟩,rs⟩:=z1L.1 rd;have u:=rs.len;rw[wd] at u;exact z6Q (M:=MemK X.rm O s.heap) (ks:=ks) (items:=vs.toArray) I.ok.hd (by lia) ⟨o,m.1,i,n,j⟩ (by simpa using two rs) (by simp;lia) λE H g q f y keep=>k (.heap λb o e=>keep b o (wO e) e) (z2O s) q y (by simp at f;lia)
 | tup l=>
  cases h
  obtain⟨a,o,vs,rfl,m,⟨i,z,C,n,j⟩,rs⟩:=z0O.1 rd;have u:=rs.len;rw[wd] at u;exact z5O (M:=MemK X.rm O s.heap) (ks:=ks) (items:=vs.toArray) I.ok.hd (by lia) ⟨o,m.1,i,n,j⟩ (by simpa using two rs) (by simp;lia) λE H g q f y keep=>k (.heap λb o e=>keep b o (wO e) e) (z2O s) q y (by simp at f;lia)
 | _=>cases h
def z9K {e:Expr}{x:Ex}{p1 H J p4:Pos}(Y:Gl X "sorted")(hm:X.mg "sorted"=none)(A:Gl X "set")(C:X.mg "set"=none)(W:QX X e x)
  (F:starEach [e] X.env=(false,eval e X.env)::starEach [] X.env) (G:starEach [.Call (.Name "set" H) [e] [] J] X.env=(false,eval (.Call (.Name "set" H) [e] [] J) X.env)::starEach [] X.env):QF X (.Call (.Name "sorted" p1) [.Call (.Name "set" H) [e] [] J] [] p4) (.op z8W [x]):=⟨λ{O ρ s V Q} I r k=>
 z4b I Y hm rfl (.inl rfl) (by decide) (by decide) G (z4b I A C rfl (.inr rfl) (by decide) (by decide) F (W.p I r λd v s1 q g rd=>by
  obtain⟨ks,Z,hz,E,q2⟩:=z9D (show z9e d V from q);refine zd7 (I.up g) rd Z hz λ{i p kl} y hp S h l =>?_;refine z9B (M:=MemK X.rm O s1.heap) I.ok.hd S (λk hk=>E k ((h k).mp hk)) (vd l (by decide)) λs' f keep K L N e4 perm m U D R j =>?_;obtain⟨n,j⟩:=j;kpf_c;dsimp only at K L N keep j;subst K;subst L;subst N;have g3:Gx i ⟨h',i.gens,i.drawn,tk',i.os⟩ :=.heap keep;have T:f.length=kl.length:=by rw[<- perm.length_eq,wd]
  refine k (.lst ((f.map (z5M i.heap)).map tupD)) D _ (q2 _ ⟨zdq (perm.nodup_iff.mpr S.nd) U,λz=>by rw[perm.mem_iff];exact h z⟩) ((g.trans y).trans g3) (g.none (y.none R)) ⟨f,n,j,by rw[T];exact vd l (by decide),?_⟩;clear perm U j T
  induction f with
  | nil=>exact .nil
  | cons v f ih=>
   refine .cons ?_ (ih λv hv=>m v (wn _ hv));obtain⟨⟨k0,rk⟩,ti⟩:=m v wq;have u:=rk.up y;obtain⟨b,e,t⟩:=zfp (P:=X.prog) (w:=X.w) u;rw[show z5M i.heap v=k0 from z6G (by rw[e];exact t.ti)];exact u.mono λa o q=>⟨keep a o q.1,λz=>z.elim q.2 λz=>by subst z;have:=R.symm.trans q.1;cases this⟩))⟩
end
end Pu
namespace Tim
open PySem PyProof.Rows PySem.W HT
def TP (h:Heap)(v:Value)(n:Int):Prop:=∃a o b m t r,v = .ref a/\h.get? a=some o/\o.cls = .type "tuple"/\o.data = .seq b m/\b.toList=[.int n t,r]
def TP.keep {h h':Heap}{v:Value}{n:Int}(x:TP h v n)(g:∀b o,h.get? b=some o->o.cls = .type "tuple"->h'.get? b=some o):TP h' v n:=by
 obtain⟨a,o,d,m,t,r,e,i,f,j,k⟩:=x;exact⟨a,o,d,m,t,r,e,g _ _ i f,f,j,k⟩
def keyP (h:Heap)(v:Value):Int:=match v with
 | .ref a=>match h.get? a with
  | some o=>match o.data with
   | .seq b _=>match b.toList with
    | .int n _::_=>n
    | _=>0
   | _=>0
  | none=>0
 | _=>0
def TP.key {h:Heap}{v:Value}{n:Int}(x:TP h v n):keyP h v=n:=by
 obtain⟨a,o,f,m,t,r,rfl,b,_,d,e⟩:=x;simp only[keyP,b,d,e]
section
variable {prog:Program}{w:World}{A:Around}{s:Shared}
def lex1 (a b:Int):z0B [a] [b]=decide (a<b):=by
 rw[z0G]
 by_cases e:a=b
 .rw[if_pos e]
  symm
  exact vz (by omega)
 .rw[if_neg e]
def zeQ {b:Bool}{Q:Bool->Shared->Prop}{n m:Int}{t u:Tok}{r a:Value}(d:n=m->r=a)(h:Q (decide (n<m)) s):KatLex prog w A b false Q ([Value.int n t,r].zip [Value.int m u,a]) 0 s:=by
 refine kat_cons (wpAny_eqBool_int ?_)
 by_cases e:n=m
 .subst e;rw[show (n == n)=true by simp];obtain rfl:=d rfl;refine kat_yes (kat_cons (SeqAt.EqAt.same r prog w _ _ (kat_yes (kat_nil ?_))));rw[vz (by omega)] at h;exact h
 .rw[show (n == m)=false by simpa using e];refine kat_no ?_
  cases f:(b && 0 == 0) with
  | true=>exact oneLt_int h
  | false=>exact kat_one _ _ (lt_int h)
theorem z7y {h:Heap}{key:Value->Int}:∀{vs:List Value},(∀v∈vs,TP h v (key v))->∃b:List Value,KatTups h vs b/\b.length=vs.length/\∀f∈b,∃n t,f = .int n t
 | [],_=>⟨[],.nil,rfl,λ_ h=>by cases h⟩
 | v::vs,g=>by
  obtain⟨b,q,s,u⟩:=z7y (vs:=vs) (λv m=>g v (wn _ m));obtain⟨a,o,p,n,t,r,e,i,j,k,l⟩:=g v (wq ..);subst e;refine⟨.int (key (.ref a)) t::b,.cons i j k (by rw[<- w6,l];rfl) q,by simp[s],λf d =>?_⟩
  rcases wj.mp d with rfl | d
  .exact⟨_,_,rfl⟩
  .exact u f d
def z4V.prs {h:Heap}{vs:List Value}{key:Value->Int}(i:∀v∈vs,TP h v (key v))(m:∀u∈vs,∀v∈vs,key u=key v->u=v):z4V prog w h vs (λv=>rkL (vs.map λv=>[key v]) [key v]):=λA s k=>by
 refine⟨tuples' true,?_,λX Q E q =>?_⟩
 .intro x y G H Q E b;rw[pairsOf_toList] at G H;have o:=(mem_zip_self G).2;have p:=(mem_zip_self H).2;rw[<- z8R (we.mpr ⟨_,o,rfl⟩) (we.mpr ⟨_,p,rfl⟩),lex1] at b;have l:=m _ o _ p;obtain⟨R,o1,I,Y,t1,r1,z,F,U,r,d⟩:=(i _ o).keep k;obtain⟨S,o2,J,Z,t2,r2,C,g,V,f,a⟩:=(i _ p).keep k;rw[z] at b d l;rw[C] at b a l;rw[z,C];have K:I.size=2:=by rw[<- vg,d];rfl
  have L:J.size=2:=by rw[<- vg,a];rfl
  refine kat_lt F r g f ?_;rw[d,a,show decide (I.size<J.size)=false by rw[K,L];rfl];refine zeQ (λe =>?_) b;have:=l e
  cases this
  rw[F] at g
  cases g
  rw[r] at f
  cases f
  rw[d] at a;simp only[List.cons.injEq] at a;exact a.2.1
 .obtain⟨W,N,q2,O⟩:=z7y λv j=>(i v j).keep k;refine kat_kind (T :=.type "int") N (by omega) (λv j =>?_) rfl q;obtain⟨n,t,rfl⟩:=O v j;exact Looks.now
end
end Tim
namespace Pu
open PySem PySem.Spec PyProof.Rows L2 Tab
section
variable {X:Cx}{O:AP}{ρ:Pu.Env}{s:Shared}{mg:Rm}{d:D}{v:Value}
theorem z6Y {α d i:Type}{R:α->d->Prop}{f:α->i}{g:d->i}(e:∀a b,R a b->f a=g b):∀{l:List α}{m:List d},Two R l m->l.map f=m.map g
 | _,_,.nil=>rfl
 | _,_,.cons h t=>by rw[wC,wC,e _ _ h,z6Y e t]
theorem zbs {α j:Type}{f:α->j}:∀{l:List α},(l.map f).Nodup->∀u∈l,∀v∈l,f u=f v->u=v
 | a::l,h,u,i,v,g,e=>by
  rw[wC,vP] at h
  rcases wj.mp i with rfl | d
  .rcases wj.mp g with rfl | b
   .rfl
   .exact(h.1 (we.mpr ⟨v,b,e.symm⟩)).elim
  .rcases wj.mp g with rfl | b
   .exact(h.1 (we.mpr ⟨u,d,e⟩)).elim
   .exact zbs h.2 u d v b e
def zdh {h:Heap}{o:Type}{d e:List Value}{m:List o}{g:o->Int}(k:e.Perm d)(s:e.Pairwise λx y=>Tim.rkL (d.map λv=>[Tim.keyP h v]) [Tim.keyP h x]<=Tim.rkL (d.map λv=>[Tim.keyP h v]) [Tim.keyP h y])(r:e.map (Tim.keyP h)=m.map g)(i:(m.map g).Nodup):m.Pairwise λa b=>g a<g b:=by
 have n:(e.map (Tim.keyP h)).Pairwise (· <= ·):=by
  rw[vf];refine s.imp_of_mem λ{x y} p q f =>?_;have j:=Tim.z8R (l:=d.map λv=>[Tim.keyP h v]) (we.mpr ⟨y,k.mem_iff.mp q,rfl⟩) (we.mpr ⟨x,k.mem_iff.mp p,rfl⟩);rw[Tim.lex1,vz (Nat.not_lt.mpr f)] at j;have:=u5 j;lia
 rw[r,vf] at n;unfold List.Nodup at i;rw[vf] at i;exact(n.and i).imp λ{x y} h=>by
  have:=h.1;have:=h.2;lia
theorem zaV {G:Hp}{h:Heap}(d:∀b o,G b o->h.get? b=some o):∀{rs:List (Int × D)}{vs:List Value},Rws mg G (rs.map pdD) vs->Two (λv (p:Int × D)=>Tim.TP h v p.1/\RD mg G (pdD p) v) vs rs
 | [],_,r=>by cases r;exact .nil
 | p::rs,_,r=>by
  cases r with
  | cons r t=>
   refine .cons ⟨?_,r⟩ (zaV d t);obtain⟨a,o,q,rfl,g,⟨e,k,l,n,f⟩,j⟩:=z0O.1 r;obtain⟨x,y,rfl,i,m⟩:=j.two;obtain⟨t,rfl⟩:=z0x.1 i;exact⟨a,o,_,n,t,y,rfl,d _ _ g,e,f,rfl⟩
theorem zdd {G:Hp}{P:Value->Int->Prop}:∀{a:List Value}{m:List (Int × D)},Two (λv (p:Int × D)=>P v p.1/\RD mg G (pdD p) v) a m->Rws mg G (m.map pdD) a
 | _,_,.nil =>.nil
 | _,_,.cons h t =>.cons h.2 (zdd t)
def zd6:zhv X (.builtin "sorted") zdz:=λ{O ρ s ds vs Q0 Q} I Z r k=>by
 obtain⟨d,rfl,rs,rfl,C,hz,q⟩:=z2D r;obtain⟨v,rfl,rd⟩:=Z.one;obtain⟨a,o,f,rfl,S,⟨N,c2,c3,n,R⟩,K⟩:=z1L.1 rd;have U:=K.len;rw[wd] at U;have two:=zaV (h:=s.heap) (λb o z=>z.1) K;have i:f.map (Tim.keyP s.heap)=rs.map (·.1):=z6Y (λv p h=>h.1.key) two;have l:∀v∈f,Tim.TP s.heap v (Tim.keyP s.heap v):=λv x=>by
  obtain⟨p,_,F,_⟩:=two.mem_left x;rw[F.key];exact F
 have A:∀u∈f,∀v∈f,Tim.keyP s.heap u=Tim.keyP s.heap v->u=v:=λu V v x e=>by
  rw[<- i] at C;exact zbs C u V v x e
 refine Tim.z5c λE'=>collect_list (vs:=f) ⟨o,S.1,N,n,R⟩ ?_ (by lia);have keep:∀b o,s.heap.get? b=some o->((s.heap.push (seqObj "list" #[] 0)).update s.heap.objs.size (Obj.mapSeq (· ++ f.toArray))).get? b=some o:=λb o z=>by
  rw[Heap.get?_update_ne _ _ _ _ (wX (wO z))];exact wi _ z
 refine⟨_,vd (show f.length<=64 by lia) (by decide),(Tim.z4V.prs l A).keep keep,λj E Y T H t =>?_⟩;obtain⟨e,t⟩:=t;obtain⟨m,J,L⟩:=two.perm E.symm;have G:s.heap.get? ((s.heap.push (seqObj "list" #[] 0)).update s.heap.objs.size (Obj.mapSeq (· ++ f.toArray))).objs.size=none:=by
  cases z:s.heap.get? ((s.heap.push (seqObj "list" #[] 0)).update s.heap.objs.size (Obj.mapSeq (· ++ f.toArray))).objs.size with
  | none=>rfl
  | some o=>exact absurd (wO (keep _ _ z)) (uL _)
 have W:j.length<=sizeLine:=by rw[E.length_eq];exact vd (show f.length<=64 by lia) (by decide)
 refine k (.lst (m.map pdD)) _ { s with heap:=T,toks:=s.toks } (q m J.symm ?_) (.heap λb o z=>H b o (keep b o z)) G ⟨j,e,t,W,Rws.mono (zdd L) λb o z=>⟨H b o (keep b o z.1),λy=>y.elim z.2 λy=>by subst y;have:=G.symm.trans z.1;cases this⟩⟩;exact zdh (h:=s.heap) (g:=λp:Int × D=>p.1) E Y (z6Y (λv p h=>h.1.key) L) ((J.symm.map (·.1)).nodup_iff.mpr C)
def z4w {e:Expr}{x:Ex}{p1 U V p4:Pos}(hg:Gl X "list")(hm:X.mg "list"=none)(J:Gl X "reversed")(L:X.mg "reversed"=none)(ha:QX X e x)
  (N:starEach [e] X.env=(false,eval e X.env)::starEach [] X.env) (R:starEach [.Call (.Name "reversed" U) [e] [] V] X.env=(false,eval (.Call (.Name "reversed" U) [e] [] V) X.env)::starEach [] X.env):QF X (.Call (.Name "list" p1) [.Call (.Name "reversed" U) [e] [] V] [] p4) (.op z2N [x]):=⟨λ{O ρ s Q0 Q} I r k=>
 z4b I hg hm rfl (.inr rfl) (by decide) (by decide) R (z4b I J L rfl (.inr rfl) (by decide) (by decide) N (ha.p I r λd v s q g rd=>by
  obtain⟨l,rfl,q2⟩:=zbr (show z9f d Q0 from q);obtain⟨a,o,f,rfl,G,⟨Z,c2,c3,n,c4⟩,rs⟩:=z1L.1 rd;have C:∀{b:Addr}{o:Obj},s.heap.get? b=some o->b≠s.heap.objs.size:=λe=>wX (wO e);refine call_reversed_list (items:=f.toArray) ⟨o,G.1,Z,n,c4⟩ ?_;have E:(s.heap.push (revObj a ((f.toArray.size:Int) - 1))).get? s.heap.objs.size=some (revObj a ((f.toArray.size:Int) - 1)):=wt _ rfl;have u:(s.heap.push (revObj a ((f.toArray.size:Int) - 1))).get? a=some o:=wi _ G.1;have Y:(s.heap.push (revObj a ((f.toArray.size:Int) - 1))).objs.size=s.heap.objs.size+1:=vq ..;have up:∀b o,s.heap.get? b=some o->(s.heap.push (revObj a ((f.toArray.size:Int) - 1))).get? b=some o:=λb o e=>wi _ e;have fr:s.heap.get? (s.heap.push (revObj a ((f.toArray.size:Int) - 1))).objs.size=none:=by
   cases z:s.heap.get? (s.heap.push (revObj a ((f.toArray.size:Int) - 1))).objs.size with
   | none=>rfl
   | some o=>have:=wO z;rw[Y] at this;lia
  generalize a0:s.heap.push (revObj a ((f.toArray.size:Int) - 1))=j at*;have W:=(Walks.listRev (prog:=X.prog) (w:=X.w) (A:=X.A.in1.in1) (by simp[I.ok.hd]) s.heap.objs.size a (C G.1) f.toArray).toS;refine callType_codes (s:={ s with heap:=j }) (Q₁:=λv s1=>v = .ref j.objs.size/\s1={ s with heap:=j.push { cls :=.type "list",data :=.seq #[] } }) F.called_list (F.typeCall_list_1 _) F.entry_list_init (code_list_new _ ⟨rfl,rfl⟩) λv s1 hv =>?_;obtain⟨rfl,rfl⟩:=hv;have hD:(j.push { cls :=.type "list",data :=.seq #[] }).get? j.objs.size=some { cls :=.type "list",data :=.seq #[] }:=wt _ rfl;have T:∀{b:Addr}{o:Obj},j.get? b=some o->b≠j.objs.size:=λe=>wX (wO e);refine⟨⟨_,hD,rfl⟩,F.args_list_init_2 _ _,Rev.zcT (A:=X.A.in1) W (λi s st=>st.2.1.typeIs) j.objs.size ⟨vj _,⟨_,wi _ E,rfl,by simp[revObj]⟩,⟨o,wi _ u,Z,n,c4⟩⟩ (by
   simp only[wj,wF,vS,not_or];exact⟨jX (T E),jX (T u)⟩) (by simp) (by simpa using c3) hD λs' h c mv H S=>⟨rfl,?_⟩⟩
  kpf_c;have eg:g'=s.gens:=mv.gens;have ed:d'=s.drawn:=mv.drawn;have eo:os'=s.os:=mv.os;subst eg;subst ed;subst eo;have keep:∀b o,s.heap.get? b=some o->h'.get? b=some o:=λb o e=>mv.heap b o (by
   simp only[wj,wF,vS,not_or];exact⟨T (up b o e),C e⟩) (wi _ (up b o e))
  have t:h.toList=f.reverse:=by
   have e0:f.toArray.size=f.length:=by simp
   apply jN;intro k
   by_cases K:k<f.length
   .have m:k<h.size:=by rw[S.1,e0];exact K
    have:=S.2 k h[k] (ul h k m);rw[w6,ul h k m,List.getElem?_reverse K, <- this];simp
   .have m:¬ k<h.size:=by rw[S.1,e0];exact K
    rw[w6,getElem?_neg h k m,List.getElem?_eq_none (by simp;lia)]
  refine k (.lst l.reverse) j.objs.size _ q2 (g.trans (.heap keep)) (g.none fr) ⟨f.reverse,c,by rw[<- t];exact H,by simpa using c3,Rws.mono rs.rev λb o z=>⟨keep b o z.1,λy=>y.elim z.2 λy=>by subst y;have:=fr.symm.trans z.1;cases this⟩⟩))⟩
end
end Pu
namespace Zp
open PySem PySem.Spec PyProof.Rows L2
section
variable {prog:Program}{w:World}{A:Around}{E:Value->Shared->Prop}{s:Shared}
def nx {j t:Addr}{n:Nat}{xs:Array Value}{x:Value}{Q:Value->Shared->Prop}(d:s.heap.IsTupleIter j t n)(i:s.heap.IsTuple t xs)(e:xs[n]? = some x)
  (q:∀h',h'.IsTupleIter j t (n+1)->Heap.SameBut j s.heap h'->Q x { s with heap:=h' }):wpAny (model prog w) A (Builtin.SmallTypes.nextOf (.ref j)) Q E s:=by
 obtain⟨l,g,f,a⟩:=id d;obtain⟨m,h,_,k,b⟩:=i
 delta Builtin.SmallTypes.nextOf
 refine wc (ua (name:=Str.ofString "__next__") d.typeIs uV (uh uV d.typeIs F.entry_tuple_iterator_next ?_ (F.args_tuple_iterator_next_1 _)));show wpAny _ _ (PySem.field (.ref j) 0 >>= _) _ _ s;refine wc (uo g a (x :=.ref t) rfl ?_);f_tup;rw[if_neg (show ¬ (Value.ref t == Value.none)=true from jD)];refine wc (uo g a (x :=.int n 0) rfl ?_);show wpAny _ _ (seqItems? (.ref t) >>= λ_=>_) _ _ s;refine wc (vC h b ?_);simp only[Int.toNat_natCast,e];refine wc (Wi g a (by simp) (wm ⟨x,rfl,wm (q _ ⟨_,vr _ g (Obj.isFreed_of_fields (uq a _)),(Obj.cls_mapFields ..).trans f,by rw[uq a];simp[rawInt]⟩ (uA ..))⟩))
def nxE {j t:Addr}{n:Nat}{xs:Array Value}{Q:Value->Shared->Prop}(h:A.handled=none)(f:s.heap.IsTupleIter j t n)(k:s.heap.IsTuple t xs)(e:xs[n]? = none)
  (q:∀h' z,Heap.ExtBut j s.heap h'->(∃o,h'.get? z=some o/\o.cls = .type "StopIteration")->E (.ref z) { s with heap:=h' }):wpAny (model prog w) A (Builtin.SmallTypes.nextOf (.ref j)) Q E s:=by
 obtain⟨r,g,l,b⟩:=id f;obtain⟨u,i,_,p,d⟩:=k
 delta Builtin.SmallTypes.nextOf
 refine wc (ua (name:=Str.ofString "__next__") f.typeIs uV (uh uV f.typeIs F.entry_tuple_iterator_next ?_ (F.args_tuple_iterator_next_1 _)));show wpAny _ _ (PySem.field (.ref j) 0 >>= _) _ _ s;refine wc (uo g b (x :=.ref t) rfl ?_);f_tup;rw[if_neg (show ¬ (Value.ref t == Value.none)=true from jD)];refine wc (uo g b (x :=.int n 0) rfl ?_);show wpAny _ _ (seqItems? (.ref t) >>= λ_=>_) _ _ s;refine wc (vC i d ?_);simp only[Int.toNat_natCast,e];refine wc (jy (wc (Wi g b (by simp) (show wpAny _ _ (newExc (.type "StopIteration") [] >>= λ_=>_) _ _ _ from wc ?_))));simp only[newExc,newTuple];refine wc (ub (wc (m:=firstArgMember _ _) (wpAny_of_eq (a:=Value.none) (by first | rfl | (simp only[firstArgMember];rfl)) (ub ?_ (by size_fits)))) (by size_fits));simp only[raiseNew];refine wc (wpAny_handled ?_)
 first | rw[show A.in1.handled=none from h] | rw[h]
 exact wc (wm (wpAny_throw (q _ _ (((uA ..).extBut.push _).push _) ⟨_,wt _ rfl,rfl⟩)))
structure St (h:Heap)(z TI TO i1 i2 t1 t2:Addr)(f:Value)(n:Nat):Prop where
 z:IsZip h z TI TO f
 ti:IsPair h TI (.ref i1) (.ref i2)
 to:∃a b,IsPair h TO a b
 a:h.IsTupleIter i1 t1 n
 b:h.IsTupleIter i2 t2 n
def tat {h h':Heap}{t:Addr}{xs:Array Value}(x:h.IsTuple t xs)(k:∀o,h.get? t=some o->h'.get? t=some o):h'.IsTuple t xs:=by
 obtain⟨o,e,r⟩:=x;exact⟨o,k o e,r⟩
variable {z TI TO i1 i2 t1 t2:Addr}{n:Nat}{xs ys:Array Value}{x y:Value}
def item {Q:Option Value->Shared->Prop}(D:ZipApart z TI TO i1 i2 t1 t2)(S:St s.heap z TI TO i1 i2 t1 t2 .none n)(hx:s.heap.IsTuple t1 xs)(hy:s.heap.IsTuple t2 ys)(ex:xs[n]? = some x)(Y:ys[n]? = some y)
  (q:∀h',St h' z TI TO i1 i2 t1 t2 (rawInt s.heap.objs.size) (n+1)->IsPair h' s.heap.objs.size x y->h'.objs.size=s.heap.objs.size+1->(∀c o,c≠z->c≠TO->c≠i1->c≠i2->s.heap.get? c=some o->h'.get? c=some o)->Q (some (.ref s.heap.objs.size)) { s with heap:=h' }):
  wpAny (model prog w) A (pyNext (.ref z)) Q E s:=by
 obtain⟨sz,sti,⟨pa,pb,H⟩,sa,sb⟩:=S;have R:s.TypeIs (.ref z) "zip":=⟨_,sz,rfl⟩
 delta pyNext
 refine wc (wpAny_attempt (ua (name:=Str.ofString "__next__") R F.slot_zip_next (uh F.slot_zip_next R F.entry_zip_next ?_ (F.args_zip_next_1 _))));show wpAny _ _ (PySem.field (.ref z) 2 >>= λ_=>_) _ _ _;kd_p1;kmk_kw;refine wc ?_
 delta Builtin.SmallTypes.ownedTupleIsFree
 refine wc (uo sz rfl (x:=Value.none) rfl (wm ?_));simp only[jc];k_cls
 replace z1:IsZip g1 z TI TO .ellipsis:=z1
 refine wc ?_;simp only[List.zipIdx_cons,List.zipIdx_nil,List.forIn_cons,List.forIn_nil];refine wc (wc (wpAny_onRaise (show wpAny _ _ (Builtin.SmallTypes.nextOf (.ref i1) >>= λ_=>_) _ _ _ from wc (nx (sa.extBut k1.extBut D.i1z) (tat hx λo e=>k1.extBut _ _ D.l1z e) ex λZ U d=>wm ?_))));have K:IsPair Z TO pa pb:=d.extBut _ _ D.TOi1 (k1.extBut _ _ D.TOz H);refine wc (vC K rfl (wc (wpAny_updateSeq_pair K λg3 G f =>?_)))
 replace G:IsPair g3 TO x pb:=G
 refine wc (uS (wm ?_));refine wc (wc (wpAny_onRaise (show wpAny _ _ (Builtin.SmallTypes.nextOf (.ref i2) >>= λ_=>_) _ _ _ from wc (nx (((sb.extBut k1.extBut D.i2z).extBut d.extBut D.i12.symm).extBut f.extBut D.TOi2.symm)
  (tat hy λo e=>f.extBut _ _ D.l2TO (d.extBut _ _ D.l2i1 (k1.extBut _ _ D.l2z e))) Y λg4 W h=>wm ?_))))
 have L:IsPair g4 TO x pb:=h.extBut _ _ D.TOi2 G;refine wc (vC L rfl (wc (wpAny_updateSeq_pair L λa m i =>?_)))
 replace m:IsPair a TO x y:=m
 refine wc (uS (wm (wm (wc (vC m rfl (wc (wpAny_newTuple ?_)))))));have j:a.objs.size=s.heap.objs.size:=by rw[i.1,h.1,f.1,d.1,k1.1]
 have T:IsZip a z TI TO .ellipsis:=i.extBut _ _ D.TOz.symm (h.extBut _ _ D.i2z.symm (f.extBut _ _ D.TOz.symm (d.extBut _ _ D.i1z.symm z1)));have J:∀c o,c≠z->c≠TO->c≠i1->c≠i2->s.heap.get? c=some o->a.get? c=some o:=λc o b l r t e=>i.extBut _ _ l (h.extBut _ _ t (f.extBut _ _ l (d.extBut _ _ r (k1.extBut _ _ b e))));have V:a.IsTupleIter i1 t1 (n+1):=((U.extBut f.extBut D.TOi1.symm).extBut h.extBut D.i12).extBut i.extBut D.TOi1.symm;have X:a.IsTupleIter i2 t2 (n+1):=W.extBut i.extBut D.TOi2.symm;have k:z<a.objs.size:=wO T;show wpAny _ _ (Builtin.SmallTypes.ownedTupleHandOut (.ref z) (.ref a.objs.size) >>= λ_=>_) _ _ _;refine wc ?_
 delta Builtin.SmallTypes.ownedTupleHandOut
 have z6:IsZip (a.push { cls :=.type "tuple",data :=.seq #[x,y] }) z TI TO .ellipsis:=wi _ T;refine wc (u9 z6 (by simp) λg7 I u =>?_)
 replace I:IsZip g7 z TI TO (rawInt a.objs.size):=I
 refine u9 I (by simp) λg p C =>?_
 replace p:IsZip g z TI TO (rawInt a.objs.size):=p
 have up:∀c o,c≠z->a.get? c=some o->g.get? c=some o:=λc o b e=>C.extBut _ _ b (u.extBut _ _ b (wi _ e));have O:IsPair g a.objs.size x y:=C.extBut _ _ (Wm k) (u.extBut _ _ (Wm k) (wt _ rfl));have N:g.objs.size=a.objs.size+1:=by rw[C.1,u.1,vq]
 rw[j] at p O N;refine wm ⟨_,rfl,wm ?_⟩;show Q (some (.ref a.objs.size)) _;rw[j];exact q g ⟨p,up _ _ D.TIz (J _ _ D.TIz D.TITO D.TIi1 D.TIi2 sti),⟨_,_,up _ _ D.TOz m⟩,V.at λo e=>up _ o D.i1z e,X.at λo e=>up _ o D.i2z e⟩ O N λc o b l r t e=>up c o b (J c o b l r t e)
def fin {Q:Option Value->Shared->Prop}(p:A.handled=none)(D:ZipApart z TI TO i1 i2 t1 t2)(S:St s.heap z TI TO i1 i2 t1 t2 .none n)(r:s.heap.IsTuple t1 xs)(V:s.heap.IsTuple t2 ys)(e:xs[n]? = none\/ys[n]? = none)
  (q:∀h',(∀c o,c≠z->c≠TO->c≠i1->c≠i2->s.heap.get? c=some o->h'.get? c=some o)->Q none { s with heap:=h' }):wpAny (model prog w) A (pyNext (.ref z)) Q E s:=by
 obtain⟨sz,sti,⟨X,pb,m⟩,C,sb⟩:=S;have G:s.TypeIs (.ref z) "zip":=⟨_,sz,rfl⟩
 have stop:∀h' v,(∀c o,c≠z->c≠TO->c≠i1->c≠i2->s.heap.get? c=some o->h'.get? c=some o)->(∃o,h'.get? v=some o/\o.cls = .type "StopIteration")->wpAny (model prog w) A (isInstance (.ref v) (.type "StopIteration") >>= λb=>if b=true then pure none else throw (Value.ref v)) Q E { s with heap:=h' }:=λh' v W ⟨o,U,R⟩=>
  wc (wpAny_isInstance (T:="StopIteration") (b:=true) ⟨o,U,R⟩ isSubtype_stop (wm (q _ W)))
 delta pyNext
 refine wc (wpAny_attempt (ua (name:=Str.ofString "__next__") G F.slot_zip_next (uh F.slot_zip_next G F.entry_zip_next ?_ (F.args_zip_next_1 _))));show wpAny _ _ (PySem.field (.ref z) 2 >>= λ_=>_) _ _ _;kd_p1;kmk_kw;refine wc ?_
 delta Builtin.SmallTypes.ownedTupleIsFree
 refine wc (uo sz rfl (x:=Value.none) rfl (wm ?_));simp only[jc];k_cls
 replace z1:IsZip g1 z TI TO .ellipsis:=z1
 refine wc ?_;simp only[List.zipIdx_cons,List.zipIdx_nil,List.forIn_cons,List.forIn_nil];refine wc (wc (wpAny_onRaise (show wpAny _ _ (Builtin.SmallTypes.nextOf (.ref i1) >>= λ_=>_) _ _ _ from wc ?_)))
 cases ex:xs[n]? with
 | none=>
  refine nxE p (C.extBut k1.extBut D.i1z) (tat r λo e=>k1.extBut _ _ D.l1z e) ex λj v f k =>?_;obtain⟨l,a,d⟩:=k;have H:IsZip j z TI TO .ellipsis:=f _ _ D.i1z.symm z1;have ne:v≠z:=λw=>by subst w;rw[H] at a;cases a;simp at d
  exact u9 H (by simp) λg3 _ g=>stop g3 v (λc o h _ i _ w=>g.extBut _ _ h (f _ _ i (k1.extBut _ _ h w))) ⟨l,g.extBut _ _ ne a,d⟩
 | some x=>
  have L:ys[n]? = none:=e.resolve_left (by rw[ex];exact λw=>nomatch w);refine nx (C.extBut k1.extBut D.i1z) (tat r λo e=>k1.extBut _ _ D.l1z e) ex λj Y f=>wm ?_;have y:IsPair j TO X pb:=f.extBut _ _ D.TOi1 (k1.extBut _ _ D.TOz m);refine wc (vC y rfl (wc (wpAny_updateSeq_pair y λg3 Z g =>?_)));refine wc (uS (wm ?_));refine wc (wc (wpAny_onRaise (show wpAny _ _ (Builtin.SmallTypes.nextOf (.ref i2) >>= λ_=>_) _ _ _ from wc (nxE p (((sb.extBut k1.extBut D.i2z).extBut f.extBut D.i12.symm).extBut g.extBut D.TOi2.symm)
   (tat V λo e=>g.extBut _ _ D.l2TO (f.extBut _ _ D.l2i1 (k1.extBut _ _ D.l2z e))) L λN v t k =>?_))))
  obtain⟨l,a,d⟩:=k;have I:IsZip N z TI TO .ellipsis:=t _ _ D.i2z.symm (g.extBut _ _ D.TOz.symm (f.extBut _ _ D.i1z.symm z1));have ne:v≠z:=λw=>by subst w;rw[I] at a;cases a;simp at d
  exact u9 I (by simp) λO _ u=>stop O v (λc o h J i K w=>u.extBut _ _ h (t _ _ K (g.extBut _ _ J (f.extBut _ _ i (k1.extBut _ _ h w))))) ⟨l,u.extBut _ _ ne a,d⟩
end
abbrev mk1 (h:Heap)(t:Addr):Heap:=h.push { cls :=.type "tuple_iterator",data :=.fields #[.ref t,.int 0 0] }
abbrev mk3 (h:Heap)(t1 t2:Addr):Heap:=((mk1 (mk1 h t1) t2).push { cls :=.type "tuple",data :=.seq #[.ref h.objs.size,.ref (mk1 h t1).objs.size] }).push { cls :=.type "tuple",data :=.seq #[.none,.none] }
abbrev mk5 (h:Heap)(t1 t2:Addr):Heap:=(mk3 h t1 t2).push { cls :=.type "zip",data :=.fields #[.none,.bool false,.bool false,.ref (mk1 (mk1 h t1) t2).objs.size,.ref ((mk1 (mk1 h t1) t2).push { cls :=.type "tuple",data :=.seq #[.ref h.objs.size,.ref (mk1 h t1).objs.size] }).objs.size] }
def newZ (a b:Addr)(xs ys:Array Value):Meets (Builtin.«zip.__new__» ⟨[.type "zip",.ref a,.ref b],[]⟩) (λ_ R s=>s.heap.IsTuple a xs/\s.heap.IsTuple b ys/\R (.ok (.ret (.ref (mk3 s.heap a b).objs.size))) { s with heap:=mk5 s.heap a b }):=
 .of_wp λf w A R s h=>by
  obtain⟨hp,g,d,i,e⟩:=s;obtain⟨j,k,h⟩:=h;have sub:=sub_zip;have l:Heap.IsTuple (Shared.heap ⟨hp,g,d,i,e⟩) a xs:=j;have m:Heap.IsTuple (Shared.heap ⟨mk1 hp a,g,d,i,e⟩) b ys:=Heap.IsTuple.push k _
  wp_walk using u8 l,u8 m
  exact⟨_,rfl,h⟩
section
variable {prog:Program}{w:World}{A:Around}{E:Value->Shared->Prop}{s:Shared}{t1 t2:Addr}{xs ys:Array Value}
def ziv {Q:Value->Shared->Prop}(p:s.heap.IsTuple t1 xs)(r:s.heap.IsTuple t2 ys)
  (q:∀h',St h' (s.heap.objs.size+4) (s.heap.objs.size+2) (s.heap.objs.size+3) s.heap.objs.size (s.heap.objs.size+1) t1 t2 .none 0->(∀c o,s.heap.get? c=some o->h'.get? c=some o)->Q (.ref (s.heap.objs.size+4)) { s with heap:=h' }):
  wpAny (model prog w) A (call (.type "zip") [.ref t1,.ref t2]) Q E s:=by
 refine callType_new F.called_zip (by decide) (F.typeCall_zip_2 _ _) (F.newCall_zip_2 _ _) (λi=>F.args_object_init_3 i _ _) F.entry_zip_new (newZ t1 t2 xs ys) ⟨p,r,?_⟩;have d:(mk1 s.heap t1).objs.size=s.heap.objs.size+1:=vq ..;have f:(mk1 (mk1 s.heap t1) t2).objs.size=s.heap.objs.size+2:=by rw[vq,d]
 have g:((mk1 (mk1 s.heap t1) t2).push { cls :=.type "tuple",data :=.seq #[.ref s.heap.objs.size,.ref (mk1 s.heap t1).objs.size] }).objs.size=s.heap.objs.size+3:=by rw[vq,f]
 have m:(mk3 s.heap t1 t2).objs.size=s.heap.objs.size+4:=by rw[vq,g]
 have a:∀{h:Heap}{c:Addr}{o t:Obj},h.get? c=some o->(h.push t).get? c=some o:=λe=>wi _ e;have b:(mk5 s.heap t1 t2).get? (mk3 s.heap t1 t2).objs.size=some _:=wt _ rfl;have l:(mk5 s.heap t1 t2).get? ((mk1 (mk1 s.heap t1) t2).push { cls :=.type "tuple",data :=.seq #[.ref s.heap.objs.size,.ref (mk1 s.heap t1).objs.size] }).objs.size=some _:=a (wt _ rfl);have k:(mk5 s.heap t1 t2).get? (mk1 (mk1 s.heap t1) t2).objs.size=some _:=a (a (wt _ rfl));have j:(mk5 s.heap t1 t2).get? (mk1 s.heap t1).objs.size=some _:=a (a (a (wt _ rfl)));have n:(mk5 s.heap t1 t2).get? s.heap.objs.size=some _:=a (a (a (a (wt _ rfl))));show _/\_;rw[m,f,g] at b;rw[g] at l;rw[d,f] at k;rw[d] at j;rw[m];exact⟨⟨_,b,rfl⟩,q _ ⟨b,k,⟨_,_,l⟩,⟨_,n,rfl,rfl⟩,⟨_,j,rfl,rfl⟩⟩ λc o e=>a (a (a (a (a e))))⟩
end
end Zp
namespace Pu
open PySem PySem.Spec PyProof.Rows L2
section
variable {X:Cx}{O:AP}{V:Hp}{ρ:Pu.Env}{s:Shared}{mg:Rm}{d:D}{v:Value}
def zc0 {es:List Expr}{kk:Nat}{pos:Pos}{z TI g t C t1 t2:Addr}{J L:Obj}{us vs:List Value}{l m:List D}(hh:X.A.handled=none)(D:ZipApart z TI g t C t1 t2)(nV:∀b o,V b o->b ∉ [z,g,t,C,TI])(h1:V t1 J)(j:V t2 L)(q1:Sq "tuple" J us)(q2:Sq "tuple" L vs)(r1:Rws X.rm V l us)(r2:Rws X.rm V m vs):
  Turn X (.Tuple es kk pos) (· ∈ [z,g,t,C,TI]) V ((l.zip m).map λp =>.tup [p.1,p.2]) z (λi h=>Zp.St h z TI g t C t1 t2 .none i) where
 keep:=λst k=>by
  obtain⟨sz,H,⟨N,O,I⟩,sa,sb⟩:=st;exact⟨k z _ (.inl (by simp)) sz,k TI _ (.inl (by simp)) H,⟨N,O,k g _ (.inl (by simp)) I⟩,sa.at λo e=>k t o (.inl (by simp)) e,sb.at λo e=>k C o (.inl (by simp)) e⟩
 ex:=λst f=>by
  obtain⟨sz,H,⟨N,O,I⟩,⟨oa,ea,ca,da⟩,⟨ob,eb,cb,db⟩⟩:=st;simp only[wj,wF,vS] at f
  rcases f with rfl | rfl | rfl | rfl | rfl <;> exact⟨_,by assumption⟩
 item:=λ{i d s K} st n hx h=>by
  rw[wN,vk] at hx;obtain⟨⟨d1,d2⟩,e,rfl⟩:=hx;rw[List.getElem?_zip_eq_some] at e;obtain⟨u,hu,ru⟩:=r1.get e.1;obtain⟨v,hv,rv⟩:=r2.get e.2;obtain⟨R,a2,a3,Y,S⟩:=q1;obtain⟨T,b2,b3,Z,U⟩:=q2;refine Zp.item D st (xs:=us.toArray) (ys:=vs.toArray) ⟨J,n _ _ h1,R,Y,S⟩ ⟨L,n _ _ j,T,Z,U⟩ (x:=u) (y:=v) (by simpa using hu) (by simpa using hv) λh' F tp _ W=>⟨_,rfl,?_⟩
  refine wpAny_letOwnedTupleGo_zip F.z λj z2 E =>?_;have lt:∀{b o},s.heap.get? b=some o->b≠s.heap.objs.size:=λe=>wX (wO e);have hz:z≠s.heap.objs.size:=lt st.z;have G:∀b o,b ∉ [z,g,t,C,TI]->s.heap.get? b=some o->j.get? b=some o:=λb o f e=>by
   simp only[wj,wF,vS,not_or] at f;exact E.extBut _ _ f.1 (W b o f.1 f.2.1 f.2.2.1 f.2.2.2.1 e)
  have el:∀{d v},RD X.rm V d v->RD X.rm (λa o=>j.get? a=some o/\(V a o\/s.heap.get? a=none)) d v:=λr=>r.mono λb o q=>⟨G b o (nV b o q) (n b o q),.inl q⟩
  refine h _ j s.toks ⟨z2,E.extBut _ _ D.TIz F.ti,?_,F.a.extBut E.extBut D.i1z,F.b.extBut E.extBut D.i2z⟩ G (z0O.2 ⟨_,_,[u,v],rfl,⟨E.extBut _ _ (jX hz) tp,.inr (z2O s)⟩,⟨rfl,rfl,by show 2<=_;decide,_,rfl⟩,.cons (el ru) (.cons (el rv) .nil)⟩);obtain⟨N,O,e⟩:=F.to;exact⟨N,O,E.extBut _ _ D.TOz e⟩
 done:=λ{s Q} st n h=>by
  obtain⟨R,a2,a3,Y,S⟩:=q1;obtain⟨T,b2,b3,Z,U⟩:=q2;have l1:=r1.len;have l2:=r2.len;refine Zp.fin hh D st (xs:=us.toArray) (ys:=vs.toArray) ⟨J,n _ _ h1,R,Y,S⟩ ⟨L,n _ _ j,T,Z,U⟩ (by simp;lia) λh' W=>h h' s.toks λb o f e =>?_;simp only[wj,wF,vS,not_or] at f;exact W b o f.1 f.2.1 f.2.2.1 f.2.2.2.1 e
 self:=λst h=>wpAny_pyIter_zip st.z h
def zct {es:List Expr}{Y:Nat}{tp p pos:Pos}{a b:Expr}{x y:Ex}(U:Gl X "zip")(W:X.mg "zip"=none)(R:QA X [a,b] [x,y])(T:starEach [a,b] X.env=(false,eval a X.env)::starEach [b] X.env)(n:(backTo pos (starEach [b] X.env)).any (·.1)=false):
  QI X (.Tuple es Y tp) (.Call (.Name "zip" p) [a,b] [] pos) (.op z9N [x,y]):=⟨λ{O ρ s G Q} I r k=>
 vY (z4c I U W (show bootBuiltins "zip"=some (.type "zip") from rfl) (uR (R.p I (show runs [x,y] ρ (λA=>z9N.run A (λd=>onL (items d) G) NX) NX from r) λA vs f q g rs=>by
  obtain⟨d1,d2,rfl,i⟩:=z9m q;obtain⟨v1,v2,rfl,t,u⟩:=rs.two;unfold gZip at i
  split at i
  .obtain⟨t1,o1,us,rfl,l,E,r1⟩:=z0O.1 t;obtain⟨t2,o2,vs,rfl,m,F,r2⟩:=z0O.1 u;obtain⟨H,a2,a3,n1,J⟩:=id E;obtain⟨K,b2,b3,n2,L⟩:=id F;have Z:=wO l.1;have l2:=wO m.1;refine Zp.ziv (xs:=us.toArray) (ys:=vs.toArray) ⟨o1,l.1,H,n1,J⟩ ⟨o2,m.1,K,n2,L⟩ λh' S C=>wpAny_pyIter_zip S.z ?_;have N:∀b,b∈[f.heap.objs.size+4,f.heap.objs.size+3,f.heap.objs.size,f.heap.objs.size+1,f.heap.objs.size+2]->f.heap.objs.size<=b:=λb h=>by
    simp only[wj,wF,vS] at h;omega
   have j:∀b,b∈[f.heap.objs.size+4,f.heap.objs.size+3,f.heap.objs.size,f.heap.objs.size+1,f.heap.objs.size+2]->f.heap.get? b=none:=λb h=>by
    cases e:f.heap.get? b with
    | none=>rfl
    | some o=>exact absurd (u7 (wO e) (N b h)) (uL _)
   exact k (V:=hp O f.heap) i (g.trans (.heap' C)) (λb h=>g.none (j b h)) (λb o z=>⟨C b o z.1,λy=>y.elim z.2 λy=>by have:=(j b y).symm.trans z.1;cases this⟩) (zc0 I.ok.hd (zipApart_new Z l2) (λb o z y=>by have:=(j b y).symm.trans z.1;cases this) l m E F r1 r2) S
  .exact i.elim) T n) (by decide) (by decide))⟩
end
open Tab
section
variable {X:Cx}{O:AP}{H0:Hp}{ρ:Pu.Env}{σ:Vls}{s s1:Shared}{mg:Rm}{G G':Hp}{d:D}{v:Value}{a:Addr}{o:Obj}{kvs:List (Key × D)}{kw:List (Key × Value)}{j:Key}
abbrev Pk (mg:Rm)(G:Hp):List (Key × D)->List (Key × Value)->Prop:=Paired λp q=>p.1=q.1/\RD mg G p.2 q.2
def zh3:∀{k a:Key},kD k=kD a->k=a
 | .inl _,.inl _,h=>by injection h with h;rw[h]
 | .inr _,.inr _,h=>by injection h with h;rw[h]
 | .inl _,.inr _,h=>by cases h
 | .inr _,.inl _,h=>by cases h
theorem Pk.of:∀{kvs:List (Key × D)}{a:List (Key × Value)},kvs.map (λp=>kD p.1)=a.map (λp=>kD p.1)->Rws mg G (kvs.map (·.2)) (a.map (·.2))->Pk mg G kvs a
 | [],[],_,_ =>.nil
 | [],_::_,h,_=>by cases h
 | _::_,[],h,_=>by cases h
 | p::r,q::e,h,k=>by
  rw[wC,wC,List.cons.injEq] at h
  cases k with
  | cons b d=>exact .cons ⟨zh3 h.1,b⟩ (Pk.of h.2 d)
def Pk.keys (h:Pk mg G kvs kw):kvs.map (·.1)=kw.map (·.1):=by
 induction h with
 | nil=>rfl
 | cons h _ a=>rw[wC,wC,h.1,a]
def Pk.rs (h:Pk mg G kvs kw):Rws mg G (kvs.map (·.2)) (kw.map (·.2)):=by
 induction h with
 | nil=>exact .nil
 | cons h _ a=>exact .cons h.2 a
theorem Pk.kD (h:Pk mg G kvs kw):kvs.map (λp=>kD p.1)=kw.map (λp=>kD p.1):=by
 rw[show (λp:Key × D=>Pu.kD p.1)=Pu.kD ∘ (·.1) from rfl,show (λp:Key × Value=>Pu.kD p.1)=Pu.kD ∘ (·.1) from rfl, <- wR, <- wR,h.keys]
def zfL:RD mg G (dk kvs) v↔∃a o kw,v = .ref a/\G a o/\DctO mg a o kw/\Pk mg G kvs kw:=by
 unfold dk;rw[zaR];exact⟨λ⟨a,o,kw,e,g,q,b,r⟩=>⟨a,o,kw,e,g,q,Pk.of b r⟩,λ⟨a,o,kw,e,g,q,p⟩=>⟨a,o,kw,e,g,q,p.kD,p.rs⟩⟩
def zb5 {h:Heap}:z3M mg G h a (dk kvs)↔∃o kw,h.get? a=some o/\DctO mg a o kw/\Pk mg G kvs kw:=
 ⟨λ⟨o,kw,e,q,b,r⟩=>⟨o,kw,e,q,Pk.of b r⟩,λ⟨o,kw,e,q,p⟩=>⟨o,kw,e,q,p.kD,p.rs⟩⟩
def Pk.len (h:Pk mg G kvs kw):kvs.length=kw.length:=by simpa using congrArg List.length h.keys
theorem Pk.mono (h:Pk mg G kvs kw)(k:∀b o,G b o->G' b o):Pk mg G' kvs kw:=by
 induction h with
 | nil=>exact .nil
 | cons h _ a=>exact .cons ⟨h.1,h.2.mono k⟩ a
def Pk.val (h:Pk mg G kvs kw):(valD kvs j=none/\valueAt kw j=none)\/∃d v,valD kvs j=some d/\valueAt kw j=some v/\RD mg G d v:=by
 unfold valD valueAt
 induction h with
 | nil=>exact .inl ⟨rfl,rfl⟩
 | @cons p q _ _ h _ a=>
  rw[List.find?_cons,List.find?_cons,h.1]
  by_cases e:q.1=j
  .rw[vU e];exact .inr ⟨_,_,rfl,rfl,h.2⟩
  .rw[vz e];exact a
set_option tactic.hygienic true in
def Pk.put (r:RD mg G d v)(h:Pk mg G kvs kw):Pk mg G (putD kvs j d) (stored kw j v):=by
 have a:(kvs.any λp=>decide (p.1=j))=kw.any λp=>decide (p.1=j):=by
  have:=congrArg (λl:List Key=>l.any λk=>decide (k=j)) h.keys;simpa[List.any_map,Function.comp_def] using this
 unfold putD stored;rw[a]
 split <;> rename_i f
 .clear a f
  induction h with
  | nil=>exact .nil
  | @cons p q _ _ h _ b=>
   rw[wC,wC,h.1]
   by_cases e:q.1=j
   .rw[if_pos e,if_pos e];exact .cons ⟨rfl,r⟩ b
   .rw[if_neg e,if_neg e];exact .cons h b
 .exact h.app (.cons ⟨rfl,r⟩ .nil)
def z9A (a:List (Key × Value))(j:Key)(v:Value):(stored a j v).length<=a.length+1:=by
 unfold stored
 split <;> simp
def zh2 {P:Program}{w:World}(r:RD mg G (kD j) v):(z2e P w).is j v=true:=by
 cases j with
 | inl i=>obtain⟨t,rfl⟩:=z0x.1 r;exact z8j P w i t
 | inr x=>obtain⟨t,rfl⟩:=z5h.1 r;exact z8i P w x t
def DctO.of {h:Heap}(q:DctO mg a o kw)(e:h.get? a=some o):h.DictOf (z2e mg.P mg.w) a kw:=Heap.dictOf_iff.2 ⟨o,e,q.2.2⟩
def DctO.plain (q:DctO mg a o kw):o.cls = .type "dict"/\o.dict=none:=by obtain⟨d,b,z,_⟩:=q.2.2;exact⟨z.1,z.2.1⟩
def zeF (I:St X O ρ s):(s.heap.objs.size == sysModules)=false:=by
 have h:3<s.heap.objs.size:=I.mod.glob.lt;exact beq_eq_false_iff_ne.mpr λz=>by rw[z] at h;exact absurd h (by decide)
variable {e f y o':Expr}{x z u:Ex}{pos spos apos cpos p1 p4:Pos}{i:Nat}
def zep:QF X (.Dict [] [] pos) (.op zgm []):=⟨λ{O d s b Q} I r k=>by
 obtain⟨o,e,a⟩:=Heap.dictOf_iff.1 (Heap.DictOf.new (knd:=z2e X.prog X.w) s.heap);exact wpAny_Dict_empty (k (dk []) _ _ r (Gx.push _) (z2O s) (zb5.2 ⟨o,[],e,⟨zeF I,vj _,a⟩,.nil⟩))⟩
def zcq (E:QX X o' x)(y:QX X e z)(A:QX X f u)(t:attributeBase o' "get" X.env (eval o' X.env)=eval o' X.env)
  (hw:((backTo cpos (starEach [e,f] X.env)).all (λx => !x.1) && (backToKw cpos (keywordEach [] X.env)).all (λx=>x.1.isSome) && decide (([e,f]:List Expr).length+([]:List Keyword).length+(if ([]:List Keyword).isEmpty then 0 else 1)<30))=true)
  (C:(apos.endLine == cpos.line)=true) (G:backTo cpos (starEach [e,f] X.env)=[(false,eval e X.env),(false,eval f X.env)]):QX X (.Call (.Attribute o' "get" apos) [e,f] [] cpos) (.dget2 x z u):=⟨λ{O W s R Q} I r k=>by
 refine wpAny_Call_method t hw C PySem.F.plainAttrs_dict PySem.F.slot_dict_get PySem.F.type_dict_get (E.p I r λd v T ⟨H,ed,q⟩ g rd =>?_);subst ed;obtain⟨a,o,S,rfl,h1,h2,n⟩:=zfL.1 rd;k_sub;rw[G];refine vW rfl (jj (vX (y.p (I.up g) q λb w U ⟨j,eb,q⟩ m J=>vX (A.p ((I.up g).up m) q λc N V q g3 K=>uz ?_))));subst eb;have h:=m.trans g3;refine call_meetsIn PySem.F.slot_dict_get (h2.of (h.k _ _ h1.1)).typeIs PySem.F.entry_dict_get (PySem.F.args_dict_get_3 _ _ _) (meets_dict_get_default (z2e X.prog X.w) a (zh2 (J.up g3)) h2.1 N) ⟨_,(h2.of (h.k _ _ h1.1)).mapOf,?_⟩;refine k _ _ _ q ((g.trans h).trans .tok) ?_
 rcases n.val (j:=j) with ⟨i,l⟩ | ⟨d,v,i,l,L⟩
 .rw[i,l];exact K
 .rw[i,l];exact L.up (h.trans .tok)⟩
def zef (H:QN X o' i)(J:QX X y z)(G:QX X e x)(I:swapsWith e (some (.Subscript o' y spos)) pos.line X.env=pure false):QZ X (.Assign [.Subscript o' y spos] e pos) (.dput i z x):=⟨λ{O V ρ σ s W Y Q} S ⟨L,t,r⟩ K=>by
 obtain⟨a,u,h1,h2,h3,w⟩:=S.ow i _ t;obtain⟨ob,N,A,h,n⟩:=zb5.1 w;refine wpAny_Assign_Subscript (G.p S.st r λd v s1 ⟨U,q⟩ g rd=>H.p (S.up g) u (J.p (S.up g).st q λb kv T ⟨j,E,hz,q⟩ m R =>?_)) I;subst E;have g3:=g.trans m;refine wpAny_setItem_pairs (hsz:=h.2.1) (zh2 R) (h.of (g3.k _ _ A)) λZ f sb =>?_;obtain⟨l,C,f⟩:=Heap.dictOf_iff.1 f;refine K.nx q ((S.wr (t':=T.toks+1) g3 t u (λb o F e=>(sb.2 b F).trans e) (zb5.2 ⟨l,_,C,⟨h.1,vd (z9A N j v) (by have:=n.len;lia),f⟩,Pk.put (S.safe0 g3 (λ_ _ z=>z) U (rd.up m)) (n.mono λb o z=>⟨g3.k _ _ z.1,z.2⟩)⟩)))⟩
def zih {P:Program}{w:World}{k:Int}{v:Value}(h:(z2e P w).is (.inl k) v=true):∃t,v = .int k t:=by
 rw[z9Y] at h
 rcases z0L h with ⟨i,t,e,rfl⟩ | ⟨x,t,e,_⟩
 .cases e;exact⟨t,rfl⟩
 .cases e
theorem zdO {P:Program}{w:World}{h:Heap}:∀{rs:List (Int × D)}{f:List (Key × Value)}{a:List Addr},Pk mg G (rs.map λr=>(Sum.inl r.1,r.2)) f->a.length=f.length->(∀(j:Nat) (b:Addr),a[j]? = some b->∃key k x,f[j]? = some (k,x)/\(z2e P w).is k key=true/\h.get? b=some { cls :=.type "tuple",data :=.seq #[key,x] })->
  Two (λ(v:Value) (p:Int × D)=>∃b t x,v = .ref b/\b∈a/\RD mg G p.2 x/\h.get? b=some { cls :=.type "tuple",data :=.seq #[.int p.1 t,x] }) (a.map Value.ref) rs
 | [],_,a,r,d,_=>by
  cases r
  rw[jr.mp d];exact .nil
 | p::rs,_,a,r,d,hp=>by
  cases r with
  | cons g u=>
   cases a with
   | nil=>simp at d
   | cons b a=>
    refine .cons ?_ ((zdO u (by simpa using d) λj b o=>hp (j+1) b (by simpa using o)).imp λv p ⟨b,t,x,l,m,n⟩=>⟨b,t,x,l,wn _ m,n⟩);obtain⟨key,k,x,e,s,q⟩:=hp 0 b rfl;simp at e;rw[e] at g;have i:Sum.inl p.1=k:=g.1;subst i;obtain⟨t,rfl⟩:=zih s;exact⟨b,t,x,rfl,wq,g.2,q⟩
def z7e (S:Gl X "sorted")(hm:X.mg "sorted"=none)(ho:QX X o' x)(l:attributeBase o' "items" X.env (eval o' X.env)=eval o' X.env)
  (hw:((backTo cpos (starEach [] X.env)).all (λx => !x.1) && (backToKw cpos (keywordEach [] X.env)).all (λx=>x.1.isSome) && decide (([]:List Expr).length+([]:List Keyword).length+(if ([]:List Keyword).isEmpty then 0 else 1)<30))=true) (T:(apos.endLine == cpos.line)=true) (ht:backTo cpos (starEach [] X.env)=[])
  (hs:starEach [.Call (.Attribute o' "items" apos) [] [] cpos] X.env=(false,eval (.Call (.Attribute o' "items" apos) [] [] cpos) X.env)::starEach [] X.env):QF X (.Call (.Name "sorted" p1) [.Call (.Attribute o' "items" apos) [] [] cpos] [] p4) (.op z61 [x]):=⟨λ{O ρ s Q0 Q} I r k=>
 z4b I S hm rfl (.inl rfl) (by decide) (by decide) hs (by
  refine wpAny_Call_method l hw T PySem.F.plainAttrs_dict PySem.F.slot_dict_items PySem.F.type_dict_items (ho.p I r λd v f q g rd =>?_);obtain⟨rs,rfl,nd,hz,q⟩:=(show zbB d Q0 from q)
  obtain⟨a,o,J,rfl,h1,h2,Z⟩:=zfL.1 rd;k_sub;rw[ht];refine vW rfl (PySem.evalArgs_none (call_meetsIn PySem.F.slot_dict_items (h2.of h1.1).typeIs PySem.F.entry_dict_items (PySem.F.args_dict_items_1 _) (meets_dict_items (z2e X.prog X.w) a h2.1) ⟨⟨J,h2.of h1.1⟩,?_⟩));have u:Gx f { f with heap:=f.heap.push { cls :=.type "dict_items",data :=.fields #[.ref a] } }:=Gx.push _;have K:(f.heap.push { cls :=.type "dict_items",data :=.fields #[.ref a] }).get? f.heap.objs.size=some { cls :=.type "dict_items",data :=.fields #[.ref a] }:=wt _ rfl;generalize E:({ f with heap:=f.heap.push { cls :=.type "dict_items",data :=.fields #[.ref a] } }:Shared)=s2 at u ⊢;have K:s2.heap.get? f.heap.objs.size=some { cls :=.type "dict_items",data :=.fields #[.ref a] }:=by rw[<- E];exact K
  have a0:J.length=rs.length:=by rw[<- Z.len,wd]
  obtain⟨es,ep,da⟩:=h2.2.2;refine Tim.z5c λE'=>W.kdx_collect (knd:=z2e X.prog X.w) (kvs:=J) (ep:=ep) (by simp[I.ok.hd]) ⟨_,K,rfl,rfl⟩ ⟨o,es,u.k _ _ h1.1,da⟩ (vd (show J.length<=64 by omega) (by decide)) λh1 tk n keep T L =>?_;have two:=zdO Z T L.pairs;have i:∀(v:Value) (p:Int × D),(∃b t x,v = .ref b/\b∈n/\RD X.rm (hp O f.heap) p.2 x/\h1.get? b=some { cls :=.type "tuple",data :=.seq #[.int p.1 t,x] })->Tim.TP h1 v p.1:=λv p ⟨b,t,x,e,_,_,g⟩=>⟨b,_,_,_,t,x,e,g,rfl,rfl,rfl⟩
  have C:(n.map Value.ref).map (Tim.keyP h1)=rs.map (·.1):=z6Y (λv p h=>(i v p h).key) two;have N:∀v∈n.map Value.ref,Tim.TP h1 v (Tim.keyP h1 v):=λv hv=>by
   obtain⟨p,_,h⟩:=two.mem_left hv;rw[(i v p h).key];exact i v p h
  refine⟨_,by rw[wd];exact vd (show n.length<=64 by omega) (by decide),Tim.z4V.prs N (zbs (by rw[C];exact nd)),λG p1 p2 Y H A =>?_⟩;obtain⟨e,R⟩:=A;dsimp only at H R ⊢;obtain⟨m,V,tm⟩:=two.perm p1.symm;have j:∀b o,f.heap.get? b=some o->Y.get? b=some o:=λb o z=>H b o (keep b o (u.k b o z));have hD:f.heap.get? h1.objs.size=none:=by
   cases z:f.heap.get? h1.objs.size with
   | none=>rfl
   | some o=>exact absurd (wO (keep _ _ (u.k _ _ z))) (uL _)
  have ol:G.length<=sizeLine:=by rw[p1.length_eq,wd];exact vd (show _<=64 by omega) (by decide)
  have U:∀b o,hp O f.heap b o->hp (λb=>O b\/b=h1.objs.size) Y b o:=λb o z=>⟨j b o z.1,λy=>y.elim z.2 λy=>by subst y;have:=hD.symm.trans z.1;cases this⟩
  refine k (.lst (m.map pdD)) h1.objs.size _ (q m V.symm (zdh (h:=h1) (g:=λp:Int × D=>p.1) p1 p2 (z6Y (λv p h=>(i v p h).key) tm) ((V.symm.map (·.1)).nodup_iff.mpr nd))) (g.trans (u.trans (.heap λb o z=>H b o (keep b o z)))) (g.none hD) ⟨G,e,R,ol,?_⟩;clear p1 p2 R ol V
  try clear A
  have low:∀b∈n,∀(o:Obj),¬ f.heap.get? b=some o:=λb l o z=>absurd (wO z) (Nat.not_lt.mpr (Wk (Nat.lt_of_le_of_lt (by rw[<- E,vq];exact Nat.le_succ _) (L.above b l))))
  induction tm with
  | nil=>exact .nil
  | cons h _ ih=>
   obtain⟨b,t,x,rfl,l,rx,S⟩:=h;refine .cons (z0O.2 ⟨b,_,[_,_],rfl,⟨H _ _ S,λy=>y.elim (λy =>?_) λy =>?_⟩,⟨rfl,rfl,by show 2<=_;decide,_,rfl⟩,.cons .int' (.cons (rx.mono U) .nil)⟩) ih
   .obtain⟨⟨o,z⟩,_⟩:=(I.up g).ob b y;exact low b l o z
   .exact absurd (y ▸ L.there l) (uL _))⟩
end
end Pu
namespace Idx
open PySem PySem.Spec PyProof.Rows SeqAt
def zfk {M:Model}{A:Around}{E:Value->Shared->Prop}{s:Shared}{d:Type}{hi:Nat}(f:Nat->d->Sem (ForInStep d))(J:Nat->d->Shared->Prop)(Q:d->Shared->Prop){b:d}
  (step:∀i b s,i<hi->J i b s->wpAny M A (f i b) (λr s'=>match r with | .yield b'=>J (i+1) b' s' | .done b'=>Q b' s') E s)
  (last:∀b s,J hi b s->Q b s) (h:J 0 b s):wpAny M A (forIn [:hi] b f) Q E s:=by
 rw[Std.Legacy.Range.forIn_eq_forIn_range'];have m:([:hi]:Std.Legacy.Range).size=hi:=by simp[Std.Legacy.Range.size]
 rw[m];refine jV f (λa b s=>∃i,i<=hi/\a=List.range' i (hi - i)/\J i b s) Q ?_ ?_ _ b ⟨0,by omega,rfl,h⟩
 .rintro x a b s ⟨i,j,e,g⟩
  rcases vp i hi with z | z
  .rw[show hi - i=hi - (i+1)+1 by omega,List.range'_succ] at e;obtain⟨rfl,rfl⟩:=List.cons.inj e;refine vV (step x b s z g) (λr s' k =>?_) λ_ _ l=>l
   cases r with
   | yield b'=>exact⟨x+1,by omega,rfl,k⟩
   | done b'=>exact k
  .rw[show hi - i=0 by omega] at e
   cases e
 .rintro b s ⟨i,j,e,g⟩;have:=congrArg List.length e;rw[List.length_range',uO] at this;rw[show i=hi by omega] at g;exact last b s g
def zfo (l:Addr)(a:Array Value)(n:Nat)(t:Option Addr)(sl:Array (Option Value))(x:Value)(e:Value->Bool)(j:Nat)(I:j<a.size)(p:e a[j]=true)(q:∀m (J:m<a.size),m<j->e a[m]=false):
  Meets (Builtin.«tuple.index» ⟨[.ref l,x],[]⟩) (λA R s=>s.heap.get? l=some { cls :=.type "tuple",dict:=t,data :=.seq a n,slots:=sl }/\(∀y,y∈a->EqAt A.in1 s y x (e y))/\R (.ok (.ret (.int j s.toks))) { s with toks:=s.toks+1 }):=
 .of_wp λk w A R s h=>by
  obtain⟨hp,g,d,G,F⟩:=s;obtain⟨E,C,h⟩:=h
  wp_walk using wpAny_loadPart' E,zfk _ (λi b r=>b.1=none/\r=⟨hp,g,d,G,F⟩/\i<=j) _
  case step=>
   rintro i b r H ⟨u,rfl,o⟩;have f:i<a.size:=by omega
   rw[Array.getElem?_eq_getElem f];refine wc (C a[i] (Array.getElem_mem f) k w _ _ ?_)
   rcases vp i j with z | z
   .rw[q i f z]
    wp_walk
    exact⟨rfl,rfl,z⟩
   .obtain rfl:i=j:=by omega
    rw[p]
    wp_walk
    exact⟨_,rfl,h⟩
  case last=>
   rintro b r ⟨u,rfl,o⟩;omega
  case h=>exact⟨rfl,rfl,by omega⟩
end Idx
namespace Pu
open PySem PySem.Spec PyProof.Rows L2 Tab
open Classical in
theorem z7D {α:Type}(f:α->Bool):∀(l:List α),(∃x∈l,f x=true)->∃(i:Nat) (x:α),l[i]? = some x/\f x=true/\∀(j:Nat) (y:α),j<i->l[j]? = some y->f y=false
 | [],⟨x,b,_⟩=>by cases b
 | a::l,⟨x,b,h⟩=>by
  cases d:f a with
  | true=>exact⟨0,a,rfl,d,λj y n=>by omega⟩
  | false=>
   rcases wj.mp b with rfl | b
   .rw[d] at h;cases h
   .obtain⟨i,y,g,k,m⟩:=z7D f l ⟨x,b,h⟩;refine⟨i+1,y,by rw[uJ];exact g,k,λj z n e =>?_⟩
    cases j with
    | zero=>rw[List.getElem?_cons_zero] at e;cases e;exact d
    | succ j=>exact m j z (by omega) (by rwa [uJ] at e)
section
variable {X:Cx}{O:AP}{ρ:Pu.Env}{s:Shared}{d:D}{v:Value}{o e:Expr}{apos cpos:Pos}{i j:Nat}
def zh4 {l:List D}{a:List Value}{u:Value}{Q:Prop}(z:X.A.units+64<cLine)(rd:RD X.rm (hp O s.heap) d u)(q:Da 60 d)(r:∀e∈l,Da 60 e)(t:∃e∈l,deq e d=true)(rs:Rws X.rm (hp O s.heap) l a)
  (k:∀{f:Value->Bool}{n:Nat}{x:D},l[n]? = some x->deq x d=true->(∀m y,m<n->l[m]? = some y->deq y d=false)->(∀y∈a.toArray,SeqAt.EqAt X.A.in1 s y u (f y))->(hj:n<a.toArray.size)->f a.toArray[n]=true->(∀m (b:m<a.toArray.size),m<n->f a.toArray[m]=false)->Q):Q:=by
 obtain⟨f,E,_,F⟩:=zbU z rd q r rs;obtain⟨n,x,h,o,g⟩:=z7D (λe=>deq e d) l t;have C:n<l.length:=(wo.mp h).1;have len:=rs.len;have val:∀(m:Nat) (b:m<a.toArray.size) (y:D),l[m]? = some y->f a.toArray[m]=deq y d:=λm b y j=>F m _ y (by rw[wf (by simpa using b)];simp) j;refine k h o g (λy j=>E y (by simpa using j)) (by simpa[len] using C) ((val n _ x h).trans o) λm b i =>?_;have p:m<l.length:=by omega
 rw[val m b _ (wf p)];exact g m _ i (wf p)
def z9I (ho:QX X o (.v i))(ha:QX X e (.v j))(h:attributeBase o "index" X.env (eval o X.env)=eval o X.env)
  (t:((backTo cpos (starEach [e] X.env)).all (λx => !x.1) && (backToKw cpos (keywordEach [] X.env)).all (λx=>x.1.isSome) && decide ([e].length+([]:List Keyword).length+(if ([]:List Keyword).isEmpty then 0 else 1)<30))=true)
  (l:(apos.endLine == cpos.line)=true) (hs:starEach [e] X.env=(false,eval e X.env)::starEach [] X.env):QX X (.Call (.Attribute o "index" apos) [e] [] cpos) (.op zb4 [.v i,.v j]):=⟨λ{O N s Q0 Q} I r k=>by
 have r:onV (N.get i) (λd=>onV (N.get j) λC=>z65 d C Q0):=r;obtain⟨d,U,r⟩:=z3A r;obtain⟨C,V,r⟩:=z3A r;unfold z65 at r
 split at r
 .obtain⟨Y,Z,h3,q⟩:=r;refine wpAny_Call_method h t l PySem.F.plainAttrs_tuple PySem.F.slot_tuple_index PySem.F.type_tuple_index (ho.p (Q0:=λc=>c=_) I (by show onV _ _;rw[U];rfl) λc v s1 E g rd =>?_);subst E;obtain⟨a,J,H,rfl,y,⟨A,R,c3,n,K⟩,rs⟩:=z0O.1 rd;refine⟨⟨J,y.1,A⟩,λb W=>by cases W;exact⟨J,y.1,R⟩,?_⟩;rw[hs];refine vW rfl (jj (vX (ha.p (Q0:=λc=>c=C) (I.up g) (by show onV _ _;rw[V];rfl) λc u s2 E z ru=>uz ?_)));subst E;obtain⟨S,T,L,sl⟩:=J;dsimp only at A K;subst A K;refine zh4 I.ok.un ru Y Z h3 (rs.up z) λ{f m x} hi hx G he hj hf hm =>?_;exact call_meets PySem.F.slot_tuple_index ⟨_,z.k _ _ y.1,rfl⟩ PySem.F.entry_tuple_index (PySem.F.args_tuple_index_2 _ _) (Idx.zfo a H.toArray n T sl u f m hj hf hm) ⟨z.k _ _ y.1,he,k _ _ _ (q m x hi hx G) ((g.trans z).trans .tok) .int'⟩
 .exact r.elim⟩
def z9J (ho:QX X o (.v i))(ha:QX X e (.op zgl [.v i]))(h:attributeBase o "index" X.env (eval o X.env)=eval o X.env)
  (t:((backTo cpos (starEach [e] X.env)).all (λx => !x.1) && (backToKw cpos (keywordEach [] X.env)).all (λx=>x.1.isSome) && decide ([e].length+([]:List Keyword).length+(if ([]:List Keyword).isEmpty then 0 else 1)<30))=true)
  (l:(apos.endLine == cpos.line)=true) (hs:starEach [e] X.env=(false,eval e X.env)::starEach [] X.env):QX X (.Call (.Attribute o "index" apos) [e] [] cpos) (.op z8X [.v i]):=⟨λ{O ρ s Q0 Q} I r k=>by
 have r:onV (ρ.get i) (λd=>z9h d Q0):=r;obtain⟨d,S,ps,rfl,J,hz,q⟩:=z3A r;refine wpAny_Call_method h t l uK PySem.F.slot_list_index PySem.F.type_list_index (ho.p (Q0:=λc=>c=_) I (by show onV _ _;rw[S];rfl) λc v s1 C g rd =>?_);subst C;obtain⟨a,L,K,rfl,y,⟨A,W,c3,n,N⟩,rs⟩:=z1L.1 rd;refine⟨⟨L,y.1,A⟩,λb eb=>by cases eb;exact⟨L,y.1,W⟩,?_⟩;rw[hs];refine vW rfl (jj (vX (ha.p (Q0:=λc=>∃m,m∈ps/\(∀x∈ps,LxG m x)/\c=vec m) (I.up g) (by show onV _ _;rw[S];exact⟨ps,rfl,J,hz,λm G j=>⟨m,G,j,rfl⟩⟩) λc u s2 ⟨m,G,j,C⟩ z ru=>uz ?_)));subst C;obtain⟨Y,Z,R,sl⟩:=L;dsimp only at A N;subst A N;refine zh4 I.ok.un ru (Da.vec m) (λe E=>by obtain⟨p,_,rfl⟩:=we.mp E;exact Da.vec p) ⟨_,we.mpr ⟨m,G,rfl⟩,by rw[show deq (vec m) (vec m)=decide (m=m) from z3J m m];exact vU rfl⟩ (rs.up z) λ{f V x} T U a0 E hj hf H =>?_;rw[wN] at T;obtain⟨p,hp,rfl⟩:=vk.mp T;rw[show deq (vec p) (vec m)=decide (p=m) from z3J p m] at U;obtain rfl:=ux U;have il:=(wo.mp hp).1;exact call_meets PySem.F.slot_list_index ⟨_,z.k _ _ y.1,rfl⟩ PySem.F.entry_list_index (PySem.F.args_list_index_2 _ _) (SeqAt.list_indexAt a K.toArray n Z sl u f V hj (by omega) hf H) ⟨z.k _ _ y.1,E,k _ _ _ (q V _ hp j) ((g.trans z).trans .tok) .int'⟩⟩
end
end Pu
namespace Pu
open PySem PySem.Spec PyProof.Rows L2
section
variable {X:Cx}{ps:List Str}{x f:Str}{pos pp:Pos}{e:Expr}{es:List Expr}{xs:List Ex}{i:Nat}{sc:Scope}{F:Fn}{G:Wd}{t:Te}
def vx (S:Sc X.N ps sc)(a:X.N[i]? = some x):QX X (.Name x pos) (.v i):=
 have m:=S.nm x (wu a)
 qx_v a m.hd m.hcd
def zg6 (C:Cf G F t)(h:Cal G.P G.w G.K G.mg t.k t.x F->Cal X.prog X.w X.K X.mg t.k f F)(j:Room t.k X.A)(b:QA X (e::es) xs)(i:Gl X f)(d:(f == ("__debug__":Str))=false)(g:starEach (e::es) X.env=(false,eval e X.env)::starEach es X.env)(a:(backTo pos (starEach es X.env)).any (·.1)=false):QX X (.Call (.Name f pp) (e::es) [] pos) (.op F xs):=zhL (h C.c) j b i d g a
end
def zgc {X:Cx}{op:BoolOp}{es:List Expr}{pos:Pos}{x:Ex}(h:QW X (.BoolOp op es pos) x):QT X (.BoolOp op es pos) x:=zhP h
def fnR {P:Program}{w:World}{K:W.Frag}{mg:WmP}{N ps:List Str}{a x:Str}{f:Addr}{k h g:Nat}{st:Stmt}{e:FuncData}{b:Sm}(F:Fun K x a st f e)(S:Sc N ps (z0n st))(i:z0b K e ps [])(l:∀d A s,Sc N ps (z0n st)->Room k (A.deeper (envOfC a (z0n st) s.heap.objs.size f d))->QZs (cxD P w K mg N a (z0n st) f d A s) (z2Q st) b)(hp:ps.length=h)(j:N.length=g):FnOk P w K mg (k+1) f (Fn.mkN h g b):=
 zha F S.fs i (λd A s m=>l d A s S m) hp j
def zhb {P:Program}{w:World}{K:W.Frag}{mg:WmP}{k:Nat}{f:Addr}:FnOk P w K mg k f Fn.bot:=λ_ _ _ _ r _=>r.elim
def tgN:Expr->List Str
 | .Name x _=>[x]
 | .Tuple a _ _=>a.filterMap fun | .Name x _=>some x | _=>none
 | _=>[]
def z0R (b:Expr)(a:List Nat)(N:List Str):List Str:=tgN b++a.map λj=>N.getD j ""
section
variable {X:Cx}{N ps:List Str}{sc scope:Scope}{target iter elt c:Expr}{x y z:Ex}{nt i:Nat}{js:List Nat}{t:Tg}{pos p2 spos:Pos}{n:Str}
def zcw (S:Sc N ps sc)(d:X.N=N)(a:X.env.scope=sc)(g:QI X target iter x)(h:scope.kind = .function)(b:z3L (z0R target js N) N nt js scope.names sc.names=true/\(z0R target js N).Nodup)
  (f:(z0R target js N).Nodup->∀C s,QC (X.cg scope (z0R target js N) C s) target t) (e:(z0R target js N).Nodup->∀C s,QX (X.cg scope (z0R target js N) C s) elt y) (i:∀x,foldedSetIterable iter X.env x=pure x):QF X (.ListComp elt [⟨target,iter,[],0⟩] scope pos) (.comp nt js t x none y):=
 zaT (ct:=none) g h (z3L.ok d a b.1) (f b.2) (λ_ _ =>.no) (e b.2) i
def zcv (S:Sc N ps sc)(d:X.N=N)(a:X.env.scope=sc)(g:QI X target iter x)(h:scope.kind = .function)(b:z3L (z0R target js N) N nt js scope.names sc.names=true/\(z0R target js N).Nodup)
  (f:(z0R target js N).Nodup->∀C s,QC (X.cg scope (z0R target js N) C s) target t) (j:(z0R target js N).Nodup->∀C s,QT (X.cg scope (z0R target js N) C s) c z) (e:(z0R target js N).Nodup->∀C s,QX (X.cg scope (z0R target js N) C s) elt y) (i:∀x,foldedSetIterable iter X.env x=pure x):QF X (.ListComp elt [⟨target,iter,[c],0⟩] scope pos) (.comp nt js t x (some z) y):=
 zaT (ct:=some c) g h (z3L.ok d a b.1) (f b.2) (λC s =>.yes (j b.2 C s)) (e b.2) i
def zfT (S:Sc N ps sc)(e:X.N=N)(a:X.env.scope=sc)(St:Stv X i n)(h:QI X target iter x)(j:scope.kind = .function)(b:z3L (z0R target js N) N nt js scope.names sc.names=true/\(z0R target js N).Nodup)
  (g:(z0R target js N).Nodup->∀C s,QC (X.cg scope (z0R target js N) C s) target t) (f:(z0R target js N).Nodup->∀C s,QX (X.cg scope (z0R target js N) C s) elt y) (k:∀x,foldedSetIterable iter X.env x=pure x)
  (d:swapsWith (.ListComp elt [⟨target,iter,[],0⟩] scope pos) (some (.Name n p2)) spos.line X.env=pure true):QZ X (.Assign [.Name n p2] (.ListComp elt [⟨target,iter,[],0⟩] scope pos) spos) (.own i (.comp nt js t x none y)):=
 zfU (ct:=none) St h j (z3L.ok e a b.1) (g b.2) (λ_ _ =>.no) (f b.2) k d
def zfS (S:Sc N ps sc)(e:X.N=N)(a:X.env.scope=sc)(St:Stv X i n)(h:QI X target iter x)(j:scope.kind = .function)(b:z3L (z0R target js N) N nt js scope.names sc.names=true/\(z0R target js N).Nodup)
  (g:(z0R target js N).Nodup->∀C s,QC (X.cg scope (z0R target js N) C s) target t) (l:(z0R target js N).Nodup->∀C s,QT (X.cg scope (z0R target js N) C s) c z) (f:(z0R target js N).Nodup->∀C s,QX (X.cg scope (z0R target js N) C s) elt y) (k:∀x,foldedSetIterable iter X.env x=pure x)
  (d:swapsWith (.ListComp elt [⟨target,iter,[c],0⟩] scope pos) (some (.Name n p2)) spos.line X.env=pure true):QZ X (.Assign [.Name n p2] (.ListComp elt [⟨target,iter,[c],0⟩] scope pos) spos) (.own i (.comp nt js t x (some z) y)):=
 zfU (ct:=some c) St h j (z3L.ok e a b.1) (g b.2) (λC s =>.yes (l b.2 C s)) (f b.2) k d
def zec (S:Sc N ps sc)(e:X.N=N)(a:X.env.scope=sc)(St:Stv X i n)(h:QI X target iter x)(j:scope.kind = .function)(b:z3L (z0R target js N) N nt js scope.names sc.names=true/\(z0R target js N).Nodup)
  (g:(z0R target js N).Nodup->∀C s,QC (X.cg scope (z0R target js N) C s) target t) (f:(z0R target js N).Nodup->∀C s,QX (X.cg scope (z0R target js N) C s) elt y) (k:∀x,foldedSetIterable iter X.env x=pure x)
  (d:swapsWith (.ListComp elt [⟨target,iter,[],0⟩] scope pos) (some (.Name n p2)) spos.line X.env=pure true):QZ X (.Assign [.Name n p2] (.ListComp elt [⟨target,iter,[],0⟩] scope pos) spos) (.set i (.comp nt js t x none y)):=
 zdt (ct:=none) St h j (z3L.ok e a b.1) (g b.2) (λ_ _ =>.no) (f b.2) k d
def zeb (S:Sc N ps sc)(e:X.N=N)(a:X.env.scope=sc)(St:Stv X i n)(h:QI X target iter x)(j:scope.kind = .function)(b:z3L (z0R target js N) N nt js scope.names sc.names=true/\(z0R target js N).Nodup)
  (g:(z0R target js N).Nodup->∀C s,QC (X.cg scope (z0R target js N) C s) target t) (l:(z0R target js N).Nodup->∀C s,QT (X.cg scope (z0R target js N) C s) c z) (f:(z0R target js N).Nodup->∀C s,QX (X.cg scope (z0R target js N) C s) elt y) (k:∀x,foldedSetIterable iter X.env x=pure x)
  (d:swapsWith (.ListComp elt [⟨target,iter,[c],0⟩] scope pos) (some (.Name n p2)) spos.line X.env=pure true):QZ X (.Assign [.Name n p2] (.ListComp elt [⟨target,iter,[c],0⟩] scope pos) spos) (.set i (.comp nt js t x (some z) y)):=
 zdt (ct:=some c) St h j (z3L.ok e a b.1) (g b.2) (λC s =>.yes (l b.2 C s)) (f b.2) k d
end
end Pu
end
set_option Elab.async false
set_option linter.all false
set_option maxRecDepth 100000
set_option maxHeartbeats 4000000
namespace My
open PySem L2 Pu
def top (i:Nat):Stmt:=PySem.Challenge.pw_closehaul_k65_whole_watches_halved.main.body.getD i (.Pass ⟨0,0,0,0⟩)
abbrev Fu (G:Wd)(t:Te)(f:Addr)(fd:FuncData):Prop:=Fun G.K t.x t.x (top t.i) f fd
abbrev BL:List Str:=["abs","all","bool","int","isinstance","len","list","max","min","range","reversed","set","sorted","str","sum","tuple","zip"]
structure Txt (K:W.Frag)(mg:Str->Option Value):Prop where
 nb:∀b∈BL,mg b=none
 g_EVERY_WAY:zhu K mg "EVERY_WAY" z39
def ziF:bootBuiltins "abs"=some (.builtin "abs"):=by rfl
def ziE:bootBuiltins "all"=some (.builtin "all"):=by rfl
def zho:bootBuiltins "bool"=some (.type "bool"):=by rfl
def ziD:bootBuiltins "int"=some (.type "int"):=by rfl
def ziC:bootBuiltins "len"=some (.builtin "len"):=by rfl
def zhn:bootBuiltins "list"=some (.type "list"):=by rfl
def ziB:bootBuiltins "max"=some (.builtin "max"):=by rfl
def ziA:bootBuiltins "min"=some (.builtin "min"):=by rfl
def zd9:bootBuiltins "sorted"=some (.builtin "sorted"):=by rfl
def ziz:bootBuiltins "str"=some (.type "str"):=by rfl
def ziy:bootBuiltins "sum"=some (.builtin "sum"):=by rfl
def zf7:bootBuiltins "tuple"=some (.type "tuple"):=by rfl
set_option hygiene false in
local macro_rules
 | `(tactic| walk_at "c0") => `(tactic| first | exact vx S rfl | exact qx_v rfl rfl rfl | (with_reducible first | exact zg5 | refine zg9 ?_ ?_ ?_ | refine zhK ?_ ?_ ?_ | refine zfZ ?_ | refine zg8 ?_ ?_ ?_ ?_ | exact zhO | exact zg3 | exact zg0 | refine zhI ?_ ?_ | refine zg2 ?_ | refine zga ?_ ?_ | refine zg1 ?_ | refine zhJ ?_ ?_ ?_ | refine zg4 ?_ ?_ ?_ ?_ ?_ ?_ ?_ ?_ | refine zcq ?_ ?_ ?_ ?_ ?_ ?_ ?_ | refine z9I ?_ ?_ ?_ ?_ ?_ ?_ | refine z9J ?_ ?_ ?_ ?_ ?_ ?_) | ((with_reducible refine zg6 (G:=?_) (t:=?_) ?_ ?_ ?_ ?_ ?_ ?_ ?_ ?_);rotate_left 2;(with_reducible assumption);exact λh => h) | ((with_reducible refine zcr (k:=?_) ?_ ?_ ?_ ?_ ?_ ?_);rotate_left 1;exact tb) | ((with_reducible refine zdu (n := 0) (k:=?_) (F:=?_) ?_ ?_ ?_ ?_);rotate_left 4;with_unfolding_all exact (‹Cf G z3t _›).c) | ((with_reducible refine zdu (n := 2) (k:=?_) (F:=?_) ?_ ?_ ?_ ?_);rotate_left 4;with_unfolding_all exact (‹Cf G z0v _›).c) | with_reducible refine zhN (d:=z39) ?_ ?_ ?_ | ((with_reducible refine zhM (id:=?_) ?_ ?_ ?_ ?_ ?_ ?_ ?_ ?_ ?_);rotate_left;with_reducible first | exact zhm | exact zhl | exact zhk | exact zf6 | exact zf5 | exact zf4 | exact zf3 | exact zhj | exact zf2) | ((with_reducible refine zg7 (id:=?_) ?_ ?_ ?_ ?_ ?_ ?_ ?_ ?_ ?_);rotate_left;with_reducible first | exact zd3) | with_reducible refine QF.qx ?_)
 | `(tactic| walk_at "c1") => `(tactic| first | (with_reducible first | refine zcp ?_ ?_ ?_ | exact zeh))
 | `(tactic| walk_at "c2") => `(tactic| first | ((with_reducible refine zfX ?_ ?_ ?_);rotate_left 2;exact rfl) | ((with_reducible refine zfQ ?_ ?_ ?_);rotate_left 2;exact rfl) | (with_reducible first | refine zhH ?_ ?_ ?_ | refine zfN ?_ | refine zeg ?_ ?_ ?_ | refine zfY ?_ ?_ ?_ ?_ ?_ ?_ ?_ | refine zfW ?_ ?_ ?_ ?_ ?_ ?_ ?_ | refine zfP ?_ ?_ ?_ ?_ | refine zcn ?_ ?_ ?_ ?_ ?_ | refine zfO ?_ ?_ ?_ ?_ ?_ ?_ ?_ | refine zef ?_ ?_ ?_ ?_ | refine zcm ?_ ?_ | refine zfV ?_ ?_ ?_ ?_ | refine zed ?_ ?_ ?_ ?_ | exact zco) | (with_reducible refine zfT S ?_ ?_ ?_ ?_ ?_ ?_ ?_ ?_ ?_ ?_) | (with_reducible refine zfS S ?_ ?_ ?_ ?_ ?_ ?_ ?_ ?_ ?_ ?_ ?_) | (with_reducible refine zec S ?_ ?_ ?_ ?_ ?_ ?_ ?_ ?_ ?_ ?_) | (with_reducible refine zeb S ?_ ?_ ?_ ?_ ?_ ?_ ?_ ?_ ?_ ?_ ?_))
 | `(tactic| walk_at "c3") => `(tactic| first | (with_reducible first | refine zaS ?_ | refine z86 ?_ ?_ | exact zfR))
 | `(tactic| walk_at "c4") => `(tactic| first | (with_reducible first | refine zgd ?_ ?_ ?_ ?_ | refine zek ?_ | refine zgc ?_) | with_reducible refine zel ?_ ?_)
 | `(tactic| walk_at "c5") => `(tactic| first | (with_reducible first | refine zcs ?_ | refine zei ?_ | refine zej ?_ ?_ | refine zgb ?_ ?_))
 | `(tactic| walk_at "c6") => `(tactic| first | (with_reducible first | refine zgf ?_ | exact zep | refine z9K ?_ ?_ ?_ ?_ ?_ ?_ ?_ | refine z4w ?_ ?_ ?_ ?_ ?_ ?_ ?_ | refine z7e ?_ ?_ ?_ ?_ ?_ ?_ ?_ ?_) | (with_reducible refine zcw S ?_ ?_ ?_ ?_ ?_ ?_ ?_ ?_) | (with_reducible refine zcv S ?_ ?_ ?_ ?_ ?_ ?_ ?_ ?_ ?_) | ((with_reducible refine zhS (id:=?_) ?_ ?_ ?_ ?_ ?_ ?_ ?_ ?_ ?_);rotate_left;with_reducible first | exact zd6))
 | `(tactic| walk_at "c7") => `(tactic| first | (with_reducible first | refine zct ?_ ?_ ?_ ?_ ?_ | refine zge (ri ?_ ?_ ?_ ?_ ?_) | refine qi_x ?_))
 | `(tactic| walk_at "c8") => `(tactic| first | (with_reducible first | refine zhR ?_ | refine zhQ ?_ ?_ ?_))
 | `(tactic| walk_at "c9") => `(tactic| first | (with_reducible first | refine zcu ?_ ?_ ?_ | exact zeo))
 | `(tactic| walk_at "c10") => `(tactic| first | (with_reducible first | exact zen | refine zem ?_))
 | `(tactic| walk_at "c11") => `(tactic| first | exact qn_v rfl rfl rfl)
 | `(tactic| walk_at "c12") => `(tactic| first | refine zeq ?_ ?_ rfl (by decide) (by decide))
 | `(tactic| walk_at "c13") => `(tactic| first | exact⟨S.fs.nd,rfl,.inl rfl⟩ | exact⟨S.fs.nd,rfl,.inr rfl⟩)
 | `(tactic| walk_at "c14") => `(tactic| first | (with_reducible first | exact zgv | exact zgx | exact zgt | exact zgw | exact zeA | exact zgu | exact zi0 | exact zhV | exact zhW | exact zhZ | exact zhX | exact zhY | exact zcI))
 | `(tactic| walk_at "c15") => `(tactic| first | exact zgn)
 | `(tactic| walk_at "c16") => `(tactic| first | (with_reducible first | refine zhU ?_ | refine zhT ?_ ?_ ?_))
 | `(tactic| walk_at "c17") => `(tactic| first | (with_reducible first | refine zcx ?_ ?_ ?_ | exact zer))
 | `(tactic| walk_at "c18") => `(tactic| first | exact⟨n1,rfl,rfl⟩)
 | `(tactic| walk_at "lf") => `(tactic| first | (with_reducible refine ri ?_ ?_ ?_ ?_ ?_) | exact rfl | exact ziF | exact ziE | exact zho | exact ziD | exact ziC | exact zhn | exact ziB | exact ziA | exact zd9 | exact ziz | exact ziy | exact zf7 | exact hr.mono (by decide) | exact hr.mono (ww _) | exact T.nb _ (by decide) | exact T.g_EVERY_WAY | (intro _;rfl) | (intro _ _;rfl) | decide | (intro n1 C s;skip) | decide +kernel)
local macro_rules | `(tactic| walk_at "q2") => `(tactic| first | ((with_reducible show QX _ _ _);walk_at "c0") | ((with_reducible show QA _ _ _);walk_at "c1") | ((with_reducible show QZ _ _ _);walk_at "c2") | ((with_reducible show QZs _ _ _);walk_at "c3") | ((with_reducible show QT _ _ _);walk_at "c4") | ((with_reducible show QW _ _ _);walk_at "c5") | ((with_reducible show QF _ _ _);walk_at "c6") | ((with_reducible show QI _ _ _ _);walk_at "c7") | ((with_reducible show QG _ _ _);walk_at "c8") | ((with_reducible show QGs _ _ _);walk_at "c9") | ((with_reducible show QO _ _ _);walk_at "c10") | ((with_reducible show QN _ _ _);walk_at "c11") | ((with_reducible show QV _ _ _);walk_at "c12") | ((with_reducible show Stv _ _ _);walk_at "c13") | ((with_reducible show Op2 _ _ _);walk_at "c14") | ((with_reducible show Op1 _ _ _);walk_at "c15") | ((with_reducible show QC _ _ _);walk_at "c16") | ((with_reducible show QCs _ _ _);walk_at "c17") | ((with_reducible show Stc _ _ _);walk_at "c18") | walk_at "lf")
local macro_rules | `(tactic| walk_at "q") => `(tactic| walk_at "q2" <;> walk_at "q")
set_option hygiene false in
local macro_rules | `(tactic| walk_at "f") => `(tactic| (refine fnT F (Sc.of (by decide +kernel)) bs rfl rfl (λcd A s S hr =>?_) rfl rfl;first | refine zaS ?_ | refine z86 ?_ ?_) <;> walk_at "q")
local macro_rules | `(tactic| walk_at "c") => `(tactic| first | exact λ_ _ _ _ _ _=>us1 λ_=>rfl | exact λ_ _ _ _ _ _=>us2 λ_ _=>rfl | exact λ_ _ _ _ _ _=>us3 λ_ _ _=>rfl | exact λ_ _ _ _ _ _=>us4 λ_ _ _ _=>rfl)
def z1g:Te:=⟨1,"_law_cell_at",54,2,["script","k"],z0f⟩
def z0W:Te:=⟨1,"_law_free_vector",57,2,["cell","far","wide"],z0c⟩
def z0I:Te:=⟨2,"_law_free_watches",58,1,["script","far","watches","at","size","first","wind"],z0r⟩
def z0E:Te:=⟨1,"_law_draw",55,3,["cell","k","many","prime","mixed"],z00⟩
def z25:Te:=⟨2,"_law_vector",56,3,["cell","far","line","times"],z0J⟩
def z1H:Te:=⟨3,"_law_watches",59,1,["script","base","far","line","most","watches","at","size","wind","stream"],z16⟩
def z2S:Te:=⟨2,"_law_size",69,1,["script"],z1a⟩
def z0p (k:Nat)(F:Fn):Te:=⟨k,"_law_same",62,2,["found","due"],F⟩
def z0o:Te:=⟨1,"_law_lowest",60,1,["row","least","number","one","rest"],z02⟩
def z2s:Te:=⟨2,"_law_short",70,2,["course","cell","first","bottom","part","last"],z10⟩
def z2V:Te:=⟨2,"_law_add",65,3,["place","vector","share","top","x","y"],z0z⟩
def z3k:Te:=⟨2,"_law_sum",61,2,["one","other"],z1O⟩
def z2U:Te:=⟨3,"_law_end",66,2,["watches","course","place","k","total","j","share"],z11⟩
def z0D:Te:=⟨2,"_law_free_place",67,2,["cell","far","wide","x","y"],z0e⟩
def z2t:Te:=⟨2,"_law_parts",63,3,["cell","many","bottom","cut","one","two","three","rest","tops"],z1k⟩
def z1z:Te:=⟨3,"_law_course",64,2,["watches","cell","course","k","bottom","tops"],z0s⟩
def z2T:Te:=⟨4,"_law_goal",68,3,["watches","cell","far","place","way","size","step"],z1v⟩
def z3l:Te:=⟨5,"_law_aim",71,3,["watches","cell","far","short","place"],z1P⟩
def z2p:Te:=⟨1,"turn_of",2,2,["one","other"],z1s⟩
def z1p:Te:=⟨1,"step_of",5,2,["start","end"],z0v⟩
def z3i:Te:=⟨2,"turn_by",8,3,["start","middle","end"],z3t⟩
def z2X:Te:=⟨3,"chain_of",9,2,["spots","turn","kept","spot"],z30⟩
def z1G:Te:=⟨4,"least_round",10,2,["rising","turn","there","back"],z2j⟩
def z0k:Te:=⟨5,"least_headings",11,1,["wind"],z07⟩
def z1c:Te:=⟨1,"vector_added",4,2,["one","other"],z0M⟩
def z1T:Te:=⟨6,"drift_of",28,1,["watch"],z1C⟩
def z2l:Te:=⟨1,"right_of",6,1,["step"],z2m⟩
def z19:Te:=⟨3,"bearings_round",12,2,["corners","step_between","found","number","corner","step"],z1w⟩
def z2f:Te:=⟨1,"dot_of",3,2,["one","other"],z17⟩
def z2k:Te:=⟨6,"sides_of",13,1,["wind","sides"],z1W⟩
def z2W:Te:=⟨2,"farthest",7,2,["wind","bearing"],z2n⟩
def z2r:Te:=⟨7,"limits_of",46,3,["ahead","drift","place","limits","bearing","most","gap"],z3b⟩
def z0i:Te:=⟨1,"longest_from_begin",47,1,["limits","found","limit"],z0j⟩
def z18:Te:=⟨1,"longest_to_end",48,1,["limits","found","limit"],z1u⟩
def z1n:Te:=⟨2,"watch_barred",49,1,["limits","bearing","gap","gain","first","last"],z1Y⟩
def z29:Te:=⟨2,"goes_first",24,2,["one","other","one_rises","other_rises"],z2J⟩
def z1o:Te:=⟨3,"steps_merged",25,2,["ones","others","steps","taken","other"],z1Z⟩
def z1D:Te:=⟨3,"steps_round",23,2,["corners","step_between","behind"],z1N⟩
def z34:Te:=⟨6,"joined",26,2,["one","other","ones","others","heading","headings","step"],z2H⟩
def z0t:Te:=⟨1,"common_divisor",18,2,["one","other","great","small","rest"],z09⟩
def z33:Te:=⟨2,"lowest",19,2,["top","bottom","divisor"],z2h⟩
def z22:Te:=⟨1,"wind_times",50,2,["wind","number"],z2c⟩
def z1F:Te:=⟨1,"lies_beyond",33,3,["place","bearing","most"],z2i⟩
def z0X:Te:=⟨7,"barring_bearing",34,2,["headings","place","bearing","most"],z1l⟩
def z3w:Te:=⟨1,"way_to",35,2,["vector","place"],z3C⟩
def z24:Te:=⟨2,"line_parts",36,2,["corners","place","step","whole","second"],z2F⟩
def z0C:Te:=⟨2,"triangle_parts",37,2,["corners","place","one","other","way","whole","second","third"],z0H⟩
def z0S:Te:=⟨3,"triangle_around",38,2,["headings","place","number","corners"],z1h⟩
def z0U:Te:=⟨3,"shares_of_parts",39,3,["wind","corners","parts","whole","shares"],z0Z⟩
def z2q:Te:=⟨8,"shares_to",40,2,["wind","place","headings","bearing","corners","parts"],z3a⟩
def z28:Te:=⟨2,"heading_at",43,2,["wind","step","side","ways"],z2I⟩
def z4s:Te:=⟨2,"added",20,2,["one","other","shared","one_times","other_times","top","rest"],z4H⟩
def z0V:Te:=⟨3,"shares_in_watch",44,3,["wind","reach","shares","found","number","share","heading"],z1j⟩
def z1q:Te:=⟨2,"lowest_place",30,3,["x","y","bottom","divisor"],z20⟩
def z1E:Te:=⟨3,"place_times",31,2,["place","fraction"],z2g⟩
def z23:Te:=⟨3,"multiplied",21,2,["one","other"],z2E⟩
def z0T:Te:=⟨9,"short_course_to",51,4,["watches","ahead","part","place","drift","reach","shares","course","last"],z1i⟩
def z3j:Te:=⟨10,"soonest",52,2,["watches","place","bars","ahead","number","drift","limits","barred","limit","part","course"],z4a⟩
def z26:Te:=⟨11,"_law_moment",73,2,["watches","place","found"],z0K⟩
def z27:Te:=⟨7,"joined_all",27,1,["winds","total","wind"],z2G⟩
def z2R:Te:=⟨8,"reach_of",42,1,["watches"],z2Z⟩
def z1I:Te:=⟨1,"_law_doubled",72,1,["vector"],z0y⟩
def zc3:Te:=⟨12,"law",74,1,["script","watches","double","twice","wind","stream","cell","place","much","one","two"],z3c⟩
section
variable {G:Wd}{f:Addr}{fd:FuncData}(T:Txt G.K G.mg)
include T
theorem z5L (F:Fu G z1g f fd)(bs:z0b G.K fd z1g.ps []):Ft G z1g f:=by walk_at "f"
theorem z45 (F:Fu G z0W f fd)(bs:z0b G.K fd z0W.ps []):Ft G z0W f:=by walk_at "f"
theorem z3I (F:Fu G z0I f fd)(bs:z0b G.K fd z0I.ps [])(_:Cf G z0c z0W):Ft G z0I f:=by walk_at "f"
theorem z8d (F:Fu G z0E f fd)(bs:z0b G.K fd z0E.ps []):Ft G z0E f:=by walk_at "f"
theorem z6t (F:Fu G z25 f fd)(bs:z0b G.K fd z25.ps [])(_:Cf G z00 z0E):Ft G z25 f:=by walk_at "f"
theorem z5J (F:Fu G z1H f fd)(bs:z0b G.K fd z1H.ps [])(_:Cf G z0f z1g)(_:Cf G z00 z0E)(_:Cf G z0J z25)(_:Cf G z0r z0I):Ft G z1H f:=by walk_at "f"
theorem z8b (F:Fu G z2S f fd)(bs:z0b G.K fd z2S.ps [])(_:Cf G z0f z1g)(_:Cf G z00 z0E):Ft G z2S f:=by walk_at "f"
theorem z35 {n k:Nat}(F:Fun G.K "_law_same" "_law_same" (top 62) f fd)(bs:z0b G.K fd ["found","due"] [])(_:Cf G (z01 n) (z0p k (z01 n))):Ft G (z0p (k+1) (z01 (n+1))) f:=by(refine fnR (N:=["found","due"]) F (Sc.of (by decide +kernel)) bs (λcd A s S hr =>?_) rfl rfl;first | refine zaS ?_ | refine z86 ?_ ?_) <;> walk_at "q"
theorem z6v (F:Fu G z0o f fd)(bs:z0b G.K fd z0o.ps []):Ft G z0o f:=by walk_at "f"
theorem z7p (F:Fu G z2s f fd)(bs:z0b G.K fd z2s.ps [])(_:Cf G z00 z0E)(_:Cf G z02 z0o):Ft G z2s f:=by walk_at "f"
theorem z9W (F:Fu G z2V f fd)(bs:z0b G.K fd z2V.ps [])(_:Cf G z02 z0o):Ft G z2V f:=by walk_at "f"
theorem z9T (F:Fu G z3k f fd)(bs:z0b G.K fd z3k.ps [])(_:Cf G z02 z0o):Ft G z3k f:=by walk_at "f"
theorem z9U (F:Fu G z2U f fd)(bs:z0b G.K fd z2U.ps [])(_:Cf G z1O z3k)(_:Cf G z0z z2V):Ft G z2U f:=by walk_at "f"
theorem z4A (F:Fu G z0D f fd)(bs:z0b G.K fd z0D.ps [])(_:Cf G z02 z0o):Ft G z0D f:=by walk_at "f"
theorem z7q (F:Fu G z2t f fd)(bs:z0b G.K fd z2t.ps [])(_:Cf G z00 z0E):Ft G z2t f:=by walk_at "f"
theorem z6w (F:Fu G z1z f fd)(bs:z0b G.K fd z1z.ps [])(_:Cf G z00 z0E)(_:Cf G z02 z0o)(_:Cf G z1k z2t):Ft G z1z f:=by walk_at "f"
theorem z8c (F:Fu G z2T f fd)(bs:z0b G.K fd z2T.ps [])(_:Cf G z00 z0E)(_:Cf G z02 z0o)(_:Cf G z0s z1z)(_:Cf G z0z z2V)(_:Cf G z11 z2U)(_:Cf G z0e z0D):Ft G z2T f:=by walk_at "f"
theorem z9V (F:Fu G z3l f fd)(bs:z0b G.K fd z3l.ps [])(_:Cf G z00 z0E)(_:Cf G z0s z1z)(_:Cf G z11 z2U)(_:Cf G z0e z0D)(_:Cf G z1v z2T)(_:Cf G z10 z2s):Ft G z3l f:=by walk_at "f"
theorem z9P (F:Fu G z2p f fd)(bs:z0b G.K fd z2p.ps []):Ft G z2p f:=by walk_at "f"
theorem z9R (F:Fu G z1p f fd)(bs:z0b G.K fd z1p.ps []):Ft G z1p f:=by walk_at "f"
theorem z9Q (F:Fu G z3i f fd)(bs:z0b G.K fd z3i.ps [])(_:Cf G z1s z2p)(_:Cf G z0v z1p):Ft G z3i f:=by walk_at "f"
theorem z8g (F:Fu G z2X f fd)(bs:z0b G.K fd z2X.ps [])(tb:FTab G.P G.w G.K G.mg 2 z8q):Ft G z2X f:=by walk_at "f"
theorem z5I (F:Fu G z1G f fd)(bs:z0b G.K fd z1G.ps [])(_:Cf G z30 z2X):Ft G z1G f:=by walk_at "f"
theorem z4z (F:Fu G z0k f fd)(bs:z0b G.K fd z0k.ps [])(_:Cf G z3t z3i)(_:Cf G z2j z1G):Ft G z0k f:=by walk_at "f"
theorem z5l (F:Fu G z1c f fd)(bs:z0b G.K fd z1c.ps []):Ft G z1c f:=by walk_at "f"
theorem z8f (F:Fu G z1T f fd)(bs:z0b G.K fd z1T.ps [])(_:Cf G z0M z1c)(_:Cf G z07 z0k):Ft G z1T f:=by walk_at "f"
theorem z89 (F:Fu G z2l f fd)(bs:z0b G.K fd z2l.ps []):Ft G z2l f:=by walk_at "f"
theorem z4C (F:Fu G z19 f fd)(bs:z0b G.K fd z19.ps [])(_:Cf G z2m z2l)(tb:FTab G.P G.w G.K G.mg 2 z8q):Ft G z19 f:=by walk_at "f"
theorem zbb (F:Fu G z2f f fd)(bs:z0b G.K fd z2f.ps []):Ft G z2f f:=by walk_at "f"
theorem z88 (F:Fu G z2k f fd)(bs:z0b G.K fd z2k.ps [])(_:Cf G z17 z2f)(_:Cf G z0v z1p)(_:Cf G z07 z0k)(_:Cf G z1w z19):Ft G z2k f:=by walk_at "f"
theorem z8e (F:Fu G z2W f fd)(bs:z0b G.K fd z2W.ps [])(_:Cf G z17 z2f):Ft G z2W f:=by walk_at "f"
theorem z7o (F:Fu G z2r f fd)(bs:z0b G.K fd z2r.ps [])(_:Cf G z17 z2f)(_:Cf G z2n z2W)(_:Cf G z1W z2k):Ft G z2r f:=by walk_at "f"
theorem z3q (F:Fu G z0i f fd)(bs:z0b G.K fd z0i.ps []):Ft G z0i f:=by walk_at "f"
theorem z4y (F:Fu G z18 f fd)(bs:z0b G.K fd z18.ps []):Ft G z18 f:=by walk_at "f"
theorem z5k (F:Fu G z1n f fd)(bs:z0b G.K fd z1n.ps [])(_:Cf G z0j z0i)(_:Cf G z1u z18):Ft G z1n f:=by walk_at "f"
theorem z6z (F:Fu G z29 f fd)(bs:z0b G.K fd z29.ps [])(_:Cf G z1s z2p):Ft G z29 f:=by walk_at "f"
theorem z5m (F:Fu G z1o f fd)(bs:z0b G.K fd z1o.ps [])(_:Cf G z2J z29):Ft G z1o f:=by walk_at "f"
theorem z5F (F:Fu G z1D f fd)(bs:z0b G.K fd z1D.ps [])(tb:FTab G.P G.w G.K G.mg 2 z8q):Ft G z1D f:=by walk_at "f"
theorem zba (F:Fu G z34 f fd)(bs:z0b G.K fd z34.ps [])(_:Cf G z0M z1c)(_:Cf G z0v z1p)(_:Cf G z07 z0k)(_:Cf G z1N z1D)(_:Cf G z1Z z1o):Ft G z34 f:=by walk_at "f"
theorem z4B (F:Fu G z0t f fd)(bs:z0b G.K fd z0t.ps []):Ft G z0t f:=by walk_at "f"
theorem zb9 (F:Fu G z33 f fd)(bs:z0b G.K fd z33.ps [])(_:Cf G z09 z0t):Ft G z33 f:=by walk_at "f"
theorem z6q (F:Fu G z22 f fd)(bs:z0b G.K fd z22.ps []):Ft G z22 f:=by walk_at "f"
theorem z5H (F:Fu G z1F f fd)(bs:z0b G.K fd z1F.ps []):Ft G z1F f:=by walk_at "f"
theorem z46 (F:Fu G z0X f fd)(bs:z0b G.K fd z0X.ps [])(_:Cf G z1W z2k)(_:Cf G z2i z1F):Ft G z0X f:=by walk_at "f"
theorem zb8 (F:Fu G z3w f fd)(bs:z0b G.K fd z3w.ps []):Ft G z3w f:=by walk_at "f"
theorem z6s (F:Fu G z24 f fd)(bs:z0b G.K fd z24.ps [])(_:Cf G z17 z2f)(_:Cf G z0v z1p)(_:Cf G z3C z3w):Ft G z24 f:=by walk_at "f"
theorem z4x (F:Fu G z0C f fd)(bs:z0b G.K fd z0C.ps [])(_:Cf G z1s z2p)(_:Cf G z0v z1p)(_:Cf G z3C z3w):Ft G z0C f:=by walk_at "f"
theorem z41 (F:Fu G z0S f fd)(bs:z0b G.K fd z0S.ps [])(_:Cf G z0H z0C):Ft G z0S f:=by walk_at "f"
theorem z43 (F:Fu G z0U f fd)(bs:z0b G.K fd z0U.ps [])(_:Cf G z2h z33):Ft G z0U f:=by walk_at "f"
theorem z7n (F:Fu G z2q f fd)(bs:z0b G.K fd z2q.ps [])(_:Cf G z07 z0k)(_:Cf G z1l z0X)(_:Cf G z2F z24)(_:Cf G z0H z0C)(_:Cf G z1h z0S)(_:Cf G z0Z z0U):Ft G z2q f:=by walk_at "f"
theorem z6y (F:Fu G z28 f fd)(bs:z0b G.K fd z28.ps [])(_:Cf G z17 z2f)(_:Cf G z2m z2l):Ft G z28 f:=by walk_at "f"
theorem zcH (F:Fu G z4s f fd)(bs:z0b G.K fd z4s.ps [])(_:Cf G z09 z0t):Ft G z4s f:=by walk_at "f"
theorem z44 (F:Fu G z0V f fd)(bs:z0b G.K fd z0V.ps [])(_:Cf G z0v z1p)(_:Cf G z4H z4s)(_:Cf G z2I z28):Ft G z0V f:=by walk_at "f"
theorem z5n (F:Fu G z1q f fd)(bs:z0b G.K fd z1q.ps [])(_:Cf G z09 z0t):Ft G z1q f:=by walk_at "f"
theorem z5G (F:Fu G z1E f fd)(bs:z0b G.K fd z1E.ps [])(_:Cf G z20 z1q):Ft G z1E f:=by walk_at "f"
theorem z6r (F:Fu G z23 f fd)(bs:z0b G.K fd z23.ps [])(_:Cf G z2h z33):Ft G z23 f:=by walk_at "f"
theorem z42 (F:Fu G z0T f fd)(bs:z0b G.K fd z0T.ps [])(_:Cf G z2E z23)(_:Cf G z2H z34)(_:Cf G z1C z1T)(_:Cf G z2g z1E)(_:Cf G z3a z2q)(_:Cf G z1j z0V)(_:Cf G z2c z22):Ft G z0T f:=by walk_at "f"
theorem z9S (F:Fu G z3j f fd)(bs:z0b G.K fd z3j.ps [])(_:Cf G z2h z33)(_:Cf G z4H z4s)(_:Cf G z2H z34)(_:Cf G z1C z1T)(_:Cf G z3b z2r)(_:Cf G z0j z0i)(_:Cf G z1Y z1n)(_:Cf G z1i z0T):Ft G z3j f:=by walk_at "f"
theorem z6u (F:Fu G z26 f fd)(bs:z0b G.K fd z26.ps [])(_:Cf G z4a z3j):Ft G z26 f:=by walk_at "f"
theorem z6x (F:Fu G z27 f fd)(bs:z0b G.K fd z27.ps [])(_:Cf G z2H z34):Ft G z27 f:=by walk_at "f"
theorem z8a (F:Fu G z2R f fd)(bs:z0b G.K fd z2R.ps [])(_:Cf G z2G z27)(_:Cf G z1C z1T):Ft G z2R f:=by walk_at "f"
theorem z5K (F:Fu G z1I f fd)(bs:z0b G.K fd z1I.ps []):Ft G z1I f:=by walk_at "f"
theorem zgq (F:Fu G zc3 f fd)(bs:z0b G.K fd zc3.ps [])(_:Cf G z2Z z2R)(_:Cf G z16 z1H)(_:Cf G z02 z0o)(_:Cf G z0m (z0p 4 z0m))(_:Cf G z1a z2S)(_:Cf G z1P z3l)(_:Cf G z0y z1I)(_:Cf G z0K z26):Ft G zc3 f:=by walk_at "f"
end
def zhq {P:Program}{w:World}{K:W.Frag}{h:Heap}{mg:WmP}{fa f0 f1 f2 f3 f4 f5 f6 f7 f8 f9 i8 i9 j1 j2 j3 j4 j5 k2 k3 k4 k5 k6 k7 k8 k9 l0 l1 l2 l3 l4 l5 l6 l7 l8 l9 m0 m1 m2 m3 m4 m5 m6 m7 m8 m9 n0 n2 n3 n4 n5 n6 n7 n8 n9 o0 o1 o2 o3 o4 o5 o6 o7 o8:Addr}(X:K.In h)(g:h.Ns mainGlobals mg)(o9:mg "law"=some (.ref fa))
  (d0:Std K "_law_cell_at" (top 54) f0)
  (d1:Std K "_law_free_vector" (top 57) f1)
  (d2:Std K "_law_free_watches" (top 58) f2)
  (d3:Std K "_law_draw" (top 55) f3)
  (d4:Std K "_law_vector" (top 56) f4)
  (d5:Std K "_law_watches" (top 59) f5)
  (d6:Std K "_law_size" (top 69) f6)
  (Y:Std K "_law_same" (top 62) f7)
  (d8:Std K "_law_lowest" (top 60) f8)
  (d9:Std K "_law_short" (top 70) f9)
  (a3:Std K "_law_add" (top 65) i8)
  (a4:Std K "_law_sum" (top 61) i9)
  (a5:Std K "_law_end" (top 66) j1)
  (a6:Std K "_law_free_place" (top 67) j2)
  (a7:Std K "_law_parts" (top 63) j3)
  (a8:Std K "_law_course" (top 64) j4)
  (a9:Std K "_law_goal" (top 68) j5)
  (b0:Std K "_law_aim" (top 71) k2)
  (b3:Std K "turn_of" (top 2) k3)
  (b4:Std K "step_of" (top 5) k4)
  (b5:Std K "turn_by" (top 8) k5)
  (b6:Std K "chain_of" (top 9) k6)
  (b7:Std K "least_round" (top 10) k7)
  (b8:Std K "least_headings" (top 11) k8)
  (b9:Std K "vector_added" (top 4) k9)
  (c0:Std K "drift_of" (top 28) l0)
  (c1:Std K "right_of" (top 6) l1)
  (c2:Std K "bearings_round" (top 12) l2)
  (c4:Std K "dot_of" (top 3) l3)
  (c5:Std K "sides_of" (top 13) l4)
  (c6:Std K "farthest" (top 7) l5)
  (c7:Std K "limits_of" (top 46) l6)
  (c8:Std K "longest_from_begin" (top 47) l7)
  (c9:Std K "longest_to_end" (top 48) l8)
  (e0:Std K "watch_barred" (top 49) l9)
  (e2:Std K "goes_first" (top 24) m0)
  (e3:Std K "steps_merged" (top 25) m1)
  (e4:Std K "steps_round" (top 23) m2)
  (e5:Std K "joined" (top 26) m3)
  (e6:Std K "common_divisor" (top 18) m4)
  (e7:Std K "lowest" (top 19) m5)
  (e8:Std K "wind_times" (top 50) m6)
  (e9:Std K "lies_beyond" (top 33) m7)
  (g4:Std K "barring_bearing" (top 34) m8)
  (g5:Std K "way_to" (top 35) m9)
  (g6:Std K "line_parts" (top 36) n0)
  (g7:Std K "triangle_parts" (top 37) n2)
  (g8:Std K "triangle_around" (top 38) n3)
  (g9:Std K "shares_of_parts" (top 39) n4)
  (h0:Std K "shares_to" (top 40) n5)
  (h5:Std K "heading_at" (top 43) n6)
  (h6:Std K "added" (top 20) n7)
  (h7:Std K "shares_in_watch" (top 44) n8)
  (h8:Std K "lowest_place" (top 30) n9)
  (h9:Std K "place_times" (top 31) o0)
  (i0:Std K "multiplied" (top 21) o1)
  (i1:Std K "short_course_to" (top 51) o2)
  (i2:Std K "soonest" (top 52) o3)
  (i3:Std K "_law_moment" (top 73) o4)
  (i4:Std K "joined_all" (top 27) o5)
  (i5:Std K "reach_of" (top 42) o6)
  (i6:Std K "_law_doubled" (top 72) o7)
  (i7:Std K "law" (top 74) o8)
  (zb:∀b∈BL,W.nsIn K mainGlobals b=some none)
  (L:W.nsIn K mainGlobals "turn_among"=some none)
  (J:W.nsIn K mainGlobals "step_among"=some none)
  (a0:W.nsIn K mainGlobals ""=some none)
  {H:Addr}(O:W.nsIn K mainGlobals "EVERY_WAY"=some (some (.ref H))) (N:z7x K z39 (.ref H)=true)
  : FnOk P w K mg 12 fa z3c:=by
 obtain⟨G,rfl,rfl,rfl,rfl⟩:=Wd.of P w K mg;have T:Txt G.K G.mg:=⟨λb hb=>Wf X g (zb b hb),⟨_,W.mg_of X g O,N⟩⟩
 have q0:=ctG X g z1g d0 (λ_ F bs=>z5L T F bs ) (by walk_at "c");have q1:=ctG X g z0W d1 (λ_ F bs=>z45 T F bs ) (by walk_at "c");have q3:=ctG X g z0I d2 (λ_ F bs=>z3I T F bs q1) (by walk_at "c");have R:=ctG X g z0E d3 (λ_ F bs=>z8d T F bs ) (by walk_at "c");have q5:=ctG X g z25 d4 (λ_ F bs=>z6t T F bs R) (by walk_at "c");have q6:=ctG X g z1H d5 (λ_ F bs=>z5J T F bs q0 R q5 q3) (by walk_at "c");have q7:=ctG X g z2S d6 (λ_ F bs=>z8b T F bs q0 R) (by walk_at "c");have Q:Cf G (z01 0) (z0p 0 (z01 0)):=ctG X g (z0p 0 (z01 0)) Y (λ_ F bs=>zhb) (by walk_at "c");have Q:Cf G (z01 1) (z0p 1 (z01 1)):=ctG X g (z0p 1 (z01 1)) Y (λ_ F bs=>z35 T F bs Q) (by walk_at "c");have Q:Cf G (z01 2) (z0p 2 (z01 2)):=ctG X g (z0p 2 (z01 2)) Y (λ_ F bs=>z35 T F bs Q) (by walk_at "c");have Q:Cf G (z01 3) (z0p 3 (z01 3)):=ctG X g (z0p 3 (z01 3)) Y (λ_ F bs=>z35 T F bs Q) (by walk_at "c");have Q:Cf G (z01 4) (z0p 4 (z01 4)):=ctG X g (z0p 4 (z01 4)) Y (λ_ F bs=>z35 T F bs Q) (by walk_at "c");have Q:Cf G z0m (z0p 4 z0m):=Q;have U:=ctG X g z0o d8 (λ_ F bs=>z6v T F bs ) (by walk_at "c");have qa:=ctG X g z2s d9 (λ_ F bs=>z7p T F bs R U) (by walk_at "c");have qb:=ctG X g z2V a3 (λ_ F bs=>z9W T F bs U) (by walk_at "c");have qc:=ctG X g z3k a4 (λ_ F bs=>z9T T F bs U) (by walk_at "c");have qd:=ctG X g z2U a5 (λ_ F bs=>z9U T F bs qc qb) (by walk_at "c");have qe:=ctG X g z0D a6 (λ_ F bs=>z4A T F bs U) (by walk_at "c");have qf:=ctG X g z2t a7 (λ_ F bs=>z7q T F bs R) (by walk_at "c");have qg:=ctG X g z1z a8 (λ_ F bs=>z6w T F bs R U qf) (by walk_at "c");have qh:=ctG X g z2T a9 (λ_ F bs=>z8c T F bs R U qg qb qd qe) (by walk_at "c");have qi:=ctG X g z3l b0 (λ_ F bs=>z9V T F bs R qg qd qe qh qa) (by walk_at "c");have qj:=ctG X g z2p b3 (λ_ F bs=>z9P T F bs ) (by walk_at "c");have V:=ctG X g z1p b4 (λ_ F bs=>z9R T F bs ) (by walk_at "c");have ql:=ctG X g z3i b5 (λ_ F bs=>z9Q T F bs qj V) (by walk_at "c");have tb:FTab G.P G.w G.K G.mg 2 z8q:=FTab.mk (Wf X g a0) λn hn f e=>by
  match n,hn with
  | 0,_=>exact ql.c.tab (by decide) f e
  | 1,_=>rw[show z5w 1="turn_among" from rfl,Wf X g L] at e;cases e
  | 2,_=>exact V.c.tab (by decide) f e
  | 3,_=>rw[show z5w 3="step_among" from rfl,Wf X g J] at e;cases e
 have qm:=ctG X g z2X b6 (λ_ F bs=>z8g T F bs tb) (by walk_at "c");have qn:=ctG X g z1G b7 (λ_ F bs=>z5I T F bs qm) (by walk_at "c");have qo:=ctG X g z0k b8 (λ_ F bs=>z4z T F bs ql qn) (by walk_at "c");have qp:=ctG X g z1c b9 (λ_ F bs=>z5l T F bs ) (by walk_at "c");have qq:=ctG X g z1T c0 (λ_ F bs=>z8f T F bs qp qo) (by walk_at "c");have qr:=ctG X g z2l c1 (λ_ F bs=>z89 T F bs ) (by walk_at "c");have qs:=ctG X g z19 c2 (λ_ F bs=>z4C T F bs qr tb) (by walk_at "c");have Z:=ctG X g z2f c4 (λ_ F bs=>zbb T F bs ) (by walk_at "c");have qu:=ctG X g z2k c5 (λ_ F bs=>z88 T F bs Z V qo qs) (by walk_at "c");have qv:=ctG X g z2W c6 (λ_ F bs=>z8e T F bs Z) (by walk_at "c");have qw:=ctG X g z2r c7 (λ_ F bs=>z7o T F bs Z qv qu) (by walk_at "c");have qy:=ctG X g z0i c8 (λ_ F bs=>z3q T F bs ) (by walk_at "c");have qz:=ctG X g z18 c9 (λ_ F bs=>z4y T F bs ) (by walk_at "c");have qA:=ctG X g z1n e0 (λ_ F bs=>z5k T F bs qy qz) (by walk_at "c");have qB:=ctG X g z29 e2 (λ_ F bs=>z6z T F bs qj) (by walk_at "c");have qC:=ctG X g z1o e3 (λ_ F bs=>z5m T F bs qB) (by walk_at "c");have qD:=ctG X g z1D e4 (λ_ F bs=>z5F T F bs tb) (by walk_at "c");have qE:=ctG X g z34 e5 (λ_ F bs=>zba T F bs qp V qo qD qC) (by walk_at "c");have qF:=ctG X g z0t e6 (λ_ F bs=>z4B T F bs ) (by walk_at "c");have qG:=ctG X g z33 e7 (λ_ F bs=>zb9 T F bs qF) (by walk_at "c");have qH:=ctG X g z22 e8 (λ_ F bs=>z6q T F bs ) (by walk_at "c");have qI:=ctG X g z1F e9 (λ_ F bs=>z5H T F bs ) (by walk_at "c");have qJ:=ctG X g z0X g4 (λ_ F bs=>z46 T F bs qu qI) (by walk_at "c");have qK:=ctG X g z3w g5 (λ_ F bs=>zb8 T F bs ) (by walk_at "c");have qL:=ctG X g z24 g6 (λ_ F bs=>z6s T F bs Z V qK) (by walk_at "c");have qM:=ctG X g z0C g7 (λ_ F bs=>z4x T F bs qj V qK) (by walk_at "c");have qN:=ctG X g z0S g8 (λ_ F bs=>z41 T F bs qM) (by walk_at "c");have qO:=ctG X g z0U g9 (λ_ F bs=>z43 T F bs qG) (by walk_at "c");have qP:=ctG X g z2q h0 (λ_ F bs=>z7n T F bs qo qJ qL qM qN qO) (by walk_at "c");have qQ:=ctG X g z28 h5 (λ_ F bs=>z6y T F bs Z qr) (by walk_at "c");have qR:=ctG X g z4s h6 (λ_ F bs=>zcH T F bs qF) (by walk_at "c");have qS:=ctG X g z0V h7 (λ_ F bs=>z44 T F bs V qR qQ) (by walk_at "c");have qT:=ctG X g z1q h8 (λ_ F bs=>z5n T F bs qF) (by walk_at "c");have qU:=ctG X g z1E h9 (λ_ F bs=>z5G T F bs qT) (by walk_at "c");have qV:=ctG X g z23 i0 (λ_ F bs=>z6r T F bs qG) (by walk_at "c");have qW:=ctG X g z0T i1 (λ_ F bs=>z42 T F bs qV qE qq qU qP qS qH) (by walk_at "c");have qX:=ctG X g z3j i2 (λ_ F bs=>z9S T F bs qG qR qE qq qw qy qA qW) (by walk_at "c");have qY:=ctG X g z26 i3 (λ_ F bs=>z6u T F bs qX) (by walk_at "c");have qZ:=ctG X g z27 i4 (λ_ F bs=>z6x T F bs qE) (by walk_at "c");have y0:=ctG X g z2R i5 (λ_ F bs=>z8a T F bs qZ qq) (by walk_at "c");have y1:=ctG X g z1I i6 (λ_ F bs=>z5K T F bs ) (by walk_at "c");exact @Cf.top _ _ _ _ _ (ctG X g zc3 i7 (λ_ F bs=>zgq T F bs y0 q6 U Q q7 qi y1 qY) (by walk_at "c")) rfl o9
end My
open PySem PySem.W PyProof.Rows
local macro_rules | `(tactic| walk_at "ks") => `(tactic| (refine' Pu.Std.mk ?a ?l ?c ?k;(case a=>k_is);(case l=>k_is);(case c=>k_is);(case k=>k_is)))
set_option maxRecDepth 100000 in
set_option maxHeartbeats 0 in
theorem PySem.Challenge.cw_closehaul_k65_whole_watches_halved_holds : PySem.Challenge.rw_closehaul_k65_whole_watches_halved.Holds := by
 w_on;o_law;k_head;(case hw=>w_witness2)
 k_fill
 refine Pu.walk (l:=PySem.Challenge.rw_closehaul_k65_whole_watches_halved) (k:=12) (F:=Pu.z3c) rfl rfl ⟨rfl,by decide,by decide⟩ (λw h Y=>W.kIn_of Y) ?F Pu.zeN
 case F=>
  intro w mg K h J G H;refine' My.zhq J G H ?_ ?_ ?_ ?_ ?_ ?_ ?_ ?_ ?_ ?_ ?_ ?_ ?_ ?_ ?_ ?_ ?_ ?_ ?_ ?_ ?_ ?_ ?_ ?_ ?_ ?_ ?_ ?_ ?_ ?_ ?_ ?_ ?_ ?_ ?_ ?_ ?_ ?_ ?_ ?_ ?_ ?_ ?_ ?_ ?_ ?_ ?_ ?_ ?_ ?_ ?_ ?_ ?_ ?_ ?_ ?_ ?_ ?_ ?_ ?_ ?_ ?_ ?_ ?_ ?_ ?_ ?_ ?_ ?_
  all_goals first | walk_at "ks" | k_is | kernel_rfl | ((repeat refine List.forall_mem_cons.2 ⟨by k_is,?_⟩);intro _ h;cases h) | skip
