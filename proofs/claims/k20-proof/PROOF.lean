import PyProof.Rows.All
import Wide.All
import OpenK.AllK
import Wide.FinOn
import Lean
import PyProof.EqAt
import PyProof.EqKinds
import PyProof.TupleCall
import KE.KMinKey
import KE.KSortTup
import KE.KLam
import KE.KNestM
import KE.KItemsList
import PyProof.SeqI2
import PyProof.SeqI3
import PyProof.WalksMore
import PySem.Challenge.RW_newletters_k20_whole_webs_of_what_is_ret
open List renaming getElem?_eq_some_iff → a9, getElem?_eq_getElem → b0, mem_of_getElem? → b6, length_map → b7, getD_eq_getElem?_getD → b8, length_append → c5, mem_singleton → c6, mem_cons → c7, mem_cons_of_mem → c8, getElem?_map → c9, size_toArray → d3, mem_cons_self → d4, mem_map → d5, map_append → g6, map_cons → g9, append_assoc → i6, length_take → i7, length_cons → j0, mem_append_right → j6, take_length → j8, mem_append → k0, append_nil → l4, getElem?_append_left → l5, nodup_cons → l9, length_set → m6, length_eq_zero_iff → o6, not_mem_nil → o8, getElem?_of_mem → o9, reverse_cons → p0, take_add_one → p6, map_map → p7, map_congr_left → p9, mem_append_left → q8, mem_of_mem_take → r6, lookup_cons → t5, getElem?_append_right → u0, take_of_length_le → u6, sum_cons → u8, length_singleton → u9, flatten_cons → x8, flatMap_cons → x9, drop_eq_getElem_cons → y2, length_drop → y4, mem_reverse → y7, dropLast_concat_getLast → z9, mem_filter → aQB, length_reverse → aQC, getElem?_set_self → aQD, getElem_mem → aQF, getElem?_set_ne → aQH, getElem?_take_of_lt → aQI, reverse_reverse → aQJ, getElem?_cons_succ → aQK, all_eq_true → aQL, take_append_drop → aQO, getElem?_eq_none → aQP, length_filter_le → aQV, length_range → aQ0, nodup_append → aQ1, mem_range → aQ4, filterMap_cons → aQa, mem_singleton_self → aQb, find?_cons → aQf, getElem?_reverse → aQm, idxOf_lt_length_of_mem → aQn, getElem_inj → aQo, any_cons → aQq, length_erase_of_mem → aQu, filter_cons_of_pos → aQx, filter_cons_of_neg → aQy, ext_getElem? → aQz, length_pos_of_mem → aXA, length_eq_one_iff → aXB, map_reverse → aXC, mem_flatMap → aXE, getElem_map → aXF, length_replicate → aXI, eraseIdxIfInBounds_toArray → aXM, map_nil → aXN, forIn_cons → aXP, foldl_cons → aXQ, idxOf_cons → aXT, length_eraseIdx → aXU, reverse_append → aXY, toList_toArray → aXZ, flatten_append → aX0, filter_append → aX8, getElem_idxOf → aX9, all_cons → aXb, foldl_append → aXf, pairwise_map → aXi, getElem?_eq_none_iff → aXj, getLast?_eq_some_iff → aXk, mem_of_find?_eq_some → aXl, getElem?_zip_eq_some → aXm, zipIdx_cons → aXs, length_filterMap_le → aXt, filter_cons → aXu, mem_of_mem_eraseIdx → aXx, getElem?_cons_zero → aZB, of_mem_zip → aZC, map_id → aZI, find?_cons_of_neg → aZJ, drop_zero → aZO, take_left → aZP, forIn_nil → aZQ, nodup_nil → aZR, mem_of_mem_erase → aZT, mem_erase_of_ne → aZW, flatMap_append → aZ1, length_pos_iff → aZ2, filter_eq_self → aZ3, mem_filterMap → aZ6, getElem?_drop → aZd, pairwise_cons → aZf, find?_eq_none → aZg, countP_append → aZh, countP_congr → aZl, countP_cons → aZv, any_eq_true → aZw, ext_getElem → aZy, mem_flatten → aZz, drop_length → aJA, flatMap_def → aJB, zipIdx_nil → aJF, length_nil → aJG, sum_append → aJI, find?_some → aJJ, nil_append → aJK, count_cons → aJL, filter_nil → aJM, drop_left → aJR, all_map → aJk, map_set → aJn
open PySem.W renaming Frag → b5, mg_none_of → r9, mg_of → aQc, methodCall_KW → aXH, plainGet_of → aXW, cellsFrom_some → aZF, callWith_K0 → aZZ, callWith_K → aZ8, kIn_of → aJP
open PySem.Heap renaming get?_push_of_some → b9, lt_size → d6, get?_push_size → d8, size_push → y9, get?_update_self → aQG, get?_update_other → aQh, get?_push_ne → aZk
open Nat renaming le_refl → c0, ne_of_lt → i3, le_trans → j7, zero_le → l7, lt_of_lt_of_le → m4, lt_of_le_of_lt → m7, add_le_add_left → t8, not_lt_zero → x6, mul_le_mul → aQM, lt_irrefl → aQW, mod_lt → aQ2, mul_le_mul_right → aQ3, le_of_lt → aQ6, ne_of_gt → aQ7, le_add_right → aQ9, le_succ → aQg, mod_eq_of_lt → aXD, not_le_of_lt → aXG, add_mod_right → aXg, lt_succ_self → aXo, add_zero → aXr, add_mod_mod → aZD, mod_add_mod → aZE, le_of_eq → aZ7, min_self → aZc, add_assoc → aJW, mul_zero → aJl, succ_mul → aJm, add_mod → aJq, mod_mod → aJr, add_mul → aJs, mul_mod → aJt, mul_one → aJu
open Option.some renaming inj → d9, injEq → aKD
open Bool renaming false_ne_true → i8, and_eq_true → aQE, eq_iff_iff → aQd, false_eq_true → aQe, not_eq_true' → aXh, and_true → aZY, false_and → aJN, and_false → aJO, or_false → aJT, false_or → aJX
open Option renaming map_eq_some_iff → i9, bind_eq_some_iff → p5, map_some → u5, isSome_iff_exists → aQ8, isSome_map → aZj, getD_none → aZr
open PySem.F renaming plainAttrs_list → j9, plainAttrs_str → l8, slot_list_append → m9, type_list_append → n9, slot_dict_keyiterator_next → aQA, slot_list_pop → aQR, type_list_pop → aQS, slot_str_join → aQT, type_str_join → aQU, slot_tuple_iterator_next → aQX, slot_str_lower → aQi, type_str_lower → aQj, plainAttrs_dict → aQw, slot_dict_get → aXL, slot_zip_next → aXR, args_dict_keyiterator_next_1 → aXS, entry_dict_keyiterator_next → aXV, args_tuple_iterator_next_1 → aX1, slot_dict_setdefault → aX2, slot_str_getitem → aX5, entry_tuple_iterator_next → aX6, args_tuple_add_2 → aXp, slot_str_isupper → aXv, type_str_isupper → aXw, entry_tuple_add → aXy, args_dict_get_2 → aXz, slot_list_index → aZA, slot_tuple_add → aZG, entry_dict_get → aZH, slot_str_upper → aZK, type_str_upper → aZL, slot_str_index → aZM, type_str_index → aZN, args_object_init_2 → aZU, args_zip_next_1 → aZi, entry_list_pop → aZs, entry_zip_next → aZu, slot_dict_iter → aZx, slot_list_pop → aJE
open PySem renaming boot_len → k7, mem_of_lookup → p8, evalArgs_none → aZ0
open PySem.PassesOwn renaming never → l6
open PyProof.Rows renaming slot_tuple_getitem → o0, callWith_type1 → t9, callWith_builtin1 → aJC, lt_int → aJv
open Array renaming length_toList → u7, perm_iff_toList_perm → aQY, getElem?_toList → aXJ, getD_eq_getD_getElem? → aX7, forIn_toList → aZe, toList_inj → aZt
open PySem.Heap.SameBut renaming update → y0, refl → aKA
open PySem.Obj renaming data_mapFields → y6, isFreed_of_fields → aQl, cls_mapFields → aXd, data_mapDictKeys → aZX
open PySem.Calls renaming callWith_builtin → aQN, spliced_cons → aQs, evalArgs_plain → aXO, Name_function_global → aXa, spliced_nil → aXc
open Classical renaming choose_spec → aQQ
open Int renaming toNat_natCast → aQZ, emod_nonneg → aQr, emod_lt_of_pos → aQv, toNat_of_nonneg → aXX
open Ne renaming symm → aQ5
open PySem.StrLaws renaming seqIndex_nonneg → aQk, glued_eq_join → aXK
open PySem.Paired renaming length → aQp, snoc → aZp
open List.Pairwise renaming imp_of_mem → aQt, map → aKC
open PyProof.Rows.IsTup renaming new → aX3
open PySem.SeqAt.EqAt renaming int_int → aX4, int_str → aZ4, str_int → aZ5, str_str → aZa, same → aJD
open PySem.EqBoolInt renaming of_rcne → aXe
open Decidable renaming byContradiction → aXn
open PySem.Txt renaming slice_le → aXq
open PySem.Value.type renaming inj → aZS
open PySem.Around renaming under_plainId → aZV
open PySem.Heap.IsSliceOf renaming new → aZ9
open PyProof.V renaming same_str → aZb
open List.Sublist renaming refl → aZm
open Sum.inl renaming inj → aZn
open Sum.inr renaming inj → aZo
open Prod.mk renaming inj → aZq
open Array.Perm renaming refl → aJH
open PySem.Walks renaming strAscii → aJQ, strWide → aJU
open List.Perm renaming refl → aJS
open PySem.SeqAt.RcNeAt renaming lists_lengths → aJV, tuples → aJw, lists → aJy
open PySem.EqNone renaming eq_none_none → aJY, eq_none_bool → aJZ, eq_bool_none → aJ0, ne_none_none → aJ3, ne_none_bool → aJ4, ne_bool_none → aJ5, eq_none_int → aJ8, eq_none_str → aJ9, eq_int_none → aJa, eq_str_none → aJc, ne_none_int → aJe, ne_none_str → aJf, ne_int_none → aJg, ne_str_none → aJi
open PySem.EqMixed renaming eq_bool_str → aJ1, eq_str_bool → aJ2, ne_bool_str → aJ6, ne_str_bool → aJ7, eq_int_str → aJb, eq_str_int → aJd, ne_int_str → aJh, ne_str_int → aJj
open PyProof.V.Flat renaming str_inv → aJo, int_inv → aJp
open PySem.W.Looks renaming here → aJx
open PySem.Within renaming cons → aJz
open PySem.Heap.IsTuple renaming push → aKB
open PySem.Heap.DictOf renaming new → aKE
set_option Elab.async false
set_option maxHeartbeats 4000000
set_option maxRecDepth 100000
set_option linter.all false
namespace L2
open PySem PySem.Spec PyProof.Rows
abbrev cN:=Sum Int Str
def tL:cN→Value→Bool
 | .inl k,v=>Value.isInt k v
 | .inr x,v=>Value.isStrOf x v
def JU(w:World):cN→Int
 | .inl k=>hashInt k
 | .inr x=>hashStr w x
theorem cV:∀ {k:cN} {v:Value},tL k v=true→(∃ i t,k=Sum.inl i∧v=Value.int i t)∨(∃ x t,k=Sum.inr x∧v=Value.str x t)
 | .inl i,v,h=>by
  obtain⟨t,e⟩:=Value.isInt_shape (k:=i) (v:=v) h
  exact .inl ⟨i,t,rfl,e⟩
 | .inr x,v,h=>by
  obtain⟨t,e⟩:=Value.isStrOf_shape (x:=x) (v:=v) h
  exact .inr ⟨x,t,rfl,e⟩
theorem Bk(i:Int)(t:Tok):tL (.inl i) (.int i t)=true:=by simp[tL,Value.isInt]
theorem BK(x:Str)(t:Tok):tL (.inr x) (.str x t)=true:=by simp[tL,Value.isStrOf]
theorem GM(a b:Int):decide ((Sum.inl a:cN)=Sum.inl b)=(a == b):=by
 by_cases e:a=b
 ·subst e;simp
 ·have h:¬ (Sum.inl a:cN)=Sum.inl b:=fun q=>e (aZn q)
  rw[decide_eq_false h]
  exact(beq_eq_false_iff_ne.mpr e).symm
theorem Gw(a b:Str):decide ((Sum.inr a:cN)=Sum.inr b)=decide (a=b):=by
 by_cases e:a=b
 ·subst e;simp
 ·have h:¬ (Sum.inr a:cN)=Sum.inr b:=fun q=>e (aZo q)
  rw[decide_eq_false h,decide_eq_false e]
theorem GO(a:Int)(b:Str):decide ((Sum.inl a:cN)=Sum.inr b)=false:=decide_eq_false (fun q=>nomatch q)
theorem FU(a:Str)(b:Int):decide ((Sum.inr a:cN)=Sum.inl b)=false:=decide_eq_false (fun q=>nomatch q)
def bZ(prog:Program)(w:World):PySem.KeyKind prog w cN where
 is:=tL
 hash:=JU w
 inj:=fun v a b ha hb=>by
  rcases cV ha with ⟨i,t,rfl,rfl⟩ | ⟨x,t,rfl,rfl⟩
  ·rcases cV hb with ⟨j,u,rfl,e⟩ | ⟨y,u,rfl,e⟩
   ·injection e with e1 _;rw[e1]
   ·exact nomatch e
  ·rcases cV hb with ⟨j,u,rfl,e⟩ | ⟨y,u,rfl,e⟩
   ·exact nomatch e
   ·injection e with e1 _;rw[e1]
 byValue:=fun k v h=>by
  rcases cV h with ⟨i,t,rfl,rfl⟩ | ⟨x,t,rfl,rfl⟩ <;> rfl
 pyHash:=fun hv h=>by
  rcases cV hv with ⟨i,t,rfl,rfl⟩ | ⟨x,t,rfl,rfl⟩
  ·exact wpAny_pyHash_int h
  ·exact wpAny_pyHash_str h
 eqBool:=fun hu hv h=>by
  rcases cV hu with ⟨i,t,rfl,rfl⟩ | ⟨x,t,rfl,rfl⟩
  ·rcases cV hv with ⟨j,u,rfl,rfl⟩ | ⟨y,u,rfl,rfl⟩
   ·rw[GM] at h;exact wpAny_eqBool_int h
   ·rw[GO] at h;exact aZ4 i t y u _ _ _ _ h
  ·rcases cV hv with ⟨j,u,rfl,rfl⟩ | ⟨y,u,rfl,rfl⟩
   ·rw[FU] at h;exact aZ5 x t j u _ _ _ _ h
   ·rw[Gw] at h;exact wpAny_eqBool_str h
 «strs»:=fun k x t v h=>by
  rcases cV h with ⟨i,u,rfl,e⟩ | ⟨y,u,rfl,e⟩
  ·exact nomatch e
  ·injection e with e1 _
   subst e1
   cases v <;> rfl
theorem yJ(prog:Program)(w:World)(i:Int)(t:Tok):(bZ prog w).is (.inl i) (.int i t)=true:=Bk i t
theorem yQ(prog:Program)(w:World)(x:Str)(t:Tok):(bZ prog w).is (.inr x) (.str x t)=true:=BK x t
inductive V where
 | non | bl (b:Bool) | int (i:Int) | str (x:Str) | byt (b:Array UInt8) | flt (b:UInt64) | ref (a:Addr) | ty (n:String)
 deriving DecidableEq
def RelV:V→Value→Prop
 | .non,u=>u=Value.none
 | .bl b,u=>u=Value.bool b
 | .int i,u=>∃ t,u=Value.int i t
 | .str x,u=>∃ t,u=Value.str x t
 | .byt b,u=>∃ t,u=Value.bytes b t
 | .flt b,u=>∃ t,u=Value.float b t
 | .ref a,u=>u=Value.ref a
 | .ty n,u=>u=Value.type n
abbrev Vals:List V→List Value→Prop:=Paired RelV
theorem Vals.length{xs:List V}{us:List Value}(r:Vals xs us):xs.length=us.length:=aQp r
theorem Vals.get:∀ {xs:List V} {us:List Value} {i:Nat} {x:V},Vals xs us→xs[i]?=some x→∃ u,us[i]?=some u∧RelV x u
 | _,_,_,_,.nil,e=>by simp at e
 | _,_,0,_,.cons r _,e=>by simp at e;subst e;exact⟨_,rfl,r⟩
 | _,_,i+1,x,.cons _ t,e=>by
  obtain⟨u,h1,h2⟩:=Vals.get (i:=i) (x:=x) t (by simpa using e)
  exact⟨u,by simpa using h1,h2⟩
theorem Vals.set{x:V}{u:Value}(r:RelV x u):∀ {xs:List V} {us:List Value} (i:Nat),Vals xs us→Vals (xs.set i x) (us.set i u)
 | _,_,_,.nil=>.nil
 | _,_,0,.cons _ t=>.cons r t
 | _,_,i+1,.cons q t=>.cons q (Vals.set r i t)
theorem Vals.append:∀ {xs ys:List V} {us ws:List Value},Vals xs us→Vals ys ws→Vals (xs++ys) (us++ws)
 | _,_,_,_,.nil,s=>s
 | _,_,_,_,.cons r t,s=>.cons r (Vals.append t s)
theorem Vals.take:∀ {xs:List V} {us:List Value} (n:Nat),Vals xs us→Vals (xs.take n) (us.take n)
 | _,_,0,_=>.nil
 | _,_,_+1,.nil=>.nil
 | _,_,n+1,.cons r t=>.cons r (Vals.take n t)
theorem Vals.drop:∀ {xs:List V} {us:List Value} (n:Nat),Vals xs us→Vals (xs.drop n) (us.drop n)
 | _,_,0,r=>r
 | _,_,_+1,.nil=>.nil
 | _,_,n+1,.cons _ t=>Vals.drop n t
def RelO:Option V→Option Value→Prop
 | some v,some u=>RelV v u
 | none,none=>True
 | _,_=>False
def KV{κ:Type}:List (κ×V)→List (κ×Value)→Prop:=Paired fun (p:κ×V) (q:κ×Value)=>p.1=q.1∧RelV p.2 q.2
def kV:cN→V
 | .inl i=>.int i
 | .inr x=>.str x
inductive HO where
 | lst (xs:List V)
 | tup (xs:List V)
 | dK (kvs:List (cN×V)) | dT (kvs:List (List cN×V))
 | set (S:Int→Bool) (n:Nat)
 | ins (C dx:Addr) (fs:List (Str×V))
 | own (x:Addr)
 | xd (fs:List (Str×V))
 | met (f x:Addr)
 | rng (lo hi:Int)
 | frz (o:Obj) (u:HO)
 | tbl (ps:Array Value)
 | ext (φ:Heap→Prop)
abbrev Hp:=Addr→Option HO
def upd(H:Hp)(a:Addr)(o:HO):Hp:=fun b=>if b=a then some o else H b
theorem aC{H:Hp}{a:Addr}{o:HO}:upd H a o a=some o:=by unfold upd;rw[if_pos rfl]
theorem aE{H:Hp}{a b:Addr}{o:HO}(h:b≠a):upd H a o b=H b:=by unfold upd;rw[if_neg h]
theorem dI{H:Hp}{a b:Addr}{o u:HO}(h:H a=some o)(h':H b=some u)(d:o≠u):a≠b:=by
 intro e;subst e;rw[h] at h';exact d (d9 h')
theorem aJ{H:Hp}{a b:Addr}{o:HO}(h:H a=some o)(h':H b=none):a≠b:=by
 intro e;subst e;rw[h] at h';cases h'
def NoD(h:Heap)(a:Addr):Prop:=∃ o,h.get? a=some o∧o.dict=none
theorem NoD.new(h:Heap)(items:Array Value):NoD (h.push { cls:=.type "tuple",data:=.seq items }) h.objs.size:=⟨_,d8 _ rfl,rfl⟩
section
variable (P:Program)(w:World)
def ObjOk(H:Hp)(h:Heap)(a:Addr):HO→Prop
 | .lst xs=>xs.length≤sizeLine∧∃ (its:List Value) (n:Nat),Vals xs its∧h.get? a=some { cls:=.type "list",data:=.seq its.toArray n }
 | .tup xs=>xs.length≤sizeLine∧∃ its:List Value,Vals xs its∧IsTup h a its.toArray∧NoD h a
 | .dK kvs=>kvs.length≤sizeLine∧(a == sysModules)=false∧∃ vs,KV kvs vs∧h.DictOf (bZ P w) a vs
 | .dT kvs=>kvs.length≤sizeLine∧(a == sysModules)=false∧∃ xs:List (List cN×Addr×Value),
   Paired (fun (p:List cN×V) (q:List cN×Addr×Value)=>p.1=q.1∧H q.2.1=some (.tup (p.1.map kV))∧RelV p.2 q.2.2) kvs xs ∧
   ∃ o es ep,h.get? a=some o∧o.ExactDict∧o.data=.dict es ep∧es.toList=xs.map (entryOfKey (tupleKind (bZ P w)))∧(xs.map (·.1)).Nodup
 | .set S n=>h.SetOf (intKind P w) a S n
 | .ins C dx fs=>H dx=some (.own a)∧fs.length≤1000∧dx≠a∧h.get? a=some (PySem.W.instObj C dx) ∧
   ∃ mA,h.Ns1 dx mA∧(∀ f,RelO (fs.lookup f) (mA f))∧PySem.Within mA (fs.map (·.1))
 | .own _=>∃ o,h.get? a=some o
 | .xd fs=>∃ mA,h.Ns1 a mA∧∀ f,RelO (fs.lookup f) (mA f)
 | .rng lo hi=>∃ t u v,h.get? a=some { cls:=.type "range",data:=.fields #[.int lo t,.int hi u,.int 1 v] }
 | .frz o u=>h.get? a=some o∧ObjOk H h a u
 | .tbl ps=>h.get? a=some { cls:=.none,data:=.fields ps }
 | .met f x=>h.get? a=some (PySem.W.methodObj (.ref f) (.ref x))
 | .ext φ=>φ h∧(∃ o,h.get? a=some o)∧∀ h1 h2:Heap,φ h1→(∀ o,h1.get? a=some o→h2.get? a=some o)→φ h2
def HOk(H:Hp)(h:Heap):Prop:=∀ a o,H a=some o→ObjOk P w H h a o
end
section
variable {P:Program}{w:World}{H H':Hp}{h h':Heap}{a:Addr}{o:HO}
theorem ObjOk.lt(x:ObjOk P w H h a o):a<h.objs.size:=by
 cases o with
 | lst xs=>obtain⟨_,_,_,_,e⟩:=x;exact d6 e
 | tup xs=>obtain⟨_,_,_,p⟩:=x;exact p.1.lt
 | dK kvs=>obtain⟨_,_,_,_,o,_,_,e,_⟩:=x;exact d6 e
 | dT kvs=>obtain⟨_,_,_,_,o,_,_,e,_⟩:=x;exact d6 e
 | set S n=>obtain⟨o,_,_,_,e,_⟩:=x;exact d6 e
 | ins C dx fs=>obtain⟨_,_,_,e,_⟩:=x;exact d6 e
 | own y=>obtain⟨_,e⟩:=x;exact d6 e
 | xd fs=>obtain⟨_,⟨_,_,_,e,_⟩,_⟩:=x;exact d6 e
 | rng lo hi=>obtain⟨_,_,_,e⟩:=x;exact d6 e
 | frz ob u=>obtain⟨e,_⟩:=x;exact d6 e
 | tbl ps=>exact d6 (show h.get? a=some _ from x)
 | met f y=>exact d6 (show h.get? a=some _ from x)
 | ext φ=>obtain⟨_,⟨_,e⟩,_⟩:=x;exact d6 e
theorem Paired.mapP{α β:Type}{F G:α→β→Prop}:∀ {l₁:List α} {l₂:List β},Paired F l₁ l₂→(∀ a b,F a b→G a b)→Paired G l₁ l₂
 | _,_,.nil,_=>.nil
 | _,_,.cons r t,f=>.cons (f _ _ r) (Paired.mapP t f)
theorem ObjOk.stay(x:ObjOk P w H h a o)(k:∀ b u,(b=a∨H b=some (.own a))→h.get? b=some u→h'.get? b=some u)
  (ho:∀ b,H b=some (.own a)→H' b=some (.own a)) (ht:∀ b xs,H b=some (.tup xs)→H' b=some (.tup xs)):ObjOk P w H' h' a o:=by
 induction o with
 | lst xs=>obtain⟨z,its,n,r,e⟩:=x;exact⟨z,its,n,r,k _ _ (.inl rfl) e⟩
 | tup xs=>obtain⟨z,its,r,⟨ob,e,c⟩,od,e2,c2⟩:=x;exact⟨z,its,r,⟨ob,k _ _ (.inl rfl) e,c⟩,od,k _ _ (.inl rfl) e2,c2⟩
 | dK kvs=>obtain⟨z,y,vs,r,ob,es,ep,e,c⟩:=x;exact⟨z,y,vs,r,ob,es,ep,k _ _ (.inl rfl) e,c⟩
 | dT kvs =>
  obtain⟨z,y,xs,r,ob,es,ep,e,c⟩:=x
  exact⟨z,y,xs,Paired.mapP r fun p q z=>⟨z.1,ht _ _ z.2.1,z.2.2⟩,ob,es,ep,k _ _ (.inl rfl) e,c⟩
 | set S n=>obtain⟨ob,es,ep,t,e,c⟩:=x;exact⟨ob,es,ep,t,k _ _ (.inl rfl) e,c⟩
 | ins C dx fs =>
  obtain⟨d,z,ne,e,mA,⟨od,es,ep,e2,c⟩,r⟩:=x
  exact⟨ho _ d,z,ne,k _ _ (.inl rfl) e,mA,⟨od,es,ep,k _ _ (.inr d) e2,c⟩,r⟩
 | own y=>obtain⟨ob,e⟩:=x;exact⟨ob,k _ _ (.inl rfl) e⟩
 | xd fs=>obtain⟨mA,⟨od,es,ep,e,c⟩,r⟩:=x;exact⟨mA,⟨od,es,ep,k _ _ (.inl rfl) e,c⟩,r⟩
 | rng lo hi=>obtain⟨t,u,v,e⟩:=x;exact⟨t,u,v,k _ _ (.inl rfl) e⟩
 | frz ob u ih=>obtain⟨e,q⟩:=x;exact⟨k _ _ (.inl rfl) e,ih q⟩
 | tbl ps =>
  have e:h.get? a=some { cls:=.none,data:=.fields ps }:=x
  show h'.get? a=some { cls:=.none,data:=.fields ps }
  exact k a _ (.inl rfl) e
 | met f y =>
  have e:h.get? a=some (PySem.W.methodObj (.ref f) (.ref y)):=x
  show h'.get? a=some (PySem.W.methodObj (.ref f) (.ref y))
  exact k a _ (.inl rfl) e
 | ext φ=>obtain⟨p,⟨o,e⟩,st⟩:=x;exact⟨st _ _ p fun o q=>k _ _ (.inl rfl) q,⟨o,k _ _ (.inl rfl) e⟩,st⟩
theorem HOk.lt(x:HOk P w H h)(e:H a=some o):a<h.objs.size:=(x a o e).lt
theorem HOk.fresh(x:HOk P w H h)(e:h.objs.size≤a):H a=none:=by
 cases q:H a with
 | none=>rfl
 | some u=>exact absurd (m4 (x.lt q) e) (aQW _)
theorem HOk.kept(x:HOk P w H h)(k:∀ b u,h.get? b=some u→h'.get? b=some u):HOk P w H h':=fun a o e =>
 (x a o e).stay (fun b u _ q=>k b u q) (fun _ q=>q) fun _ _ q=>q
theorem HOk.laid(x:HOk P w H h)(k:∀ b u,h.get? b=some u→h'.get? b=some u)(hp:h.objs.size≤a)(new:ObjOk P w (upd H a o) h' a o):HOk P w (upd H a o) h':=fun b u e=>by
 have hn:=x.fresh hp
 by_cases hb:b=a
 ·subst hb;rw[aC] at e;cases e;exact new
 ·rw[aE hb] at e
  exact(x b u e).stay (fun c v _ q=>k c v q) (fun c q=>by rw[aE (aJ q hn)];exact q) fun c xs q=>by rw[aE (aJ q hn)];exact q
end
def Rd(H:Hp)(a:Addr)(u:HO):Prop:=H a=some u∨∃ o,H a=some (.frz o u)
theorem Rd.ok{P:Program}{w:World}{H:Hp}{h:Heap}{a:Addr}{u:HO}(r:Rd H a u)(x:HOk P w H h):ObjOk P w H h a u:=by
 rcases r with r | ⟨o,r⟩
 ·exact x a u r
 ·obtain⟨_,q⟩:=x a _ r
  exact q
def HB:Option HO→Prop
 | some (.lst _)=>True
 | some (.dK _)=>True
 | some (.dT _)=>True
 | some (.set _ _)=>True
 | some (.ins _ _ _)=>True
 | some (.ext _)=>True
 | _=>False
section
variable {P:Program}{w:World}{H:Hp}{h h':Heap}{x e:Addr}{o':HO}
theorem HOk.write(ok:HOk P w H h)(mu:HB (H x))(he:e=x∨H e=some (.own x))(k:∀ b u,b≠e→h.get? b=some u→h'.get? b=some u)(heo:∃ u,h'.get? e=some u)
  (new:ObjOk P w (upd H x o') h' x o'):HOk P w (upd H x o') h':=fun b u q=>by
 have nown:∀ c y,H c=some (.own y)→c≠x:=fun c y r z=>by subst z;rw[r] at mu;exact mu
 have ntup:∀ c xs,H c=some (.tup xs)→c≠x:=fun c xs r z=>by subst z;rw[r] at mu;exact mu
 by_cases hb:b=x
 ·subst hb;rw[aC] at q;cases q;exact new
 ·rw[aE hb] at q
  by_cases hbe:b=e
  ·have q':H b=some (.own x):=by
    rcases he with z | z
    ·exact absurd (hbe.trans z) hb
    ·rw[hbe];exact z
   rw[q] at q';cases q'
   obtain⟨v,hv⟩:=heo
   exact⟨v,by rw[hbe];exact hv⟩
  ·refine(ok b u q).stay (fun c v hc r=>k c v ?_ r) (fun c r=>by rw[aE (nown c b r)];exact r) fun c xs r=>by rw[aE (ntup c xs r)];exact r
   rcases hc with rfl | hc
   ·exact hbe
   ·rintro rfl
    rcases he with z | z
    ·exact nown c b hc z
    ·rw[hc] at z;cases z;exact hb rfl
end
structure Un(fs ex:List Addr)(H H':Hp)(h h':Heap):Prop where
 keep:∀ b o,h.get? b=some o→H b=none→b ∉ fs→b ∉ ex→h'.get? b=some o
 slot:∀ b o,h.get? b=some o→H b=none→b∈fs→b ∉ ex→∃ sl,h'.get? b=some { o with slots:=sl }
 free:∀ b o,h.get? b=some o→H b=none→b ∉ ex→H' b=none
 there:∀ b o,h.get? b=some o→b ∉ ex→∃ o',h'.get? b=some o'
 tups:∀ b xs,H b=some (.tup xs)→H' b=some (.tup xs)
 frzs:∀ b o u,H b=some (.frz o u)→H' b=some (.frz o u)
 tbls:∀ b ps,H b=some (.tbl ps)→∃ more,H' b=some (.tbl (ps++more))
section
variable {fs fs' ex ex':List Addr}{H H1 H2:Hp}{h h1 h2 h':Heap}{a x e:Addr}{o:HO}
theorem Un.any(u:Un fs ex H H1 h h1){b:Addr}{ob:Obj}(q:h.get? b=some ob)(n:H b=none)(hx:b ∉ ex):∃ sl,h1.get? b=some { ob with slots:=sl }:=by
 by_cases hb:b∈fs
 ·exact u.slot b ob q n hb hx
 ·exact⟨ob.slots,u.keep b ob q n hb hx⟩
theorem Un.kept(k:∀ b u,h.get? b=some u→h'.get? b=some u):Un fs ex H H h h' :=
 ⟨fun b ob q _ _ _=>k b ob q,fun b ob q _ _ _=>⟨ob.slots,k b ob q⟩,fun _ _ _ n _=>n,fun b ob q _=>⟨ob,k b ob q⟩,fun _ _ q=>q,fun _ _ _ q=>q,fun _ ps q=>⟨#[],by rw[q];simp⟩⟩
theorem Un.refl:Un fs ex H H h h:=Un.kept fun _ _ q=>q
theorem Un.laid(k:∀ b u,h.get? b=some u→h'.get? b=some u)(hp:h.objs.size≤a)(hn:H a=none):Un fs ex H (upd H a o) h h' where
 keep:=fun b u q _ _ _=>k b u q
 slot:=fun b u q _ _ _=>⟨u.slots,k b u q⟩
 free:=fun b u q n _=>by rw[aE (i3 (m4 (d6 q) hp))];exact n
 there:=fun b u q _=>⟨u,k b u q⟩
 tups:=fun b xs q=>by rw[aE (aJ q hn)];exact q
 frzs:=fun b u xs q=>by rw[aE (aJ q hn)];exact q
 tbls:=fun b ps q=>⟨#[],by rw[aE (aJ q hn),q];simp⟩
theorem Un.write(mu:HB (H x))(he:e=x∨H e=some (.own x))(k:∀ b u,b≠e→h.get? b=some u→h'.get? b=some u)(heo:∃ u,h'.get? e=some u):Un fs ex H (upd H x o) h h':=by
 have hx:∀ b,H b=none→b≠x:=fun b n z=>by subst z;rw[n] at mu;exact mu
 have hb:∀ b,H b=none→b≠e:=fun b n z=>by
  subst z
  rcases he with r | r
  ·exact hx b n r
  ·rw[n] at r;cases r
 have hm:∀ b u,H b=some u→¬ HB (some u)→b≠x:=fun b u q nm z=>by subst z;rw[q] at mu;exact nm mu
 refine⟨fun b u q n _ _=>k b u (hb b n) q,fun b u q n _ _=>⟨u.slots,k b u (hb b n) q⟩,fun b u q n _=>by rw[aE (hx b n)];exact n,fun b u q _=>?_,
  fun b xs q=>by rw[aE (hm b _ q fun z=>z)];exact q,fun b u xs q=>by rw[aE (hm b _ q fun z=>z)];exact q,fun b ps q=>⟨#[],by rw[aE (hm b _ q fun z=>z),q];simp⟩⟩
 by_cases hbe:b=e
 ·subst hbe;exact heo
 ·exact⟨u,k b u hbe q⟩
end
def JB(h:Heap)(H:Hp):List Addr:=(List.range h.objs.size).filter fun a=>(H a).isSome
def vU(h:Heap)(H:Hp):Heap:=PySem.W.hideAll h (JB h H)
theorem Bb(h:Heap)(H:Hp):(vU h H).objs.size=h.objs.size:=PySem.W.hideAll_size _ _
theorem Dp{h:Heap}{H:Hp}{b:Addr}{o:Obj}(e:h.get? b=some o)(n:H b=none):(vU h H).get? b=some o :=
 PySem.W.hideAll_get _ e fun hm=>by
  have q:(H b).isSome=true:=(aQB.mp hm).2
  rw[n] at q;simp at q
theorem ED{h:Heap}{H:Hp}{b:Addr}{o:Obj}(e:(vU h H).get? b=some o):h.get? b=some o∧H b=none:=by
 have e':h.get? b=some o:=PySem.W.of_hideAll (JB h H) e
 refine⟨e',?_⟩
 cases q:H b with
 | none=>rfl
 | some x =>
  have hm:b∈JB h H:=aQB.mpr ⟨aQ4.mpr (d6 e'),by simp[q]⟩
  have z:(vU h H).get? b=none:=PySem.W.hideAll_none (JB h H) hm
  rw[z] at e;cases e
structure Mod(K:b5)(mg:Str→Option Value)(base:Heap):Prop where
 kin:K.In base
 glob:base.Ns mainGlobals mg
 blt:∃ mb,base.Ns builtinsNs mb∧∀ x:Str,x≠"__name__"→mb x=bootBuiltins x
 nolimit:base.NoLimit
structure Cx where
 prog:Program
 w:World
 K:b5
 mg:Str→Option Value
 base:Heap
 A:Around
 N:List Str
 s₀:Shared
 H₀:Hp
 env:Env
 outer:List Env
 stack:List Env
 ex:List Addr
 fn:Str→Bool
 calm:Bool
 pn:List (Addr×Obj)
 xe:Value→Shared→Prop
def BZ(l:List Env):List Addr:=l.filterMap (·.frame)
abbrev Cx.fs(X:Cx):List Addr:=BZ X.outer
def IZ(sc:Scope)(x:Str):Prop:=sc.names.lookup x=some .local∨sc.names.lookup x=some .cell∨sc.names.lookup x=some .free
def Hy(sc:Scope)(x:Str):Prop:=sc.names.lookup x=some .local∨sc.names.lookup x=some .cell
def J0(env:Env)(h:Heap)(m:Str→Option Value)(x:Str)(u:Value):Prop :=
 (env.kindOf x=some .local∧m x=some u)∨((env.kindOf x=some .cell∨env.kindOf x=some .free)∧∃ c,env.cells.lookup x=some c∧h.IsCell c (some u))
structure Cx.Ok(X:Cx):Prop where
 mod:Mod X.K X.mg X.base
 kind:X.env.scope.kind=.function
 glob:X.env.globals=mainGlobals
 blt:X.env.builtins=builtinsNs
 above:X.s₀.heap.objs.size≤X.env.locals
 inj:∀ x y c,X.env.cells.lookup x=some c→X.env.cells.lookup y=some c→x=y
 has:∀ x,(X.env.kindOf x=some .cell∨X.env.kindOf x=some .free)→∃ c,X.env.cells.lookup x=some c
 cab:∀ x c,X.fn x=true→X.env.cells.lookup x=some c→X.s₀.heap.objs.size≤c
 hd:X.calm=true→X.A.handled=none
 frames:X.A.frames=some X.stack
 stk:X.stack=X.outer∨(X.stack=X.env::X.outer∧X.env.frame=some X.env.locals)
 exf:∀ b∈X.ex,b≠X.env.locals∧∀ x c,X.env.cells.lookup x=some c→c≠b
 bs:∀ b o,X.base.get? b=some o→X.s₀.heap.get? b=some o∧X.H₀ b=none
 bsz:X.base.objs.size≤X.s₀.heap.objs.size
 noex:∀ b o,X.base.get? b=some o→b ∉ X.ex
 exfs:∀ b∈X.ex,b ∉ X.fs
 funs:X.s₀.heap.FunFrames X.base X.outer
 frf:∀ b∈X.fs,X.H₀ b=none
structure Inv(X:Cx)(pins:List (Addr×Obj))(σ:List (Option V))(H:Hp)(s:Shared):Prop where
 ok:X.Ok
 os:s.os=X.s₀.os
 bare:AllBare s.gens
 base:Un X.fs X.ex X.H₀ H X.s₀.heap s.heap
 loc:∃ m,s.heap.Ns X.env.locals m∧∀ (i:Nat) (x:Str) (v:V),X.N[i]?=some x→σ[i]?=some (some v)→IZ X.env.scope x→∃ u,RelV v u∧J0 X.env s.heap m x u
 cell:∀ x c,X.env.cells.lookup x=some c→∃ v,s.heap.IsCell c v
 free:H X.env.locals=none
 freeC:∀ x c,X.env.cells.lookup x=some c→H c=none
 pin:∀ p∈X.pn++pins,s.heap.get? p.1=some p.2∧H p.1=none∧p.1≠X.env.locals∧p.1 ∉ X.fs∧∀ v,p.2.data≠.cell v
 hok:HOk X.prog X.w H s.heap
 len:σ.length=X.N.length
section
variable {X:Cx}{pins:List (Addr×Obj)}{σ:List (Option V)}{H H':Hp}{s:Shared}{h':Heap}
theorem Cx.Ok.nofr(ok:X.Ok){b:Addr}{o:Obj}(e:X.base.get? b=some o):b ∉ X.fs:=fun hb=>by
 have:=(ok.funs.mem hb).1
 rw[e] at this;cases this
theorem Inv.bs(I:Inv X pins σ H s):∀ b o,X.base.get? b=some o→s.heap.get? b=some o∧H b=none:=fun b o e =>
 ⟨I.base.keep b o (I.ok.bs b o e).1 (I.ok.bs b o e).2 (I.ok.nofr e) (I.ok.noex b o e),I.base.free b o (I.ok.bs b o e).1 (I.ok.bs b o e).2 (I.ok.noex b o e)⟩
theorem Inv.bk(I:Inv X pins σ H s):∀ b o,X.base.get? b=some o→s.heap.get? b=some o:=fun b o e=>(I.bs b o e).1
theorem Inv.mod(I:Inv X pins σ H s):Mod X.K X.mg X.base:=I.ok.mod
theorem Inv.kIn(I:Inv X pins σ H s):X.K.In s.heap:=I.ok.mod.kin.keeps I.bk
theorem Inv.lt(I:Inv X pins σ H s):X.env.locals<s.heap.objs.size:=let ⟨_,hn,_⟩:=I.loc;hn.lt
theorem Inv.sz(I:Inv X pins σ H s):X.s₀.heap.objs.size≤s.heap.objs.size:=j7 I.ok.above (aQ6 I.lt)
theorem Inv.nofs(I:Inv X pins σ H s){a:Addr}(h:s.heap.objs.size≤a):a ∉ X.fs:=fun hb=>by
 obtain⟨_,o,ho,_⟩:=I.ok.funs.mem hb
 exact absurd (m4 (d6 ho) (j7 I.sz h)) (aQW _)
theorem Inv.cne(I:Inv X pins σ H s):∀ x c,X.env.cells.lookup x=some c→c≠X.env.locals:=fun x c e z=>by
 obtain⟨v,o,ho,hd⟩:=I.cell x c e
 obtain⟨m,⟨o',es,ep,ho',hd',_⟩,_⟩:=I.loc
 rw[z,ho'] at ho;cases ho;rw[hd'] at hd;cases hd
theorem Inv.funs(I:Inv X pins σ H s):s.heap.FunFrames X.base X.outer:=by
 have all:∀ (l:List Env),(∀ b∈BZ l,b∈X.fs)→X.s₀.heap.FunFrames X.base l→s.heap.FunFrames X.base l:=by
  intro l
  induction l with
  | nil=>intro _ _;trivial
  | cons env r ih =>
   intro hs hl
   obtain⟨hk,⟨L,o,hf,hn,ho,hd⟩,hr⟩:=hl
   have hL:L∈X.fs:=hs L (by unfold BZ;rw[aQa,hf];exact d4)
   obtain⟨sl,e⟩:=I.base.slot L o ho (I.ok.frf L hL) hL fun z=>I.ok.exfs L z hL
   exact⟨hk,⟨L,_,hf,hn,e,hd⟩,ih (fun b hb=>hs b (by unfold BZ;rw[aQa,hf];exact c8 _ hb)) hr⟩
 exact all X.outer (fun _ hb=>hb) I.ok.funs
theorem Inv.stack(I:Inv X pins σ H s):s.heap.FunFrames X.base X.stack:=by
 rcases I.ok.stk with e | ⟨e,hf⟩
 ·rw[e];exact I.funs
 ·rw[e]
  obtain⟨m,hn,_⟩:=I.loc
  refine .cons (by rw[I.ok.kind];decide) hf hn ?_ I.funs
  exact Heap.get?_none_of_le (j7 I.ok.bsz I.ok.above)
theorem Inv.stkSub(I:Inv X pins σ H s):∀ b∈BZ X.stack,b∈X.env.locals::X.fs:=fun b hb=>by
 rcases I.ok.stk with e | ⟨e,hf⟩
 ·rw[e] at hb;exact c8 _ hb
 ·rw[e] at hb
  unfold BZ at hb
  rw[aQa,hf] at hb
  exact hb
theorem Inv.stkFree(I:Inv X pins σ H s):∀ b∈BZ X.stack,H b=none:=fun b hb=>by
 rcases c7.mp (I.stkSub b hb) with e | hb
 ·rw[e];exact I.free
 ·obtain⟨_,o,ho,_⟩:=I.ok.funs.mem hb
  exact I.base.free b o ho (I.ok.frf b hb) fun z=>I.ok.exfs b z hb
theorem Inv.step{g':Array GenState}{t':Nat}{d':Drawn}{ch:List Addr}(I:Inv X pins σ H s)
  (hch:∀ b∈ch,(b∈X.ex∨X.s₀.heap.objs.size≤b)∧b≠X.env.locals∧(∀ x c,X.env.cells.lookup x=some c→c≠b)∧∀ p∈X.pn++pins,p.1≠b)
  (keep:∀ b o,b≠X.env.locals→b ∉ X.fs→b ∉ ch→s.heap.get? b=some o→H b=none→h'.get? b=some o)
  (slot:∀ b o,b≠X.env.locals→b∈X.fs→b ∉ ch→s.heap.get? b=some o→H b=none→∃ sl,h'.get? b=some { o with slots:=sl }) (free:∀ b o,b ∉ ch→s.heap.get? b=some o→H b=none→H' b=none)
  (there:∀ b o,b ∉ ch→s.heap.get? b=some o→∃ o',h'.get? b=some o')
  (tups:∀ b xs,H b=some (.tup xs)→H' b=some (.tup xs)) (frzs:∀ b o u,H b=some (.frz o u)→H' b=some (.frz o u)) (tbls:∀ b ps,H b=some (.tbl ps)→∃ more,H' b=some (.tbl (ps++more)))
  (ns:∀ m,s.heap.Ns X.env.locals m→h'.Ns X.env.locals m) (hok:HOk X.prog X.w H' h') (hg:AllBare g') :
  Inv X pins σ H' { s with heap:=h',gens:=g',drawn:=d',toks:=t' }:=by
 have neL:∀ b o,X.s₀.heap.get? b=some o→b≠X.env.locals:=fun b o e=>i3 (m4 (d6 e) I.ok.above)
 have neC:∀ b o,X.s₀.heap.get? b=some o→b ∉ X.ex→b ∉ ch:=fun b o e hx hb=>by
  rcases(hch b hb).1 with z | z
  ·exact hx z
  ·exact absurd (m4 (d6 e) z) (aQW _)
 have cellK:∀ x c,X.env.cells.lookup x=some c→∀ v,s.heap.IsCell c v→h'.IsCell c v:=fun x c e v ⟨o,ho,hd⟩=>by
  have nch:c ∉ ch:=fun z=>(hch c z).2.2.1 x c e rfl
  by_cases hc:c∈X.fs
  ·obtain⟨sl,q⟩:=slot c o (I.cne x c e) hc nch ho (I.freeC x c e)
   exact⟨_,q,hd⟩
  ·exact⟨o,keep c o (I.cne x c e) hc nch ho (I.freeC x c e),hd⟩
 refine⟨I.ok,I.os,hg,⟨fun b o e n hb hx=>?_,fun b o e n hb hx=>?_,fun b o e n hx=>?_,fun b o e hx=>?_,fun b xs e=>tups b xs (I.base.tups b xs e),fun b o xs e=>frzs b o xs (I.base.frzs b o xs e),fun b ps e=>?_⟩,?_,fun x c e=>?_,?_,fun x c e=>?_,fun p hp=>?_,hok,I.len⟩
 ·exact keep b o (neL b o e) hb (neC b o e hx) (I.base.keep b o e n hb hx) (I.base.free b o e n hx)
 ·obtain⟨sl,e1⟩:=I.base.slot b o e n hb hx
  obtain⟨sl',e2⟩:=slot b _ (neL b o e) hb (neC b o e hx) e1 (I.base.free b o e n hx)
  exact⟨sl',e2⟩
 ·obtain⟨o',e1⟩:=I.base.there b o e hx
  exact free b o' (neC b o e hx) e1 (I.base.free b o e n hx)
 ·obtain⟨o',e1⟩:=I.base.there b o e hx
  exact there b o' (neC b o e hx) e1
 ·obtain⟨m1,e1⟩:=I.base.tbls b ps e
  obtain⟨m2,e2⟩:=tbls b _ e1
  exact⟨m1++m2,by rw[e2,Array.append_assoc]⟩
 ·obtain⟨m,hn,hl⟩:=I.loc
  refine⟨m,ns m hn,fun i x v e1 e2 e3=>?_⟩
  obtain⟨u,r,l⟩:=hl i x v e1 e2 e3
  refine⟨u,r,?_⟩
  rcases l with l | ⟨k,c,e,z⟩
  ·exact .inl l
  ·exact .inr ⟨k,c,e,cellK x c e _ z⟩
 ·obtain⟨v,z⟩:=I.cell x c e
  exact⟨v,cellK x c e v z⟩
 ·obtain⟨m,⟨o,_,_,ho,_⟩,_⟩:=I.loc
  exact free _ o (fun z=>(hch _ z).2.1 rfl) ho I.free
 ·obtain⟨v,o,ho,hd⟩:=I.cell x c e
  exact free c o (fun z=>(hch c z).2.2.1 x c e rfl) ho (I.freeC x c e)
 ·obtain⟨e,n,ne,nf,d⟩:=I.pin p hp
  have nch:p.1 ∉ ch:=fun z=>(hch p.1 z).2.2.2 p hp rfl
  exact⟨keep p.1 p.2 ne nf nch e n,free p.1 p.2 nch e n,ne,nf,d⟩
theorem Inv.un{t':Nat}(I:Inv X pins σ H s)(u:Un X.fs [] H H' s.heap h')(hok:HOk X.prog X.w H' h'):Inv X pins σ H' { s with heap:=h',toks:=t' }:=by
 obtain⟨m,⟨o,es,ep,ho,r⟩,_⟩:=id I.loc
 obtain⟨sl,hL⟩:=u.any ho I.free (by simp)
 exact I.step (g':=s.gens) (d':=s.drawn) (ch:=[]) (fun _ z=>nomatch z) (fun b o _ hb _ e n=>u.keep b o e n hb (by simp)) (fun b o _ hb _ e n=>u.slot b o e n hb (by simp)) (fun b o _ e n=>u.free b o e n (by simp)) (fun b o _ e=>u.there b o e (by simp)) u.tups u.frzs u.tbls (fun m' hm=>by
  obtain⟨o',es',ep',ho',r'⟩:=hm
  rw[ho] at ho';cases ho'
  exact⟨_,es',ep',hL,r'⟩) hok I.bare
theorem Inv.call{g':Array GenState}{t':Nat}{d':Drawn}{ch:List Addr}(I:Inv X pins σ H s)(u:Un (BZ X.stack) ch H H' s.heap h')(hok:HOk X.prog X.w H' h')(hg:AllBare g')
  (hch:∀ b∈ch,(b∈X.ex∨X.s₀.heap.objs.size≤b)∧b≠X.env.locals∧(∀ x c,X.env.cells.lookup x=some c→c≠b)∧∀ p∈X.pn++pins,p.1≠b) :
  Inv X pins σ H' { s with heap:=h',gens:=g',drawn:=d',toks:=t' }:=by
 obtain⟨m,⟨o,es,ep,ho,r⟩,_⟩:=id I.loc
 obtain⟨sl,hL⟩:=u.any ho I.free fun z=>(hch _ z).2.1 rfl
 exact I.step (ch:=ch) hch (fun b o hL hb hc e n=>u.keep b o e n (fun z=>(c7.mp (I.stkSub b z)).elim hL hb) hc) (fun b o _ _ hc e n=>u.any e n hc) (fun b o hc e n=>u.free b o e n hc) (fun b o hc e=>u.there b o e hc) u.tups u.frzs u.tbls (fun m' hm=>by
  obtain⟨o',es',ep',ho',r'⟩:=hm
  rw[ho] at ho';cases ho'
  exact⟨_,es',ep',hL,r'⟩) hok hg
theorem Inv.turned{t':Nat}{it:Addr}(I:Inv X pins σ H s)(k:∀ b o,b≠it→s.heap.get? b=some o→h'.get? b=some o)(hn:H it=none)(hL:it≠X.env.locals)
  (h1:it∈X.ex∨X.s₀.heap.objs.size≤it) (h2:∀ x c,X.env.cells.lookup x=some c→c≠it) (h3:∀ p∈X.pn++pins,p.1≠it):Inv X pins σ H { s with heap:=h',toks:=t' }:=by
 have nit:∀ b u,H b=some u→b≠it:=fun b u e z=>by rw[z,hn] at e;cases e
 refine I.step (g':=s.gens) (d':=s.drawn) (ch:=[it]) (fun b hb=>?_) (fun b o _ _ hc e _=>k b o (fun z=>hc (by simp[z])) e) (fun b o _ _ hc e _=>⟨o.slots,k b o (fun z=>hc (by simp[z])) e⟩) (fun _ _ _ _ n=>n)
  (fun b o hc e=>⟨o,k b o (fun z=>hc (by simp[z])) e⟩) (fun _ _ e=>e) (fun _ _ _ e=>e) (fun b ps e=>⟨#[],by rw[e];simp⟩) (fun m hm=>?_) (fun b u e=>?_) I.bare
 ·have e:b=it:=by simpa using hb
  subst e
  exact⟨h1,hL,h2,h3⟩
 ·obtain⟨o,es,ep,ho,r⟩:=hm
  exact⟨o,es,ep,k _ o (aQ5 hL) ho,r⟩
 ·refine(I.hok b u e).stay (fun c v hc q=>k c v ?_ q) (fun _ q=>q) fun _ _ q=>q
  rcases hc with z | z
  ·rw[z];exact nit b u e
  ·exact nit c _ z
theorem Inv.tok(I:Inv X pins σ H s)(t:Nat):Inv X pins σ H { s with toks:=t }:=I.un (h':=s.heap) (t':=t) Un.refl I.hok
theorem Inv.kept{t':Nat}(I:Inv X pins σ H s)(k:∀ b u,s.heap.get? b=some u→h'.get? b=some u):Inv X pins σ H { s with heap:=h',toks:=t' }:=I.un (Un.kept k) (I.hok.kept k)
theorem Inv.laid{a:Addr}{o:HO}{t':Nat}(I:Inv X pins σ H s)(k:∀ b u,s.heap.get? b=some u→h'.get? b=some u)(hp:s.heap.objs.size≤a)(new:ObjOk X.prog X.w (upd H a o) h' a o) :
  Inv X pins σ (upd H a o) { s with heap:=h',toks:=t' }:=I.un (Un.laid k hp (I.hok.fresh hp)) (I.hok.laid k hp new)
theorem Inv.write{x e:Addr}{o:HO}{t':Nat}(I:Inv X pins σ H s)(mu:HB (H x))(he:e=x∨H e=some (.own x))(k:∀ b u,b≠e→s.heap.get? b=some u→h'.get? b=some u)(heo:∃ u,h'.get? e=some u)
  (new:ObjOk X.prog X.w (upd H x o) h' x o):Inv X pins σ (upd H x o) { s with heap:=h',toks:=t' }:=I.un (Un.write mu he k heo) (I.hok.write mu he k heo new)
theorem Inv.pins_of{pins':List (Addr×Obj)}(I:Inv X pins σ H s)(h:∀ p∈pins',s.heap.get? p.1=some p.2∧H p.1=none∧p.1≠X.env.locals∧p.1 ∉ X.fs∧∀ v,p.2.data≠.cell v):Inv X pins' σ H s :=
 ⟨I.ok,I.os,I.bare,I.base,I.loc,I.cell,I.free,I.freeC,fun p hp=>(k0.mp hp).elim (fun z=>I.pin p (q8 _ z)) (h p),I.hok,I.len⟩
theorem yR{N:List Str}(hN:N.Nodup){i j:Nat}{x:Str}(a:N[i]?=some x)(b:N[j]?=some x):i=j:=by
 obtain⟨h1,e1⟩:=a9.mp a
 obtain⟨h2,e2⟩:=a9.mp b
 exact(aQo hN).mp (e1.trans e2.symm)
theorem tG{M:Model}{A:Around}{E:Value→Shared→Prop}{i:Nat}{x:Str}{v:V}{u:Value}{Q:Unit→Shared→Prop}(I:Inv X pins σ H s)(hN:X.N.Nodup)(hi:X.N[i]?=some x)(hx:Hy X.env.scope x)(r:RelV v u)
  (h:∀ s',Inv X pins (σ.set i (some v)) H s'→(∃ a,Heap.SameBut a s.heap s'.heap∧(a=X.env.locals∨X.env.cells.lookup x=some a))→Q () s') (hf:X.fn x=true∨X.env.scope.names.lookup x=some .local:=by first | exact .inl rfl | exact .inr rfl | assumption):wpAny M A (storeName X.env x u) Q E s:=by
 obtain⟨m,hn,hl⟩:=id I.loc
 have hcls:(X.env.scope.kind == .class || (X.env.scope.kind == .module && X.env.locals != X.env.globals))=false:=by rw[I.ok.kind];rfl
 have hiσ:i<σ.length:=by rw[I.len];exact(a9.mp hi).1
 have cne:=I.cne
 have tracked:∀ {a:Addr} {h':Heap},(∃ o,s.heap.get? a=some o∧H a=none)→Heap.SameBut a s.heap h'→HOk X.prog X.w H h':=fun {a h'} ha hs b ob e=>by
  obtain⟨_,_,hfree⟩:=ha
  refine(I.hok b ob e).stay (fun c w' hc q=>(hs.2 c ?_).trans q) (fun _ q=>q) fun _ _ q=>q
  rintro rfl
  rcases hc with rfl | hc
  ·rw[hfree] at e;cases e
  ·rw[hfree] at hc;cases hc
 rcases hx with hk | hk
 ·refine wpAny_storeName_local hk hn (fun h' hn' hs=>?_) hcls
  obtain⟨oL,_,_,hoL,_⟩:=id hn
  refine h _ ⟨I.ok,I.os,I.bare,⟨fun b o e n hb hx=>?_,fun b o e n hb hx=>?_,I.base.free,fun b o e hx=>?_,I.base.tups,I.base.frzs,I.base.tbls⟩,⟨_,hn',fun j y v' e1 e2 e3=>?_⟩,fun y c e=>?_,I.free,I.freeC,fun p hp=>?_,tracked ⟨oL,hoL,I.free⟩ hs,by simpa using I.len⟩ ⟨_,hs,.inl rfl⟩
  ·exact(hs.2 b (i3 (m4 (d6 e) I.ok.above))).trans (I.base.keep b o e n hb hx)
  ·obtain⟨sl,e1⟩:=I.base.slot b o e n hb hx
   exact⟨sl,(hs.2 b (i3 (m4 (d6 e) I.ok.above))).trans e1⟩
  ·obtain⟨o',e1⟩:=I.base.there b o e hx
   exact⟨o',(hs.2 b (i3 (m4 (d6 e) I.ok.above))).trans e1⟩
  ·by_cases hj:j=i
   ·subst hj
    rw[hi] at e1;cases e1
    rw[aQD hiσ] at e2
    cases e2
    exact⟨u,r,.inl ⟨hk,by simp⟩⟩
   ·rw[aQH (aQ5 hj)] at e2
    obtain⟨u',r',q⟩:=hl j y v' e1 e2 e3
    refine⟨u',r',?_⟩
    rcases q with ⟨k,e⟩ | ⟨k,c,e,z⟩
    ·refine .inl ⟨k,?_⟩
     have:y≠x:=fun e=>hj (yR hN e1 (e ▸ hi))
     simp[this,e]
    ·exact .inr ⟨k,c,e,z.sameBut hs (cne y c e)⟩
  ·obtain⟨w',z⟩:=I.cell y c e
   exact⟨w',z.sameBut hs (cne y c e)⟩
  ·obtain⟨e,n,ne,nf,d⟩:=I.pin p hp
   exact⟨(hs.2 p.1 ne).trans e,n,ne,nf,d⟩
 ·have hfn:X.fn x=true:=by
   rcases hf with z | z
   ·exact z
   ·rw[z] at hk;cases hk
  obtain⟨c,hc⟩:=I.ok.has x (.inl hk)
  obtain⟨w',z⟩:=I.cell x c hc
  refine wpAny_storeName_cell I.ok.kind hk hc z (fun h' hc' hs=>?_)
  obtain⟨oc,hoc,hocd⟩:=id z
  refine h { s with heap:=h' } ⟨I.ok,I.os,I.bare,⟨fun b o e n hb hx=>?_,fun b o e n hb hx=>?_,I.base.free,fun b o e hx=>?_,I.base.tups,I.base.frzs,I.base.tbls⟩,⟨m,hn.sameBut hs (aQ5 (cne x c hc)),fun j y v' e1 e2 e3=>?_⟩,fun y c' e=>?_,I.free,I.freeC,fun p hp=>?_,tracked ⟨oc,hoc,I.freeC x c hc⟩ hs,by simpa using I.len⟩ ⟨c,hs,.inr hc⟩
  ·exact(hs.2 b (i3 (m4 (d6 e) (I.ok.cab x c hfn hc)))).trans (I.base.keep b o e n hb hx)
  ·obtain⟨sl,e1⟩:=I.base.slot b o e n hb hx
   exact⟨sl,(hs.2 b (i3 (m4 (d6 e) (I.ok.cab x c hfn hc)))).trans e1⟩
  ·obtain⟨o',e1⟩:=I.base.there b o e hx
   exact⟨o',(hs.2 b (i3 (m4 (d6 e) (I.ok.cab x c hfn hc)))).trans e1⟩
  ·by_cases hj:j=i
   ·subst hj
    rw[hi] at e1;cases e1
    rw[aQD hiσ] at e2
    cases e2
    exact⟨u,r,.inr ⟨.inl hk,c,hc,hc'⟩⟩
   ·rw[aQH (aQ5 hj)] at e2
    obtain⟨u',r',q⟩:=hl j y v' e1 e2 e3
    refine⟨u',r',?_⟩
    rcases q with q | ⟨k,c',e,z'⟩
    ·exact .inl q
    ·refine .inr ⟨k,c',e,z'.sameBut hs ?_⟩
     rintro rfl
     exact hj (yR hN e1 (I.ok.inj _ _ _ e hc ▸ hi))
  ·by_cases hcc:c'=c
   ·subst hcc;exact⟨_,hc'⟩
   ·obtain⟨w2,z2⟩:=I.cell y c' e
    exact⟨w2,z2.sameBut hs hcc⟩
  ·obtain⟨e,n,ne,nf,d⟩:=I.pin p hp
   refine⟨(hs.2 p.1 ?_).trans e,n,ne,nf,d⟩
   intro q
   rw[q,hoc] at e
   have q':oc=p.2:=d9 e
   exact d w' (by rw[← q'];exact hocd)
theorem iE{M:Model}{A:Around}{E:Value→Shared→Prop}{i:Nat}{x:Str}{v:V}{u:Value}{Q:Unit→Shared→Prop}(I:Inv X pins σ H s)(hN:X.N.Nodup)(hi:X.N[i]?=some x)(hx:Hy X.env.scope x)(r:RelV v u)
  (h:∀ s',Inv X pins (σ.set i (some v)) H s'→Q () s') (hf:X.fn x=true∨X.env.scope.names.lookup x=some .local:=by first | exact .inl rfl | exact .inr rfl | assumption):wpAny M A (storeName X.env x u) Q E s :=
 tG I hN hi hx r (fun s' I' _=>h s' I') hf
theorem Inv.call'{s':Shared}{ch:List Addr}(I:Inv X pins σ H s)(ho:s'.os=s.os)(u:Un (BZ X.stack) ch H H' s.heap s'.heap)(hok:HOk X.prog X.w H' s'.heap)(hg:AllBare s'.gens)
  (hch:∀ b∈ch,(b∈X.ex∨X.s₀.heap.objs.size≤b)∧b≠X.env.locals∧(∀ x c,X.env.cells.lookup x=some c→c≠b)∧∀ p∈X.pn++pins,p.1≠b):Inv X pins σ H' s':=by
 obtain⟨h',g',d',t',o'⟩:=s'
 have e:o'=s.os:=ho
 subst e
 exact I.call (g':=g') (t':=t') (d':=d') u hok hg hch
end
abbrev XK:=Value→Option Addr→Hp→Prop
abbrev St:=List (Option V)
abbrev VK:=V→Hp→Prop
abbrev TE:=St→Hp→VK→Prop
abbrev TT:=St→Hp→(Bool→Hp→Prop)→Prop
abbrev TA:=St→Hp→(List V→Hp→Prop)→Prop
structure Ends where
 nx:St→Hp→Prop
 rt:VK
 bk:St→Hp→Prop:=fun _ _=>False
 ct:St→Hp→Prop:=fun _ _=>False
abbrev TS:=Ends→St→Hp→Prop
def EP(X:Cx)(pins:List (Addr×Obj))(σ:St)(Q:VK)(u:Value)(s':Shared):Prop:=∃ v H',Inv X pins σ H' s'∧RelV v u∧Q v H'
def TP(X:Cx)(pins:List (Addr×Obj))(σ:St)(Q:Bool→Hp→Prop)(b:Bool)(s':Shared):Prop:=∃ H',Inv X pins σ H' s'∧Q b H'
def AP(X:Cx)(pins:List (Addr×Obj))(σ:St)(Q:List V→Hp→Prop)(us:List Value)(s':Shared):Prop:=∃ vs H',Inv X pins σ H' s'∧Vals vs us∧Q vs H'
def SP(X:Cx)(pins:List (Addr×Obj))(D:Ends)(f:Flow)(s':Shared):Prop :=
 match f with
 | .next=>∃ σ' H',Inv X pins σ' H' s'∧D.nx σ' H'
 | .brk=>∃ σ' H',Inv X pins σ' H' s'∧D.bk σ' H'
 | .cont=>∃ σ' H',Inv X pins σ' H' s'∧D.ct σ' H'
 | .ret u=>∃ v σ' H',Inv X pins σ' H' s'∧RelV v u∧D.rt v H'
def PE(X:Cx)(e:Expr)(t:TE):Prop :=
 ∀ (pins:List (Addr×Obj)) (s:Shared) (σ:St) (H:Hp) (Q:VK),Inv X pins σ H s→t σ H Q→wpAny (model X.prog X.w) X.A (eval e X.env) (EP X pins σ Q) X.xe s
def PT(X:Cx)(e:Expr)(t:TT):Prop :=
 ∀ (pins:List (Addr×Obj)) (s:Shared) (σ:St) (H:Hp) (Q:Bool→Hp→Prop),Inv X pins σ H s→t σ H Q→wpAny (model X.prog X.w) X.A (isTrue e X.env (eval e X.env)) (TP X pins σ Q) X.xe s
def PW(X:Cx)(e:Expr)(t:TT):Prop :=
 ∀ (whole:Sem Value) (pins:List (Addr×Obj)) (s:Shared) (σ:St) (H:Hp) (Q:Bool→Hp→Prop),Inv X pins σ H s→t σ H Q→wpAny (model X.prog X.w) X.A (isTrue e X.env whole) (TP X pins σ Q) X.xe s
theorem PW.pt{X:Cx}{e:Expr}{t:TT}(h:PW X e t):PT X e t:=h _
def PA(X:Cx)(es:List Expr)(t:TA):Prop :=
 ∀ (pos:Pos) (pins:List (Addr×Obj)) (s:Shared) (σ:St) (H:Hp) (Q:List V→Hp→Prop),Inv X pins σ H s→t σ H Q→wpAny (model X.prog X.w) X.A (spliced (backTo pos (starEach es X.env))) (AP X pins σ Q) X.xe s
def PS(X:Cx)(st:Stmt)(t:TS):Prop :=
 ∀ (pins:List (Addr×Obj)) (s:Shared) (σ:St) (H:Hp) (D:Ends),Inv X pins σ H s→t D σ H→wpAny (model X.prog X.w) X.A (exec st X.env) (SP X pins D) X.xe s
def PSs(X:Cx)(st:List Stmt)(t:TS):Prop :=
 ∀ (pins:List (Addr×Obj)) (s:Shared) (σ:St) (H:Hp) (D:Ends),Inv X pins σ H s→t D σ H→wpAny (model X.prog X.w) X.A (execs st X.env) (SP X pins D) X.xe s
theorem cK{α:Type}{t:Sem α}{Q Q':α→Shared→Prop}{M:Model}{A:Around}{E:Value→Shared→Prop}{s:Shared}(h:wpAny M A t Q E s)(hQ:∀ a s,Q a s→Q' a s):wpAny M A t Q' E s:=wpAny_mono h hQ fun _ _ x=>x
section
variable {X:Cx}
theorem KM{a b:Expr}{ta tb:TE}(ha:PE X a ta)(hb:PE X b tb){pins:List (Addr×Obj)}{s:Shared}{σ:St}{H:Hp}{R:V→V→Hp→Prop}(I:Inv X pins σ H s)(h:ta σ H fun x H1=>tb σ H1 fun y H2=>R x y H2)
  {α:Type} {Q:α→Shared→Prop} {f:Value→Value→Sem α}
  (hf:∀ v u s2 x y H2,Inv X pins σ H2 s2→RelV x v→RelV y u→R x y H2→wpAny (model X.prog X.w) X.A (f v u) Q X.xe s2) :
  wpAny (model X.prog X.w) X.A (eval a X.env) (fun v s₁=>wpAny (model X.prog X.w) X.A (eval b X.env) (fun u s₂=>wpAny (model X.prog X.w) X.A (f v u) Q X.xe s₂) X.xe s₁) X.xe s:=by
 refine cK (ha pins s σ H _ I h) fun v s1 ⟨x,H1,I1,r1,q1⟩=>?_
 refine cK (hb pins s1 σ H1 _ I1 q1) fun u s2 ⟨y,H2,I2,r2,q2⟩=>?_
 exact hf v u s2 x y H2 I2 r1 r2 q2
inductive tVarI(i:Nat)(σ:St)(H:Hp)(Q:VK):Prop
 | mk (v:_) (_:σ[i]?=some (some v)) (_:Q v H):tVarI i σ H Q
def vT(i:Nat):TE:=fun σ H Q=>tVarI i σ H Q
def tC(v:V):TE:=fun _ H Q=>Q v H
theorem GQ{i:Nat}{x:Str}{pos:Pos}(hN:X.N[i]?=some x)(hv:IZ X.env.scope x)(hd:(x == ("__debug__":Str))=false:=by decide)(hcd:(x == ("__classdict__":Str))=false:=by decide):PE X (.Name x pos) (vT i):=by
 intro pins s σ H Q I h
 obtain⟨v,e,h⟩:=h
 obtain⟨m,hn,hl⟩:=I.loc
 obtain⟨u,r,l⟩:=hl i x v hN e hv
 have fin:EP X pins σ Q u s:=⟨v,H,I,r,h⟩
 rcases l with ⟨hk,hm⟩ | ⟨hk,c,hc,hcell⟩
 ·exact wpAny_Name (wpAny_loadName_local I.ok.kind hk hn hm fin) hd
 ·rcases hk with hk | hk
  ·exact wpAny_Name (wpAny_loadName_cell I.ok.kind hk hc hcell fin) hd
  ·exact wpAny_Name (wpAny_loadName_free I.ok.kind hk hc hcell fin hcd) hd
theorem aF{i j pos}:PE X (.Constant (.int i) j pos) (tC (.int i)):=fun _ _ _ H _ I h=>wpAny_Constant_int ⟨.int i,H,I.tok _,⟨_,rfl⟩,h⟩
theorem tF{b j pos}:PE X (.Constant (.bool b) j pos) (tC (.bl b)):=fun _ _ _ H _ I h=>Constant_bool ⟨.bl b,H,I,rfl,h⟩
theorem iC{j pos}:PE X (.Constant .none j pos) (tC .non):=fun _ _ _ H _ I h=>Constant_none ⟨.non,H,I,rfl,h⟩
theorem cQ{x j pos}:PE X (.Constant (.str x) j pos) (tC (.str x)):=fun _ _ _ H _ I h=>Calls.Constant_str ⟨.str x,H,I.tok _,⟨_,rfl⟩,h⟩
def Gl(X:Cx)(x:Str):Prop:=X.env.kindOf x=some .globalImplicit
theorem vO{E:Value→Shared→Prop}{pins:List (Addr×Obj)}{s:Shared}{σ:St}{H:Hp}{x:Str}{u:Value}{pos:Pos}{Q:Value→Shared→Prop}(I:Inv X pins σ H s)(hg:Gl X x)(hm:X.mg x=some u)(h:Q u s)
  (hd:(x == ("__debug__":Str))=false:=by decide):wpAny (model X.prog X.w) X.A (eval (.Name x pos) X.env) Q E s :=
 aXa I.ok.kind hg (Calls.loadGlobal_global (by rw[I.ok.glob];exact I.mod.glob.keeps I.bk) hm h) hd
theorem jC{E:Value→Shared→Prop}{pins:List (Addr×Obj)}{s:Shared}{σ:St}{H:Hp}{x:Str}{u:Value}{pos:Pos}{Q:Value→Shared→Prop}(I:Inv X pins σ H s)(hg:Gl X x)(hm:X.mg x=none)(hv:bootBuiltins x=some u)(h:Q u s)
  (hn:x≠"__name__":=by decide) (hd:(x == ("__debug__":Str))=false:=by decide):wpAny (model X.prog X.w) X.A (eval (.Name x pos) X.env) Q E s:=by
 obtain⟨mb,h1,h2⟩:=I.mod.blt
 exact aXa I.ok.kind hg (Calls.loadGlobal_builtin (by rw[I.ok.glob];exact I.mod.glob.keeps I.bk) hm (by rw[I.ok.blt];exact h1.keeps I.bk) ((h2 x hn).trans hv) h) hd
theorem oW{x:Str}{v:V}{u:Value}{pos:Pos}(hg:Gl X x)(hm:X.mg x=some u)(r:RelV v u)(hd:(x == ("__debug__":Str))=false:=by decide):PE X (.Name x pos) (tC v) :=
 fun _ _ _ H _ I h=>vO I hg hm ⟨v,H,I,r,h⟩ hd
variable {a b:Expr}{ta tb:TE}{pos:Pos}
def PC(X:Cx)(op:CmpOp)(a b:Expr)(t:TE):Prop :=
 ∀ (pins:List (Addr×Obj)) (s:Shared) (σ:St) (H:Hp) (Q:VK),Inv X pins σ H s→t σ H Q →
  wpAny (model X.prog X.w) X.A (eval a X.env) (fun v s₁=>wpAny (model X.prog X.w) X.A (eval b X.env) (fun u s₂=>wpAny (model X.prog X.w) X.A (compareOp op v u) (EP X pins σ Q) X.xe s₂) X.xe s₁) X.xe s
inductive tBI(Q:Bool→Hp→Prop)(x:V)(H1:Hp):Prop
 | mk (c:_) (_:x=.bl c) (_:Q c H1):tBI Q x H1
def tB(t:TE):TT:=fun σ H Q=>t σ H fun x H1=>tBI Q x H1
theorem FN{op:CmpOp}{t:TE}(h:PC X op a b t)(h1:behindInMarks op b=false:=by first | exact nobehind _ (by decide) (by decide) | rfl):PT X (.Compare a [op] [b] pos) (tB t):=by
 intro pins s σ H Q I hw
 refine wpAny_isTrue_Compare1 (cK (h pins s σ H _ I hw) fun v s1 h1=>cK h1 fun u s2 h2=>cK h2 fun c s3 ⟨x,H1,I1,r1,q1⟩=>?_) h1
 obtain⟨d,rfl,q⟩:=q1
 cases r1
 exact wpAny_truthy_bool ⟨H1,I1,q⟩
theorem vY{e:Expr}{t:TE}(h:PE X e t)(he:∀ whole,isTrue e X.env whole=(do let v ← whole;standAt e.pos;holding [v] (truthy v)):=by intro _;rfl):PT X e (tB t):=by
 intro pins s σ H Q I hw
 refine isTrue_plain (cK (h pins s σ H _ I hw) fun v s1 ⟨x,H1,I1,r1,q1⟩=>?_) (he _)
 obtain⟨d,rfl,q⟩:=q1
 cases r1
 exact wpAny_truthy_bool ⟨H1,I1,q⟩
variable {tA tB':TT}{rest:List Expr}
def Ke(t u:TT):TT:=fun σ H Q=>t σ H fun c H1=>if c=true then u σ H1 Q else Q false H1
def Ks(t u:TT):TT:=fun σ H Q=>t σ H fun c H1=>if c=true then Q true H1 else u σ H1 Q
theorem pw_and1(ha:PT X a tA):PW X (.BoolOp .And [a] pos) tA:=by
 intro wh pins s σ H Q I h
 refine isTrue_and (cK (ha pins s σ H Q I h) fun c s1 e=>?_)
 cases c with
 | true=>exact isTrue_and_nil e
 | false=>exact e
theorem pw_or1(ha:PT X a tA):PW X (.BoolOp .Or [a] pos) tA:=by
 intro wh pins s σ H Q I h
 refine isTrue_or (cK (ha pins s σ H Q I h) fun c s1 e=>?_)
 cases c with
 | false=>exact isTrue_or_nil e
 | true=>exact e
theorem pw_and(ha:PT X a tA)(hb:PW X (.BoolOp .And (b::rest) pos) tB'):PW X (.BoolOp .And (a::b::rest) pos) (Ke tA tB'):=by
 intro wh pins s σ H Q I h
 refine isTrue_and (cK (ha pins s σ H _ I h) fun c s1 ⟨H1,I1,q1⟩=>?_)
 cases c with
 | true=>exact hb wh pins s1 σ H1 Q I1 q1
 | false=>exact⟨H1,I1,q1⟩
theorem pw_or(ha:PT X a tA)(hb:PW X (.BoolOp .Or (b::rest) pos) tB'):PW X (.BoolOp .Or (a::b::rest) pos) (Ks tA tB'):=by
 intro wh pins s σ H Q I h
 refine isTrue_or (cK (ha pins s σ H _ I h) fun c s1 ⟨H1,I1,q1⟩=>?_)
 cases c with
 | true=>exact⟨H1,I1,q1⟩
 | false=>exact hb wh pins s1 σ H1 Q I1 q1
inductive tAndVI(tb:TE)(σ:St)(Q:VK)(x:V)(H1:Hp):Prop
 | mk (c:_) (_:x=.bl c) (_:if c=true then tb σ H1 Q else Q (.bl false) H1):tAndVI tb σ Q x H1
def Fi(ta tb:TE):TE:=fun σ H Q=>ta σ H fun x H1=>tAndVI tb σ Q x H1
theorem B1{op}{t:TE}(h:PE X a t):PE X (.BoolOp op [a] pos) t:=fun pins s σ H Q I hw=>BoolOp_one (h pins s σ H Q I hw)
theorem Cs(ha:PE X a ta)(hb:PE X (.BoolOp .And (b::rest) pos) tb):PE X (.BoolOp .And (a::b::rest) pos) (Fi ta tb):=by
 intro pins s σ H Q I h
 refine BoolOp_and (cK (ha pins s σ H _ I h) fun v s1 ⟨x,H1,I1,r1,q1⟩=>?_)
 obtain⟨c,rfl,q1⟩:=q1
 cases r1
 refine wpAny_truthy_bool ?_
 cases c with
 | true=>exact hb pins s1 σ H1 Q I1 q1
 | false=>exact⟨.bl false,H1,I1,rfl,q1⟩
def Ky(t:TT)(ta tb:TE):TE:=fun σ H Q=>t σ H fun c H1=>if c=true then ta σ H1 Q else tb σ H1 Q
theorem lL{c:Expr}(hc:PT X c tA)(ha:PE X a ta)(hb:PE X b tb):PE X (.IfExp c a b pos) (Ky tA ta tb):=by
 intro pins s σ H Q I h
 refine wpAny_IfExp (cK (hc pins s σ H _ I h) fun d s1 ⟨H1,I1,q1⟩=>?_)
 cases d with
 | true=>exact ha pins s1 σ H1 Q I1 q1
 | false=>exact hb pins s1 σ H1 Q I1 q1
end
def SqL(K:b5)(H:Hp)(a:Addr)(xs:List V):Prop :=
 Rd H a (.lst xs) ∨
  ∃ (o:Obj) (its:Array Value) (n:Nat),K.lookup a=some o∧o.cls=.type "list"∧o.dict=none∧o.data=.seq its n∧its.size≤sizeLine∧Vals xs its.toList
def SqT(K:b5)(H:Hp)(a:Addr)(xs:List V):Prop :=
 Rd H a (.tup xs) ∨
  ∃ (o:Obj) (its:Array Value) (n:Nat),K.lookup a=some o∧o.cls=.type "tuple"∧o.data=.seq its n∧its.size≤sizeLine∧Vals xs its.toList
def J3:Value→Option V
 | .none=>some .non
 | .bool b=>some (.bl b)
 | .int i _=>some (.int i)
 | .str x _=>some (.str x)
 | .bytes b _=>some (.byt b)
 | .float b _=>some (.flt b)
 | .ref a=>some (.ref a)
 | .type n=>some (.ty n)
 | _=>none
theorem RelV.abs{x:V}{u:Value}(r:RelV x u):J3 u=some x:=by
 cases x with
 | non=>cases r;rfl
 | bl _=>cases r;rfl
 | int _=>obtain⟨t,rfl⟩:=r;rfl
 | str _=>obtain⟨t,rfl⟩:=r;rfl
 | byt _=>obtain⟨t,rfl⟩:=r;rfl
 | flt _=>obtain⟨t,rfl⟩:=r;rfl
 | ref _=>cases r;rfl
 | ty _=>cases r;rfl
theorem RelV.inj{x y:V}{u:Value}(r:RelV x u)(q:RelV y u):x=y:=d9 (r.abs.symm.trans q.abs)
theorem Vals.inj:∀ {xs ys:List V} {us:List Value},Vals xs us→Vals ys us→xs=ys
 | _,_,_,.nil,.nil=>rfl
 | _,_,_,.cons r t,.cons r' t'=>by rw[r.inj r',Vals.inj t t']
section
variable {X:Cx}{pins:List (Addr×Obj)}{σ:St}{H:Hp}{s:Shared}{a:Addr}{xs ys:List V}
theorem SqL.of{K:b5}(h:H a=some (.lst xs)):SqL K H a xs:=.inl (.inl h)
theorem SqT.of{K:b5}(h:H a=some (.tup xs)):SqT K H a xs:=.inl (.inl h)
theorem Inv.list(I:Inv X pins σ H s)(h:SqL X.K H a xs):∃ its:List Value,Vals xs its∧PlainL s.heap a its.toArray∧xs.length≤sizeLine:=by
 rcases h with h | ⟨o,its,n,hk,hc,hd,hs,hz,r⟩
 ·obtain⟨z,its,n,r,e⟩:=h.ok I.hok
  exact⟨its,r,⟨_,n,e,rfl,rfl,rfl⟩,z⟩
 ·refine⟨its.toList,r,⟨o,n,I.kIn a o hk,hc,hd,by simpa using hs⟩,?_⟩
  have e:=r.length
  simp only [u7] at e
  omega
theorem Inv.tuple(I:Inv X pins σ H s)(h:SqT X.K H a xs):∃ its:List Value,Vals xs its∧IsTup s.heap a its.toArray∧xs.length≤sizeLine:=by
 rcases h with h | ⟨o,its,n,hk,hc,hs,hz,r⟩
 ·obtain⟨z,its,r,p,_⟩:=h.ok I.hok
  exact⟨its,r,p,z⟩
 ·refine⟨its.toList,r,⟨o,I.kIn a o hk,hc,n,by simpa using hs⟩,?_⟩
  have e:=r.length
  simp only [u7] at e
  omega
theorem Inv.list_inj(I:Inv X pins σ H s)(h:SqL X.K H a xs)(h':SqL X.K H a ys):xs=ys:=by
 obtain⟨its,r,⟨o,n,e,_,_,d⟩,_⟩:=I.list h
 obtain⟨its',r',⟨o',n',e',_,_,d'⟩,_⟩:=I.list h'
 rw[e] at e';cases e'
 rw[d] at d'
 injection d' with d1 _
 have:its=its':=by simpa using congrArg Array.toList d1
 subst this
 exact r.inj r'
theorem Inv.tuple_inj(I:Inv X pins σ H s)(h:SqT X.K H a xs)(h':SqT X.K H a ys):xs=ys:=by
 obtain⟨its,r,⟨o,e,_,n,d⟩,_⟩:=I.tuple h
 obtain⟨its',r',⟨o',e',_,n',d'⟩,_⟩:=I.tuple h'
 rw[e] at e';cases e'
 rw[d] at d'
 injection d' with d1 _
 have:its=its':=by simpa using congrArg Array.toList d1
 subst this
 exact r.inj r'
end
abbrev Cx.wish(X:Cx)(E:Value→Shared→Prop):Cx:={ X with xe:=E }
abbrev Cx.nox(X:Cx):Cx:=X.wish fun _ _=>False
theorem Cx.Ok.wish{X:Cx}(ok:X.Ok)(E:Value→Shared→Prop):(X.wish E).Ok :=
 ⟨ok.mod,ok.kind,ok.glob,ok.blt,ok.above,ok.inj,ok.has,ok.cab,ok.hd,ok.frames,ok.stk,ok.exf,ok.bs,ok.bsz,ok.noex,ok.exfs,ok.funs,ok.frf⟩
theorem Cx.Ok.unwish{X:Cx}{E:Value→Shared→Prop}(ok:(X.wish E).Ok):X.Ok :=
 ⟨ok.mod,ok.kind,ok.glob,ok.blt,ok.above,ok.inj,ok.has,ok.cab,ok.hd,ok.frames,ok.stk,ok.exf,ok.bs,ok.bsz,ok.noex,ok.exfs,ok.funs,ok.frf⟩
section
variable {X:Cx}{pins:List (Addr×Obj)}{σ:St}{H:Hp}{s:Shared}{E:Value→Shared→Prop}
theorem Inv.wish(I:Inv X pins σ H s)(E:Value→Shared→Prop):Inv (X.wish E) pins σ H s:=⟨I.ok.wish E,I.os,I.bare,I.base,I.loc,I.cell,I.free,I.freeC,I.pin,I.hok,I.len⟩
theorem Inv.unwish(I:Inv (X.wish E) pins σ H s):Inv X pins σ H s:=⟨I.ok.unwish,I.os,I.bare,I.base,I.loc,I.cell,I.free,I.freeC,I.pin,I.hok,I.len⟩
theorem SP.unwish{D:Ends}{f:Flow}{s':Shared}(h:SP (X.wish E) pins D f s'):SP X pins D f s':=by
 cases f with
 | next=>obtain⟨σ',H',I,q⟩:=h;exact⟨σ',H',I.unwish,q⟩
 | brk=>obtain⟨σ',H',I,q⟩:=h;exact⟨σ',H',I.unwish,q⟩
 | cont=>obtain⟨σ',H',I,q⟩:=h;exact⟨σ',H',I.unwish,q⟩
 | ret u=>obtain⟨v,σ',H',I,r,q⟩:=h;exact⟨v,σ',H',I.unwish,r,q⟩
theorem PSs.nox{st:List Stmt}{t:TS}(h:PSs X.nox st t):PSs X st t:=fun pins s σ H D I hw =>
 wpAny_mono (h pins s σ H D (I.wish _) hw) (fun _ _ q=>q.unwish) fun _ _ z=>False.elim z
end
section
variable {X:Cx}{st:Stmt}{rest:List Stmt}{t u:TS}{e:Expr}{te:TE}{pos:Pos}
def Fg:TS:=fun D σ H=>D.nx σ H
def yC(t u:TS):TS:=fun D σ H=>t { D with nx:=u D } σ H
theorem cO:PSs X [] Fg:=fun _ _ σ H _ I h=>wpAny_execs_nil ⟨σ,H,I,h⟩
theorem aD(h1:PS X st t)(h2:PSs X rest u):PSs X (st::rest) (yC t u):=by
 intro pins s σ H D I h
 refine wpAny_execs_cons (cK (h1 pins s σ H { D with nx:=u D } I h) fun f s1 q=>?_)
 cases f with
 | next =>
  obtain⟨σ',H',I',q⟩:=q
  exact h2 pins s1 σ' H' D I' q
 | ret v=>exact q
 | brk=>exact q
 | cont=>exact q
theorem aH(h1:PS X st t):PSs X [st] t:=by
 intro pins s σ H D I h
 refine wpAny_execs_cons (cK (h1 pins s σ H D I h) fun f s1 q=>?_)
 cases f with
 | next=>exact wpAny_execs_nil q
 | ret v=>exact q
 | brk=>exact q
 | cont=>exact q
theorem Inv.quiet{pins:List (Addr×Obj)}{σ:St}{H:Hp}{s:Shared}(I:Inv X pins σ H s):interactive X.env=false:=by simp[interactive,I.ok.kind]
def HU(te:TE):TS:=fun D σ H=>te σ H fun _ H1=>D.nx σ H1
theorem cJ(he:PE X e te)(hs:swapsWith e none pos.line X.env=pure false:=by rfl):PS X (.Expr e pos) (HU te):=by
 intro pins s σ H D I h
 exact wpAny_Expr_any (cK (he pins s σ H _ I h) fun v s1 ⟨x,H1,I1,r1,q1⟩=>⟨σ,H1,I1,q1⟩) I.quiet hs
def J_(te:TE):TS:=fun D σ H=>te σ H D.rt
theorem aV(he:PE X e te):PS X (.Return (some e) pos) (J_ te):=by
 intro pins s σ H D I h
 exact wpAny_Return_some (cK (he pins s σ H _ I h) fun v s1 ⟨x,H1,I1,r1,q1⟩=>⟨x,σ,H1,I1,r1,q1⟩)
def JT(c:TT)(t u:TS):TS:=fun D σ H=>c σ H fun b H1=>if b=true then t D σ H1 else u D σ H1
theorem eB{c:Expr}{a b:List Stmt}{tc:TT}(hc:PT X c tc)(ha:PSs X a t)(hb:PSs X b u):PS X (.If c a b pos) (JT tc t u):=by
 intro pins s σ H D I h
 refine wpAny_If (cK (hc pins s σ H _ I h) fun d s1 ⟨H1,I1,q1⟩=>?_)
 cases d with
 | true=>exact ha pins s1 σ H1 D I1 q1
 | false=>exact hb pins s1 σ H1 D I1 q1
end
abbrev TG:=V→St→Hp→(St→Hp→Prop)→Prop
abbrev Fn:=List V→St→Hp→(St→Hp→Prop)→Prop
def PG(X:Cx)(target:Expr)(t:TG):Prop :=
 ∀ (pins:List (Addr×Obj)) (s:Shared) (σ:St) (H:Hp) (v:V) (u:Value) (Q:St→Hp→Prop),Inv X pins σ H s→RelV v u→t v σ H Q →
  wpAny (model X.prog X.w) X.A (assign target X.env u) (fun _ s'=>∃ σ' H',Inv X pins σ' H' s'∧Q σ' H') X.xe s
def Jz(X:Cx)(ts:List Expr)(t:Fn):Prop :=
 ∀ (pins:List (Addr×Obj)) (s:Shared) (σ:St) (H:Hp) (vs:List V) (us:List Value) (Q:St→Hp→Prop),Inv X pins σ H s→Vals vs us→t vs σ H Q →
  wpAny (model X.prog X.w) X.A (assignInOrder ((assignEach ts X.env).map (·.2)) us) (fun _ s'=>∃ σ' H',Inv X pins σ' H' s'∧Q σ' H') X.xe s
abbrev Gr:=V→V→V→Hp→(Hp→Prop)→Prop
def IP(X:Cx)(t:Gr):Prop :=
 ∀ (pins:List (Addr×Obj)) (s:Shared) (σ:St) (H:Hp) (o i v:V) (ov iv u:Value) (Q:Hp→Prop),Inv X pins σ H s→RelV o ov→RelV i iv→RelV v u→t o i v H Q →
  wpAny (model X.prog X.w) X.A (setItem ov iv u) (fun _ s'=>∃ H',Inv X pins σ H' s'∧Q H') X.xe s
abbrev HE:=V→V→Hp→VK→Prop
def Kn(X:Cx)(op:Operator)(t:HE):Prop :=
 ∀ (pins:List (Addr×Obj)) (s:Shared) (σ:St) (H:Hp) (x y:V) (v u:Value) (Q:VK),Inv X pins σ H s→RelV x v→RelV y u→t x y H Q →
  wpAny (model X.prog X.w) X.A (inplaceOp op v u) (EP X pins σ Q) X.xe s
section
variable {X:Cx}{pos:Pos}
def Fb(i:Nat):TG:=fun v σ H Q=>Q (σ.set i (some v)) H
theorem bH{i:Nat}{x:Str}(hN:X.N.Nodup)(hi:X.N[i]?=some x)(hx:Hy X.env.scope x)(hf:X.fn x=true∨X.env.scope.names.lookup x=some .local:=by first | exact .inl rfl | exact .inr rfl | assumption):PG X (.Name x pos) (Fb i):=by
 intro pins s σ H v u Q I r h
 exact wpAny_assign_Name (iE I hN hi hx r (fun s' I'=>⟨_,H,I',h⟩) hf)
def J8:Fn:=fun vs σ H Q=>vs=[]∧Q σ H
def I_(t:TG)(u:Fn):Fn:=fun vs σ H Q=>∃ v r,vs=v::r∧t v σ H fun σ' H'=>u r σ' H' Q
theorem hZ:Jz X [] J8:=by
 intro pins s σ H vs us Q I r h
 obtain⟨e,h⟩:=h
 subst e
 cases r
 exact assignInOrder_nil ⟨σ,H,I,h⟩
theorem cR{e:Expr}{es:List Expr}{t:TG}{u:Fn}(h1:PG X e t)(h2:Jz X es u)
  (hs:(assignEach (e::es) X.env).map (·.2)=assign e X.env::(assignEach es X.env).map (·.2):=by rfl):Jz X (e::es) (I_ t u):=by
 intro pins s σ H vs us Q I r h
 obtain⟨v,vr,e1,h⟩:=h
 subst e1
 cases r with
 | cons r rr =>
  rw[hs]
  refine assignInOrder_cons (cK (h1 pins s σ H _ _ _ I r h) fun _ s1 ⟨σ1,H1,I1,q1⟩=>?_)
  exact h2 pins s1 σ1 H1 _ _ Q I1 rr q1
def Ka(to ti:TE)(t:Gr):TG:=fun v σ H Q=>to σ H fun o H1=>ti σ H1 fun i H2=>t o i v H2 fun H3=>Q σ H3
theorem iB{o i:Expr}{to ti:TE}{t:Gr}(ho:PE X o to)(hi:PE X i ti)(hs:IP X t)
  (ha:∀ v,assign (.Subscript o i pos) X.env v=(do
   let ov ← holding [v] (eval o X.env)
   let iv ← holding [v,ov] (eval i X.env)
   standAt pos
   holding [v,ov,iv] (setItem ov iv v)
   release [v,ov,iv] []):=by intro _;rfl):PG X (.Subscript o i pos) (Ka to ti t):=by
 intro pins s σ H v u Q I r h
 rw[ha]
 refine wpAny_bind (wpAny_holding (cK (ho pins s σ H _ I h) fun ov s1 ⟨x,H1,I1,r1,q1⟩=>?_))
 refine wpAny_bind (wpAny_holding (cK (hi pins s1 σ H1 _ I1 q1) fun iv s2 ⟨y,H2,I2,r2,q2⟩=>?_))
 refine wpAny_bind (wpAny_standAt (wpAny_bind (wpAny_holding (cK (hs pins s2 σ H2 x y v ov iv u _ I2 r1 r2 r q2) fun _ s3 ⟨H3,I3,q3⟩=>?_))))
 exact wpAny_release ⟨σ,H3,I3,q3⟩
def IH(te:TE)(g:TG):TS:=fun D σ H=>te σ H fun x H1=>g x σ H1 D.nx
theorem fF{tg e:Expr}{te:TE}{g:TG}(he:PE X e te)(hg:PG X tg g)(hs:swapsWithSole [tg] e pos.line X.env=pure false:=by rfl)(hw:swappedStores [tg] e X.env=pure none:=by rfl)
  (h1:(assignEach [tg] X.env).map (·.2)=[assign tg X.env]:=by rfl):PS X (.Assign [tg] e pos) (IH te g):=by
 intro pins s σ H D I h
 refine wpAny_Assign_stores (cK (he pins s σ H _ I h) fun v s1 ⟨x,H1,I1,r1,q1⟩=>?_) hs hw
 rw[h1]
 exact cK (hg pins s1 σ H1 x v _ I1 r1 q1) fun _ s2 q=>q
theorem aM{i:Nat}{x:Str}{e:Expr}{te:TE}{pos':Pos}(hN:X.N.Nodup)(hi:X.N[i]?=some x)(hx:Hy X.env.scope x)(he:PE X e te)(hs:swapsWith e (some (.Name x pos')) pos.line X.env=pure false:=by rfl)(hf:X.fn x=true∨X.env.scope.names.lookup x=some .local:=by first | exact .inl rfl | exact .inr rfl | assumption) :
  PS X (.Assign [.Name x pos'] e pos) (IH te (Fb i)):=by
 intro pins s σ H D I h
 refine wpAny_Assign_Name (cK (he pins s σ H _ I h) fun v s1 ⟨y,H1,I1,r1,q1⟩=>?_) hs
 exact iE I1 hN hi hx r1 (fun s2 I2=>⟨_,H1,I2,q1⟩) hf
inductive tParI(i:Nat)(j:Nat)(D:Ends)(σ:St)(vs:List V)(H1:Hp):Prop
 | mk (v w:_) (_:vs=[v,w]) (_:D.nx ((σ.set i (some v)).set j (some w)) H1):tParI i j D σ vs H1
def JO(i j:Nat)(ta:TA):TS:=fun D σ H=>ta σ H fun vs H1=>tParI i j D σ vs H1
theorem uV{i j:Nat}{x y:Str}{a b:Expr}{ta:TA}{px py pt:Pos}{kt k2 pt2}(hc:X.calm=true)(hN:X.N.Nodup)(hi:X.N[i]?=some x)(hj:X.N[j]?=some y)(hij:i≠j)
  (hx:X.env.scope.names.lookup x=some .local) (hy:X.env.scope.names.lookup y=some .local) (ha:PA X [a,b] ta)
  (hw:swappedStores [.Tuple [.Name x px,.Name y py] kt pt] (.Tuple [a,b] k2 pt2) X.env=pure (some [x,y]))
  (hs:swapsWithSole [.Tuple [.Name x px,.Name y py] kt pt] (.Tuple [a,b] k2 pt2) pos.line X.env=pure false:=by rfl) :
  PS X (.Assign [.Tuple [.Name x px,.Name y py] kt pt] (.Tuple [a,b] k2 pt2) pos) (JO i j ta):=by
 intro pins s σ H D I h
 rw[exec_Assign_arm]
 refine wpAny_bind (wpAny_standAt ?_)
 rw[hs]
 refine wpAny_bind (wpAny_pure ?_)
 rw[if_neg (by decide)]
 refine wpAny_bind (Tuple_ (cK (ha _ pins s σ H _ I h) fun us s1 ⟨vs,H1,I1,r1,q1⟩=>?_))
 obtain⟨v,w,e1,q1⟩:=q1
 subst e1
 obtain⟨u1,u2,rfl,rv,rw'⟩:∃ u1 u2,us=[u1,u2]∧RelV v u1∧RelV w u2:=by
  cases r1 with
  | cons p q =>
   cases q with
   | cons p' q' =>
    cases q'
    exact⟨_,_,rfl,p,p'⟩
 refine wpAny_newObj_type ?_ (by show 2≤sizeLine;decide)
 have I2:Inv X pins σ H1 { s1 with heap:=s1.heap.push { cls:=.type "tuple",data:=.seq [u1,u2].toArray } }:=I1.kept (t':=s1.toks) fun b o e=>b9 _ e
 rw[hw]
 refine wpAny_bind (wpAny_pure ?_)
 show wpAny (model X.prog X.w) X.A (do rule "assign.swapped-stores";let items ← unpackItems (.ref s1.heap.objs.size) 2 none;assignInOrder [fun v=>bindName X.env y v,fun v=>bindName X.env x v] items.reverse;pure Flow.next) _ _ _
 refine wpAny_bind (wpAny_rule (wpAny_bind (unpackItems_tuple (items:=#[u1,u2]) (I.ok.hd hc) (aX3 s1.heap _) fun h' hx'=>?_)))
 have I3:=I2.kept (h':=h') (t':=s1.toks) fun b o e=>hx' b o (i3 (d6 e)) e
 show wpAny _ _ (assignInOrder [fun v=>bindName X.env y v,fun v=>bindName X.env x v] [u2,u1] >>= fun _=>pure Flow.next) _ _ _
 refine wpAny_bind (assignInOrder_cons (wpAny_bindName (iE I3 hN hj (.inl hy) rw' (fun s2 I4=>?_) (.inr hy))))
 refine assignInOrder_cons (wpAny_bindName (iE I4 hN hi (.inl hx) rv (fun s3 I5=>assignInOrder_nil (wpAny_pure ?_)) (.inr hx)))
 rw[List.set_comm _ _ (aQ5 hij)] at I5
 exact⟨_,H1,I5,q1⟩
inductive tAugI(i:Nat)(te:TE)(ti:HE)(D:Ends)(σ:St)(H:Hp):Prop
 | mk (x:_) (_:σ[i]?=some (some x)) (_:te σ H fun y H1=>ti x y H1 fun z H2=>D.nx (σ.set i (some z)) H2):tAugI i te ti D σ H
def Kd(i:Nat)(te:TE)(ti:HE):TS:=fun D σ H=>tAugI i te ti D σ H
theorem FO{i:Nat}{x:Str}{e:Expr}{te:TE}{op:Operator}{ti:HE}{pos':Pos}(hN:X.N.Nodup)(hi:X.N[i]?=some x)(hx:Hy X.env.scope x)(he:PE X e te)(ho:Kn X op ti)(hf:X.fn x=true∨X.env.scope.names.lookup x=some .local:=by first | exact .inl rfl | exact .inr rfl | assumption) :
  PS X (.AugAssign (.Name x pos') op e pos) (Kd i te ti):=by
 intro pins s σ H D I h
 obtain⟨v,e1,h⟩:=h
 obtain⟨m,hn,hl⟩:=I.loc
 have vis:IZ X.env.scope x:=by rcases hx with k | k;exact .inl k;exact .inr (.inl k)
 obtain⟨u,r,l⟩:=hl i x v hi e1 vis
 refine wpAny_AugAssign_Name ?_
 have go:wpAny (model X.prog X.w) X.A (eval e X.env) (fun w s₂=>wpAny (model X.prog X.w) X.A (inplaceOp op u w) (fun r s₃=>wpAny (model X.prog X.w) X.A (storeName X.env x r) (fun _=>SP X pins D .next) X.xe s₃) X.xe s₂) X.xe s:=by
  refine cK (he pins s σ H _ I h) fun w s1 ⟨y,H1,I1,r1,q1⟩=>?_
  refine cK (ho pins s1 σ H1 v y u w _ I1 r r1 q1) fun z s2 ⟨zv,H2,I2,r2,q2⟩=>?_
  exact iE I2 hN hi hx r2 (fun s3 I3=>⟨_,H2,I3,q2⟩) hf
 rcases l with ⟨hk,hm⟩ | ⟨hk,c,hc,hcell⟩
 ·exact wpAny_loadName_local I.ok.kind hk hn hm go
 ·rcases hk with hk | hk
  ·exact wpAny_loadName_cell I.ok.kind hk hc hcell go
  ·rcases hx with k | k
   ·have:X.env.scope.names.lookup x=some .free:=hk
    rw[k] at this;cases this
   ·have:X.env.scope.names.lookup x=some .free:=hk
    rw[k] at this;cases this
def Kx(f:Int→Int→Int):HE:=fun x y H Q=>∃ i j,x=.int i∧y=.int j∧Q (.int (f i j)) H
theorem Hb:Kn X .Add (Kx fun i j=>i+j):=by
 intro pins s σ H x y v u Q I r1 r2 h
 obtain⟨i,j,e1,e2,q⟩:=h
 subst e1;subst e2
 obtain⟨t,rfl⟩:=r1
 obtain⟨t',rfl⟩:=r2
 exact iadd_int ⟨.int _,H,I.tok _,⟨_,rfl⟩,q⟩
end
section
variable {X:Cx}{pos:Pos}
def GL(c:TT)(tb:TS):TS:=fun D σ H=>∃ W:Nat→St→Hp→Prop,(∃ m,W m σ H)∧∀ m σ H,W m σ H →
 c σ H fun b H1=>if b=true then ∃ N:St→Hp→Prop,(∀ σ' H',N σ' H'→∃ m',m' < m∧W m' σ' H')∧tb { D with nx:=N,ct:=N,bk:=D.nx } σ H1 else D.nx σ H1
theorem mQ{c:Expr}{body:List Stmt}{tc:TT}{tb:TS}(hp:PassesOwn (model X.prog X.w) X.A X.env X.xe)(hc:PT X c tc)(hb:PSs X body tb):PS X (.While c body [] pos) (GL tc tb):=by
 intro pins s σ H D I h
 obtain⟨W,⟨m0,w0⟩,turn⟩:=h
 refine wpAny_While (codeAny_whileLoop (fun n s'=>∃ σ' H',Inv X pins σ' H' s'∧W n σ' H') ?_ m0 ⟨σ,H,I,w0⟩)
 rintro n s1 ⟨σ1,H1,I1,w1⟩
 refine wpAny_passesOwn hp (cK (hc pins s1 σ1 H1 _ I1 (turn n σ1 H1 w1)) fun b s2 ⟨H2,I2,q2⟩=>?_)
 cases b with
 | true =>
  obtain⟨N,hN,q2⟩:=q2
  rw[if_pos rfl]
  refine wpAny_passesOwn hp (cK (hb pins s2 σ1 H2 _ I2 q2) fun f s3 q3=>?_)
  cases f with
  | next =>
   obtain⟨σ3,H3,I3,n3⟩:=q3
   obtain⟨m',hm,w3⟩:=hN σ3 H3 n3
   exact⟨m',hm,σ3,H3,I3,w3⟩
  | cont =>
   obtain⟨σ3,H3,I3,n3⟩:=q3
   obtain⟨m',hm,w3⟩:=hN σ3 H3 n3
   exact⟨m',hm,σ3,H3,I3,w3⟩
  | brk=>exact q3
  | ret v=>exact q3
 | false =>
  rw[if_neg i8]
  exact wpAny_execs_nil ⟨σ1,H2,I2,q2⟩
end
structure It where
 go:Nat→Hp→Prop
 yld:Nat→Hp→V→Hp→Prop
 stop:Nat→Hp→Prop
def iH(X:Cx)(pins:List (Addr×Obj))(H:Hp)(b:Addr):Prop :=
 H b=none∧b≠X.env.locals∧b ∉ X.fs∧(b∈X.ex∨X.s₀.heap.objs.size≤b)∧(∀ x c,X.env.cells.lookup x=some c→c≠b)∧∀ p∈X.pn++pins,p.1≠b
theorem Inv.fpOk{X:Cx}{pins:List (Addr×Obj)}{σ:St}{H H':Hp}{s:Shared}{b:Addr}(I:Inv X pins σ H s)(hb:s.heap.objs.size≤b)(hn:H' b=none):iH X pins H' b:=by
 refine⟨hn,aQ7 (m4 I.lt hb),I.nofs hb,.inr (j7 I.sz hb),fun x c e z=>?_,fun p hp z=>?_⟩
 ·obtain⟨v,q⟩:=I.cell x c e
  exact absurd (m4 q.lt (by rw[z];exact hb)) (aQW _)
 ·exact absurd (m4 (d6 (I.pin p hp).1) (by rw[z];exact hb)) (aQW _)
structure Turn(P:Program)(w:World)(K:b5)(tg:Expr)(J:It)(fp:List Addr)(it:Addr)(tn:Nat→Heap→Prop):Prop where
 mem:it∈fp
 obj:∀ i h,tn i h→∀ b∈fp,∃ o,h.get? b=some o∧∀ v,o.data≠.cell v
 keep:∀ i h h',tn i h→(∀ b∈fp,∀ o,h.get? b=some o→h'.get? b=some o)→tn i h'
 item:∀ (X:Cx),X.prog=P→X.w=w→X.K=K→X.calm=true→∀ (i:Nat) (pins:List (Addr×Obj)) (s:Shared) (σ:St) (H:Hp) (E:Value→Shared→Prop),Inv X pins σ H s→(∀ b∈fp,iH X pins H b)→tn i s.heap→J.go i H →
  wpAny (model P w) X.A (pyNext (.ref it)) (fun r s1=>∃ u,r=some u ∧
   wpAny (model P w) X.A (letOwnedTupleGo tg (.ref it) u) (fun _ s2=>∃ x H',Inv X pins σ H' s2∧RelV x u∧J.yld i H x H'∧tn (i+1) s2.heap∧∀ b∈fp,H' b=none) E s1) E s
 done:∀ (X:Cx),X.prog=P→X.w=w→X.K=K→X.calm=true→∀ (i:Nat) (pins:List (Addr×Obj)) (s:Shared) (σ:St) (H:Hp) (E:Value→Shared→Prop),Inv X pins σ H s→(∀ b∈fp,iH X pins H b)→tn i s.heap→J.stop i H →
  wpAny (model P w) X.A (pyNext (.ref it)) (fun r s1=>r=none∧Inv X pins σ H s1) E s
 self:∀ (A:Around) (i:Nat) (s:Shared) (Q:Value→Shared→Prop) (E:Value→Shared→Prop),tn i s.heap→Q (.ref it) s→wpAny (model P w) A (pyIter (.ref it)) Q E s
abbrev TI:=St→Hp→(It→Hp→Prop)→Prop
def Kq(X:Cx)(pins:List (Addr×Obj))(σ:St)(tg:Expr)(R:It→Hp→Prop)(itv:Value)(s2:Shared):Prop :=
 ∃ (it:Addr) (fp:List Addr) (tn:Nat→Heap→Prop) (J:It) (H':Hp),itv=.ref it∧Inv X pins σ H' s2∧Turn X.prog X.w X.K tg J fp it tn∧tn 0 s2.heap∧(∀ b∈fp,iH X pins H' b)∧R J H'
def PI(X:Cx)(tg iter:Expr)(wi:TI):Prop :=
 ∀ (pins:List (Addr×Obj)) (s:Shared) (σ:St) (H:Hp) (R:It→Hp→Prop),Inv X pins σ H s→wi σ H R →
  wpAny (model X.prog X.w) X.A (eval iter X.env) (fun v s1=>wpAny (model X.prog X.w) X.A (pyIter v) (Kq X pins σ tg R) X.xe s1) X.xe s
theorem rT{M:Model}{A:Around}{E:Value→Shared→Prop}{s:Shared}{tg:Expr}{it:Addr}{u:Value}{o:Obj}{n:String}{vs:Array Value}{Q:Unit→Shared→Prop}(ho:s.heap.get? it=some o)(hc:o.cls=.type n)(hd:o.data=.fields vs)
  (hn:["enumerate","zip","dict_itemiterator","dict_reverseitemiterator","odict_iterator","itertools.zip_longest","itertools.pairwise"].contains n=false) (hQ:Q () s):wpAny M A (letOwnedTupleGo tg (.ref it) u) Q E s:=by
 unfold letOwnedTupleGo
 cases tg <;> first
  | exact wpAny_pure hQ
  | (cases u <;> first
    | exact wpAny_pure hQ
    | (refine wpAny_bind (wpAny_load ho ?_)
       rw[hc,hd]
       show wpAny M A (if (["enumerate","zip","dict_itemiterator","dict_reverseitemiterator","odict_iterator","itertools.zip_longest","itertools.pairwise"].contains n && vs[0]? == some (rawInt _))=true then _ else _) Q E s
       rw[if_neg (by intro h;rw[hn,aJN] at h;cases h)]
       exact wpAny_pure hQ))
def Hl(K:b5)(a:Addr):It :=
 ⟨fun i H=>∃ xs x,SqL K H a xs∧xs[i]?=some x,fun i H x H'=>H'=H∧∀ xs,SqL K H a xs→xs[i]?=some x,fun i H=>∃ xs,SqL K H a xs∧xs.length≤i⟩
def Ho(K:b5)(a:Addr):It :=
 ⟨fun i H=>∃ xs x,SqT K H a xs∧xs[i]?=some x,fun i H x H'=>H'=H∧∀ xs,SqT K H a xs→xs[i]?=some x,fun i H=>∃ xs,SqT K H a xs∧xs.length≤i⟩
def GG(lo:Int)(n:Nat):It:=⟨fun i _=>i<n,fun i H x H'=>H'=H∧x=.int (lo+i),fun i _=>n≤i⟩
theorem Ba{P:Program}{w:World}{K:b5}{tg:Expr}(a it:Addr):Turn P w K tg (Hl K a) [it] it (fun i h=>h.IsListIter it a i) where
 mem:=by simp
 obj:=fun i h st b hb=>by
  have e:b=it:=by simpa using hb
  subst e
  obtain⟨o,e,c,d⟩:=st
  exact⟨o,e,fun v z=>by rw[d] at z;cases z⟩
 keep:=fun i h h' st k=>st.at fun o e=>k it (by simp) o e
 item:=by
  intro X hP hw hK hc i pins s σ H E I hf st hg
  subst hP hw hK
  obtain⟨xs,x,hq,hx⟩:=hg
  obtain⟨its,rv,p,hz⟩:=I.list hq
  obtain⟨u,hu,ru⟩:=rv.get hx
  obtain⟨f0,f1,f2,f3,f4,f5⟩:=hf it (by simp)
  refine wpAny_pyNext_list_item st p.isList (x:=u) (by simpa using hu) fun h' st' sb=>?_
  have I1:Inv X pins σ H { s with heap:=h' }:=I.turned (t':=s.toks) (fun b o hb e=>(sb.2 b hb).trans e) f0 f1 f3 f4 f5
  obtain⟨o,e,c,d⟩:=id st'
  exact⟨u,rfl,rT (s:={ s with heap:=h' }) e c d (by decide) ⟨x,H,I1,ru,⟨rfl,fun ys hy=>by rw[I.list_inj hy hq];exact hx⟩,st',fun b hb=>(hf b hb).1⟩⟩
 done:=by
  intro X hP hw hK hc i pins s σ H E I hf st hg
  subst hP hw hK
  obtain⟨xs,hq,hx⟩:=hg
  obtain⟨its,rv,p,hz⟩:=I.list hq
  obtain⟨f0,f1,f2,f3,f4,f5⟩:=hf it (by simp)
  have hl:=rv.length
  exact wpAny_pyNext_list_end (I.ok.hd hc) st p.isList (by simp;omega) fun h' eb=>⟨rfl,I.turned (t':=s.toks) (fun b o hb e=>eb b o hb e) f0 f1 f3 f4 f5⟩
 self:=fun _ _ _ _ _ st h=>wpAny_pyIter_listiter st h
theorem yV{P:Program}{w:World}{K:b5}{tg:Expr}(a it:Addr):Turn P w K tg (Ho K a) [it] it (fun i h=>h.IsTupleIter it a i) where
 mem:=by simp
 obj:=fun i h st b hb=>by
  have e:b=it:=by simpa using hb
  subst e
  obtain⟨o,e,c,d⟩:=st
  exact⟨o,e,fun v z=>by rw[d] at z;cases z⟩
 keep:=fun i h h' st k=>st.at fun o e=>k it (by simp) o e
 item:=by
  intro X hP hw hK hc i pins s σ H E I hf st hg
  subst hP hw hK
  obtain⟨xs,x,hq,hx⟩:=hg
  obtain⟨its,rv,p,hz⟩:=I.tuple hq
  obtain⟨u,hu,ru⟩:=rv.get hx
  obtain⟨f0,f1,f2,f3,f4,f5⟩:=hf it (by simp)
  refine wpAny_pyNext_tuple_item st (show s.heap.IsTuple a its.toArray from p) (x:=u) (by simpa using hu) fun h' st' sb=>?_
  have I1:Inv X pins σ H { s with heap:=h' }:=I.turned (t':=s.toks) (fun b o hb e=>(sb.2 b hb).trans e) f0 f1 f3 f4 f5
  obtain⟨o,e,c,d⟩:=id st'
  exact⟨u,rfl,rT (s:={ s with heap:=h' }) e c d (by decide) ⟨x,H,I1,ru,⟨rfl,fun ys hy=>by rw[I.tuple_inj hy hq];exact hx⟩,st',fun b hb=>(hf b hb).1⟩⟩
 done:=by
  intro X hP hw hK hc i pins s σ H E I hf st hg
  subst hP hw hK
  obtain⟨xs,hq,hx⟩:=hg
  obtain⟨its,rv,p,hz⟩:=I.tuple hq
  obtain⟨f0,f1,f2,f3,f4,f5⟩:=hf it (by simp)
  have hl:=rv.length
  exact wpAny_pyNext_tuple_end (I.ok.hd hc) st (show s.heap.IsTuple a its.toArray from p) (by simp;omega) fun h' eb=>⟨rfl,I.turned (t':=s.toks) (fun b o hb e=>eb b o hb e) f0 f1 f3 f4 f5⟩
 self:=fun _ _ _ _ _ st h=>wpAny_pyIter_tupleiter st h
theorem zS{P:Program}{w:World}{K:b5}{tg:Expr}(it:Addr)(lo:Int)(n:Nat):Turn P w K tg (GG lo n) [it] it (fun i h=>IsRangeIter h it (lo+(i:Nat) * 1) ((n:Int) - (i:Nat)) 1) where
 mem:=by simp
 obj:=fun i h st b hb=>by
  have e:b=it:=by simpa using hb
  subst e
  exact⟨_,st,fun v z=>by
   have z':Data.fields _=Data.cell v:=z
   cases z'⟩
 keep:=fun i h h' st k=>k it (by simp) _ st
 item:=by
  intro X hP hw hK hc i pins s σ H E I hf st hg
  subst hP hw hK
  obtain⟨f0,f1,f2,f3,f4,f5⟩:=hf it (by simp)
  have W:=Walks.range (prog:=X.prog) (w:=X.w) (I.ok.hd hc) it lo 1 n
  refine W.item i s _ _ hg st fun v h' tk hv st' kk=>?_
  obtain⟨t,rfl⟩:=hv
  have I1:Inv X pins σ H { s with heap:=h',toks:=tk }:=I.turned (fun b o hb e=>kk b o (by simpa using hb) e) f0 f1 f3 f4 f5
  refine⟨_,rfl,rT (s:={ s with heap:=h',toks:=tk }) (n:="range_iterator") st' rfl rfl (by decide) ⟨.int (lo+i),H,I1,⟨t,?_⟩,⟨rfl,rfl⟩,st',fun b hb=>(hf b hb).1⟩⟩
  rw[Int.mul_one]
 done:=by
  intro X hP hw hK hc i pins s σ H E I hf st hg
  subst hP hw hK
  obtain⟨f0,f1,f2,f3,f4,f5⟩:=hf it (by simp)
  exact wpAny_pyNext_range_end (I.ok.hd hc) st (by have:n≤i:=hg;omega) fun h' eb=>⟨rfl,I.turned (t':=s.toks) (fun b o hb e=>eb b o hb e) f0 f1 f3 f4 f5⟩
 self:=fun _ _ _ _ _ st h=>wpAny_pyIter_rangeiter st h
section
variable {X:Cx}{tg:Expr}
def Dq(K:b5)(tl:TE):TI:=fun σ H R=>tl σ H fun x H1=>∃ a,x=.ref a∧(∃ xs,SqL K H1 a xs)∧R (Hl K a) H1
def Gc(K:b5)(tl:TE):TI:=fun σ H R=>tl σ H fun x H1=>∃ a,x=.ref a∧(∃ xs,SqT K H1 a xs)∧R (Ho K a) H1
theorem DX{l:Expr}{tl:TE}(hl:PE X l tl):PI X tg l (Dq X.K tl):=by
 intro pins s σ H R I h
 refine cK (hl pins s σ H _ I h) fun v s1 ⟨x,H1,I1,r1,q1⟩=>?_
 obtain⟨a,e,⟨xs,hq⟩,q⟩:=q1
 subst e
 cases r1
 obtain⟨its,rv,p,hz⟩:=I1.list hq
 refine wpAny_pyIter_list p.isList ?_
 refine⟨s1.heap.objs.size,[s1.heap.objs.size],_,_,H1,rfl,I1.kept (t':=s1.toks) fun b o e=>b9 _ e,Ba a _,⟨_,d8 _ rfl,rfl,rfl⟩,fun b hb=>?_,q⟩
 have e:b=s1.heap.objs.size:=by simpa using hb
 subst e
 exact I1.fpOk (c0 _) (I1.hok.fresh (c0 _))
theorem GK{l:Expr}{tl:TE}(hl:PE X l tl):PI X tg l (Gc X.K tl):=by
 intro pins s σ H R I h
 refine cK (hl pins s σ H _ I h) fun v s1 ⟨x,H1,I1,r1,q1⟩=>?_
 obtain⟨a,e,⟨xs,hq⟩,q⟩:=q1
 subst e
 cases r1
 obtain⟨its,rv,p,hz⟩:=I1.tuple hq
 refine wpAny_pyIter_tuple (show s1.heap.IsTuple a its.toArray from p) ?_
 refine⟨s1.heap.objs.size,[s1.heap.objs.size],_,_,H1,rfl,I1.kept (t':=s1.toks) fun b o e=>b9 _ e,yV a _,⟨_,d8 _ rfl,rfl,rfl⟩,fun b hb=>?_,q⟩
 have e:b=s1.heap.objs.size:=by simpa using hb
 subst e
 exact I1.fpOk (c0 _) (I1.hok.fresh (c0 _))
theorem Cn{pins:List (Addr×Obj)}{σ:St}{H:Hp}{s:Shared}{R:It→Hp→Prop}{E:Value→Shared→Prop}{lo hi:Int}{t u v:Tok}{tk:Nat}(I:Inv X pins σ H s)(h1:-(2 ^ 62)≤lo)(h2:lo<2 ^ 62)(h3:-(2 ^ 62)≤hi)(h4:hi<2 ^ 62)
  (q:R (GG lo (hi - lo).toNat) H):wpAny (model X.prog X.w) X.A (pyIter (.ref s.heap.objs.size)) (Kq X pins σ tg R) E { s with heap:=s.heap.push { cls:=.type "range",data:=.fields #[.int lo t,.int hi u,.int 1 v] },toks:=tk }:=by
 refine wpAny_pyIter_range (IsRange.new ..) (small_one h1 h2 h3 h4) ?_
 have I1:Inv X pins σ H { s with heap:=s.heap.push { cls:=.type "range",data:=.fields #[.int lo t,.int hi u,.int 1 v] },toks:=tk }:=I.kept fun b o e=>b9 _ e
 refine⟨(s.heap.push { cls:=.type "range",data:=.fields #[.int lo t,.int hi u,.int 1 v] }).objs.size,[(s.heap.push { cls:=.type "range",data:=.fields #[.int lo t,.int hi u,.int 1 v] }).objs.size],_,_,H,rfl,
  I1.kept (t':=tk) fun b o e=>b9 _ e,zS _ lo (hi - lo).toNat,?_,fun b hb=>?_,q⟩
 ·have e1:lo+((0:Nat):Int) * 1=lo:=by simp
  have e2:(((hi - lo).toNat:Nat):Int) - ((0:Nat):Int)=Builtin.Range.rangeSize lo hi 1:=by rw[rangeSize_one];split <;> omega
  show IsRangeIter _ _ (lo+((0:Nat):Int) * 1) ((((hi - lo).toNat:Nat):Int) - ((0:Nat):Int)) 1
  rw[e1,e2]
  exact d8 _ rfl
 ·have e:b=(s.heap.push { cls:=.type "range",data:=.fields #[.int lo t,.int hi u,.int 1 v] }).objs.size:=by simpa using hb
  subst e
  exact I1.fpOk (c0 _) (I1.hok.fresh (c0 _))
def IV(ta:TA):TI:=fun σ H R=>ta σ H fun vs H1=>∃ j:Int,vs=[.int j]∧-(2 ^ 62)≤j∧j<2 ^ 62∧R (GG 0 j.toNat) H1
theorem fH{a:Expr}{ta:TA}{p pos:Pos}(hg:Gl X "range")(hm:X.mg "range"=none)(ha:PA X [a] ta)(hs:starEach [a] X.env=[(false,eval a X.env)]:=by rfl):PI X tg (.Call (.Name "range" p) [a] [] pos) (IV ta):=by
 intro pins s σ H R I h
 refine Call_ (jC I hg hm boot_range (t9 (cK (ha pos pins s σ H _ I h) fun us s1 ⟨vs,H1,I1,r1,q1⟩=>?_) hs rfl))
 obtain⟨j,e,q1,q2,q⟩:=q1
 subst e
 cases r1 with
 | cons r rr =>
  cases rr
  obtain⟨t,rfl⟩:=r
  exact call_range_1 (Cn I1 (by omega) (by omega) q1 q2 (by simpa using q))
def IC(wi:TI)(g:TG)(tb:TS):TS:=fun D σ H=>wi σ H fun J H1=>∃ W:Nat→Nat→St→Hp→Prop,(∃ m,W 0 m σ H1)∧∀ i m σ H,W i m σ H →
 (J.stop i H∧D.nx σ H)∨(J.go i H∧∃ N:St→Hp→Prop,(∀ σ' H',N σ' H'→∃ m',m' < m∧W (i+1) m' σ' H')∧∀ x H',J.yld i H x H'→g x σ H' fun σ2 H2=>tb { D with nx:=N,ct:=N,bk:=D.nx } σ2 H2)
def lJ(fp:List Addr)(h:Heap):List (Addr×Obj):=fp.filterMap fun b=>(h.get? b).map fun o=>(b,o)
theorem jB{fp:List Addr}{h:Heap}{b:Addr}{o:Obj}(hb:b∈fp)(e:h.get? b=some o):(b,o)∈lJ fp h:=aZ6.mpr ⟨b,hb,by rw[e];rfl⟩
theorem Bf{fp:List Addr}{h:Heap}{p:Addr×Obj}(hp:p∈lJ fp h):p.1∈fp∧h.get? p.1=some p.2:=by
 obtain⟨b,hb,e⟩:=aZ6.mp hp
 cases q:h.get? b with
 | none=>rw[q] at e;cases e
 | some o =>
  rw[q] at e
  have e':(b,o)=p:=d9 e
  subst e'
  exact⟨hb,q⟩
theorem Inv.pinned{pins:List (Addr×Obj)}{σ:St}{H:Hp}{s:Shared}{fp:List Addr}(I:Inv X pins σ H s)(hf:∀ b∈fp,iH X pins H b)(ho:∀ b∈fp,∃ o,s.heap.get? b=some o∧∀ v,o.data≠.cell v):Inv X (pins++lJ fp s.heap) σ H s :=
 I.pins_of fun p hp=>(k0.mp hp).elim (fun z=>I.pin p (j6 _ z)) fun z=>by
  obtain⟨hb,e⟩:=Bf z
  obtain⟨f0,f1,f2,_⟩:=hf p.1 hb
  obtain⟨o,e',d⟩:=ho p.1 hb
  rw[e] at e';cases e'
  exact⟨e,f0,f1,f2,d⟩
theorem Inv.unpinned{pins pl:List (Addr×Obj)}{σ:St}{H:Hp}{s:Shared}(I:Inv X (pins++pl) σ H s):Inv X pins σ H s:=I.pins_of fun p hp=>I.pin p (j6 _ (q8 _ hp))
theorem dL{iter:Expr}{body:List Stmt}{wi:TI}{g:TG}{tb:TS}{pos:Pos}(hp:PassesOwn (model X.prog X.w) X.A X.env X.xe)(hc:X.calm=true)(hi:PI X tg iter wi)(hg:PG X tg g)(hb:PSs X body tb)
  (hs:∀ x,foldedSetIterable iter X.env x=pure x:=by intro _;rfl):PS X (.For tg iter body [] pos) (IC wi g tb):=by
 intro pins s σ H D I h
 refine wpAny_For (cK (hi pins s σ H _ I h) fun v s1 h1=>cK h1 fun itv s2 h2=>?_) hs
 obtain⟨it,fp,tn,J,H2,e,I2,T,st2,f2,W,⟨m0,w0⟩,turn⟩:=h2
 subst e
 -- what stays true of the iterator's objects through the loop
 have stat:∀ {H':Hp},(∀ b∈fp,H' b=none)→∀ b∈fp,iH X pins H' b:=fun hn b hb=>⟨hn b hb,(f2 b hb).2⟩
 refine codeAny_forLoop_any (fun n s'=>∃ i σ' H',Inv X pins σ' H' s'∧tn i s'.heap∧(∀ b∈fp,H' b=none)∧W i n σ' H') ?_ m0 ⟨0,σ,H2,I2,st2,fun b hb=>(f2 b hb).1,w0⟩
 rintro n s3 ⟨i,σ3,H3,I3,st3,fr3,w3⟩
 rcases turn i n σ3 H3 w3 with ⟨stop,qn⟩ | ⟨go,N,hN,step⟩
 ·refine wpAny_passesOwn hp (cK (T.done X rfl rfl rfl hc i pins s3 σ3 H3 X.xe I3 (stat fr3) st3 stop) fun r s4 ⟨hr,I4⟩=>?_)
  subst hr
  exact wpAny_execs_nil ⟨σ3,H3,I4,qn⟩
 ·refine wpAny_passesOwn hp (cK (T.item X rfl rfl rfl hc i pins s3 σ3 H3 X.xe I3 (stat fr3) st3 go) fun r s4 ⟨u,hr,h4⟩=>?_)
  subst hr
  refine wpAny_passesOwn hp (cK h4 fun _ s5 ⟨x,H5,I5,r5,y5,st5,fr5⟩=>?_)
  have I5':=I5.pinned (stat fr5) (T.obj _ _ st5)
  refine wpAny_passesOwn hp (cK (hg _ s5 σ3 H5 x u _ I5' r5 (step x H5 y5)) fun _ s6 ⟨σ6,H6,I6,q6⟩=>?_)
  refine wpAny_passesOwn hp (cK (hb _ s6 σ6 H6 _ I6 q6) fun f s7 q7=>?_)
  have again:∀ {σ7:St} {H7:Hp},Inv X (pins++lJ fp s5.heap) σ7 H7 s7→N σ7 H7→∃ m,m<n∧∃ i σ' H',Inv X pins σ' H' s7∧tn i s7.heap∧(∀ b∈fp,H' b=none)∧W i m σ' H':=fun {σ7 H7} I7 n7=>by
   obtain⟨m',hm,w7⟩:=hN σ7 H7 n7
   refine⟨m',hm,i+1,σ7,H7,I7.unpinned,T.keep _ _ _ st5 fun b hb o e=>(I7.pin (b,o) (j6 _ (j6 _ (jB hb e)))).1,fun b hb=>?_,w7⟩
   obtain⟨o,e,d⟩:=T.obj _ _ st5 b hb
   exact(I7.pin (b,o) (j6 _ (j6 _ (jB hb e)))).2.1
  cases f with
  | next=>obtain⟨σ7,H7,I7,n7⟩:=q7;exact again I7 n7
  | cont=>obtain⟨σ7,H7,I7,n7⟩:=q7;exact again I7 n7
  | brk=>obtain⟨σ7,H7,I7,q7⟩:=q7;exact⟨σ7,H7,I7.unpinned,q7⟩
  | ret v=>obtain⟨x7,σ7,H7,I7,r7,q7⟩:=q7;exact⟨x7,σ7,H7,I7.unpinned,r7,q7⟩
end
theorem pQ{K:b5}{a:Addr}{xs:List V}{g:TG}{tb:TS}{D:Ends}{σ:St}{H:Hp}(Pv:Nat→St→Hp→Prop)(h0:Pv 0 σ H)(hl:∀ i σ H,i≤xs.length→Pv i σ H→SqL K H a xs)
  (hs:∀ i x σ H,xs[i]?=some x→Pv i σ H→g x σ H fun σ2 H2=>tb { D with nx:=Pv (i+1),ct:=Pv (i+1),bk:=D.nx } σ2 H2) (hd:∀ σ H,Pv xs.length σ H→D.nx σ H) :
  ∃ W:Nat→Nat→St→Hp→Prop,(∃ m,W 0 m σ H)∧∀ i m σ H,W i m σ H →
   ((Hl K a).stop i H∧D.nx σ H)∨((Hl K a).go i H∧∃ N:St→Hp→Prop,(∀ σ' H',N σ' H'→∃ m',m' < m∧W (i+1) m' σ' H')∧∀ x H',(Hl K a).yld i H x H'→g x σ H' fun σ2 H2=>tb { D with nx:=N,ct:=N,bk:=D.nx } σ2 H2):=by
 refine⟨fun i m σ H=>m=xs.length - i∧i≤xs.length∧Pv i σ H,⟨xs.length,by simp,l7 _,h0⟩,?_⟩
 rintro i m σ H ⟨rfl,hi,p⟩
 have q:=hl i σ H hi p
 by_cases hlt:i<xs.length
 ·refine .inr ⟨⟨xs,xs[i],q,by simp[hlt]⟩,Pv (i+1),fun σ' H' p'=>⟨xs.length - (i+1),by omega,rfl,hlt,p'⟩,fun x H' y=>?_⟩
  obtain⟨e,y⟩:=y
  subst e
  exact hs i x σ _ (y xs q) p
 ·have e:i=xs.length:=by omega
  subst e
  exact .inl ⟨⟨xs,q,c0 _⟩,hd σ H p⟩
theorem At{K:b5}{a:Addr}{xs:List V}{g:TG}{tb:TS}{D:Ends}{σ:St}{H:Hp}(Pv:Nat→St→Hp→Prop)(h0:Pv 0 σ H)(hl:∀ i σ H,i≤xs.length→Pv i σ H→SqT K H a xs)
  (hs:∀ i x σ H,xs[i]?=some x→Pv i σ H→g x σ H fun σ2 H2=>tb { D with nx:=Pv (i+1),ct:=Pv (i+1),bk:=D.nx } σ2 H2) (hd:∀ σ H,Pv xs.length σ H→D.nx σ H) :
  ∃ W:Nat→Nat→St→Hp→Prop,(∃ m,W 0 m σ H)∧∀ i m σ H,W i m σ H →
   ((Ho K a).stop i H∧D.nx σ H)∨((Ho K a).go i H∧∃ N:St→Hp→Prop,(∀ σ' H',N σ' H'→∃ m',m' < m∧W (i+1) m' σ' H')∧∀ x H',(Ho K a).yld i H x H'→g x σ H' fun σ2 H2=>tb { D with nx:=N,ct:=N,bk:=D.nx } σ2 H2):=by
 refine⟨fun i m σ H=>m=xs.length - i∧i≤xs.length∧Pv i σ H,⟨xs.length,by simp,l7 _,h0⟩,?_⟩
 rintro i m σ H ⟨rfl,hi,p⟩
 have q:=hl i σ H hi p
 by_cases hlt:i<xs.length
 ·refine .inr ⟨⟨xs,xs[i],q,by simp[hlt]⟩,Pv (i+1),fun σ' H' p'=>⟨xs.length - (i+1),by omega,rfl,hlt,p'⟩,fun x H' y=>?_⟩
  obtain⟨e,y⟩:=y
  subst e
  exact hs i x σ _ (y xs q) p
 ·have e:i=xs.length:=by omega
  subst e
  exact .inl ⟨⟨xs,q,c0 _⟩,hd σ H p⟩
theorem gJ{lo:Int}{n:Nat}{g:TG}{tb:TS}{D:Ends}{σ:St}{H:Hp}(Pv:Nat→St→Hp→Prop)(h0:Pv 0 σ H)
  (hs:∀ i σ H,i<n→Pv i σ H→g (.int (lo+i)) σ H fun σ2 H2=>tb { D with nx:=Pv (i+1),ct:=Pv (i+1),bk:=D.nx } σ2 H2) (hd:∀ σ H,Pv n σ H→D.nx σ H) :
  ∃ W:Nat→Nat→St→Hp→Prop,(∃ m,W 0 m σ H)∧∀ i m σ H,W i m σ H →
   ((GG lo n).stop i H∧D.nx σ H)∨((GG lo n).go i H∧∃ N:St→Hp→Prop,(∀ σ' H',N σ' H'→∃ m',m' < m∧W (i+1) m' σ' H')∧∀ x H',(GG lo n).yld i H x H'→g x σ H' fun σ2 H2=>tb { D with nx:=N,ct:=N,bk:=D.nx } σ2 H2):=by
 refine⟨fun i m σ H=>m=n - i∧i≤n∧Pv i σ H,⟨n,by simp,l7 _,h0⟩,?_⟩
 rintro i m σ H ⟨rfl,hi,p⟩
 by_cases hlt:i<n
 ·refine .inr ⟨hlt,Pv (i+1),fun σ' H' p'=>⟨n - (i+1),by omega,rfl,hlt,p'⟩,fun x H' y=>?_⟩
  obtain⟨e,y⟩:=y
  subst e y
  exact hs i σ _ hlt p
 ·have e:i=n:=by omega
  subst e
  exact .inl ⟨c0 _,hd σ H p⟩
abbrev R2:=V→V→Hp→VK→Prop
def lD(X:Cx)(f:Value→Value→Sem Value)(r:R2):Prop :=
 ∀ (pins:List (Addr×Obj)) (s:Shared) (σ:St) (H:Hp) (x y:V) (v u:Value) (Q:VK),Inv X pins σ H s→RelV x v→RelV y u→r x y H Q →
  wpAny (model X.prog X.w) X.A (f v u) (EP X pins σ Q) X.xe s
def JS(X:Cx)(f:Value→Sem Value)(r:V→Hp→VK→Prop):Prop :=
 ∀ (pins:List (Addr×Obj)) (s:Shared) (σ:St) (H:Hp) (x:V) (v:Value) (Q:VK),Inv X pins σ H s→RelV x v→r x H Q →
  wpAny (model X.prog X.w) X.A (f v) (EP X pins σ Q) X.xe s
def gS(X:Cx)(f:Value)(r:List V→Hp→VK→Prop):Prop :=
 ∀ (pins:List (Addr×Obj)) (s:Shared) (σ:St) (H:Hp) (xs:List V) (us:List Value) (Q:VK),Inv X pins σ H s→Vals xs us→r xs H Q →
  wpAny (model X.prog X.w) X.A (call f us) (EP X pins σ Q) X.xe s
def Ga(r:R2)(ta tb:TE):TE:=fun σ H Q=>ta σ H fun x H1=>tb σ H1 fun y H2=>r x y H2 Q
def KB(r:V→Hp→VK→Prop)(ta:TE):TE:=fun σ H Q=>ta σ H fun x H1=>r x H1 Q
inductive rII(C:Int→Int→Prop)(g:Int→Int→V)(x:V)(y:V)(H:Hp)(Q:VK):Prop
 | mk (i j:_) (_:x=.int i) (_:y=.int j) (_:C i j) (_:Q (g i j) H):rII C g x y H Q
def rI(C:Int→Int→Prop)(g:Int→Int→V):R2:=fun x y H Q=>rII C g x y H Q
inductive rI0I(g:Int→Int→V)(x:V)(y:V)(H:Hp)(Q:VK):Prop
 | mk (i j:_) (_:x=.int i) (_:y=.int j) (_:Q (g i j) H):rI0I g x y H Q
def E1(g:Int→Int→V):R2:=fun x y H Q=>rI0I g x y H Q
inductive rUI(g:Int→V)(x:V)(H:Hp)(Q:VK):Prop
 | mk (i:_) (_:x=.int i) (_:Q (g i) H):rUI g x H Q
def rU(g:Int→V):V→Hp→VK→Prop:=fun x H Q=>rUI g x H Q
section
variable {X:Cx}{a b c:Expr}{ta tb tc:TE}{pos:Pos}
theorem GW(ha:PE X a ta)(hb:PE X b tb){pins:List (Addr×Obj)}{s:Shared}{σ:St}{H:Hp}{R:V→V→Hp→Prop}(I:Inv X pins σ H s)
  (h:ta σ H fun x H1=>tb σ H1 fun y H2=>R x y H2) {Q:Value→Shared→Prop} {f:Value→Value→Sem Value}
  (hf:∀ v u s2 x y H2,Inv X pins σ H2 s2→RelV x v→RelV y u→R x y H2→wpAny (model X.prog X.w) X.A (f v u) Q X.xe s2) :
  wpAny (model X.prog X.w) X.A (eval a X.env) (fun v s₁=>wpAny (model X.prog X.w) X.A (eval b X.env) (fun u s₂=>wpAny (model X.prog X.w) X.A (f v u) Q X.xe s₂) X.xe s₁) X.xe s:=by
 refine cK (ha pins s σ H _ I h) fun v s1 ⟨x,H1,I1,r1,q1⟩=>?_
 refine cK (hb pins s1 σ H1 _ I1 q1) fun u s2 ⟨y,H2,I2,r2,q2⟩=>?_
 exact hf v u s2 x y H2 I2 r1 r2 q2
theorem bM{op:Operator}{r:R2}(ho:lD X (binaryOp op) r)(ha:PE X a ta)(hb:PE X b tb):PE X (.BinOp a op b pos) (Ga r ta tb):=by
 intro pins s σ H Q I h
 exact wpAny_BinOp (GW ha hb I h fun v u s2 x y H2 I2 rx ry q=>ho pins s2 σ H2 x y v u Q I2 rx ry q)
theorem CS{op:UnaryOp}{r:V→Hp→VK→Prop}(ho:JS X (unaryOp op) r)(ha:PE X a ta):PE X (.UnaryOp op a pos) (KB r ta):=by
 intro pins s σ H Q I h
 exact UnaryOp_ (cK (ha pins s σ H _ I h) fun v s1 ⟨x,H1,I1,r1,q1⟩=>ho pins s1 σ H1 x v Q I1 r1 q1)
theorem Jy{f:Value→Value→Sem Value}{C:Int→Int→Prop}{g:Int→Int→Int}
  (rule:∀ (i j:Int) (t u:Tok) (s:Shared) (Q:Value→Shared→Prop) (E:Value→Shared→Prop),C i j→Q (.int (g i j) s.toks) { s with toks:=s.toks+1 }→wpAny (model X.prog X.w) X.A (f (.int i t) (.int j u)) Q E s) :
  lD X f (rI C fun i j=>.int (g i j)):=by
 intro pins s σ H x y v u Q I rx ry h
 obtain⟨i,j,rfl,rfl,hc,q⟩:=h
 obtain⟨t,rfl⟩:=rx
 obtain⟨t',rfl⟩:=ry
 exact rule i j t t' s _ _ hc ⟨.int (g i j),H,I.tok _,⟨_,rfl⟩,q⟩
theorem HD{f:Value→Value→Sem Value}{g:Int→Int→Int}
  (rule:∀ (i j:Int) (t u:Tok) (s:Shared) (Q:Value→Shared→Prop) (E:Value→Shared→Prop),Q (.int (g i j) s.toks) { s with toks:=s.toks+1 }→wpAny (model X.prog X.w) X.A (f (.int i t) (.int j u)) Q E s) :
  lD X f (E1 fun i j=>.int (g i j)):=by
 intro pins s σ H x y v u Q I rx ry h
 obtain⟨i,j,rfl,rfl,q⟩:=h
 obtain⟨t,rfl⟩:=rx
 obtain⟨t',rfl⟩:=ry
 exact rule i j t t' s _ _ ⟨.int (g i j),H,I.tok _,⟨_,rfl⟩,q⟩
theorem DP{f:Value→Value→Sem Value}{g:Int→Int→Bool}
  (rule:∀ (i j:Int) (t u:Tok) (s:Shared) (Q:Value→Shared→Prop) (E:Value→Shared→Prop),Q (.bool (g i j)) s→wpAny (model X.prog X.w) X.A (f (.int i t) (.int j u)) Q E s) :
  lD X f (E1 fun i j=>.bl (g i j)):=by
 intro pins s σ H x y v u Q I rx ry h
 obtain⟨i,j,rfl,rfl,q⟩:=h
 obtain⟨t,rfl⟩:=rx
 obtain⟨t',rfl⟩:=ry
 exact rule i j t t' s _ _ ⟨.bl (g i j),H,I,rfl,q⟩
def J9(i j:Int):Prop:=0<j∧j<1073741824
def Kb(i j:Int):Prop:=0≤j∧j≤1000000∧i.natAbs<2 ^ 64
def CMul(i j:Int):Prop:=(-(2 ^ 64)<i∧i<2 ^ 64)∨(-(2 ^ 64)<j∧j<2 ^ 64)
theorem CMul.ok{i j:Int}(h:CMul i j):IntMulOk i j:=by
 rcases h with ⟨h1,h2⟩ | ⟨h1,h2⟩
 ·exact .of_left (intBits_le_64 h1 h2)
 ·exact .of_right (intBits_le_64 h1 h2)
theorem eX:lD X (binaryOp .Add) (E1 fun i j=>.int (i+j)):=HD fun _ _ _ _ _ _ _ q=>add_int q
theorem CN:lD X (binaryOp .Sub) (E1 fun i j=>.int (i - j)):=HD fun _ _ _ _ _ _ _ q=>sub_int q
theorem jT:lD X (binaryOp .Mult) (rI CMul fun i j=>.int (i * j)):=Jy fun _ _ _ _ _ _ _ hc q=>mul_int q hc.ok
theorem wC:lD X (binaryOp .FloorDiv) (rI J9 fun i j=>.int (i / j)):=Jy fun i j _ _ _ _ _ hc q=>by
 have h1:(0:Int)<j:=hc.1
 have h2:j<1073741824:=hc.2
 exact floordiv_int (by omega) (by rw[Int.fdiv_eq_ediv_of_nonneg i (by omega)];exact q) (.inl (PyProof.noPylong_small (by omega)))
theorem kZ:lD X (binaryOp .Mod) (rI (fun _ j=>0<j) fun i j=>.int (i % j)):=Jy fun i j _ _ _ _ _ hc q=>by
 have h1:(0:Int)<j:=hc
 exact mod_int' (by omega) (by rw[Int.fmod_eq_emod_of_nonneg i (by omega)];exact q)
theorem GJ:lD X (binaryOp .Pow) (rI Kb fun i j=>.int (i ^ j.toNat)):=Jy fun _ _ _ _ _ _ _ hc q=>pow_int_small hc.1 hc.2.1 hc.2.2 q
theorem KG{f:Value→Sem Value}{g:Int→Int}
  (rule:∀ (i:Int) (t:Tok) (s:Shared) (Q:Value→Shared→Prop) (E:Value→Shared→Prop),Q (.int (g i) s.toks) { s with toks:=s.toks+1 }→wpAny (model X.prog X.w) X.A (f (.int i t)) Q E s) :
  JS X f (rU fun i=>.int (g i)):=by
 intro pins s σ H x v Q I rx h
 obtain⟨i,rfl,q⟩:=h
 obtain⟨t,rfl⟩:=rx
 exact rule i t s _ _ ⟨.int (g i),H,I.tok _,⟨_,rfl⟩,q⟩
theorem Ag:JS X (unaryOp .USub) (rU fun i=>.int (-i)):=KG fun _ _ _ _ _ q=>neg_int q
end
def Ja:V→V→Bool
 | .non,.non=>true | .non,.int _=>true | .int _,.non=>true | .non,.bl _=>true | .bl _,.non=>true | .non,.str _=>true | .str _,.non=>true
 | .int _,.int _=>true | .bl _,.bl _=>true | .str _,.str _=>true | .byt _,.byt _=>true
 | .int _,.str _=>true | .str _,.int _=>true | .bl _,.str _=>true | .str _,.bl _=>true
 | _,_=>false
def Km:R2:=fun x y H Q=>Ja x y=true∧Q (.bl (decide (x=y))) H
def Ku:R2:=fun x y H Q=>Ja x y=true∧Q (.bl (!decide (x=y))) H
theorem Az{i j:Int}:decide (V.int i=V.int j)=(i == j):=by
 rw[aQd]
 simp
theorem CD{i j:Bool}:decide (V.bl i=V.bl j)=(i == j):=by
 rw[aQd]
 simp
theorem Ar{i j:Str}:decide (V.str i=V.str j)=(i == j):=by
 rw[aQd]
 simp
theorem An{i j:Array UInt8}:decide (V.byt i=V.byt j)=(i.toList == j.toList):=by
 rw[aQd]
 cases i
 cases j
 simp
section
variable {X:Cx}{a b c:Expr}{ta tb tc:TE}{pos:Pos}
theorem bT{pins:List (Addr×Obj)}{σ:St}{H:Hp}{s:Shared}{Q:VK}{k k':Bool}(I:Inv X pins σ H s)(q:Q (.bl k) H)(e:k=k'):EP X pins σ Q (.bool k') s:=by
 subst e
 exact⟨.bl k,H,I,rfl,q⟩
theorem iD:lD X (compareOp .Eq) Km:=by
 intro pins s σ H x y v u Q I rx ry h
 obtain⟨hs,q⟩:=h
 cases x with
 | non =>
  cases rx
  cases y with
  | non=>cases ry;exact aJY (bT I q (by simp))
  | bl j=>cases ry;exact aJZ (bT I q (by simp))
  | int j=>obtain⟨t',rfl⟩:=ry;exact aJ8 (bT I q (by simp))
  | str j=>obtain⟨t',rfl⟩:=ry;exact aJ9 (bT I q (by simp))
  | _=>exact absurd (show false=true from hs) i8
 | bl i =>
  cases rx
  cases y with
  | non=>cases ry;exact aJ0 (bT I q (by simp))
  | bl j=>cases ry;exact eq_bool (bT I q CD)
  | str j=>obtain⟨t',rfl⟩:=ry;exact aJ1 (bT I q (by simp))
  | _=>exact absurd (show false=true from hs) i8
 | int i =>
  obtain⟨t,rfl⟩:=rx
  cases y with
  | non=>cases ry;exact aJa (bT I q (by simp))
  | int j=>obtain⟨t',rfl⟩:=ry;exact eq_int (bT I q Az)
  | str j=>obtain⟨t',rfl⟩:=ry;exact aJb (bT I q (by simp))
  | _=>exact absurd (show false=true from hs) i8
 | str i =>
  obtain⟨t,rfl⟩:=rx
  cases y with
  | non=>cases ry;exact aJc (bT I q (by simp))
  | bl j=>cases ry;exact aJ2 (bT I q (by simp))
  | int j=>obtain⟨t',rfl⟩:=ry;exact aJd (bT I q (by simp))
  | str j=>obtain⟨t',rfl⟩:=ry;exact eq_str (bT I q Ar)
  | _=>exact absurd (show false=true from hs) i8
 | byt i =>
  obtain⟨t,rfl⟩:=rx
  cases y with
  | byt j=>obtain⟨t',rfl⟩:=ry;exact PySem.W.eq_bytes (bT I q An)
  | _=>exact absurd (show false=true from hs) i8
 | _=>cases y <;> exact absurd (show false=true from hs) i8
theorem jP:lD X (compareOp .NotEq) Ku:=by
 intro pins s σ H x y v u Q I rx ry h
 obtain⟨hs,q⟩:=h
 cases x with
 | non =>
  cases rx
  cases y with
  | non=>cases ry;exact aJ3 (bT I q (by simp))
  | bl j=>cases ry;exact aJ4 (bT I q (by simp))
  | int j=>obtain⟨t',rfl⟩:=ry;exact aJe (bT I q (by simp))
  | str j=>obtain⟨t',rfl⟩:=ry;exact aJf (bT I q (by simp))
  | _=>exact absurd (show false=true from hs) i8
 | bl i =>
  cases rx
  cases y with
  | non=>cases ry;exact aJ5 (bT I q (by simp))
  | bl j=>cases ry;exact ne_bool (bT I q (congrArg not CD))
  | str j=>obtain⟨t',rfl⟩:=ry;exact aJ6 (bT I q (by simp))
  | _=>exact absurd (show false=true from hs) i8
 | int i =>
  obtain⟨t,rfl⟩:=rx
  cases y with
  | non=>cases ry;exact aJg (bT I q (by simp))
  | int j=>obtain⟨t',rfl⟩:=ry;exact ne_int (bT I q (congrArg not Az))
  | str j=>obtain⟨t',rfl⟩:=ry;exact aJh (bT I q (by simp))
  | _=>exact absurd (show false=true from hs) i8
 | str i =>
  obtain⟨t,rfl⟩:=rx
  cases y with
  | non=>cases ry;exact aJi (bT I q (by simp))
  | bl j=>cases ry;exact aJ7 (bT I q (by simp))
  | int j=>obtain⟨t',rfl⟩:=ry;exact aJj (bT I q (by simp))
  | str j=>obtain⟨t',rfl⟩:=ry;exact ne_str (bT I q (congrArg not Ar))
  | _=>exact absurd (show false=true from hs) i8
 | byt i =>
  obtain⟨t,rfl⟩:=rx
  cases y with
  | byt j=>obtain⟨t',rfl⟩:=ry;exact PySem.W.ne_bytes (bT I q (congrArg not An))
  | _=>exact absurd (show false=true from hs) i8
 | _=>cases y <;> exact absurd (show false=true from hs) i8
theorem E4:lD X (compareOp .Lt) (E1 fun i j=>.bl (decide (i<j))):=DP fun _ _ _ _ _ _ _ q=>lt_int q
theorem E9:lD X (compareOp .LtE) (E1 fun i j=>.bl (decide (i≤j))):=DP fun _ _ _ _ _ _ _ q=>le_int q
theorem oH:lD X (compareOp .Gt) (E1 fun i j=>.bl (decide (j<i))):=DP fun _ _ _ _ _ _ _ q=>gt_int q
theorem Hr:lD X (compareOp .GtE) (E1 fun i j=>.bl (decide (j≤i))):=DP fun _ _ _ _ _ _ _ q=>ge_int q
theorem zJ:lD X (compareOp .Is) (fun x y H Q=>y=.non∧Q (.bl (decide (x=.non))) H):=by
 intro pins s σ H x y v u Q I rx ry h
 obtain⟨rfl,q⟩:=h
 cases ry
 refine is_none_gen (bT I q ?_)
 cases x <;> first
  | (cases rx;rfl)
  | (obtain⟨t,rfl⟩:=rx;rfl)
theorem vV:lD X (compareOp .IsNot) (fun x y H Q=>y=.non∧Q (.bl (!decide (x=.non))) H):=by
 intro pins s σ H x y v u Q I rx ry h
 obtain⟨rfl,q⟩:=h
 cases ry
 refine isnot_none_gen (bT I q ?_)
 cases x <;> first
  | (cases rx;rfl)
  | (obtain⟨t,rfl⟩:=rx;rfl)
theorem aZ(b:Expr){op:CmpOp}(h:op≠.In:=by decide)(h2:op≠.NotIn:=by decide):behindInMarks op b=false:=by
 have e1:(op == CmpOp.In)=false:=by cases op <;> first | rfl | exact absurd rfl h
 have e2:(op == CmpOp.NotIn)=false:=by cases op <;> first | rfl | exact absurd rfl h2
 cases b <;> simp[behindInMarks,e1,e2]
theorem gH{op:CmpOp}{r:R2}(ho:lD X (compareOp op) r)(ha:PE X a ta)(hb:PE X b tb)(hm:behindInMarks op b=false):PE X (.Compare a [op] [b] pos) (Ga r ta tb):=by
 intro pins s σ H Q I h
 exact wpAny_Compare1 (GW ha hb I h fun v u s2 x y H2 I2 rx ry q=>ho pins s2 σ H2 x y v u Q I2 rx ry q) hm
inductive tTestI(Q:Bool→Hp→Prop)(x:V)(H':Hp):Prop
 | mk (k:_) (_:x=.bl k) (_:Q k H'):tTestI Q x H'
def IU(t:TE):TT:=fun σ H Q=>t σ H fun x H'=>tTestI Q x H'
theorem aT{op:CmpOp}{r:R2}(ho:lD X (compareOp op) r)(ha:PE X a ta)(hb:PE X b tb)(hm:behindInMarks op b=false):PT X (.Compare a [op] [b] pos) (IU (Ga r ta tb)):=by
 intro pins s σ H Q I h
 refine wpAny_isTrue_Compare1 (cK (ha pins s σ H _ I h) fun v s1 ⟨x,H1,I1,r1,q1⟩=>cK (hb pins s1 σ H1 _ I1 q1) fun u s2 ⟨y,H2,I2,r2,q2⟩ =>
  cK (ho pins s2 σ H2 x y v u _ I2 r1 r2 q2) fun c s3 ⟨z,H3,I3,r3,k,e,q3⟩=>?_) hm
 subst e
 cases r3
 exact wpAny_truthy_bool ⟨H3,I3,q3⟩
theorem nP:(sizeLine:Nat)<2 ^ 63:=by rw[sizeLine_eq];decide
inductive Rop_add_str(x:V)(y:V)(H:Hp)(Q:VK):Prop
 | mk (i j:_) (_:x=.str i) (_:y=.str j) (_:i.length+j.length≤sizeLine) (_:Q (.str (i++j)) H):Rop_add_str x y H Q
theorem dH:lD X (binaryOp .Add) (fun x y H Q=>Rop_add_str x y H Q):=by
 intro pins s σ H x y v u Q I rx ry h
 obtain⟨i,j,rfl,rfl,hz,q⟩:=h
 obtain⟨t,rfl⟩:=rx
 obtain⟨t',rfl⟩:=ry
 exact add_str (fun t' tk=>⟨.str (i++j),H,I.tok _,⟨_,rfl⟩,q⟩) hz
theorem mI{x:V}{us:List Value}(r:Vals [x] us):∃ u,us=[u]∧RelV x u:=by
 cases r with
 | cons r1 r2=>cases r2;exact⟨_,rfl,r1⟩
theorem HH{x y:V}{us:List Value}(r:Vals [x,y] us):∃ u w',us=[u,w']∧RelV x u∧RelV y w':=by
 cases r with
 | cons r1 r2 =>
  cases r2 with
  | cons r3 r4=>cases r4;exact⟨_,_,rfl,r1,r3⟩
theorem kF:gS X (.type "int") (fun xs H Q=>(∃ i,xs=[.int i]∧Q (.int i) H)∨∃ k,xs=[.bl k]∧Q (.int (if k then 1 else 0)) H):=by
 intro pins s σ H xs us Q I r h
 rcases h with ⟨i,rfl,q⟩ | ⟨k,rfl,q⟩
 ·obtain⟨u,rfl,t,rfl⟩:=mI r
  exact call_int_int ⟨.int i,H,I,⟨_,rfl⟩,q⟩
 ·obtain⟨u,rfl,r1⟩:=mI r
  cases r1
  exact call_int_bool ⟨.int (if k then 1 else 0),H,I.tok _,⟨_,rfl⟩,q⟩
end
structure ObjM(h:Heap)(x dx C:Addr)(mA:Str→Option Value):Prop where
 obj:h.get? x=some (PySem.W.instObj C dx)
 ns:h.Ns1 dx mA
 ne:dx≠x
theorem BU{h:Heap}{dx:Addr}{mA:Str→Option Value}(n:h.Ns1 dx mA):∃ od,h.get? dx=some od∧∀ name,PySem.W.lookIn name od=some (mA name):=by
 obtain⟨o,es,ep,ho,hd,hk,_,hm⟩:=n
 refine⟨o,ho,fun name=>?_⟩
 have e:=hm name
 unfold nsFind findBy at e
 rw[← Array.find?_toList] at e
 unfold PySem.W.lookIn
 rw[hd]
 dsimp only
 split
 ·rename_i y q
  rw[q] at e
  exact congrArg some e
 ·rename_i q
  rw[q] at e
  have a:es.toList.any (·.refKey)=false:=by
   rw[List.any_eq_false]
   intro y hy
   obtain⟨z,t,hkey⟩:=hk y (Array.mem_toList_iff.mp hy)
   simp[DictEntry.refKey,hkey]
  have a':¬ es.toList.any (·.refKey)=true:=by rw[a];exact i8
  rw[if_neg a']
  exact congrArg some e
theorem ObjM.look{h:Heap}{x dx C:Addr}{mA:Str→Option Value}(I:ObjM h x dx C mA):∃ od,PySem.W.InstAt h x (PySem.W.instObj C dx) C (some od)∧∀ name,PySem.W.lookIn name od=some (mA name) :=
 let ⟨od,ho,hl⟩:=BU I.ns
 ⟨od,⟨I.obj,rfl,rfl,ho⟩,hl⟩
section
variable {prog:Program}{w:World}{A:Around}{E:Value→Shared→Prop}{s:Shared}{K:b5}{x dx C f:Addr}{mA:Str→Option Value}{name:Str}{v:Value}
theorem DZ{expr:Bool}{Q:Value→Shared→Prop}(X:K.In s.heap)(I:ObjM s.heap x dx C mA)(hg:PySem.W.plainGet K C name=true)(hh:PySem.W.hasDictIn K C=true)
  (ha:PySem.W.findIn K (.ref C) name=some none) (hv:mA name=some v) (hv':PySem.W.handedIn v=true) (h:Q v { s with toks:=s.toks+1 }) :
  wpAny (model prog w) A (getAttr (.ref x) name expr) Q E s:=by
 obtain⟨od,J,hl⟩:=I.look
 exact PySem.W.get_value X J (aXW hg).1 (PySem.W.findObj_own hh ha rfl (by rw[hl,hv])) hv' h
theorem CQ{pl:Sem Bool}{Q:Value×List Value→Shared→Prop}(X:K.In s.heap)(I:ObjM s.heap x dx C mA)(hg:PySem.W.plainGet K C name=true)
  (hf:PySem.W.findIn K (.ref C) name=some (some (.ref f))) (ht:PySem.W.isFn K (.ref f)=true) (hv:mA name=none) (h:Q (.ref f,[.ref x]) s) :
  wpAny (model prog w) A (getMethod (.ref x) name pl) Q E s:=by
 obtain⟨od,J,hl⟩:=I.look
 exact PySem.W.method_fn X J (aXW hg).1 (aXW hg).2 hf (beq_iff_eq.mp ht) (by show (PySem.W.lookIn name od).map (·.isSome)=some false;rw[hl,hv];rfl) h
theorem Ek{ns:List Str}{Q:Unit→Shared→Prop}(X:K.In s.heap)(I:ObjM s.heap x dx C mA)
  (hs:PySem.W.findIn K (.ref C) "__setattr__"=some (some (.builtin "object.__setattr__"))) (hp:PySem.W.plainOver K C=true) (ht:PySem.W.takerIn K C name=some none) (hh:PySem.W.hasDictIn K C=true)
  (hw:PySem.Within mA ns) (hsz:ns.length≤sizeLine)
  (h:∀ h',ObjM h' x dx C (fun y=>if y=name then some v else mA y)→Heap.SameBut dx s.heap h'→Q () { s with heap:=h',toks:=s.toks+2 }) :
  wpAny (model prog w) A (setAttr (.ref x) name v) Q E s:=by
 obtain⟨od,J,hl⟩:=I.look
 refine PySem.W.set_plain X J hs (PySem.W.osa_open (s:={ s with toks:=s.toks+1 }) (r:=none) X J hp ht fun b=>?_)
 obtain⟨cd,hc,hd'⟩:=PySem.W.any_some hh
 have hx:s.heap.get? x=some ⟨.ref C,some dx,.plain,#[]⟩:=I.obj
 refine wpAny_bind (wpAny_pure (wpAny_bind (wpAny_bind (wpAny_loadPart hx (wpAny_bind (aJx (s:={ s with toks:=s.toks+1 }) (PySem.W.looks_clsIn X hc) ?_))))))
 rw[hd']
 refine wpAny_pure (a:=some dx) (wpAny_bind (wpAny_pure (wpAny_bind ?_)))
 refine wpAny_nsSet1 (s:={ s with toks:=s.toks+1 }) I.ns fun h' hn2 hs2=>?_
 obtain⟨oD,esD,epD,hoD,hdD,hcD⟩:=hn2.count (aJz name v hw)
 refine wpAny_bind (wpAny_lookBehind hoD (by rw[hdD];exact pastItsLine_dict (j7 hcD (by rw[j0];omega))) ?_)
 exact wpAny_pure (h _ ⟨(hs2.2 _ (aQ5 I.ne)).trans I.obj,hn2,I.ne⟩ hs2)
theorem CF{R:Result→Shared→Prop}{vs:List Value}{kw:List (Str×Value)}(X:K.In s.heap)(hm:PySem.W.makesIn K C=true)
  (hi:PySem.W.findIn K (.ref C) "__init__"=some (some (.ref f))) (hf:PySem.W.typeIn K (.ref f)=some (.type "function"))
  (h:codeAny (model prog w) (A.under (.builtin "type.__call__" ⟨.ref C::vs,kw⟩)) (.call (.ref f) ⟨.ref (s.heap.objs.size+1)::vs,kw⟩) (PySem.W.InitBack (s.heap.objs.size+1) R)
   { s with heap:=(s.heap.push PySem.W.emptyDict).push (PySem.W.instObj C s.heap.objs.size) }) :
  codeAny (model prog w) A (.call (.ref C) ⟨vs,kw⟩) R s:=by
 obtain⟨hh,g,d,t,os⟩:=s
 exact PySem.W.make_core (PySem.W.makes_of X hm) (PySem.W.looks_findIn X hi) (fun self=>PySem.W.bind_fn X self hf) (.inl rfl) h
end
def fO(f:Str)(v:V):List (Str×V)→List (Str×V)
 | []=>[(f,v)]
 | (g,x)::r=>if g=f then (g,v)::r else (g,x)::fO f v r
theorem bK(f g:Str)(v:V):∀ fs:List (Str×V),(fO f v fs).lookup g=if g=f then some v else fs.lookup g
 | []=>by
  show List.lookup g [(f,v)]=_
  by_cases h:g=f
  ·have hb:(g == f)=true:=beq_iff_eq.mpr h
   simp only [List.lookup,hb,if_pos h]
  ·have hb:(g == f)=false:=beq_eq_false_iff_ne.mpr h
   simp only [List.lookup,hb,if_neg h]
 | (k,x)::r=>by
  have ih:=bK f g v r
  rw[show fO f v ((k,x)::r)=(if k=f then (k,v)::r else (k,x)::fO f v r) from rfl]
  by_cases hk:k=f
  ·rw[if_pos hk]
   by_cases h:g=k
   ·have hb:(g == k)=true:=beq_iff_eq.mpr h
    simp only [List.lookup,hb,if_pos (h.trans hk)]
   ·have hb:(g == k)=false:=beq_eq_false_iff_ne.mpr h
    simp only [List.lookup,hb,if_neg (fun e:g=f=>h (e.trans hk.symm))]
  ·rw[if_neg hk]
   by_cases h:g=k
   ·have hb:(g == k)=true:=beq_iff_eq.mpr h
    simp only [List.lookup,hb,if_neg (fun e:g=f=>hk (h.symm.trans e))]
   ·have hb:(g == k)=false:=beq_eq_false_iff_ne.mpr h
    simp only [List.lookup,hb]
    exact ih
theorem nD(f:Str)(v:V):∀ fs:List (Str×V),f∈(fO f v fs).map (·.1)∧∀ g,g∈fs.map (·.1)→g∈(fO f v fs).map (·.1)
 | []=>⟨by simp[fO],fun g h=>by simp at h⟩
 | (k,x)::r=>by
  obtain⟨i1,i2⟩:=nD f v r
  rw[show fO f v ((k,x)::r)=(if k=f then (k,v)::r else (k,x)::fO f v r) from rfl]
  by_cases hk:k=f
  ·rw[if_pos hk]
   subst hk
   exact⟨by simp,fun g h=>by simpa using h⟩
  ·rw[if_neg hk]
   refine⟨?_,fun g h=>?_⟩
   ·rw[g9]
    exact c8 _ i1
   ·rw[g9] at h ⊢
    rcases c7.mp h with e | e
    ·exact c7.mpr (.inl e)
    ·exact c8 _ (i2 g e)
theorem nX(f:Str)(v:V):∀ fs:List (Str×V),(fO f v fs).length≤fs.length+1
 | []=>by simp[fO]
 | (k,x)::r=>by
  have ih:=nX f v r
  rw[show fO f v ((k,x)::r)=(if k=f then (k,v)::r else (k,x)::fO f v r) from rfl]
  by_cases hk:k=f
  ·rw[if_pos hk,j0,j0];omega
  ·rw[if_neg hk,j0,j0];omega
theorem RelO.some_of{v:V}{o:Option Value}(r:RelO (some v) o):∃ u,o=some u∧RelV v u:=by
 cases o with
 | none=>exact(show False from r).elim
 | some u=>exact⟨u,rfl,r⟩
theorem RelO.none_of{o:Option Value}(r:RelO none o):o=none:=by
 cases o with
 | none=>rfl
 | some u=>exact(show False from r).elim
theorem A8{v:V}{u:Value}(r:RelV v u):PySem.W.handedIn u=true:=by
 cases v with
 | non=>cases (show u=Value.none from r);rfl
 | bl b=>cases (show u=Value.bool b from r);rfl
 | int i=>obtain⟨t,e⟩:=(show ∃ t,u=Value.int i t from r);cases e;rfl
 | str x=>obtain⟨t,e⟩:=(show ∃ t,u=Value.str x t from r);cases e;rfl
 | byt b=>obtain⟨t,e⟩:=(show ∃ t,u=Value.bytes b t from r);cases e;rfl
 | flt b=>obtain⟨t,e⟩:=(show ∃ t,u=Value.float b t from r);cases e;rfl
 | ref a=>cases (show u=Value.ref a from r);rfl
 | ty n=>cases (show u=Value.type n from r);rfl
section
variable {P:Program}{w:World}{H H':Hp}{h h':Heap}{a C dx:Addr}{fs fs':List (Str×V)}
theorem uU(hok:HOk P w H h)(e:H a=some (.ins C dx fs)):∃ mA,ObjM h a dx C mA∧(∀ f,RelO (fs.lookup f) (mA f))∧PySem.Within mA (fs.map (·.1))∧fs.length≤1000∧H dx=some (.own a):=by
 obtain⟨d,z,ne,ob,mA,n,r,q⟩:=(show ObjOk P w H h a (.ins C dx fs) from hok a _ e)
 exact⟨mA,⟨ob,n,ne⟩,r,q,z,d⟩
end
structure Cls(K:b5)(C:Addr):Prop where
 pg:PySem.W.plainGet K C Str.empty=true
 hd:PySem.W.hasDictIn K C=true
 po:PySem.W.plainOver K C=true
 sa:PySem.W.findIn K (.ref C) "__setattr__"=some (some (.builtin "object.__setattr__"))
theorem Cls.get{K:b5}{C:Addr}(c:Cls K C)(f:Str):PySem.W.plainGet K C f=true:=c.pg
def NoAttr(K:b5)(C:Addr)(f:Str):Prop:=PySem.W.findIn K (.ref C) f=some none
theorem NoAttr.taker{K:b5}{C:Addr}{f:Str}(n:NoAttr K C f):PySem.W.takerIn K C f=some none:=by
 unfold PySem.W.takerIn
 rw[show PySem.W.findIn K (.ref C) f=some none from n]
 rfl
structure Meth(K:b5)(C:Addr)(m:Str)(f:Addr):Prop where
 at_:PySem.W.findIn K (.ref C) m=some (some (.ref f))
 fn:PySem.W.isFn K (.ref f)=true
 kp:PySem.W.keepIn K (.ref f)=true
section
variable {X:Cx}{pins:List (Addr×Obj)}{σ:St}{H:Hp}{s:Shared}{a C dx:Addr}{fs:List (Str×V)}{f:Str}{v:V}{A:Around}{E:Value→Shared→Prop}
theorem zM{b:Bool}{Q:Value→Shared→Prop}(I:Inv X pins σ H s)(e:H a=some (.ins C dx fs))(c:Cls X.K C)(n:NoAttr X.K C f)(l:fs.lookup f=some v)
  (h:∀ u s',Inv X pins σ H s'→RelV v u→Q u s'):wpAny (model X.prog X.w) A (getAttr (.ref a) f b) Q E s:=by
 obtain⟨mA,O,r,_,_,_⟩:=uU I.hok e
 obtain⟨u,hu,ru⟩:=RelO.some_of (v:=v) (o:=mA f) (by rw[← l];exact r f)
 exact DZ I.kIn O (c.get f) c.hd n hu (A8 ru) (h u _ (I.tok _) ru)
theorem lB{m:Str}{g:Addr}{pl:Sem Bool}{Q:Value×List Value→Shared→Prop}(I:Inv X pins σ H s)(e:H a=some (.ins C dx fs))(c:Cls X.K C)(k:Meth X.K C m g)(l:fs.lookup m=none)
  (h:Q (.ref g,[.ref a]) s):wpAny (model X.prog X.w) A (getMethod (.ref a) m pl) Q E s:=by
 obtain⟨mA,O,r,_,_,_⟩:=uU I.hok e
 have hn:mA m=none:=RelO.none_of (by rw[← l];exact r m)
 exact CQ I.kIn O (c.get m) k.at_ k.fn hn h
theorem yW{y:V}{u:Value}{Q:Unit→Shared→Prop}(I:Inv X pins σ H s)(e:H a=some (.ins C dx fs))(c:Cls X.K C)(n:NoAttr X.K C f)(hl:fs.length<1000)(ry:RelV y u)
  (h:∀ s',Inv X pins σ (upd H a (.ins C dx (fO f y fs))) s'→Q () s'):wpAny (model X.prog X.w) A (setAttr (.ref a) f u) Q E s:=by
 obtain⟨mA,O,r,wi,_,ho⟩:=uU I.hok e
 have hz:(fs.map (·.1)).length≤sizeLine:=by rw[b7,sizeLine_eq];omega
 refine Ek I.kIn O c.sa c.po n.taker c.hd wi hz fun h' O' sb=>h _ ?_
 have hd:∃ o,h'.get? dx=some o:=let ⟨o,_,_,e',_⟩:=O'.ns;⟨o,e'⟩
 refine I.write (x:=a) (e:=dx) (by rw[e];exact True.intro) (.inr ho) (fun b q hb z=>(sb.2 b hb).trans z) hd ?_
 refine⟨by rw[aE O.ne];exact ho,?_,O.ne,O'.obj,_,O'.ns,fun g=>?_,fun g hg=>?_⟩
 ·have:=nX f y fs;omega
 ·show RelO ((fO f y fs).lookup g) (if g=f then some u else mA g)
  rw[bK]
  by_cases q:g=f
  ·rw[if_pos q,if_pos q];exact ry
  ·rw[if_neg q,if_neg q];exact r g
 ·by_cases q:g=f
  ·rw[q];exact(nD f y fs).1
  ·refine(nD f y fs).2 g (wi g fun z=>hg ?_)
   show (if g=f then some u else mA g)=none
   rw[if_neg q];exact z
theorem Inv.made(I:Inv X pins σ H s):Inv X pins σ (upd (upd H s.heap.objs.size (.own (s.heap.objs.size+1))) (s.heap.objs.size+1) (.ins C s.heap.objs.size []))
  { s with heap:=(s.heap.push PySem.W.emptyDict).push (PySem.W.instObj C s.heap.objs.size) }:=by
 have e1:(s.heap.push PySem.W.emptyDict).get? s.heap.objs.size=some PySem.W.emptyDict:=d8 s.heap rfl
 have e2:((s.heap.push PySem.W.emptyDict).push (PySem.W.instObj C s.heap.objs.size)).get? (s.heap.objs.size+1)=some (PySem.W.instObj C s.heap.objs.size):=by
  have:=d8 (s.heap.push PySem.W.emptyDict) (o:=PySem.W.instObj C s.heap.objs.size) rfl
  rwa [y9] at this
 have e3:(s.heap.push PySem.W.emptyDict).Ns s.heap.objs.size (fun _=>none):=⟨PySem.W.emptyDict,#[],_,e1,rfl,(fun e he=>absurd he (by simp)),fun _=>rfl⟩
 have I1:=I.laid (a:=s.heap.objs.size) (o:=.own (s.heap.objs.size+1)) (h':=s.heap.push PySem.W.emptyDict) (t':=s.toks) (fun b u q=>b9 _ q) (c0 _) ⟨_,e1⟩
 refine I1.laid (a:=s.heap.objs.size+1) (o:=.ins C s.heap.objs.size []) (t':=s.toks) (fun b u q=>b9 _ q) (aZ7 (y9 _ _)) ?_
 have ne:s.heap.objs.size≠s.heap.objs.size+1:=i3 (aXo _)
 refine⟨by rw[aE ne,aC],l7 _,ne,e2,fun _=>none,(Heap.Ns1.of_empty e3).at fun o q=>b9 _ q,fun _=>True.intro,fun y hy=>absurd rfl hy⟩
theorem ES{prog:Program}{w:World}{env:Env}{e:Expr}{f:Str}{pos:Pos}{s:Shared}{Q:Value→Shared→Prop}(hb:attributeBase e f env (eval e env)=eval e env)
  (h:wpAny (model prog w) A (eval e env) (fun o s₁=>wpAny (model prog w) A (getAttr o f true) Q E s₁) E s):wpAny (model prog w) A (eval (.Attribute e f pos) env) Q E s :=
 Attribute_any_ h (by rw[arm_eval_Attribute,hb])
end
inductive tFldI(K:b5)(f:Str)(Q:VK)(x:V)(H1:Hp):Prop
 | mk (a C dx fs v:_) (_:x=.ref a) (_:H1 a=some (.ins C dx fs)) (_:Cls K C) (_:NoAttr K C f) (_:fs.lookup f=some v) (_:Q v H1):tFldI K f Q x H1
def Jj(K:b5)(ta:TE)(f:Str):TE:=fun σ H Q=>ta σ H fun x H1=>tFldI K f Q x H1
def HM(K:b5)(ta tv:TE)(f:Str):TS:=fun D σ H=>tv σ H fun y H1=>ta σ H1 fun x H2=>∃ a C dx fs,x=.ref a∧H2 a=some (.ins C dx fs)∧Cls K C∧NoAttr K C f∧fs.length<1000 ∧
 D.nx σ (upd H2 a (.ins C dx (fO f y fs)))
section
variable {X:Cx}{o e value:Expr}{f:Str}{pos pos' tpos:Pos}{ta tv:TE}
theorem Gq(he:PE X e ta)(hb:attributeBase e f X.env (eval e X.env)=eval e X.env):PE X (.Attribute e f pos) (Jj X.K ta f):=by
 intro pins s σ H Q I h
 refine ES hb (cK (he pins s σ H _ I h) fun u s1 ⟨x,H1,I1,rx,a,C,dx,fs,v,ex,ea,c,n,l,q⟩=>?_)
 subst ex
 obtain rfl:u=Value.ref a:=rx
 exact zM I1 ea c n l fun u' s2 I2 ru=>⟨v,H1,I2,ru,q⟩
theorem Gu(ha:PE X o ta)(hv:PE X value tv)(hs:swapsWith value (some (.Attribute o f pos')) pos.line X.env=pure false):PS X (.Assign [.Attribute o f pos'] value pos) (HM X.K ta tv f):=by
 intro pins s σ H D I h
 refine plainObj_wpAny_Assign_Attribute (cK (hv pins s σ H _ I h) fun u s1 ⟨y,H1,I1,ry,q⟩=>cK (ha pins s1 σ H1 _ I1 q) fun ov s2 ⟨x,H2,I2,rx,a,C,dx,fs,ex,ea,c,n,l,q2⟩=>?_) hs
 subst ex
 obtain rfl:ov=Value.ref a:=rx
 exact yW I2 ea c n l ry fun s3 I3=>⟨σ,_,I3,q2⟩
theorem Fh{pl:Sem Bool}{m:Str}{apos:Pos}{args:List Expr}{pins:List (Addr×Obj)}{s:Shared}{σ:St}{H:Hp}{Q:Value→Shared→Prop}{te:TE}(he:PE X e te)(I:Inv X pins σ H s)
  (h:te σ H fun x H1=>∃ a C dx fs g,x=.ref a∧H1 a=some (.ins C dx fs)∧Cls X.K C∧Meth X.K C m g∧fs.lookup m=none ∧
   ∀ s1,Inv X pins σ H1 s1→wpAny (model X.prog X.w) X.A (callWith pos (.ref g) [.ref a] (backTo pos (starEach args X.env)) (backToKw pos (keywordEach [] X.env))) Q X.xe s1)
  (ht:eval (.Call (.Attribute e m apos) args [] pos) X.env=(do
   let ov ← eval e X.env
   standAt apos.atName
   let (f,first) ← holding [ov] (getMethod ov m pl)
   callWith pos f first (backTo pos (starEach args X.env)) (backToKw pos (keywordEach [] X.env)))) :
  wpAny (model X.prog X.w) X.A (eval (.Call (.Attribute e m apos) args [] pos) X.env) Q X.xe s:=by
 refine aXH (pl:=pl) (cK (he pins s σ H _ I h) fun u s1 ⟨x,H1,I1,rx,a,C,dx,fs,g,ex,ea,c,k,l,q⟩=>?_) ht
 subst ex
 obtain rfl:u=Value.ref a:=rx
 exact lB I1 ea c k l (q s1 I1)
end
structure Room(k:Nat)(A:Around):Prop where
 hd:A.handled=none
 dp:A.depth+3 * k+5<recursionLimit
 un:A.units+16 * k+200<cLine
theorem Room.mono{j k:Nat}{A:Around}(r:Room k A)(h:j≤k):Room j A:=⟨r.hd,by have:=r.dp;omega,by have:=r.un;omega⟩
theorem Room.deeper{k:Nat}{A:Around}(r:Room (k+1) A)(env:Env):Room k (A.deeper env) :=
 ⟨r.hd,by have:=r.dp;show A.depth+1+3 * k+5<_;omega,by have:=r.un;show A.units+3+16 * k+200<_;omega⟩
theorem Room.in1{k:Nat}{A:Around}(r:Room (k+1) A):Room k A.in1 :=
 ⟨r.hd,by have:=r.dp;show A.depth+3 * k+5<_;omega,by have:=r.un;show A.units+1+16 * k+200<_;omega⟩
theorem zF{A:Around}{C:Addr}{us:List Value}{kw:List (Str×Value)}:(A.under (.builtin "type.__call__" ⟨.ref C::us,kw⟩)).depth=A.depth+1:=by
 first | rfl | simp[Around.under,Code.weight,Code.isCreation,Code.isGuard,Code.isCaller,Code.frames,Code.isFrame,guardIds]
theorem yZ{A:Around}{C:Addr}{us:List Value}{kw:List (Str×Value)}:(A.under (.builtin "type.__call__" ⟨.ref C::us,kw⟩)).units=A.units+1:=by
 first | rfl | simp[Around.under,Code.cUnits,Code.frames,Code.isFrame]
theorem Room.make{k:Nat}{A:Around}(r:Room (k+1) A)(C:Addr)(us:List Value)(kw:List (Str×Value)):Room k (A.under (.builtin "type.__call__" ⟨.ref C::us,kw⟩)) :=
 ⟨r.hd,by have:=r.dp;rw[zF];omega,by have:=r.un;rw[yZ];omega⟩
theorem Room.depth{k:Nat}{A:Around}(r:Room k A):A.depth<recursionLimit:=by have:=r.dp;omega
theorem Room.units{k:Nat}{A:Around}(r:Room k A):A.units+64<cLine:=by have:=r.un;omega
theorem Room.units0{k:Nat}{A:Around}(r:Room k A):A.units<cLine:=by have:=r.un;omega
def BH:TA:=fun _ H Q=>Q [] H
def Aw(ta:TE)(tr:TA):TA:=fun σ H Q=>ta σ H fun x H1=>tr σ H1 fun xs H2=>Q (x::xs) H2
section
variable {X:Cx}{e:Expr}{es:List Expr}{te:TE}{t:TA}{pos:Pos}
theorem aB:PA X [] BH:=fun _ _ _ _ H Q I h=>aXc ⟨[],H,I,.nil,h⟩
theorem aA(ha:PE X e te)(hr:PA X es t)(hs:starEach (e::es) X.env=(false,eval e X.env)::starEach es X.env:=by rfl):PA X (e::es) (Aw te t):=by
 intro pos pins s σ H Q I h
 rw[hs]
 show wpAny _ _ (spliced ((false,eval e X.env)::backTo pos (starEach es X.env))) _ _ s
 refine aQs (cK (ha pins s σ H _ I h) fun u s1 ⟨x,H1,I1,r1,q1⟩=>?_)
 exact cK (hr pos pins s1 σ H1 _ I1 q1) fun us s2 ⟨xs,H2,I2,r2,q2⟩=>⟨x::xs,H2,I2,.cons r1 r2,q2⟩
def JN(t:TA):TE:=fun σ H Q=>t σ H fun xs H1=>xs.length≤sizeLine∧∀ p,H1 p=none→Q (.ref p) (upd H1 p (.tup xs))
def JY(t:TA):TE:=fun σ H Q=>t σ H fun xs H1=>xs.length≤sizeLine∧∀ p,H1 p=none→Q (.ref p) (upd H1 p (.lst xs))
theorem fY{x1}(h:PA X es t):PE X (.Tuple es x1 pos) (JN t):=by
 intro pins s σ H Q I hq
 refine wpAny_Tuple_spliced (cK (h pos pins s σ H _ I hq) fun us s1 ⟨xs,H1,I1,r,z,q⟩=>⟨by rw[← r.length];exact z,?_⟩)
 have hf:H1 s1.heap.objs.size=none:=I1.hok.fresh (c0 _)
 refine⟨.ref s1.heap.objs.size,upd H1 s1.heap.objs.size (.tup xs),I1.laid (t':=s1.toks) (fun b u e=>b9 _ e) (c0 _) ?_,rfl,q _ hf⟩
 exact⟨z,us,r,⟨_,d8 _ rfl,rfl,_,rfl⟩,NoD.new _ _⟩
theorem eE(h:PA X es t):PE X (.List es pos) (JY t):=by
 intro pins s σ H Q I hq
 refine wpAny_List_spliced (cK (h pos pins s σ H _ I hq) fun us s1 ⟨xs,H1,I1,r,z,q⟩=>⟨by rw[← r.length];exact z,?_⟩)
 have hf:H1 s1.heap.objs.size=none:=I1.hok.fresh (c0 _)
 refine⟨.ref s1.heap.objs.size,upd H1 s1.heap.objs.size (.lst xs),I1.laid (t':=s1.toks) (fun b u e=>b9 _ e) (c0 _) ?_,rfl,q _ hf⟩
 exact⟨z,us,0,r,d8 _ rfl⟩
end
abbrev Sp:=List V→Hp→VK→XK→Prop
abbrev BY:=List Env→Hp→Shared→XK→Value→Shared→Prop
structure Env0(P:Program)(w:World)(K:b5)(mg:Str→Option Value)(base:Heap)(A:Around)(outer:List Env)(s:Shared)(H:Hp):Prop where
 frames:A.frames=some outer
 mod:Mod K mg base
 bs:∀ b o,base.get? b=some o→s.heap.get? b=some o∧H b=none
 bsz:base.objs.size≤s.heap.objs.size
 funs:s.heap.FunFrames base outer
 frf:∀ b∈BZ outer,H b=none
 hok:HOk P w H s.heap
 bare:AllBare s.gens
def CE(outer:List Env)(P:Program)(w:World)(H:Hp)(s:Shared)(Q:VK)(u:Value)(s':Shared):Prop :=
 ∃ v H',s'.os=s.os∧AllBare s'.gens∧Un (BZ outer) [] H H' s.heap s'.heap∧HOk P w H' s'.heap∧RelV v u∧Q v H'
def CR(CX:BY)(outer:List Env)(P:Program)(w:World)(H:Hp)(s:Shared)(Q:VK)(E:XK)(r:Result)(s':Shared):Prop :=
 match r with
 | .ok (.ret u)=>CE outer P w H s Q u s'
 | .ok _=>False
 | .error e=>CX outer H s E e s'
structure FnOk(P:Program)(w:World)(K:b5)(mg:Str→Option Value)(base:Heap)(CX:BY)(k:Nat)(f:Addr)(fd:FuncData)(ps:List Str)(sp:Sp):Prop where
 len:∀ vs H Q E,sp vs H Q E→vs.length=ps.length
 run:∀ (A:Around) (outer:List Env) (s:Shared) (H:Hp) (args:Args) (us:List Value) (vs:List V) (Q:VK) (E:XK),Room k A→Env0 P w K mg base A outer s H→BindsTo s fd args (ps.zip us)→Vals vs us→sp vs H Q E →
  codeAny (model P w) A (.call (.ref f) args) (CR CX outer P w H s Q E) s
theorem FnOk.mono{P:Program}{w:World}{K:b5}{mg:Str→Option Value}{base:Heap}{CX:BY}{j k:Nat}{f:Addr}{fd:FuncData}{ps:List Str}{sp:Sp}(F:FnOk P w K mg base CX j f fd ps sp)(h:j≤k) :
  FnOk P w K mg base CX k f fd ps sp:=⟨F.len,fun A outer s H args us vs Q E hr=>F.run A outer s H args us vs Q E (hr.mono h)⟩
theorem Env0.make{P:Program}{w:World}{K:b5}{mg:Str→Option Value}{base:Heap}{A:Around}{outer:List Env}{s:Shared}{H:Hp}(e:Env0 P w K mg base A outer s H)(C:Addr)(us:List Value)(kw:List (Str×Value)) :
  Env0 P w K mg base (A.under (.builtin "type.__call__" ⟨.ref C::us,kw⟩)) outer s H:=⟨by first | exact e.frames | (simpa [Around.under,Code.envs,Code.isFrame,pushEnvs] using e.frames),e.mod,e.bs,e.bsz,e.funs,e.frf,e.hok,e.bare⟩
section
variable {X:Cx}{pins:List (Addr×Obj)}{σ:St}{H:Hp}{s s':Shared}
theorem Inv.env0(I:Inv X pins σ H s):Env0 X.prog X.w X.K X.mg X.base X.A X.stack s H :=
 ⟨I.ok.frames,I.ok.mod,I.bs,j7 I.ok.bsz I.sz,I.stack,I.stkFree,I.hok,I.bare⟩
theorem Inv.after{Q:VK}{u:Value}(I:Inv X pins σ H s)(h:CE X.stack X.prog X.w H s Q u s'):EP X pins σ Q u s':=by
 obtain⟨v,H',os,bare,un,hok,r,q⟩:=h
 obtain⟨hh,g,d,t,os'⟩:=s'
 obtain rfl:os'=s.os:=os
 exact⟨v,H',I.call (h':=hh) (g':=g) (d':=d) (t':=t) (ch:=[]) un hok bare (fun b z=>absurd z (by simp)),r,q⟩
end
def E8(sp:Sp)(dvs:List V)(E:XK)(t:TA):TE:=fun σ H Q=>t σ H fun vs H1=>sp (vs++dvs) H1 Q E
inductive tMethI(C:Addr)(m:Str)(sp:Sp)(dvs:List V)(E:XK)(t:TA)(σ:St)(Q:VK)(x:V)(H1:Hp):Prop
 | mk (a dx fs:_) (_:x=.ref a) (_:H1 a=some (.ins C dx fs)) (_:fs.lookup m=none) (_:t σ H1 fun vs H2=>sp (x::(vs++dvs)) H2 Q E):tMethI C m sp dvs E t σ Q x H1
def Fj(C:Addr)(m:Str)(sp:Sp)(dvs:List V)(E:XK)(ta:TE)(t:TA):TE:=fun σ H Q=>ta σ H fun x H1=>tMethI C m sp dvs E t σ Q x H1
def Jh(C:Addr)(sp:Sp)(dvs:List V)(E:XK)(t:TA):TE:=fun σ H Q=>t σ H fun vs H1=>∀ x dx,H1 x=none→H1 dx=none→dx≠x →
 sp (.ref x::(vs++dvs)) (upd (upd H1 dx (.own x)) x (.ins C dx [])) (fun v H2=>v=.non∧Q (.ref x) H2) E
def Binds(K:b5)(fd:FuncData)(ps:List Str)(ds:List Value):Prop :=
 ∀ (s:Shared) (us:List Value),K.In s.heap→(us++ds).length=ps.length→BindsTo s fd ⟨us,[]⟩ (ps.zip (us++ds))
theorem Binds.all{K:b5}{fd:FuncData}{ps:List Str}(h:∀ us:List Value,us.length=ps.length→bindArgs fd ⟨us,[]⟩=pure (ps.zip us)):Binds K fd ps []:=fun s us _ hl=>by
 rw[l4] at hl ⊢
 exact .of_eq (h us hl)
def lC(CX:BY)(X:Cx)(E:XK):Prop:=∀ (pins:List (Addr×Obj)) (σ:St) (H:Hp) (s:Shared) (e:Value) (s':Shared),Inv X pins σ H s→CX X.stack H s E e s'→X.xe e s'
section
variable {X:Cx}{CX:BY}{k:Nat}{f C:Addr}{fd:FuncData}{ps:List Str}{sp:Sp}{dvs:List V}{ds:List Value}{E:XK}{x m:Str}{p pos apos:Pos}{e o:Expr}{es:List Expr}{ta:TE}{t:TA}
theorem vF{pins:List (Addr×Obj)}{σ:St}{H:Hp}{s:Shared}{Q:VK}{us:List Value}{vs:List V}(F:FnOk X.prog X.w X.K X.mg X.base CX k f fd ps sp)(hr:Room k X.A)(hb:Binds X.K fd ps ds)(hd:Vals dvs ds)(hx:lC CX X E)
  (I:Inv X pins σ H s) (r:Vals vs us) (h:sp (vs++dvs) H Q E):wpAny (model X.prog X.w) X.A (call (.ref f) us) (EP X pins σ Q) X.xe s:=by
 have r2:Vals (vs++dvs) (us++ds):=r.append hd
 have hl:(us++ds).length=ps.length:=by rw[← r2.length];exact F.len _ _ _ _ h
 refine wpAny_call (codeAny_mono (F.run X.A X.stack s H ⟨us,[]⟩ (us++ds) (vs++dvs) Q E hr I.env0 (hb s us I.kIn hl) r2 h) fun r s' hq=>?_)
 cases r with
 | error e=>exact hx pins σ H s e s' I hq
 | ok fl =>
  cases fl with
  | ret u=>exact I.after hq
  | next=>exact False.elim hq
  | brk=>exact False.elim hq
  | cont=>exact False.elim hq
theorem DY(F:FnOk X.prog X.w X.K X.mg X.base CX k f fd ps sp)(hr:Room k X.A)(hg:Gl X x)(hm:X.mg x=some (.ref f))(hk:PySem.W.keepIn X.K (.ref f)=true)(hb:Binds X.K fd ps ds)(hd:Vals dvs ds)(hx:lC CX X E)
  (ha:PA X (e::es) t) (hdb:(x == ("__debug__":Str))=false:=by decide) (he:starEach (e::es) X.env=(false,eval e X.env)::starEach es X.env:=by rfl) (hpl:(backTo pos (starEach es X.env)).any (·.1)=false:=by rfl) :
  PE X (.Call (.Name x p) (e::es) [] pos) (E8 sp dvs E t):=by
 intro pins s σ H Q I h
 refine wpAny_Call_Name_kw (vO I hg hm ?_ hdb)
 refine aZ8 (h₀:=X.base) I.ok.mod.kin hk (cK (ha pos pins s σ H _ I h) fun us s1 ⟨vs,H1,I1,r,q⟩=>⟨I1.kIn,?_⟩) he hpl
 exact vF F hr hb hd hx I1 r q
theorem eP{pl:Sem Bool}(he:PE X o ta)(c:Cls X.K C)(hm:Meth X.K C m f)(F:FnOk X.prog X.w X.K X.mg X.base CX k f fd ps sp)(hr:Room k X.A)(hb:Binds X.K fd ps ds)(hd:Vals dvs ds)(hx:lC CX X E)(ha:PA X (e::es) t)
  (hst:starEach (e::es) X.env=(false,eval e X.env)::starEach es X.env:=by rfl) (hpl:(backTo pos (starEach es X.env)).any (·.1)=false:=by rfl)
  (ht:eval (.Call (.Attribute o m apos) (e::es) [] pos) X.env=(do
   let ov ← eval o X.env
   standAt apos.atName
   let (f,first) ← holding [ov] (getMethod ov m pl)
   callWith pos f first (backTo pos (starEach (e::es) X.env)) (backToKw pos (keywordEach [] X.env))):=by rfl) :
  PE X (.Call (.Attribute o m apos) (e::es) [] pos) (Fj C m sp dvs E ta t):=by
 intro pins s σ H Q I h
 refine aXH (pl:=pl) (cK (he pins s σ H _ I h) fun u s1 ⟨x,H1,I1,rx,a,dx,fs,ex,ea,l,q⟩=>?_) ht
 subst ex
 obtain rfl:u=Value.ref a:=rx
 refine lB I1 ea c hm l ?_
 refine aZ8 (first:=[.ref a]) (h₀:=X.base) I.ok.mod.kin hm.kp (cK (ha pos pins s1 σ H1 _ I1 q) fun us s2 ⟨vs,H2,I2,r,q2⟩=>⟨I2.kIn,?_⟩) hst hpl
 exact vF (us:=.ref a::us) (vs:=.ref a::vs) F hr hb hd hx I2 (.cons rfl r) q2
theorem wS{pl:Sem Bool}(he:PE X o ta)(c:Cls X.K C)(hm:Meth X.K C m f)(F:FnOk X.prog X.w X.K X.mg X.base CX k f fd ps sp)(hr:Room k X.A)(hb:Binds X.K fd ps ds)(hd:Vals dvs ds)(hx:lC CX X E)
  (ht:eval (.Call (.Attribute o m apos) [] [] pos) X.env=(do
   let ov ← eval o X.env
   standAt apos.atName
   let (f,first) ← holding [ov] (getMethod ov m pl)
   callWith pos f first (backTo pos (starEach [] X.env)) (backToKw pos (keywordEach [] X.env))):=by rfl) :
  PE X (.Call (.Attribute o m apos) [] [] pos) (Fj C m sp dvs E ta BH):=by
 intro pins s σ H Q I h
 refine aXH (pl:=pl) (cK (he pins s σ H _ I h) fun u s1 ⟨x,H1,I1,rx,a,dx,fs,ex,ea,l,q⟩=>?_) ht
 subst ex
 obtain rfl:u=Value.ref a:=rx
 refine lB I1 ea c hm l ?_
 exact aZZ (first:=[.ref a]) I1.kIn hm.kp (vF (us:=[.ref a]) (vs:=[.ref a]) F hr hb hd hx I1 (.cons rfl .nil) q)
structure Mk(K:b5)(C f:Addr):Prop where
 makes:PySem.W.makesIn K C=true
 init:PySem.W.findIn K (.ref C) "__init__"=some (some (.ref f))
 fn:PySem.W.isFn K (.ref f)=true
 kp:PySem.W.keepIn K (.ref C)=true
theorem Dt{pins:List (Addr×Obj)}{σ:St}{H:Hp}{s:Shared}{Q:VK}{us:List Value}{vs:List V}(M:Mk X.K C f)(F:FnOk X.prog X.w X.K X.mg X.base CX k f fd ps sp)(hr:Room (k+1) X.A)(hb:Binds X.K fd ps ds)(hd:Vals dvs ds)
  (hx:lC CX X E) (I:Inv X pins σ H s) (r:Vals vs us)
  (h:∀ x dx,H x=none→H dx=none→dx≠x→sp (.ref x::(vs++dvs)) (upd (upd H dx (.own x)) x (.ins C dx [])) (fun v H2=>v=.non∧Q (.ref x) H2) E) :
  wpAny (model X.prog X.w) X.A (call (.ref C) us) (EP X pins σ Q) X.xe s:=by
 have hq:=h (s.heap.objs.size+1) s.heap.objs.size (I.hok.fresh (aQg _)) (I.hok.fresh (c0 _)) (i3 (aXo _))
 have I2:=Inv.made (C:=C) I
 have r2:Vals (V.ref (s.heap.objs.size+1)::(vs++dvs)) (Value.ref (s.heap.objs.size+1)::(us++ds)):=.cons rfl (r.append hd)
 have hl:(Value.ref (s.heap.objs.size+1)::us++ds).length=ps.length:=by
  have e:=r2.length
  rw[F.len _ _ _ _ hq] at e
  exact e.symm
 refine wpAny_call (CF (f:=f) I.kIn M.makes M.init (beq_iff_eq.mp M.fn) (codeAny_mono (F.run _ X.stack _ _ ⟨Value.ref (s.heap.objs.size+1)::us,[]⟩ (Value.ref (s.heap.objs.size+1)::(us++ds)) _ _ E (hr.make C us [])
  (I2.env0.make C us []) (hb _ (Value.ref (s.heap.objs.size+1)::us) I2.kIn hl) r2 hq) fun r s' hq'=>?_))
 cases r with
 | error e=>exact hx pins σ _ _ e s' I2 hq'
 | ok fl =>
  cases fl with
  | ret u =>
   obtain⟨v,H',I3,rv,ev,q3⟩:=I2.after hq'
   subst ev
   exact⟨rv,⟨V.ref (s.heap.objs.size+1),H',I3,rfl,q3⟩⟩
  | next=>exact False.elim hq'
  | brk=>exact False.elim hq'
  | cont=>exact False.elim hq'
theorem B_(M:Mk X.K C f)(F:FnOk X.prog X.w X.K X.mg X.base CX k f fd ps sp)(hr:Room (k+1) X.A)(hg:Gl X x)(hm:X.mg x=some (.ref C))(hb:Binds X.K fd ps ds)(hd:Vals dvs ds)(hx:lC CX X E)
  (hdb:(x == ("__debug__":Str))=false:=by decide):PE X (.Call (.Name x p) [] [] pos) (Jh C sp dvs E BH):=by
 intro pins s σ H Q I h
 refine wpAny_Call_Name_kw (vO I hg hm ?_ hdb)
 exact aZZ I.kIn M.kp (Dt (us:=[]) M F hr hb hd hx I .nil h)
end
def PK(X:Cx)(kws:List Keyword)(t:TA):Prop :=
 ∀ (pos:Pos) (pins:List (Addr×Obj)) (s:Shared) (σ:St) (H:Hp) (Q:List V→Hp→Prop),Inv X pins σ H s→t σ H Q→wpAny (model X.prog X.w) X.A (evalAll ((backToKw pos (keywordEach kws X.env)).map (·.2))) (AP X pins σ Q) X.xe s
section
variable {X:Cx}{CX:BY}{k:Nat}{f C:Addr}{fd:FuncData}{ps ks:List Str}{sp:Sp}{E:XK}{x m:Str}{p pos apos kpos:Pos}{e o:Expr}{es:List Expr}{kws:List Keyword}{te ta:TE}{t tk:TA}{nm:Option Str}
theorem F8:PK X [] BH:=fun _ _ _ _ H Q I h=>wpAny_evalAll_nil ⟨[],H,I,.nil,h⟩
theorem EX(ha:PE X e te)(hr:PK X kws t):PK X (⟨nm,e,kpos⟩::kws) (Aw te t):=by
 intro pos pins s σ H Q I h
 show wpAny _ _ (evalAll ((do let v ← eval e X.env;standAt pos;pure v)::(backToKw pos (keywordEach kws X.env)).map (·.2))) _ _ s
 refine wpAny_evalAll_cons (wpAny_bind (cK (ha pins s σ H _ I h) fun u s1 ⟨x,H1,I1,r1,q1⟩=>wpAny_bind (wpAny_standAt (wpAny_pure ?_))))
 exact cK (hr pos pins s1 σ H1 _ I1 q1) fun us s2 ⟨xs,H2,I2,r2,q2⟩=>⟨x::xs,H2,I2,.cons r1 r2,q2⟩
variable {g:List Value→List Value→List Value}{gV:List V→List V→List V}
end
structure FnScope(N P:List Str)(sc:Scope):Prop where
 kind:sc.kind=.function
 co:sc.isCoroutine=false
 gen:sc.isGenerator=false
 nd:N.Nodup
 pre:N.take P.length=P
 par:∀ x∈P,sc.names.lookup x=some .local∨sc.names.lookup x=some .cell
 nofree:∀ y∈sc.names,y.2≠.free
theorem tR{kindOf:Str→Option NameKind}{x:Str}:∀ {binds:List (Str×Value)} {m:Str→Option Value},(∀ v,(x,v) ∉ binds)→bindL kindOf binds m x=m x
 | [],_,_=>rfl
 | (n,v)::r,m,h=>by
  unfold bindL
  rw[tR fun w hw=>h w (c8 _ hw)]
  split
  ·have:x≠n:=by rintro rfl;exact h v d4
   simp[this]
  ·rfl
theorem sA{kindOf:Str→Option NameKind}{x:Str}:∀ {binds:List (Str×Value)} {m:Str→Option Value},(∀ v,(x,v) ∉ binds)→bindC kindOf binds m x=m x
 | [],_,_=>rfl
 | (n,v)::r,m,h=>by
  unfold bindC
  rw[sA fun w hw=>h w (c8 _ hw)]
  split
  ·rfl
  ·have:x≠n:=by rintro rfl;exact h v d4
   simp[this]
theorem tI{kindOf:Str→Option NameKind}{x:Str}{v:Value}:∀ {P:List Str} {vs:List Value} {i:Nat} {m:Str→Option Value},P.Nodup→P[i]?=some x→vs[i]?=some v→kindOf x=some .local →
  bindL kindOf (P.zip vs) m x=some v
 | [],_,_,_,_,h,_,_=>by simp at h
 | _::_,[],_,_,_,_,h,_=>by simp at h
 | p::P,w::vs,0,m,nd,h1,h2,hk=>by
  simp at h1 h2;subst h1;subst h2
  show bindL kindOf ((p,w)::P.zip vs) m p=_
  unfold bindL
  rw[tR fun v hv=>(l9.mp nd).1 (aZC hv).1,if_pos hk]
  simp
 | p::P,w::vs,i+1,m,nd,h1,h2,hk=>by
  show bindL kindOf ((p,w)::P.zip vs) m x=_
  unfold bindL
  exact tI (i:=i) (l9.mp nd).2 (by simpa using h1) (by simpa using h2) hk
theorem uF{kindOf:Str→Option NameKind}{x:Str}{v:Value}:∀ {P:List Str} {vs:List Value} {i:Nat} {m:Str→Option Value},P.Nodup→P[i]?=some x→vs[i]?=some v→kindOf x≠some .local →
  bindC kindOf (P.zip vs) m x=some v
 | [],_,_,_,_,h,_,_=>by simp at h
 | _::_,[],_,_,_,_,h,_=>by simp at h
 | p::P,w::vs,0,m,nd,h1,h2,hk=>by
  simp at h1 h2;subst h1;subst h2
  show bindC kindOf ((p,w)::P.zip vs) m p=_
  unfold bindC
  rw[sA fun v hv=>(l9.mp nd).1 (aZC hv).1,if_neg hk]
  simp
 | p::P,w::vs,i+1,m,nd,h1,h2,hk=>by
  show bindC kindOf ((p,w)::P.zip vs) m x=_
  unfold bindC
  exact uF (i:=i) (l9.mp nd).2 (by simpa using h1) (by simpa using h2) hk
def oJ(N:List Str)(vs:List V):St:=vs.map some++List.replicate (N.length - vs.length) none
def Bp(CX:BY)(P:Program)(w:World)(K:b5)(mg:Str→Option Value)(base:Heap)(N:List Str)(qual:Str)(scope:Scope)(f:Addr)(cd:Value)(A:Around)(outer:List Env)(s:Shared)(H:Hp)(E:XK):Cx where
 prog:=P
 w:=w
 K:=K
 mg:=mg
 base:=base
 A:=A.deeper (envOfC qual scope s.heap.objs.size f cd)
 N:=N
 s₀:=s
 H₀:=H
 env:=envOfC qual scope s.heap.objs.size f cd
 outer:=outer
 stack:=envOfC qual scope s.heap.objs.size f cd::outer
 ex:=[]
 calm:=true
 fn:=fun _=>true
 pn:=[]
 xe:=fun e s'=>wpAny (model P w) (A.deeper (envOfC qual scope s.heap.objs.size f cd)) (leaving (envOfC qual scope s.heap.objs.size f cd) e) (fun _ s''=>CX outer H s E e s'') (fun e' s''=>CX outer H s E e' s'') s'
theorem xR{sc:Scope}{n:Nat}{x:Str}(h:sc.names.lookup x=some .cell):∃ c,(cellsFrom n sc.names []).lookup x=some c:=by
 have q:=aZF sc.names n [] (.inl h)
 exact aQ8.mp q
theorem Bs{CX:BY}{P:Program}{w:World}{K:b5}{mg:Str→Option Value}{base:Heap}{N ps:List Str}{qual:Str}{scope:Scope}{f:Addr}{cd:Value}{A:Around}{outer:List Env}{s s1:Shared}{H:Hp}{E:XK}{us:List Value}{vs:List V}
  (S:FnScope N ps scope) (hd:A.handled=none) (e0:Env0 P w K mg base A outer s H) (hl:vs.length=ps.length) (r:Vals vs us)
  (x:InCallC s s.heap.objs.size (bindL (envOfC qual scope s.heap.objs.size f cd).kindOf (ps.zip us) fun _=>none) (cellsFrom (s.heap.objs.size+1) scope.names []) (bindC (envOfC qual scope s.heap.objs.size f cd).kindOf (ps.zip us) fun _=>none) s1) :
  Inv (Bp CX P w K mg base N qual scope f cd A outer s H E) [] (oJ N vs) H s1:=by
 have hpl:ps.length≤N.length:=by have:=congrArg List.length S.pre;rw[i7] at this;omega
 obtain⟨h1,tk,rfl,hk⟩:=x.done
 have noA:∀ b:Addr,b ∉ (Bp CX P w K mg base N qual scope f cd A outer s H E).ex:=fun b z=>absurd (show b∈([]:List Addr) from z) (by simp)
 refine⟨⟨e0.mod,S.kind,rfl,rfl,c0 _,fun y z c h1 h2=>?_,fun y hy=>?_,fun y c _ h=>?_,fun _=>hd,Around.frames_deeper e0.frames,.inr ⟨rfl,rfl⟩,fun b z=>absurd z (noA b),e0.bs,e0.bsz,fun b _ _=>noA b,fun b z=>absurd z (noA b),e0.funs,e0.frf⟩,
  rfl,e0.bare,Un.kept hk,⟨_,x.toInCall.ns,fun i y v h1 h2 h3=>?_⟩,fun y c h=>⟨_,x.cell y c h⟩,e0.hok.fresh (c0 _),fun y c h=>?_,fun p hp=>absurd (show p∈([]:List (Addr×Obj)) from hp) (by simp),e0.hok.kept hk,?_⟩
 ·exact name_of_addr x.apart (p8 h1) (p8 h2)
 ·have hy:scope.names.lookup y=some .cell∨scope.names.lookup y=some .free:=hy
  rcases hy with hy | hy
  ·exact xR hy
  ·exact absurd rfl (S.nofree _ (p8 hy))
 ·exact aQ6 (x.above y c (p8 h))
 ·have hi:i<vs.length:=by
   unfold oJ at h2
   by_cases hi:i<vs.length
   ·exact hi
   ·rw[u0 (by simpa using hi)] at h2
    rw[List.getElem?_replicate] at h2
    split at h2 <;> cases h2
  have ha:vs[i]?=some v:=by
   unfold oJ at h2
   rw[l5 (by simpa using hi),c9] at h2
   cases e:vs[i]? with
   | none=>rw[e] at h2;cases h2
   | some a=>rw[e] at h2;cases h2;rfl
  obtain⟨u,hu,rv⟩:=r.get ha
  have hp:ps[i]?=some y:=by
   rw[← S.pre,aQI (by omega)];exact h1
  have ndP:ps.Nodup:=by rw[← S.pre];exact S.nd.sublist (List.take_sublist _ _)
  refine⟨u,rv,?_⟩
  rcases S.par y (b6 hp) with k | k
  ·exact .inl ⟨k,tI ndP hp hu k⟩
  ·obtain⟨c,e⟩:=xR (n:=s.heap.objs.size+1) k
   refine .inr ⟨.inl k,c,e,?_⟩
   have q:=x.cell y c e
   rw[uF ndP hp hu (by show scope.names.lookup y≠_;rw[k];decide)] at q
   exact q
 ·exact e0.hok.fresh (aQ6 (x.above y c (p8 h)))
 ·unfold oJ
  show _=N.length
  rw[c5,b7,aXI]
  omega
theorem Ji{CX:BY}{P:Program}{w:World}{K:b5}{mg:Str→Option Value}{base:Heap}{k:Nat}{f:Addr}{name qual:Str}{params:Arguments}{body:List Stmt}{scope:Scope}{dV kV doc pm cdv ct oc:Value}{an od:Option Addr}
  {osl:Array (Option Value)} {N ps:List Str} {sp:Sp} (lk:K.lookup f=some ⟨oc,od,.func (PySem.W.fnOf name qual params body scope dV kV doc pm an cdv ct),osl⟩) (hcd:PySem.W.codeIn K cdv qual=true) (S:FnScope N ps scope)
  (len:∀ vs H Q E,sp vs H Q E→vs.length=ps.length)
  (hbody:∀ (A:Around) (outer:List Env) (s:Shared) (H:Hp) (vs:List V) (Q:VK) (E:XK),Room k (A.deeper (envOfC qual scope s.heap.objs.size f cdv))→sp vs H Q E →
   ∃ t,PSs (Bp CX P w K mg base N qual scope f cdv A outer s H E) body t∧t { nx:=fun _ H'=>Q .non H',rt:=Q } (oJ N vs) H) :
  FnOk P w K mg base CX (k+1) f (PySem.W.fnOf name qual params body scope dV kV doc pm an cdv ct) ps sp:=by
 refine⟨len,fun A outer s H args us vs Q E hr e0 hb r hsp=>?_⟩
 have hl:=len _ _ _ _ hsp
 have KX:K.In s.heap:=e0.mod.kin.keeps fun b o e=>(e0.bs b o e).1
 have lim:s.heap.NoLimit:=e0.mod.nolimit.keeps fun b o e=>(e0.bs b o e).1
 have hkind:∀ y∈ps.zip us,scope.names.lookup y.1=some .local∨(scope.names.lookup y.1=some .cell∧((cellsFrom (s.heap.objs.size+1) scope.names []).lookup y.1).isSome=true):=fun ⟨n,v⟩ hy=>by
  rcases S.par n (aZC hy).1 with q | q
  ·exact .inl q
  ·exact .inr ⟨q,aZF _ _ _ (.inl q)⟩
 refine codeAny_call_function hr.depth (KX _ _ lk) rfl S.co S.gen rfl (PySem.W.codeRec_of KX hcd) (hb _ _ _ _ ?_)
 refine wpAny_newFunctionEnv_cells S.kind hkind fun env he s1 x=>?_
 subst he
 refine⟨lim.keeps x.toInCall.keep,codeAny_func ?_⟩
 obtain⟨t,ht,hq⟩:=hbody A outer s H vs Q E (hr.deeper _) hsp
 have I:Inv (Bp CX P w K mg base N qual scope f cdv A outer s H E) [] (oJ N vs) H s1:=Bs S hr.hd e0 hl r x
 refine wpAny_mono (ht [] s1 (oJ N vs) H _ I hq) (fun fl s' hs=>?_) fun e s' hs=>hs
 have fin:∀ {σ':St} {H':Hp} {v:V} {u:Value},Inv (Bp CX P w K mg base N qual scope f cdv A outer s H E) [] σ' H' s'→RelV v u→Q v H'→CE outer P w H s Q u s' :=
  fun {σ' H' v u} J rv q=>⟨v,H',J.os,J.bare,J.base,J.hok,rv,q⟩
 cases fl with
 | ret u =>
  obtain⟨v,σ',H',J,rv,q⟩:=hs
  exact fin J rv q
 | next =>
  obtain⟨σ',H',J,q⟩:=hs
  exact fin (v:=V.non) (u:=Value.none) J rfl q
 | brk =>
  obtain⟨_,_,_,q⟩:=hs
  exact False.elim q
 | cont =>
  obtain⟨_,_,_,q⟩:=hs
  exact False.elim q
section
variable {X:Cx}{x:Str}{p pos:Pos}{e:Expr}{es:List Expr}{t:TA}{id T:String}{r:List V→Hp→VK→Prop}
def JJ(r:List V→Hp→VK→Prop)(t:TA):TE:=fun σ H Q=>t σ H fun vs H1=>r vs H1 Q
theorem aU(hc:gS X (.builtin id) r)(hg:Gl X x)(hm:X.mg x=none)(hv:bootBuiltins x=some (.builtin id))(ha:PA X (e::es) t)(hn:x≠"__name__":=by decide)(hdb:(x == ("__debug__":Str))=false:=by decide)
  (he:starEach (e::es) X.env=(false,eval e X.env)::starEach es X.env:=by rfl) (hpl:(backTo pos (starEach es X.env)).any (·.1)=false:=by rfl):PE X (.Call (.Name x p) (e::es) [] pos) (JJ r t):=by
 intro pins s σ H Q I h
 refine wpAny_Call_Name_kw (jC I hg hm hv ?_ hn hdb)
 exact aJC (cK (ha pos pins s σ H _ I h) fun us s1 ⟨vs,H1,I1,r1,q1⟩=>hc pins s1 σ H1 vs us Q I1 r1 q1) he hpl
theorem bN(hc:gS X (.type T) r)(hg:Gl X x)(hm:X.mg x=none)(hv:bootBuiltins x=some (.type T))(ha:PA X (e::es) t)(hn:x≠"__name__":=by decide)(hdb:(x == ("__debug__":Str))=false:=by decide)
  (he:starEach (e::es) X.env=(false,eval e X.env)::starEach es X.env:=by rfl) (hpl:(backTo pos (starEach es X.env)).any (·.1)=false:=by rfl):PE X (.Call (.Name x p) (e::es) [] pos) (JJ r t):=by
 intro pins s σ H Q I h
 refine wpAny_Call_Name_kw (jC I hg hm hv ?_ hn hdb)
 exact t9 (cK (ha pos pins s σ H _ I h) fun us s1 ⟨vs,H1,I1,r1,q1⟩=>hc pins s1 σ H1 vs us Q I1 r1 q1) he hpl
end
end L2
namespace HT
open PySem PyProof.Rows
def lexLt:List Int→List Int→Bool
 | [],[]=>false
 | [],_::_=>true
 | _::_,[]=>false
 | x::xs,y::ys=>if x=y then lexLt xs ys else decide (x<y)
theorem lexLt_cons(x y:Int)(xs ys:List Int):lexLt (x::xs) (y::ys)=if x=y then lexLt xs ys else decide (x<y):=rfl
theorem CA(A:Around)(s:Shared)(a:Int)(t:Tok)(c:Int)(u:Tok)(prog:Program)(w:World)(E:Value→Shared→Prop)(Q:Value→Shared→Prop)(h:Q (.bool (decide (a<c))) s) :
  wpAny (model prog w) A (richCompare .Lt (.int a t) (.int c u)) Q E s :=
 (aJv h:wpAny (model prog w) A (compareOp .Lt (.int a t) (.int c u)) Q E s)
section
variable {prog:Program}{w:World}{A:Around}{E:Value→Shared→Prop}{s:Shared}
theorem cat_tup{t b:Addr}{vs ws:List Value}{Q:Value→Shared→Prop}(ht:IsTup s.heap t vs.toArray)(hb:IsTup s.heap b ws.toArray)(hv:vs≠[])
  (h1:ws=[]→Q (.ref t) s) (h2:ws≠[]→Q (.ref s.heap.objs.size) { s with heap:=s.heap.push { cls:=.type "tuple",data:=.seq (vs++ws).toArray } })
  (hsz:vs.length+ws.length≤sizeLine):wpAny (model prog w) A (binaryOp .Add (.ref t) (.ref b)) Q E s:=by
 obtain⟨⟨cls,dd,data,sl⟩,ho,hc,n,hd⟩:=id ht
 obtain⟨⟨cls2,dd2,data2,sl2⟩,ho2,hc2,n2,hd2⟩:=id hb
 simp only at hc hd hc2 hd2
 subst hc hd hc2 hd2
 have e:vs.toArray++ws.toArray=(vs++ws).toArray:=by simp
 by_cases hw:ws=[]
 ·exact concat_meets ⟨_,ho,rfl⟩ ⟨_,ho2,rfl⟩ noFill_tuple_add seq_tuple_add aZG aXy (aXp _ _)
   (tuple_addW1 t b vs.toArray ws.toArray n n2 dd dd2 sl sl2 (by simpa using hv) (by simp[hw])) ⟨ho,ho2,h1 hw⟩
 ·refine concat_meets ⟨_,ho,rfl⟩ ⟨_,ho2,rfl⟩ noFill_tuple_add seq_tuple_add aZG aXy (aXp _ _)
   (tuple_addW2 t b vs.toArray ws.toArray n n2 dd dd2 sl sl2 (by simpa using hv) (by simpa using hw) (by rw[d3,d3];exact hsz)) ⟨ho,ho2,?_⟩
  rw[e]
  exact h2 hw
def sIx(n d:Nat):Option Int→Nat
 | none=>d
 | some v=>if v<0 then (v+(n:Int)).toNat else min v.toNat n
theorem Hh(n d:Nat)(hd:d≤n)(o:Option Int):sIx n d o≤n:=by
 cases o with
 | none=>exact hd
 | some v =>
  show (if v<0 then (v+(n:Int)).toNat else min v.toNat n)≤n
  by_cases hv:v<0
  ·rw[if_pos hv];omega
  ·rw[if_neg hv];exact Nat.min_le_right _ _
theorem AO(v:Int)(n d:Nat):(if v<0 then max (v+(n:Int)) 0 else min v (n:Int))=((sIx n d (some v):Nat):Int):=by
 show (if v<0 then max (v+(n:Int)) 0 else min v (n:Int))=(((if v<0 then (v+(n:Int)).toNat else min v.toNat n):Nat):Int)
 by_cases hv:v<0
 ·simp only [if_pos hv];omega
 ·simp only [if_neg hv];omega
theorem Ab(lo hi:Option Int)(n:Nat):Builtin.Slice.sliceAdjust lo hi 1 (n:Int)=(((sIx n 0 lo:Nat):Int),((sIx n n hi:Nat):Int)):=by
 have h1:¬ ((1:Int)<0):=by omega
 unfold Builtin.Slice.sliceAdjust
 simp only [h1,if_false]
 refine Prod.ext ?_ ?_
 ·cases lo with
  | none=>rfl
  | some v=>exact AO v n 0
 ·cases hi with
  | none=>rfl
  | some v=>exact AO v n n
theorem zA(i j:Nat):Builtin.Slice.slicePlaces (i:Int) (j:Int) 1=j - i:=by
 unfold Builtin.Slice.slicePlaces
 have h1:(1:Int) > 0:=by omega
 simp only [h1,if_true,Int.ediv_one]
 split <;> omega
theorem slicePart_{v:Value}{o:Option Int}{Q:Option Int→Shared→Prop}(p:IsPart v o)(h:Q o s):wpAny (model prog w) A (Builtin.Slice.slicePartIndex v) Q E s:=by
 cases p with
 | none=>exact slicePart_none h
 | int i t=>exact slicePart_int h
theorem sliceApplied_gen{sl:Addr}{vl vu:Value}{lo hi:Option Int}{n:Nat}{Q:Int×Int×Nat→Shared→Prop}(hs:s.heap.IsSliceOf sl vl vu .none)(pl:IsPart vl lo)(pu:IsPart vu hi)
  (h:Q (((sIx n 0 lo:Nat):Int),1,sIx n n hi - sIx n 0 lo) s):wpAny (model prog w) A (Builtin.Slice.sliceApplied (.ref sl) (pure (n:Int))) Q E s:=by
 obtain⟨os,hos,hcs,hds⟩:=id hs
 unfold Builtin.Slice.sliceApplied Builtin.Slice.sliceFields
 refine wpAny_bind (wpAny_bind (wpAny_field hos hds (x:=vl) rfl (wpAny_bind (wpAny_field hos hds (x:=vu) rfl (wpAny_bind (wpAny_field hos hds (x:=.none) rfl (wpAny_pure ?_)))))))
 refine wpAny_bind (slicePart_none ?_)
 show wpAny _ _ (if ((1:Int) == 0)=true then _ else _) _ _ s
 rw[if_neg (by decide)]
 refine wpAny_bind (slicePart_ pl (wpAny_bind (slicePart_ pu (wpAny_bind (wpAny_pure ?_)))))
 show wpAny _ _ (match Builtin.Slice.sliceAdjust lo hi 1 (n:Int) with | (lo,hi)=>pure (lo,(1:Int),Builtin.Slice.slicePlaces lo hi 1)) _ _ s
 rw[Ab lo hi n]
 show wpAny _ _ (pure (((sIx n 0 lo:Nat):Int),(1:Int),Builtin.Slice.slicePlaces ((sIx n 0 lo:Nat):Int) ((sIx n n hi:Nat):Int) 1)) _ _ s
 rw[zA]
 exact wpAny_pure h
theorem De(xs:Array Value)(i k:Nat):((List.range k).filterMap fun (m:Nat)=>xs[((i:Int)+(m:Int) * 1).toNat]?).toArray=((xs.toList.drop i).take k).toArray:=by
 have e:(fun (m:Nat)=>xs[((i:Int)+(m:Int) * 1).toNat]?)=fun m=>xs[i+m]?:=by
  funext m
  have:((i:Int)+(m:Int) * 1).toNat=i+m:=by omega
  rw[this]
 rw[e]
 have:=pick_run xs i k
 rw[List.filterMap_map] at this
 have e2:((fun x=>xs[x]?) ∘ fun x=>i+x)=fun m=>xs[i+m]?:=rfl
 rw[e2] at this
 rw[this]
theorem getItem_tuple_cut{t sl:Addr}{items:Array Value}{vl vu:Value}{lo hi:Option Int}{Q:Value→Shared→Prop}(ht:IsTup s.heap t items)(hs:s.heap.IsSliceOf sl vl vu .none)(pl:IsPart vl lo)(pu:IsPart vu hi)
  (hw:¬ (sIx items.size 0 lo=0∧sIx items.size items.size hi=items.size))
  (h:Q (.ref s.heap.objs.size) { s with heap:=s.heap.push { cls:=.type "tuple",data:=.seq ((items.toList.drop (sIx items.size 0 lo)).take (sIx items.size items.size hi - sIx items.size 0 lo)).toArray } })
  (hsz:items.size≤sizeLine):wpAny (model prog w) A (getItem (.ref t) (.ref sl)) Q E s:=by
 have htake:sizeOk (.seq ((items.toList.drop (sIx items.size 0 lo)).take (sIx items.size items.size hi - sIx items.size 0 lo)).toArray):=by
  show ((items.toList.drop (sIx items.size 0 lo)).take (sIx items.size items.size hi - sIx items.size 0 lo)).toArray.size≤sizeLine
  rw[d3,i7,y4,u7]
  omega
 have hj:sIx items.size items.size hi≤items.size:=Hh _ _ (c0 _) hi
 obtain⟨os,hos,hcs,hds⟩:=id hs
 have hTs:s.TypeIs (.ref sl) "slice":=⟨os,hos,hcs⟩
 unfold getItem
 try with_reducible refine wpAny_holding ?_
 first | refine wpAny_bind (wpAny_pure ?_) | skip
 refine wpAny_bind (wpAny_sequenceKey ht.typeIs (by decide) ?_)
 refine wpAny_bind (wpAny_callSpecial?_slot (name:=Str.ofString "__getitem__") ht.typeIs o0
  (wpAny_call_entry o0 ht.typeIs entry_tuple_getitem ?_ (args_tuple_getitem _ _)))
 show wpAny _ _ (Builtin.Tuple.tupleItemsOf (.ref t) >>= _) _ _ s
 refine wpAny_bind (tupleItemsOf_ ht ?_)
 refine wpAny_bind (wpAny_typeOf hTs ?_)
 rw[if_pos (by decide)]
 refine wpAny_bind (sliceApplied_gen hs pl pu ?_)
 have hno:¬ ((((sIx items.size 0 lo:Nat):Int) == 0 && (1:Int) == 1 && (sIx items.size items.size hi - sIx items.size 0 lo) == items.size)=true):=by
  intro q
  rw[aQE,aQE] at q
  have q1:((sIx items.size 0 lo:Nat):Int)=0:=eq_of_beq q.1.1
  have q2:sIx items.size items.size hi - sIx items.size 0 lo=items.size:=eq_of_beq q.2
  exact hw ⟨by omega,by omega⟩
 show wpAny _ _ (if (((sIx items.size 0 lo:Nat):Int) == 0 && (1:Int) == 1 && (sIx items.size items.size hi - sIx items.size 0 lo) == items.size)=true then _ else _) _ _ s
 rw[if_neg hno,De]
 first
  | exact wpAny_bind (m:=Builtin.Tuple.tupleExact _) (wpAny_newObj_type (wpAny_pure ⟨_,rfl,wpAny_pure h⟩) htake)
  | exact wpAny_bind (m:=Builtin.Tuple.tupleExact _) (wpAny_newObj_type (wpAny_bind (wpAny_pure (wpAny_pure ⟨_,rfl,wpAny_pure h⟩))) htake)
  | exact wpAny_bind (wpAny_bind (m:=Builtin.Tuple.tupleExact _) (wpAny_newObj_type (wpAny_pure (wpAny_pure ⟨_,rfl,wpAny_pure h⟩)) htake))
  | exact wpAny_bind (wpAny_bind (m:=Builtin.Tuple.tupleExact _) (wpAny_newObj_type (wpAny_pure ⟨_,rfl,wpAny_pure h⟩) htake))
end
end HT
namespace L2
open PySem PySem.Spec PyProof.Rows
abbrev TO:=St→Hp→(Option Int→Hp→Prop)→Prop
def PO(X:Cx)(e:Option Expr)(t:TO):Prop :=
 ∀ (pins:List (Addr×Obj)) (s:Shared) (σ:St) (H:Hp) (Q:Option Int→Hp→Prop),Inv X pins σ H s→t σ H Q →
  wpAny (model X.prog X.w) X.A (evalPart e X.env) (fun u s'=>∃ o H',Inv X pins σ H' s'∧IsPart u o∧Q o H') X.xe s
def Ec:TO:=fun _ H Q=>Q none H
inductive tPartI(Q:Option Int→Hp→Prop)(x:V)(H1:Hp):Prop
 | mk (i:_) (_:x=.int i) (_:Q (some i) H1):tPartI Q x H1
def Iz(t:TE):TO:=fun σ H Q=>t σ H fun x H1=>tPartI Q x H1
theorem rG{ns:List Int}:∀ {us:List Value},Vals (ns.map V.int) us→IntsAre us ns:=by
 induction ns with
 | nil=>intro us r;rw[aXN] at r;cases r;exact .nil
 | cons n ns ih =>
  intro us r
  rw[g9] at r
  cases r with
  | cons r1 r2 =>
   obtain⟨t,e⟩:=r1
   subst e
   exact .cons n t (ih r2)
section
variable {X:Cx}{e:Expr}{te:TE}{lo hi:Option Expr}{tl th:TO}{pos p2:Pos}
theorem gY:PO X none Ec:=by
 intro pins s σ H Q I h
 rw[evalPart_none]
 exact wpAny_pure ⟨none,H,I,.none,h⟩
theorem gD(h:PE X e te):PO X (some e) (Iz te):=by
 intro pins s σ H Q I hw
 rw[evalPart_some]
 refine cK (h pins s σ H _ I hw) fun u s1 ⟨x,H1,I1,r1,q1⟩=>?_
 obtain⟨i,rfl,q⟩:=q1
 obtain⟨t,rfl⟩:=r1
 exact⟨some i,H1,I1,.int i t,q⟩
def IM(X:Cx)(r:V→Option Int→Option Int→Hp→VK→Prop):Prop :=
 ∀ (pins:List (Addr×Obj)) (s:Shared) (σ:St) (H:Hp) (x:V) (v vl vu:Value) (lo hi:Option Int) (sl:Addr) (Q:VK),Inv X pins σ H s→RelV x v→s.heap.IsSliceOf sl vl vu .none→IsPart vl lo→IsPart vu hi→r x lo hi H Q →
  ∃ T id,typeLookup (.type T) "__getitem__"=pure (some (.builtin id))∧s.TypeIs v T∧wpAny (model X.prog X.w) X.A (getItem v (.ref sl)) (EP X pins σ Q) X.xe s
def Kv(r:V→Option Int→Option Int→Hp→VK→Prop)(te:TE)(tl th:TO):TE:=fun σ H Q=>te σ H fun x H1=>tl σ H1 fun l H2=>th σ H2 fun u H3=>r x l u H3 Q
theorem gR{r:V→Option Int→Option Int→Hp→VK→Prop}(hr:IM X r)(he:PE X e te)(hl:PO X lo tl)(hu:PO X hi th):PE X (.Subscript e (.Slice lo hi none p2) pos) (Kv r te tl th):=by
 intro pins s σ H Q I h
 refine Subscript_ (cK (he pins s σ H _ I h) fun v s1 ⟨x,H1,I1,r1,q1⟩=>?_)
 refine wpAny_Slice (cK (hl pins s1 σ H1 _ I1 q1) fun vl s2 ⟨l,H2,I2,pl,q2⟩=>cK (hu pins s2 σ H2 _ I2 q2) fun vu s3 ⟨u,H3,I3,pu,q3⟩=>?_)
 rw[evalPart_none]
 refine wpAny_pure ?_
 have I4:Inv X pins σ H3 { s3 with heap:=s3.heap.push { cls:=.type "slice",data:=.fields #[vl,vu,.none] } }:=I3.kept (t':=s3.toks) fun b ob q=>b9 _ q
 obtain⟨T,id,hT,ht,hg⟩:=hr pins { s3 with heap:=s3.heap.push { cls:=.type "slice",data:=.fields #[vl,vu,.none] } } σ H3 x v vl vu l u s3.heap.objs.size Q I4 r1 (aZ9 ..) pl pu q3
 show wpAny (model X.prog X.w) X.A (subscriptTail e (.Slice lo hi none p2) v (.ref s3.heap.objs.size)) (EP X pins σ Q) X.xe { s3 with heap:=s3.heap.push { cls:=.type "slice",data:=.fields #[vl,vu,.none] } }
 exact tail_any (ops:=[.ref s3.heap.objs.size,v]) ht hT hg (by with_unfolding_all rfl)
def wM(xs:List V)(lo hi:Option Int):List V:=(xs.drop (HT.sIx xs.length 0 lo)).take (HT.sIx xs.length xs.length hi - HT.sIx xs.length 0 lo)
theorem nZ(xs:List V)(lo hi:Option Int):(wM xs lo hi).length≤xs.length:=by
 unfold wM
 rw[i7,y4]
 omega
inductive rSlTI(K:b5)(x:V)(lo:Option Int)(hi:Option Int)(H:Hp)(Q:VK):Prop
 | mk (a xs:_) (_:x=.ref a) (_:SqT K H a xs) (_:¬ (HT.sIx xs.length 0 lo=0∧HT.sIx xs.length xs.length hi=xs.length)) (_:∀ p,H p=none→Q (.ref p) (upd H p (.tup (wM xs lo hi)))):rSlTI K x lo hi H Q
def JP(K:b5):V→Option Int→Option Int→Hp→VK→Prop:=fun x lo hi H Q=>rSlTI K x lo hi H Q
theorem GZ:IM X (JP X.K):=by
 intro pins s σ H x v vl vu lo hi sl Q I rx hs pl pu h
 obtain⟨a,xs,rfl,hx,hw,q⟩:=h
 cases rx
 obtain⟨its,r,ht,hz⟩:=I.tuple hx
 have hlen:its.toArray.size=xs.length:=by rw[d3];exact r.length.symm
 refine⟨"tuple",_,o0.lookup,ht.typeIs,?_⟩
 refine HT.getItem_tuple_cut ht hs pl pu (by rw[hlen];exact hw) ?_ (by rw[hlen];exact hz)
 rw[hlen]
 refine⟨.ref s.heap.objs.size,_,I.laid (t':=s.toks) (o:=.tup (wM xs lo hi)) (fun b ob q=>b9 _ q) (c0 _) ?_,rfl,q _ (I.hok.fresh (c0 _))⟩
 exact⟨j7 (nZ xs lo hi) hz,_,(r.drop (HT.sIx xs.length 0 lo)).take (HT.sIx xs.length xs.length hi - HT.sIx xs.length 0 lo),aX3 _ _,NoD.new _ _⟩
inductive rCatTI(K:b5)(x:V)(y:V)(H:Hp)(Q:VK):Prop
 | mk (a b xs ys:_) (_:x=.ref a) (_:y=.ref b) (_:SqT K H a xs) (_:SqT K H b ys) (_:xs≠[]) (_:xs.length+ys.length≤sizeLine) (_:(ys=[]→Q (.ref a) H)) (_:(ys≠[]→∀ p,H p=none→Q (.ref p) (upd H p (.tup (xs++ys))))):rCatTI K x y H Q
def E5(K:b5):R2:=fun x y H Q=>rCatTI K x y H Q
theorem Vals.nil_iff{xs:List V}{us:List Value}(r:Vals xs us):us=[]↔xs=[]:=by
 cases r with
 | nil=>simp
 | cons _ _=>simp
theorem EB:lD X (binaryOp .Add) (E5 X.K):=by
 intro pins s σ H x y v u Q I rx ry h
 obtain⟨a,b,xs,ys,rfl,rfl,ha,hb,hx,hz,q1,q2⟩:=h
 cases rx
 cases ry
 obtain⟨its,r1,p1,_⟩:=I.tuple ha
 obtain⟨its2,r2,p2,_⟩:=I.tuple hb
 refine HT.cat_tup p1 p2 (fun z=>hx (r1.nil_iff.mp z)) (fun z=>⟨.ref a,H,I,rfl,q1 (r2.nil_iff.mp z)⟩) (fun z=>?_) (by rw[← r1.length,← r2.length];exact hz)
 refine⟨.ref s.heap.objs.size,_,I.laid (t':=s.toks) (o:=.tup (xs++ys)) (fun b ob q=>b9 _ q) (c0 _) ?_,rfl,q2 (fun w=>z (r2.nil_iff.mpr w)) _ (I.hok.fresh (c0 _))⟩
 exact⟨by rw[c5];exact hz,_,r1.append r2,aX3 _ _,NoD.new _ _⟩
end
def Cc(n:Nat)(i:Int):Option Nat:=if 0≤i then (if i<n then some i.toNat else none) else if -(n:Int)≤i then some (i+n).toNat else none
def wD{α:Type}(xs:List α)(i:Int):Option α:=(Cc xs.length i).bind fun j=>xs[j]?
theorem Av{n:Nat}{i:Int}{j:Nat}(h:Cc n i=some j):seqIndex? i n=some j∧j<n∧-(n:Int)≤i∧i<n:=by
 unfold Cc at h
 by_cases h0:0≤i
 ·rw[if_pos h0] at h
  by_cases h1:i<n
  ·rw[if_pos h1] at h
   have e:i.toNat=j:=d9 h
   exact⟨by rw[seqIndex_of h0 h1,e],by omega,by omega,h1⟩
  ·rw[if_neg h1] at h;cases h
 ·rw[if_neg h0] at h
  by_cases h1:-(n:Int)≤i
  ·rw[if_pos h1] at h
   have e:(i+n).toNat=j:=d9 h
   exact⟨by rw[seqIndex_neg (by omega) h1,e],by omega,h1,by omega⟩
  ·rw[if_neg h1] at h;cases h
theorem uR{α:Type}{xs:List α}{i:Int}{v:α}(h:wD xs i=some v):∃ j,seqIndex? i xs.length=some j∧xs[j]?=some v∧j<xs.length∧-(xs.length:Int)≤i∧i<xs.length:=by
 unfold wD at h
 cases e:Cc xs.length i with
 | none=>rw[e] at h;cases h
 | some j =>
  rw[e] at h
  obtain⟨h1,h2,h3,h4⟩:=Av e
  exact⟨j,h1,h,h2,h3,h4⟩
theorem dJ{α:Type}{xs:List α}{j:Nat}{v:α}(h:xs[j]?=some v):wD xs (j:Int)=some v:=by
 have hj:j<xs.length:=(a9.mp h).1
 have e:Cc xs.length (j:Int)=some j:=by
  unfold Cc
  rw[if_pos (by omega),if_pos (by omega)];simp
 unfold wD;rw[e];exact h
theorem pH{α:Type}(xs:List α)(v:α):wD (xs++[v]) (-1)=some v:=by
 have hl:(xs++[v]).length=xs.length+1:=by simp
 have e:Cc (xs++[v]).length (-1)=some xs.length:=by
  unfold Cc
  rw[hl,if_neg (by decide),if_pos (by omega)]
  congr 1
  omega
 unfold wD
 rw[e]
 show (xs++[v])[xs.length]?=some v
 simp
def D8(b:Expr):Prop:=∀ o i,subscripted b false o i=operate [o,i] (getItem o i)
def Fp(X:Cx)(r:R2):Prop :=
 ∀ (value slice:Expr) (pins:List (Addr×Obj)) (s:Shared) (σ:St) (H:Hp) (x y:V) (v u:Value) (Q:VK),Inv X pins σ H s→RelV x v→RelV y u→r x y H Q →
  subscripted slice false v u=operate [v,u] (getItem v u)→wpAny (model X.prog X.w) X.A (subscriptTail value slice v u) (EP X pins σ Q) X.xe s
def Bo(X:Cx)(id:String)(r:V→List V→Hp→VK→Prop):Prop :=
 ∀ (pins:List (Addr×Obj)) (s:Shared) (σ:St) (H:Hp) (x:V) (xs:List V) (v:Value) (us:List Value) (Q:VK),Inv X pins σ H s→RelV x v→Vals xs us→r x xs H Q →
  wpAny (model X.prog X.w) X.A (call (.builtin id) (v::us)) (EP X pins σ Q) X.xe s
section
variable {X:Cx}{a b:Expr}{ta tb:TE}{pos:Pos}
theorem aX{r:R2}(hr:Fp X r)(ha:PE X a ta)(hb:PE X b tb)(hs:D8 b):PE X (.Subscript a b pos) (Ga r ta tb):=by
 intro pins s σ H Q I h
 exact Subscript_ (GW ha hb I h fun v u s2 x y H2 I2 rx ry q=>hr a b pins s2 σ H2 x y v u Q I2 rx ry q (hs _ _))
inductive rIxLI(K:b5)(x:V)(y:V)(H:Hp)(Q:VK):Prop
 | mk (p xs i v:_) (_:x=.ref p) (_:y=.int i) (_:SqL K H p xs) (_:wD xs i=some v) (_:Q v H):rIxLI K x y H Q
def HA(K:b5):R2:=fun x y H Q=>rIxLI K x y H Q
inductive rIxTI(K:b5)(x:V)(y:V)(H:Hp)(Q:VK):Prop
 | mk (p xs i v:_) (_:x=.ref p) (_:y=.int i) (_:SqT K H p xs) (_:wD xs i=some v) (_:Q v H):rIxTI K x y H Q
def FM(K:b5):R2:=fun x y H Q=>rIxTI K x y H Q
inductive rIxSI(x:V)(y:V)(H:Hp)(Q:VK):Prop
 | mk (z i c:_) (_:x=.str z) (_:y=.int i) (_:z.length≤sizeLine) (_:wD z.cps.toList i=some c) (_:Q (.str ⟨#[c]⟩) H):rIxSI x y H Q
def JF:R2:=fun x y H Q=>rIxSI x y H Q
theorem Ex:Fp X (HA X.K):=by
 intro value slice pins s σ H x y v u Q I rx ry h hs
 obtain⟨p,xs,i,z,rfl,rfl,hq,he,q⟩:=h
 cases rx
 obtain⟨t,rfl⟩:=ry
 obtain⟨its,r,pl,hz⟩:=I.list hq
 obtain⟨j,h1,h2,h3,h4,h5⟩:=uR he
 obtain⟨w,ew,rw'⟩:=r.get h2
 have hl:=r.length
 have hn:=nP
 have fin:EP X pins σ Q w s:=⟨z,H,I,rw',q⟩
 by_cases h0:0≤i
 ·have hj:i.toNat=j:=by
   rw[seqIndex_of h0 h5] at h1
   exact d9 h1
  exact item_listR pl.isList h0 (by omega) (by rw[hj];simpa using ew) fin hs
 ·have hj:(i+(its.toArray.size:Int)).toNat=j:=by
   rw[seqIndex_neg (by omega) h4] at h1
   rw[d3,← hl]
   exact d9 h1
  exact subscriptTail_builtinR (x:=w) pl.isList.typeIs slot_list_getitem.lookup
   (wpAny_getItem_list_neg (Q:=fun r s'=>r=w∧EP X pins σ Q r s') pl.isList (by omega) (by rw[d3] <;> omega) (by omega) (by rw[hj];simpa using ew) ⟨rfl,fin⟩) hs
theorem GI:Fp X (FM X.K):=by
 intro value slice pins s σ H x y v u Q I rx ry h hs
 obtain⟨p,xs,i,z,rfl,rfl,hq,he,q⟩:=h
 cases rx
 obtain⟨t,rfl⟩:=ry
 obtain⟨its,r,pl,hz⟩:=I.tuple hq
 obtain⟨j,h1,h2,h3,h4,h5⟩:=uR he
 obtain⟨w,ew,rw'⟩:=r.get h2
 have hl:=r.length
 have hn:=nP
 have fin:EP X pins σ Q w s:=⟨z,H,I,rw',q⟩
 exact subscriptTail_builtinR (x:=w) pl.typeIs slot_tuple_getitem.lookup
  (getItem_tuple (j:=j) (Q:=fun r s'=>r=w∧EP X pins σ Q r s') pl (by omega) (by omega) (by rw[d3,← hl];exact h1) (by simpa using ew) ⟨rfl,fin⟩) hs
theorem zO:Fp X JF:=by
 intro value slice pins s σ H x y v u Q I rx ry h hs
 obtain⟨z,i,c,rfl,rfl,hz,he,q⟩:=h
 obtain⟨t,rfl⟩:=rx
 obtain⟨t',rfl⟩:=ry
 obtain⟨j,h1,h2,h3,h4,h5⟩:=uR he
 have hl:z.cps.toList.length=z.length:=by simp[Str.length]
 rw[hl] at h1 h4 h5
 have hn:=nP
 exact tail_any (typeIs_str s z t) slot_str_getitem.lookup (getItem_str (c:=c) (by
  have e1:decide (i < -(2 ^ 63:Int))=false:=decide_eq_false (by omega)
  have e2:decide (i ≥ 2 ^ 63)=false:=decide_eq_false (by omega)
  rw[e1,e2,aJT]) (by rw[h1];simpa using h2) ⟨.str ⟨#[c]⟩,H,I.tok _,⟨_,rfl⟩,q⟩) hs
theorem Aj(its:List Value)(n j:Nat)(u:Value):Obj.mapSeq (·.setIfInBounds j u) { cls:=.type "list",data:=.seq its.toArray n }={ cls:=.type "list",data:=.seq (its.set j u).toArray n }:=by
 simp[Obj.mapSeq]
theorem Inv.lst{pins:List (Addr×Obj)}{σ:St}{H:Hp}{s:Shared}{p:Addr}{xs:List V}(I:Inv X pins σ H s)(h:H p=some (.lst xs)) :
  ∃ (its:List Value) (n:Nat),Vals xs its∧s.heap.get? p=some { cls:=.type "list",data:=.seq its.toArray n }∧xs.length≤sizeLine:=by
 obtain⟨z,its,n,r,e⟩:=I.hok p _ h
 exact⟨its,n,r,e,z⟩
theorem Inv.lstUpd{pins:List (Addr×Obj)}{σ:St}{H:Hp}{s:Shared}{p:Addr}{xs ys:List V}{its its':List Value}{n n':Nat}{f:Obj→Obj}(I:Inv X pins σ H s)(h:H p=some (.lst xs))
  (ho:s.heap.get? p=some { cls:=.type "list",data:=.seq its.toArray n }) (hf:f { cls:=.type "list",data:=.seq its.toArray n }={ cls:=.type "list",data:=.seq its'.toArray n' }) (r:Vals ys its') (hz:ys.length≤sizeLine) (t:Nat) :
  Inv X pins σ (upd H p (.lst ys)) { s with heap:=s.heap.update p f,toks:=t }:=by
 have e:(s.heap.update p f).get? p=some { cls:=.type "list",data:=.seq its'.toArray n' }:=by
  rw[aQG f ho (by rw[hf] <;> rfl),hf]
 refine I.write (x:=p) (e:=p) (by rw[h];trivial) (.inl rfl) (fun b u hb q=>(aQh _ _ (aQ5 hb)).trans q) ⟨_,e⟩ ?_
 exact⟨hz,its',n',r,e⟩
inductive rSetLI(o:V)(i:V)(v:V)(H:Hp)(Q:Hp→Prop):Prop
 | mk (p xs k j:_) (_:o=.ref p) (_:i=.int k) (_:H p=some (.lst xs)) (_:Cc xs.length k=some j) (_:Q (upd H p (.lst (xs.set j v)))):rSetLI o i v H Q
def Ia:V→V→V→Hp→(Hp→Prop)→Prop:=fun o i v H Q=>rSetLI o i v H Q
theorem eN:IP X Ia:=by
 intro pins s σ H o i v ov iv u Q I ro ri rv h
 obtain⟨p,xs,k,j,rfl,rfl,hp,hj,q⟩:=h
 cases ro
 obtain⟨t,rfl⟩:=ri
 obtain⟨its,n,r,ho,hz⟩:=I.lst hp
 obtain⟨h1,h2,h3,h4⟩:=Av hj
 have hl:=r.length
 have hn:=nP
 have I':Inv X pins σ (upd H p (.lst (xs.set j v))) { s with heap:=s.heap.update p (Obj.mapSeq (·.setIfInBounds j u)) } :=
  I.lstUpd hp ho (Aj its n j u) (r.set rv j) (by rw[m6];exact hz) s.toks
 by_cases h0:0≤k
 ·have hk:k.toNat=j:=by
   rw[seqIndex_of h0 h4] at h1
   exact d9 h1
  exact PySem.W.ki_setAt ho h0 (by omega) (by rw[d3,← hl];exact h4) (by rw[hk];exact⟨_,I',q⟩)
 ·have hk:(k+(its.toArray.size:Int)).toNat=j:=by
   rw[seqIndex_neg (by omega) h3] at h1
   rw[d3,← hl]
   exact d9 h1
  exact PySem.W.ki_setBack ho (by omega) (by rw[d3,← hl];exact h3) (by omega) (by rw[hk];exact⟨_,I',q⟩)
theorem vS(lo hi:Option Int)(n:Nat):(sliceBounds lo hi none n).1=((HT.sIx n 0 lo:Nat):Int)∧(sliceBounds lo hi none n).2.1=((HT.sIx n n hi:Nat):Int)∧(sliceBounds lo hi none n).2.2=1:=by
 refine⟨?_,?_,rfl⟩
 ·cases lo with
  | none=>simp[sliceBounds,HT.sIx]
  | some i =>
   simp only [sliceBounds,HT.sIx,aZr,show (1:Int) > 0 by decide,if_true]
   by_cases h:i<0
   ·simp only [h,if_true] <;> omega
   ·simp only [h,if_false] <;> omega
 ·cases hi with
  | none=>simp[sliceBounds,HT.sIx]
  | some i =>
   simp only [sliceBounds,HT.sIx,aZr,show (1:Int) > 0 by decide,if_true]
   by_cases h:i<0
   ·simp only [h,if_true] <;> omega
   ·simp only [h,if_false] <;> omega
theorem rR(its:List Value)(lo hi:Option Int):slicePick its.toArray lo hi none=((its.drop (HT.sIx its.length 0 lo)).take (HT.sIx its.length its.length hi - HT.sIx its.length 0 lo)).toArray:=by
 obtain⟨h1,h2,h3⟩:=vS lo hi its.toArray.size
 unfold slicePick
 rw[h1,h2,h3]
 simp only [sliceRange_one,pick_run,d3] <;> rfl
inductive rSlLI(K:b5)(x:V)(lo:Option Int)(hi:Option Int)(H:Hp)(Q:VK):Prop
 | mk (a xs:_) (_:x=.ref a) (_:SqL K H a xs) (_:∀ p,H p=none→Q (.ref p) (upd H p (.lst (wM xs lo hi)))):rSlLI K x lo hi H Q
def JK(K:b5):V→Option Int→Option Int→Hp→VK→Prop:=fun x lo hi H Q=>rSlLI K x lo hi H Q
theorem Jt:IM X (JK X.K):=by
 intro pins s σ H x v vl vu lo hi sl Q I rx hs pl pu h
 obtain⟨a,xs,rfl,hx,q⟩:=h
 cases rx
 obtain⟨its,r,ht,hz⟩:=I.list hx
 have hlen:=r.length
 refine⟨"list",_,slot_list_getitem.lookup,ht.isList.typeIs,?_⟩
 refine wpAny_getItem_list_slice ht.isList hs pl pu .none (by simp) ?_ (by rw[d3] <;> omega)
 rw[rR,← hlen]
 refine⟨.ref s.heap.objs.size,_,I.laid (t':=s.toks) (o:=.lst (wM xs lo hi)) (fun b ob q=>b9 _ q) (c0 _) ?_,rfl,q _ (I.hok.fresh (c0 _))⟩
 exact⟨j7 (nZ xs lo hi) hz,_,0,(r.drop (HT.sIx xs.length 0 lo)).take (HT.sIx xs.length xs.length hi - HT.sIx xs.length 0 lo),d8 _ rfl⟩
def gN:V→Bool
 | .non=>true
 | .bl _=>true
 | .int _=>true
 | .str _=>true
 | _=>false
def pU:V→V→Bool
 | .non,.non=>true
 | .bl a,.bl b=>a == b
 | .bl a,.int b=>(if a then 1 else 0) == b
 | .int a,.bl b=>a == (if b then 1 else 0)
 | .int a,.int b=>a == b
 | .str a,.str b=>a == b
 | _,_=>false
theorem Dc{A:Around}{s:Shared}{y x:V}{u v:Value}(ry:RelV y u)(rx:RelV x v)(fy:gN y=true)(fx:gN x=true):SeqAt.EqAt A s u v (pU y x):=by
 cases y with
 | non =>
  cases ry
  cases x with
  | non=>cases rx;exact aJD _
  | bl b=>cases rx;exact SeqAt.EqAt.none_bool b
  | int b=>obtain⟨t,rfl⟩:=rx;exact SeqAt.EqAt.none_int b t
  | str b=>obtain⟨t,rfl⟩:=rx;exact SeqAt.EqAt.none_str b t
  | _=>exact absurd (show false=true from fx) i8
 | bl a =>
  cases ry
  cases x with
  | non=>cases rx;exact SeqAt.EqAt.bool_none a
  | bl b=>cases rx;exact SeqAt.EqAt.bool_bool a b
  | int b=>obtain⟨t,rfl⟩:=rx;exact SeqAt.EqAt.bool_int a b t
  | str b=>obtain⟨t,rfl⟩:=rx;exact SeqAt.EqAt.bool_str a b t
  | _=>exact absurd (show false=true from fx) i8
 | int a =>
  obtain⟨t',rfl⟩:=ry
  cases x with
  | non=>cases rx;exact SeqAt.EqAt.int_none a t'
  | bl b=>cases rx;exact SeqAt.EqAt.int_bool a t' b
  | int b=>obtain⟨t,rfl⟩:=rx;exact aX4 a t' b t
  | str b=>obtain⟨t,rfl⟩:=rx;exact aZ4 a t' b t
  | _=>exact absurd (show false=true from fx) i8
 | str a =>
  obtain⟨t',rfl⟩:=ry
  cases x with
  | non=>cases rx;exact SeqAt.EqAt.str_none a t'
  | bl b=>cases rx;exact SeqAt.EqAt.str_bool a t' b
  | int b=>obtain⟨t,rfl⟩:=rx;exact aZ5 a t' b t
  | str b=>obtain⟨t,rfl⟩:=rx;exact aZa a t' b t
  | _=>exact absurd (show false=true from fx) i8
 | _=>exact absurd (show false=true from fy) i8
def zC(x:V)(u:Value):Bool:=match u with
 | .none=>pU .non x
 | .bool b=>pU (.bl b) x
 | .int i _=>pU (.int i) x
 | .str z _=>pU (.str z) x
 | _=>false
theorem Ca{x y:V}{u:Value}(r:RelV y u)(f:gN y=true):zC x u=pU y x:=by
 cases y with
 | non=>cases r;rfl
 | bl b=>cases r;rfl
 | int i=>obtain⟨t,rfl⟩:=r;rfl
 | str z=>obtain⟨t,rfl⟩:=r;rfl
 | _=>exact absurd (show false=true from f) i8
theorem mD{x:V}:∀ {xs:List V} {us:List Value},Vals xs us→xs.all gN=true→us.any (zC x)=xs.any fun y=>pU y x
 | _,_,.nil,_=>rfl
 | y::xs,u::us,.cons r t,f=>by
  rw[aXb,aQE] at f
  rw[aQq,aQq,Ca r f.1,mD t f.2]
theorem kB{A:Around}{s:Shared}{x:V}{v:Value}(rx:RelV x v)(fx:gN x=true):∀ {xs:List V} {us:List Value},Vals xs us→xs.all gN=true→∀ u∈us,SeqAt.EqAt A s u v (zC x u)
 | _,_,.nil,_=>fun u hu=>by cases hu
 | y::xs,u::us,.cons r t,f=>fun u' hu=>by
  rw[aXb,aQE] at f
  rcases c7.mp hu with rfl | hu
  ·rw[Ca r f.1];exact Dc r rx f.1 fx
  ·exact kB rx fx t f.2 u' hu
def Fe(x:V)(xs:List V):Bool:=xs.any fun y=>pU y x
inductive rInI(K:b5)(neg:Bool)(x:V)(y:V)(H:Hp)(Q:VK):Prop
 | mk (p xs:_) (_:y=.ref p) (_:(SqL K H p xs∨SqT K H p xs)) (_:gN x=true) (_:xs.all gN=true) (_:Q (.bl (if neg then !Fe x xs else Fe x xs)) H):rInI K neg x y H Q
def HR(K:b5)(neg:Bool):R2:=fun x y H Q=>rInI K neg x y H Q
theorem Bn:lD X (compareOp .In) (HR X.K false):=by
 intro pins s σ H x y v u Q I rx ry h
 obtain⟨p,xs,rfl,hq,fx,fs,q⟩:=h
 cases ry
 rcases hq with hq | hq
 ·obtain⟨its,r,pl,hz⟩:=I.list hq
  refine SeqAt.in_listAt (zC x) pl.isList (fun w hw=>kB rx fx r fs w (by simpa using hw)) ⟨.bl _,H,I,rfl,?_⟩
  rw[show its.toArray.any (zC x)=its.any (zC x) by simp,mD r fs]
  exact q
 ·obtain⟨its,r,pl,hz⟩:=I.tuple hq
  refine SeqAt.in_tupleAt (zC x) pl (fun w hw=>kB rx fx r fs w (by simpa using hw)) ⟨.bl _,H,I,rfl,?_⟩
  rw[show its.toArray.any (zC x)=its.any (zC x) by simp,mD r fs]
  exact q
theorem wB:lD X (compareOp .NotIn) (HR X.K true):=by
 intro pins s σ H x y v u Q I rx ry h
 obtain⟨p,xs,rfl,hq,fx,fs,q⟩:=h
 cases ry
 rcases hq with hq | hq
 ·obtain⟨its,r,pl,hz⟩:=I.list hq
  refine SeqAt.notIn_listAt (zC x) pl.isList (fun w hw=>kB rx fx r fs w (by simpa using hw)) ⟨.bl _,H,I,rfl,?_⟩
  rw[show its.toArray.any (zC x)=its.any (zC x) by simp,mD r fs]
  exact q
 ·obtain⟨its,r,pl,hz⟩:=I.tuple hq
  refine SeqAt.notIn_tupleAt (zC x) pl (fun w hw=>kB rx fx r fs w (by simpa using hw)) ⟨.bl _,H,I,rfl,?_⟩
  rw[show its.toArray.any (zC x)=its.any (zC x) by simp,mD r fs]
  exact q
inductive Rcall_len_seq(K:b5)(xs:List V)(H:Hp)(Q:VK):Prop
 | mk (p ys:_) (_:xs=[.ref p]) (_:(SqL K H p ys∨SqT K H p ys)) (_:Q (.int ys.length) H):Rcall_len_seq K xs H Q
theorem uX:gS X (.builtin "len") (fun xs H Q=>Rcall_len_seq X.K xs H Q):=by
 intro pins s σ H xs us Q I r h
 obtain⟨p,ys,rfl,hq,q⟩:=h
 obtain⟨u,rfl,rx⟩:=mI r
 cases rx
 have hn:=nP
 rcases hq with hq | hq
 ·obtain⟨its,r',pl,hz⟩:=I.list hq
  have hlen:=r'.length
  exact Calls.call_len_list pl.isList (by simp only [d3] <;> omega) ⟨.int ys.length,H,I.tok _,⟨s.toks+1,by rw[d3,hlen]⟩,q⟩
 ·obtain⟨its,r',pl,hz⟩:=I.tuple hq
  have hlen:=r'.length
  exact len_tuple pl (by simp only [d3] <;> omega) ⟨.int ys.length,H,I.tok _,⟨s.toks+1,by rw[d3,hlen]⟩,q⟩
inductive Rcall_len_str(xs:List V)(H:Hp)(Q:VK):Prop
 | mk (z:_) (_:xs=[.str z]) (_:z.length≤sizeLine) (_:Q (.int z.length) H):Rcall_len_str xs H Q
theorem eW:gS X (.builtin "len") (fun xs H Q=>Rcall_len_str xs H Q):=by
 intro pins s σ H xs us Q I r h
 obtain⟨z,rfl,hz,q⟩:=h
 obtain⟨u,rfl,t,rfl⟩:=mI r
 have hn:=nP
 exact len_str (by omega) ⟨.int z.length,H,I.tok _,⟨_,rfl⟩,q⟩
inductive Rcall_list_of(K:b5)(xs:List V)(H:Hp)(Q:VK):Prop
 | mk (p ys:_) (_:xs=[.ref p]) (_:(SqL K H p ys∨SqT K H p ys)) (_:∀ l,H l=none→Q (.ref l) (upd H l (.lst ys))):Rcall_list_of K xs H Q
theorem vD:gS X (.type "list") (fun xs H Q=>Rcall_list_of X.K xs H Q):=by
 intro pins s σ H xs us Q I r h
 obtain⟨p,ys,rfl,hq,q⟩:=h
 obtain⟨u,rfl,rx⟩:=mI r
 cases rx
 have fin:∀ (its:List Value),Vals ys its→ys.length≤sizeLine→∀ (h':Heap) (c':Nat),(∀ b o',s.heap.get? b=some o'→h'.get? b=some o') →
   h'.get? s.heap.objs.size=some { cls:=.type "list",dict:=none,data:=.seq its.toArray c',slots:=#[] }→EP X pins σ Q (.ref s.heap.objs.size) { s with heap:=h' }:=fun its r' hz h' c' kp e =>
  ⟨.ref s.heap.objs.size,_,I.laid (t':=s.toks) kp (c0 _) (show ObjOk X.prog X.w _ h' _ (.lst ys) from ⟨hz,its,c',r',e⟩),rfl,q _ (I.hok.fresh (c0 _))⟩
 rcases hq with hq | hq
 ·obtain⟨its,r',pl,hz⟩:=I.list hq
  have hlen:=r'.length
  obtain⟨o,ho,hc,n,hd⟩:=pl.isList
  exact call_list_seq p (.inl rfl) ho hc hd (fun h' c' kp e=>fin its r' hz h' c' kp e) (by simp only [d3] <;> omega)
 ·obtain⟨its,r',pl,hz⟩:=I.tuple hq
  have hlen:=r'.length
  obtain⟨o,ho,hc,n,hd⟩:=pl
  exact call_list_seq p (.inr rfl) ho hc hd (fun h' c' kp e=>fin its r' hz h' c' kp e) (by simp only [d3] <;> omega)
inductive Rcall_tuple_of(K:b5)(xs:List V)(H:Hp)(Q:VK):Prop
 | mk (p ys:_) (_:xs=[.ref p]) (_:((SqL K H p ys∧∀ l,H l=none→Q (.ref l) (upd H l (.tup ys)))∨(SqT K H p ys∧Q (.ref p) H))):Rcall_tuple_of K xs H Q
theorem rN:gS X (.type "tuple") (fun xs H Q=>Rcall_tuple_of X.K xs H Q):=by
 intro pins s σ H xs us Q I r h
 obtain⟨p,ys,rfl,h⟩:=h
 obtain⟨u,rfl,rx⟩:=mI r
 cases rx
 rcases h with ⟨hq,q⟩ | ⟨hq,q⟩
 ·obtain⟨its,r',pl,hz⟩:=I.list hq
  have hlen:=r'.length
  refine call_tuple_list pl.isList (fun h' kp=>?_) (by simp only [d3] <;> omega)
  have I1:Inv X pins σ H { s with heap:=h' }:=I.kept (t':=s.toks) kp
  have I2:Inv X pins σ (upd H h'.objs.size (.tup ys)) { s with heap:=h'.push { cls:=.type "tuple",data:=.seq its.toArray } } :=
   I1.laid (t':=s.toks) (fun b o e=>b9 _ e) (c0 _) (show ObjOk X.prog X.w _ _ _ (.tup ys) from ⟨hz,its,r',aX3 _ _,NoD.new _ _⟩)
  exact⟨.ref h'.objs.size,_,I2,rfl,q _ (I1.hok.fresh (c0 _))⟩
 ·obtain⟨its,r',pl,hz⟩:=I.tuple hq
  exact call_tuple_same pl ⟨.ref p,H,I,rfl,q⟩
def JR(K:b5)(T:String)(x:V)(H:Hp):Prop:=match x with
 | .str _=>T="str"
 | .int _=>T="int"
 | .ref p=>(T="list"∧∃ xs,SqL K H p xs)∨(T="tuple"∧∃ o,K.lookup p=some o∧o.cls=.type "tuple"∧o.dict=none) ∨
   (T="dict"∧((∃ kvs,H p=some (.dK kvs))∨∃ kvs,H p=some (.dT kvs)))∨(T="set"∧∃ S n,H p=some (.set S n))
 | _=>False
theorem Du{pins:List (Addr×Obj)}{σ:St}{H:Hp}{s:Shared}{T:String}{x:V}{v:Value}(I:Inv X pins σ H s)(r:RelV x v)(ty:JR X.K T x H) :
  s.TypeIs v T∧∀ a,v=.ref a→∃ ob,s.heap.get? a=some ob∧ob.dict=none:=by
 cases x with
 | str z =>
  obtain⟨t,rfl⟩:=r
  cases (show T="str" from ty)
  exact⟨typeIs_str s z t,fun _ e=>nomatch e⟩
 | int i =>
  obtain⟨t,rfl⟩:=r
  cases (show T="int" from ty)
  exact⟨typeIs_int s i t,fun _ e=>nomatch e⟩
 | ref p =>
  cases r
  rcases ty with ⟨rfl,xs,hq⟩ | ⟨rfl,o,hk,hc,hd⟩ | ⟨rfl,hk⟩ | ⟨rfl,S,n,hk⟩
  ·obtain⟨its,_,pl,_⟩:=I.list hq
   refine⟨pl.isList.typeIs,fun a e=>?_⟩
   cases e
   obtain⟨o,n,e,c,hd,_⟩:=pl
   exact⟨o,e,hd⟩
  ·refine⟨⟨o,I.kIn p o hk,hc⟩,fun a e=>?_⟩
   cases e
   exact⟨o,I.kIn _ o hk,hd⟩
  ·have z:∃ o,s.heap.get? p=some o∧o.ExactDict:=by
    rcases hk with ⟨kvs,hk⟩ | ⟨kvs,hk⟩
    ·obtain⟨_,_,_,_,o,_,_,e,ex,_⟩:=I.hok p _ hk
     exact⟨o,e,ex⟩
    ·obtain⟨_,_,_,_,o,_,_,e,ex,_⟩:=I.hok p _ hk
     exact⟨o,e,ex⟩
   obtain⟨o,e,ex⟩:=z
   refine⟨⟨o,e,ex.1⟩,fun a e2=>?_⟩
   cases e2
   exact⟨o,e,ex.2.1⟩
  ·obtain⟨o,_,_,_,e,ex,_⟩:=I.hok p _ hk
   refine⟨⟨o,e,ex.1⟩,fun a e2=>?_⟩
   cases e2
   exact⟨o,e,ex.2.1⟩
 | _=>exact False.elim ty
def HF(K:b5)(T:String)(r:V→List V→Hp→VK→Prop)(to:TE):TE:=fun σ H Q=>to σ H fun x H1=>JR K T x H1∧r x [] H1 Q
def Kf(K:b5)(T:String)(r:V→List V→Hp→VK→Prop)(to:TE)(t:TA):TE:=fun σ H Q=>to σ H fun x H1=>JR K T x H1∧t σ H1 fun xs H2=>r x xs H2 Q
variable {o e:Expr}{es:List Expr}{to:TE}{t:TA}{name:Str}{apos cpos:Pos}{T id:String}{r:V→List V→Hp→VK→Prop}
theorem GR(pa:PlainAttrs T)(slot:Slot T name id)(hty:typeOf (.builtin id)=pure (.type "method_descriptor"))(hm:Bo X id r)(ho:PE X o to)
  (hbase:attributeBase o name X.env (eval o X.env)=eval o X.env:=by rfl) (hline:(apos.endLine == cpos.line)=true:=by rfl):PE X (.Call (.Attribute o name apos) [] [] cpos) (HF X.K T r to):=by
 intro pins s σ H Q I h
 refine wpAny_Call_method0_late hbase hline (cK (ho pins s σ H _ I h) fun v s1 ⟨x,H1,I1,r1,ty,q1⟩=>?_)
 obtain⟨h1,h2⟩:=Du I1 r1 ty
 exact⟨T,id,pa,slot,hty,h1,h2,aQN rfl (aZ0 (hm pins s1 σ H1 x [] v [] Q I1 r1 .nil q1))⟩
theorem Jd(pa:PlainAttrs T)(slot:Slot T name id)(hty:typeOf (.builtin id)=pure (.type "method_descriptor"))(hm:Bo X id r)(ho:PE X o to)(ha:PA X (e::es) t)
  (hbase:attributeBase o name X.env (eval o X.env)=eval o X.env:=by rfl)
  (hfew:((backTo cpos (starEach (e::es) X.env)).all (fun x=>!x.1) && (backToKw cpos (keywordEach [] X.env)).all (fun x=>x.1.isSome)
   && decide ((e::es).length+([]:List Keyword).length+(if ([]:List Keyword).isEmpty then 0 else 1)<30))=true:=by rfl)
  (hline:(apos.endLine == cpos.line)=true:=by rfl) (hs:starEach (e::es) X.env=(false,eval e X.env)::starEach es X.env:=by rfl) (hplain:(backTo cpos (starEach es X.env)).any (·.1)=false:=by rfl) :
  PE X (.Call (.Attribute o name apos) (e::es) [] cpos) (Kf X.K T r to t):=by
 intro pins s σ H Q I h
 refine wpAny_Call_method_late hbase hfew hline rfl (cK (ho pins s σ H _ I h) fun v s1 ⟨x,H1,I1,r1,ty,q1⟩=>?_)
 obtain⟨h1,h2⟩:=Du I1 r1 ty
 refine⟨T,id,pa,slot,hty,h1,h2,?_⟩
 have hA:=ha cpos pins s1 σ H1 _ I1 q1
 rw[hs] at hA ⊢
 refine aQN (by show (false || (backTo cpos (starEach es X.env)).any (·.1))=false;rw[hplain] <;> rfl) (aXO ?_)
 exact cK hA fun us s2 ⟨vs,H2,I2,r2,q2⟩=>hm pins s2 σ H2 x vs v us Q I2 r1 r2 q2
/- xs.append(e),list.index on a module's tuple .. are Bo facts of 06m -/
end
def Jr(X:Cx)(id:String)(r:V→List V→Hp→VK→Prop):Prop :=
 ∀ (pins:List (Addr×Obj)) (s:Shared) (σ:St) (H:Hp) (x:V) (xs:List V) (v:Value) (us:List Value) (Q:VK),Inv X pins σ H s→RelV x v→Vals xs us→r x xs H Q →
  wpAny (model X.prog X.w) X.A (call (.builtin id) (v::us)) (EP X pins σ Q) X.xe s
theorem Vals.one:∀ {x:V} {us:List Value},Vals [x] us→∃ u,us=[u]∧RelV x u
 | _,_,.cons r .nil=>⟨_,rfl,r⟩
theorem Vals.two:∀ {x y:V} {us:List Value},Vals [x,y] us→∃ u v,us=[u,v]∧RelV x u∧RelV y v
 | _,_,_,.cons r (.cons q .nil)=>⟨_,_,rfl,r,q⟩
theorem Vals.zero:∀ {us:List Value},Vals [] us→us=[]
 | _,.nil=>rfl
theorem Vals.dropLast{xs:List V}{us:List Value}(h:Vals xs us):Vals xs.dropLast us.dropLast:=by
 induction h with
 | nil=>exact .nil
 | cons r t ih =>
  cases t with
  | nil=>exact .nil
  | cons q t'=>exact .cons r ih
theorem Vals.eraseIdx:∀ {xs:List V} {us:List Value} (i:Nat),Vals xs us→Vals (xs.eraseIdx i) (us.eraseIdx i)
 | _,_,_,.nil=>.nil
 | _,_,0,.cons _ t=>t
 | _,_,i+1,.cons r t=>.cons r (Vals.eraseIdx i t)
theorem zU{α:Type}(l:List α):l.eraseIdx (l.length - 1)=l.dropLast:=by
 induction l with
 | nil=>rfl
 | cons a r ih =>
  cases r with
  | nil=>rfl
  | cons b r =>
   have e:(a::b::r).length - 1=((b::r).length - 1)+1:=by
    have h1:(a::b::r).length=r.length+2:=rfl
    have h2:(b::r).length=r.length+1:=rfl
    omega
   rw[e,List.eraseIdx_cons_succ,ih]
   all_goals rfl
theorem tQ{α:Type}:∀ (l:List α) (i:Nat),(l.eraseIdx i).length≤l.length
 | [],_=>c0 _
 | _::_,0=>aQg _
 | _::r,i+1=>Nat.succ_le_succ (tQ r i)
section
variable {X:Cx}{pins:List (Addr×Obj)}{σ:St}{H:Hp}{s:Shared}{l b:Addr}{xs ys zs:List V}
theorem Inv.lset{its its':List Value}{n:Nat}{f:Array Value→Array Value}{t':Nat}(I:Inv X pins σ H s)(hH:H l=some (.lst xs))
  (e:s.heap.get? l=some { cls:=.type "list",data:=.seq its.toArray n }) (hf:f its.toArray=its'.toArray) (hv:Vals ys its') (hz:ys.length≤sizeLine) :
  Inv X pins σ (upd H l (.lst ys)) { s with heap:=s.heap.update l (Obj.mapSeq f),toks:=t' }:=by
 have q:=PySem.IsL.update e f
 rw[hf] at q
 refine I.write (x:=l) (e:=l) (by rw[hH];exact trivial) (.inl rfl) (fun b' u hb hu=>(aQh s.heap (Obj.mapSeq f) (aQ5 hb)).trans hu) ⟨_,q⟩ ?_
 exact⟨hz,its',_,hv,q⟩
theorem Inv.lnew{its:List Value}{t':Nat}(I:Inv X pins σ H s)(hv:Vals ys its)(hz:ys.length≤sizeLine) :
  Inv X pins σ (upd H s.heap.objs.size (.lst ys)) { s with heap:=s.heap.push { cls:=.type "list",data:=.seq its.toArray },toks:=t' } :=
 I.laid (fun _ _ q=>b9 _ q) (c0 _) ⟨hz,its,0,hv,d8 _ rfl⟩
theorem Inv.fresh(I:Inv X pins σ H s):H s.heap.objs.size=none:=I.hok.fresh (c0 _)
theorem Inv.lstM(I:Inv X pins σ H s)(hH:H l=some (.lst xs)):xs.length≤sizeLine∧∃ (its:List Value) (n:Nat),Vals xs its∧xs.length=its.length∧s.heap.get? l=some { cls:=.type "list",data:=.seq its.toArray n }:=by
 obtain⟨z,its,n,r,e⟩:=I.hok l _ hH
 exact⟨z,its,n,r,r.length,e⟩
theorem Dn{n:Nat}(h:n≤sizeLine):Builtin.List.listTooLong n=false:=by
 unfold Builtin.List.listTooLong
 exact decide_eq_false (by omega)
end
section
variable {X:Cx}
inductive rAppendI(x:V)(vs:List V)(H:Hp)(Q:VK):Prop
 | mk (l xs y:_) (_:x=.ref l) (_:vs=[y]) (_:H l=some (.lst xs)) (_:xs.length<sizeLine) (_:Q .non (upd H l (.lst (xs++[y])))):rAppendI x vs H Q
def EH:V→List V→Hp→VK→Prop:=fun x vs H Q=>rAppendI x vs H Q
theorem cW:Jr X "list.append" EH:=by
 intro pins s σ H x vs v us Q I rx rv h
 obtain⟨l,xs,y,rfl,rfl,hH,hz,q⟩:=h
 cases rx
 obtain⟨u,rfl,ru⟩:=rv.one
 obtain⟨z,its,n,r,hl,e⟩:=I.lstM hH
 refine call_meets F.slot_list_append ⟨_,e,rfl⟩ F.entry_list_append (F.args_list_append_2 _ _) (PySem.list_append l its.toArray n u (by rw[d3];omega)) ⟨e,?_⟩
 refine⟨.non,_,I.lset (its':=its++[u]) hH e (by simp) (r.append (.cons ru .nil)) ?_,rfl,q⟩
 rw[c5,u9]
 omega
inductive rExtendI(x:V)(vs:List V)(H:Hp)(Q:VK):Prop
 | mk (l b xs zs:_) (_:x=.ref l) (_:vs=[.ref b]) (_:H l=some (.lst xs)) (_:H b=some (.lst zs)) (_:xs.length+zs.length≤sizeLine) (_:Q .non (upd H l (.lst (xs++zs)))):rExtendI x vs H Q
def Eb:V→List V→Hp→VK→Prop:=fun x vs H Q=>rExtendI x vs H Q
theorem Hm:Jr X "list.extend" Eb:=by
 intro pins s σ H x vs v us Q I rx rv h
 obtain⟨l,b,xs,zs,rfl,rfl,hH,hB,hz,q⟩:=h
 cases rx
 obtain⟨u,rfl,ru⟩:=rv.one
 cases ru
 obtain⟨z,its,n,r,hl,e⟩:=I.lstM hH
 obtain⟨z2,its2,n2,r2,hl2,e2⟩:=I.lstM hB
 have hsz:its.toArray.size+its2.toArray.size≤sizeLine:=by rw[d3,d3];omega
 have hlong:¬ (!its.toArray.isEmpty && Builtin.List.listTooLong (its.toArray.size+its2.toArray.size))=true:=by
  rw[Dn hsz,aJO]
  exact i8
 refine call_meets F.slot_list_extend ⟨_,e,rfl⟩ F.entry_list_extend (F.args_list_extend_2 _ _)
  (AutoSeq1.list_extend_list_list_0 l its.toArray n b its2.toArray n2 hlong (by rw[d3];omega) (by omega)) ⟨e,e2,?_⟩
 refine⟨.non,_,I.lset (its':=its++its2) hH e (by simp) (r.append r2) ?_,rfl,q⟩
 rw[c5]
 omega
inductive rPopI(x:V)(vs:List V)(H:Hp)(Q:VK):Prop
 | mk (l xs y:_) (_:x=.ref l) (_:vs=[]) (_:H l=some (.lst xs)) (_:xs[xs.length - 1]?=some y) (_:Q y (upd H l (.lst xs.dropLast))):rPopI x vs H Q
def JL:V→List V→Hp→VK→Prop:=fun x vs H Q=>rPopI x vs H Q
theorem CC:Jr X "list.pop" JL:=by
 intro pins s σ H x vs v us Q I rx rv h
 obtain⟨l,xs,y,rfl,rfl,hH,hy,q⟩:=h
 cases rx
 have hus:=rv.zero
 subst hus
 obtain⟨z,its,n,r,hl,e⟩:=I.lstM hH
 obtain⟨u,hu,ru⟩:=r.get hy
 have hy':its.toArray[its.toArray.size - 1]?=some u:=by
  show its.toArray[its.length - 1]?=some u
  rw[← aXJ,← hl]
  exact hu
 refine call_meets aJE ⟨_,e,rfl⟩ aZs (F.args_list_pop_1 _) (MeetsSeq.list_pop_last l its.toArray n u hy' (by rw[d3];omega)) ⟨e,?_⟩
 refine⟨y,_,I.lset (its':=its.dropLast) hH e ?_ r.dropLast ?_,ru,q⟩
 ·show its.toArray.eraseIdxIfInBounds (its.toArray.size - 1)=its.dropLast.toArray
  rw[d3,aXM,zU]
 ·rw[List.length_dropLast]
  omega
inductive rPopAtI(x:V)(vs:List V)(H:Hp)(Q:VK):Prop
 | mk (l xs i k y:_) (_:x=.ref l) (_:vs=[.int i]) (_:H l=some (.lst xs)) (_:-(2 ^ 63)≤i) (_:i<2 ^ 63) (_:seqIndex? i xs.length=some k) (_:xs[k]?=some y) (_:Q y (upd H l (.lst (xs.eraseIdx k)))):rPopAtI x vs H Q
def Gj:V→List V→Hp→VK→Prop:=fun x vs H Q=>rPopAtI x vs H Q
theorem qP:Jr X "list.pop" Gj:=by
 intro pins s σ H x vs v us Q I rx rv h
 obtain⟨l,xs,i,k,y,rfl,rfl,hH,h1,h2,hk,hy,q⟩:=h
 cases rx
 obtain⟨u,rfl,ru⟩:=rv.one
 obtain⟨t,rfl⟩:=ru
 obtain⟨z,its,n,r,hl,e⟩:=I.lstM hH
 obtain⟨w,hw,rw'⟩:=r.get hy
 refine call_meets aJE ⟨_,e,rfl⟩ aZs (F.args_list_pop_2 _ _)
  (MeetsSeq.list_pop_at l its.toArray n i t k w (fitsIndex_both h1 h2) (by rw[d3,← hl];exact hk) (by rw[← aXJ];exact hw) (by rw[d3];omega)) ⟨e,?_⟩
 refine⟨y,_,I.lset (its':=its.eraseIdx k) hH e ?_ (r.eraseIdx k) ?_,rw',q⟩
 ·show its.toArray.eraseIdxIfInBounds k=(its.eraseIdx k).toArray
  rw[aXM]
 ·have:=tQ xs k
  omega
inductive rCatI(x:V)(y:V)(H:Hp)(Q:VK):Prop
 | mk (l b xs zs:_) (_:x=.ref l) (_:y=.ref b) (_:H l=some (.lst xs)) (_:H b=some (.lst zs)) (_:xs.length+zs.length≤sizeLine) (_:∀ p,H p=none→Q (.ref p) (upd H p (.lst (xs++zs)))):rCatI x y H Q
def JG:R2:=fun x y H Q=>rCatI x y H Q
theorem Gy:lD X (binaryOp .Add) JG:=by
 intro pins s σ H x y v u Q I rx ry h
 obtain⟨l,b,xs,zs,rfl,rfl,hH,hB,hz,q⟩:=h
 cases rx
 cases ry
 obtain⟨z,its,n,r,hl,e⟩:=I.lstM hH
 obtain⟨z2,its2,n2,r2,hl2,e2⟩:=I.lstM hB
 refine PySem.P.add_list e e2 ?_ (by rw[d3,d3];omega)
 have ea:its.toArray++its2.toArray=(its++its2).toArray:=by simp
 rw[ea]
 exact⟨.ref _,_,I.lnew (t':=s.toks) (r.append r2) (by rw[c5];omega),rfl,q _ I.fresh⟩
end
end L2
namespace Att
open PySem PySem.W PySem.Calls PyProof.Rows
theorem oM{P:Params}{h:Heap}:∀ (ns:List Int) (vs:List Value),WellAll P h vs (ns.map WData.int)→IntsAre vs ns:=by
 intro ns
 induction ns with
 | nil =>
  intro vs w
  rw[aXN] at w
  cases w
  exact .nil
 | cons n ns ih =>
  intro vs w
  rw[g9] at w
  cases w with
  | cons a b =>
   cases a
   exact .cons _ _ (ih _ b)
theorem Br{l:OpenLaw}{n:Nat}(hn:l.most=some n){P:Params}{h:Heap}{args:List WData}{vals:List Value}
  (hpre:l.row.toRowW.claim.pre args=true) (hwl:WellAll P h vals args) :
  ∃ a vs ns,vals=[Value.ref a]∧args=[WData.list (ns.map WData.int)]∧h.get? a=some { cls:=.type "list",data:=.seq vs.toArray }∧IntsAre vs ns∧ns.length≤n:=by
 have hsh:WShape.hasAll [] args [.list .int]=true:=(pre_splitW hpre).1
 have hc:l.pre.holds [] { args:=args }=true:=(pre_splitW hpre).2
 obtain⟨d,r,rfl,h1,h2⟩:=hasAllW_cons hsh
 obtain rfl:=hasAllW_nil h2
 obtain⟨xs,rfl,h3⟩:=hasW_list h1
 obtain⟨ns,rfl⟩:=items_int h3
 have hlen:ns.length≤n:=by
  unfold OpenLaw.pre at hc
  have h4:(WTm.not (.lt (.lit (.int (n:Int))) (.len (.arg 0)))).holds [] { args:=[.list (ns.map .int)] }=true:=by
   have h4:=(holds_andW hc).1
   rw[hn] at h4
   exact h4
  have h5:=condW_of h4 (w_not (w_lt w_lit (w_len_list (w_arg rfl))))
  rw[b7] at h5
  refine Nat.le_of_not_lt fun q=>?_
  have q':(n:Int)<((ns.length:Nat):Int):=by omega
  first
   | (rw[decide_eq_true q'] at h5;exact absurd h5 (by decide))
   | (simp at h5;omega)
 cases hwl with
 | cons w1 w2 =>
  cases w2
  cases w1 with
  | list ho hall=>exact⟨_,_,ns,rfl,rfl,ho,oM ns _ hall,hlen⟩
theorem BQ(l:OpenLaw)(args:List WData):l.row.toRowW.claim.post args (.bool true) args=true :=
 postW_of (r:=l.row.toRowW) (X:=(true == true))
  (show WShape.has [] (.bool true) .bool=true by first | rfl | decide | simp[WShape.has,WShape.arms,WShape.armsAll])
  (show (WTm.eq .res (.lit (.bool true))).value [] { args:=args,res:=some (.bool true),after:=args }=some (.bool (true == true)) from w_eq_bool (w_res rfl) w_lit) rfl
theorem attach_call{l:OpenLaw}{n:Nat}{q:Program}{loose:List Str}{XP:(Str→Option Value)→Heap→Prop}{YP:World→Heap→Prop}{d:DefRec}
  (hn:l.most=some n) (hdf:d.params.defaults=[])
  (call:∀ (w:World) (s₀ s₁:Shared) (mg mb:Str→Option Value) (fa:Addr) (o:Obj) (pm cd doc:Value) (a:Addr) (vs:List Value) (ns:List Int),
   Ground q loose [] XP w s₀ mg mb s₁.heap→YP w s₁.heap →
   s₁.heap.get? fa=some o→o.data=.func (docDef d.name d.params d.body d.scope pm cd doc)→s₁.heap.CodeRec cd d.name→mg d.name=some (.ref fa) →
   s₁.heap.get? a=some { cls:=.type "list",data:=.seq vs.toArray }→IntsAre vs ns→ns.length≤n→s₁.gens=#[] →
   codeAny (model l.prog w) callerA (.call (.ref fa) ⟨[.ref a],[]⟩) (fun r s'=>r=.ok (.ret (.bool true))∧OldK s₁.heap s'.heap∧s'.os=s₁.os∧AllBare s'.gens) s₁) :
  WalkO q loose XP YP l.row.toRowW d [] (fun f vs=>PySem.call f vs):=by
 intro w s₀ s₁ mg mb G Y fa o pm cd doc dV kV ho hd hcd hD hmg hg args vals as hpre hlay hrd hwl hlo
 obtain rfl:dV=.none:=Dflts.none hD hdf
 obtain rfl:kV=.none:=Dflts.noKw hD
 obtain⟨a,vs,ns,rfl,rfl,hobj,hints,hlen⟩:=Br hn hpre hwl
 refine enter_call (codeAny_mono (call w s₀ s₁ mg mb fa o pm cd doc a vs ns G Y ho (fd_plain hd) hcd hmg hobj hints hlen hg) fun r s' hq=>?_)
 obtain⟨rfl,h2,h3,h4⟩:=hq
 exact⟨.inl ⟨.bool true,.bool true,[],rfl,fun _=>rfl,.bool true,BQ l _,fun _=>⟨List.Pairwise.nil,fun _ hm=>(nomatch hm)⟩⟩,h2,h3,h4⟩
end Att
namespace L2
open PySem PySem.Spec PyProof.Rows
theorem sW:∀ {vs:List Value} {ns:List Int},IntsAre vs ns→Vals (ns.map V.int) vs
 | _,_,.nil=>.nil
 | _,_,.cons n t h=>.cons ⟨t,rfl⟩ (sW h)
def Fs(H:Hp):Prop:=∀ b,H b=none∨∃ o xs,H b=some (.frz o (.lst xs))
theorem Ci{P:Program}{w:World}{K:b5}{mg mb:Str→Option Value}{CX:BY}{k:Nat}{fa a:Addr}{fd:FuncData}{x:Str}{sp:Sp}{s₁:Shared}{vs:List Value}{ns:List Int}
  (KX:K.In s₁.heap) (hns:s₁.heap.Ns mainGlobals mg) (hb:s₁.heap.Ns builtinsNs mb) (hbb:∀ x:Str,x≠"__name__"→mb x=bootBuiltins x) (hlim:s₁.heap.NoLimit) (hg:s₁.gens=#[])
  (ha:s₁.heap.get? a=some { cls:=.type "list",data:=.seq vs.toArray }) (hi:IntsAre vs ns) (hl:ns.length≤sizeLine) (hr:Room k callerA)
  (F:∀ base:Heap,K.In base→base.Ns mainGlobals mg→FnOk P w K mg base CX k fa fd [x] sp) (hbind:∀ (s:Shared) (u:Value),BindsTo s fd ⟨[u],[]⟩ [(x,u)])
  (hsp:∀ H:Hp,Fs H→SqL K H a (ns.map V.int)→sp [.ref a] H (fun v _=>v=.bl true) fun _ _ _=>False)
  (hCX:∀ H e s',CX [] H s₁ (fun _ _ _=>False) e s'→False) :
  codeAny (model P w) callerA (.call (.ref fa) ⟨[.ref a],[]⟩) (fun r s'=>r=.ok (.ret (.bool true))∧OldK s₁.heap s'.heap∧s'.os=s₁.os∧AllBare s'.gens) s₁:=by
 have rv:=sW hi
 have lenV:=hi.length
 -- from an abstract heap in which nothing but the script may be tracked
 have core:∀ H:Hp,Fs H→SqL K H a (ns.map V.int)→HOk P w H s₁.heap→(∀ b,H b≠none→b=a)→(H a≠none→K.lookup a=none) →
   codeAny (model P w) callerA (.call (.ref fa) ⟨[.ref a],[]⟩) (fun r s'=>r=.ok (.ret (.bool true))∧OldK s₁.heap s'.heap∧s'.os=s₁.os∧AllBare s'.gens) s₁:=by
  intro H hO hS hok hA hK
  have base_of:∀ {b:Addr} {o:Obj},s₁.heap.get? b=some o→H b=none→(vU s₁.heap H).get? b=some o:=fun e n=>Dp e n
  have noA:∀ {b:Addr} {o:Obj} {es:Array DictEntry} {ep:Nat},s₁.heap.get? b=some o→o.data=.dict es ep→H b=none:=fun {b o es ep} e d=>by
   cases q:H b with
   | none=>rfl
   | some u =>
    have e':b=a:=hA b (by rw[q];simp)
    subst e'
    rw[ha] at e;cases e
    have d':Data.seq vs.toArray _=Data.dict es ep:=d
    cases d'
  have nsK:∀ {b:Addr} {m:Str→Option Value},s₁.heap.Ns b m→(vU s₁.heap H).Ns b m:=fun {b m} ⟨o,es,ep,e,d,r⟩=>⟨o,es,ep,base_of e (noA e d),d,r⟩
  have hKb:K.In (vU s₁.heap H):=fun b o e=>base_of (KX b o e) (by
   cases q:H b with
   | none=>rfl
   | some u =>
    have e':b=a:=hA b (by rw[q];simp)
    subst e'
    rw[hK (by rw[q];simp)] at e;cases e)
  have hM:Mod K mg (vU s₁.heap H):=⟨hKb,nsK hns,⟨mb,nsK hb,hbb⟩,let ⟨mc,h1,h2⟩:=hlim;⟨mc,nsK h1,h2⟩⟩
  have e0:Env0 P w K mg (vU s₁.heap H) callerA [] s₁ H:=⟨rfl,hM,fun b o e=>ED e,aZ7 (Bb _ _),trivial,fun b hb=>absurd (show b∈([]:List Addr) from hb) (by simp),hok,.of_eq hg⟩
  refine codeAny_mono ((F _ hKb (nsK hns)).run callerA [] s₁ H ⟨[.ref a],[]⟩ [.ref a] [.ref a] _ _ hr e0 (hbind s₁ (.ref a)) (.cons rfl .nil) (hsp H hO hS)) fun r s' h=>?_
  cases r with
  | error e=>exact(hCX H e s' h).elim
  | ok fl =>
   cases fl with
   | next=>exact False.elim h
   | brk=>exact False.elim h
   | cont=>exact False.elim h
   | ret u =>
    obtain⟨v,H',os,bare,un,hok',r',q⟩:=h
    have q':v=.bl true:=q
    subst q'
    obtain rfl:u=Value.bool true:=r'
    refine⟨rfl,OldK.of_keep fun b o e=>?_,os,bare⟩
    cases q:H b with
    | none=>exact un.keep b o e q (by intro z;exact absurd (show b∈([]:List Addr) from z) (by simp)) (by simp)
    | some u =>
     rcases hO b with z | ⟨ob,xs,z⟩
     ·rw[q] at z;cases z
     ·have z2:=un.frzs b ob _ z
      obtain⟨e1,_⟩:=hok b _ z
      obtain⟨e2,_⟩:=hok' b _ z2
      rw[e] at e1;cases e1
      exact e2
 cases hk:K.lookup a with
 | some o =>
  -- the script is one of the module's own objects
  have e:=KX a o hk
  rw[ha] at e
  cases e
  refine core (fun _=>none) (fun _=>.inl rfl) (.inr ⟨_,vs.toArray,_,hk,rfl,rfl,rfl,by rw[d3,lenV];exact hl,by simpa using rv⟩) (fun b u z=>by have z':(none:Option HO)=some u:=z;cases z') (fun b z=>absurd rfl z) fun z=>absurd rfl z
 | none =>
  refine core (fun b=>if b=a then some (.frz { cls:=.type "list",data:=.seq vs.toArray } (.lst (ns.map V.int))) else none) (fun b=>?_) (.inl (.inr ⟨{ cls:=.type "list",data:=.seq vs.toArray },if_pos rfl⟩)) (fun b u z=>?_) (fun b z=>?_) fun _=>hk
  ·by_cases hb:b=a
   ·exact .inr ⟨_,_,if_pos hb⟩
   ·exact .inl (if_neg hb)
  ·by_cases hb:b=a
   ·have z':=(if_pos hb).symm.trans z
    cases z'
    subst hb
    exact⟨ha,by rw[b7];exact hl,vs,_,rv,ha⟩
   ·have z':=(if_neg hb).symm.trans z
    cases z'
  ·by_cases hb:b=a
   ·exact hb
   ·exact absurd (if_neg hb) z
theorem walk_of{l:PySem.W.OpenLaw}{n k:Nat}{q:Program}{loose:List Str}{XP:(Str→Option Value)→Heap→Prop}{YP:World→Heap→Prop}{d:DefRec}{K:Params→b5}{CX:World→BY}{sp:World→Sp}{x:Str}
  (hn:l.most=some n) (hn2:n≤sizeLine) (hdf:d.params.defaults=[]) (hr:Room k callerA)
  (hY:∀ (w:World) (h:Heap),YP w h→(K w.params).In h)
  (F:∀ (w:World) (mg:Str→Option Value) (fa:Addr) (h:Heap),(K w.params).In h→h.Ns mainGlobals mg→mg d.name=some (.ref fa) →
   ∃ fd:FuncData,(∀ (s:Shared) (u:Value),BindsTo s fd ⟨[u],[]⟩ [(x,u)]) ∧
    ∀ base:Heap,(K w.params).In base→base.Ns mainGlobals mg→FnOk l.prog w (K w.params) mg base (CX w) k fa fd [x] (sp w))
  (hsp:∀ (w:World) (H:Hp) (a:Addr) (ns:List Int),ns.length≤n→Fs H→SqL (K w.params) H a (ns.map V.int)→sp w [.ref a] H (fun v _=>v=.bl true) fun _ _ _=>False)
  (hCX:∀ (w:World) (H:Hp) (s:Shared) (e:Value) (s':Shared),CX w [] H s (fun _ _ _=>False) e s'→False) :
  PySem.W.WalkO q loose XP YP l.row.toRowW d [] (fun f vs=>PySem.call f vs):=by
 refine Att.attach_call hn hdf fun w s₀ s₁ mg mb fa o pm cd doc a vs ns G Y ho hd hcd hmg hobj hints hlen hg=>?_
 have KX:=hY w _ Y
 obtain⟨fd,hb,hF⟩:=F w mg fa _ KX G.T.g hmg
 exact Ci KX G.T.g G.T.b G.T.builtins G.T.nolimit hg hobj hints (j7 hlen hn2) hr hF hb (fun H hO hS=>hsp w H a ns hlen hO hS) fun H e s'=>hCX w H s₁ e s'
end L2
/- THE LAST THEOREM (shape;LID,My.* are yours):
   My.Adr: a structure of the addresses that your layer names (classes,functions);My.Txt K t: a structure (Prop) of the equations over K;
   My.txt_mk:{K} {implicit addresses ..} (e1:nsIn K mainGlobals "law"=some (some (.ref f))) (e2:K.lookup f=some ⟨oc,od,.func (fnOf "law" "law" params body scope dV kV doc pm an cdv ct),sl⟩) (e3:codeIn K cdv "law"=true) ..:∃ t,My.Txt K t
set_option maxRecDepth 100000 in
set_option maxHeartbeats 0 in
theorem PySem.Challenge.cw_LID_holds : PySem.Challenge.rw_LID.Holds := by
 w_on;o_law;k_head;(case hw=>w_witness2)
 k_fill
 refine L2.walk_of (l:=PySem.Challenge.rw_LID) (n:=63) (k:=40) (x:="script") (CX:=fun w=>..) (sp:=fun _=>My.sp_law) rfl (by decide) rfl ⟨rfl,by decide,by decide⟩ (fun w h Y=>aJP Y) ?F ?S ?C
 case F =>
  intro w mg fa h KX G hmg
  have T:∃ t,My.Txt (L2.KOf KX) t:=by
   dsimp only [L2.KOf]                          -- K must stand as «<heap const> w.params» for k_is
   refine' My.txt_mk ?e1 ?e2 ?e3 ..
   (case e1=>PySem.W.k_is)                    -- in the order: a name -> its address -> its object -> its parts
   (case e2=>PySem.W.k_is)
   ..
  obtain⟨t,T⟩:=T
  have e0:=hmg.symm.trans (aQc KX G T.law)
  cases e0                                       -- fa is the law's own address
  exact⟨_,fun s u=>.of_eq rfl,fun base kb nb=>My.law_fn T kb nb⟩     -- if «.of_eq rfl» comes too early: refine' ⟨_,?b,fun base kb nb=>My.law_fn T kb nb⟩;exact fun s u=>.of_eq rfl
 case S=>exact fun w H a ns hl hO hS=>..
 case C=>exact ..
(the tactic k_is has no namespace: write k_is) -/
namespace L2
open PySem PySem.Spec PyProof.Rows
def eR(s:Stmt):Arguments:=match s with
 | .FunctionDef _ a _ _ _ _ _ _ _ _=>a
 | _=>{ posonlyargs:=[],args:=[],vararg:=none,kwonlyargs:=[],kw_defaults:=[],kwarg:=none,defaults:=[] }
def eK(s:Stmt):List Stmt:=match s with
 | .FunctionDef _ _ b _ _ _ _ _ _ _=>b
 | _=>[]
def aG(s:Stmt):Scope:=match s with
 | .FunctionDef _ _ _ _ _ _ sc _ _ _=>sc
 | _=>{ kind:=.function,names:=[],isGenerator:=false,isCoroutine:=false }
abbrev AV:BY:=fun _ _ _ _ _ _=>False
abbrev E0:XK:=fun _ _ _=>False
theorem fW{X:Cx}:lC AV X E0:=fun _ _ _ _ _ _ _ h=>h.elim
structure Fun(K:b5)(x qual:Str)(st:Stmt)(f:Addr)(fd:FuncData):Prop where
 ex:∃ (oc:Value) (od:Option Addr) (kV doc pm:Value) (an:Option Addr) (cdv ct:Value) (osl:Array (Option Value)),
  fd=PySem.W.fnOf x qual (eR st) (eK st) (aG st) .none kV doc pm an cdv ct∧K.lookup f=some ⟨oc,od,.func fd,osl⟩∧PySem.W.codeIn K cdv qual=true
 kp:PySem.W.keepIn K (.ref f)=true
section
variable {P:Program}{w:World}{K:b5}{mg:Str→Option Value}{base:Heap}
theorem Fun.ok{x qual:Str}{st:Stmt}{f:Addr}{fd:FuncData}{N ps:List Str}{k:Nat}{sp:Sp}(F:Fun K x qual st f fd)(S:FnScope N ps (aG st))(len:∀ vs H Q E,sp vs H Q E→vs.length=ps.length)
  (hbody:∀ (cdv:Value) (A:Around) (outer:List Env) (s:Shared) (H:Hp) (vs:List V) (Q:VK) (E:XK),Room k (A.deeper (envOfC qual (aG st) s.heap.objs.size f cdv))→sp vs H Q E →
   ∃ t,PSs (Bp AV P w K mg base N qual (aG st) f cdv A outer s H E).nox (eK st) t∧t { nx:=fun _ H'=>Q .non H',rt:=Q } (oJ N vs) H):FnOk P w K mg base AV (k+1) f fd ps sp:=by
 obtain⟨oc,od,kV,doc,pm,an,cdv,ct,osl,rfl,lk,hcd⟩:=F.ex
 refine Ji lk hcd S len fun A outer s H vs Q E hr hsp=>?_
 obtain⟨t,h,q⟩:=hbody cdv A outer s H vs Q E hr hsp
 exact⟨t,h.nox,q⟩
theorem Fun.binds{x qual:Str}{st:Stmt}{f:Addr}{fd:FuncData}{ps:List Str}(F:Fun K x qual st f fd)
  (h:∀ (kV doc pm:Value) (an:Option Addr) (cdv ct:Value) (us:List Value),us.length=ps.length→bindArgs (PySem.W.fnOf x qual (eR st) (eK st) (aG st) .none kV doc pm an cdv ct) ⟨us,[]⟩=pure (ps.zip us)):Binds K fd ps []:=by
 obtain⟨oc,od,kV,doc,pm,an,cdv,ct,osl,rfl,lk,hcd⟩:=F.ex
 exact .all (h kV doc pm an cdv ct)
theorem nA{x qual:Str}{st:Stmt}{f:Addr}{oc:Value}{od an:Option Addr}{osl:Array (Option Value)}{kV doc pm cdv ct:Value}(l:K.lookup f=some ⟨oc,od,.func (PySem.W.fnOf x qual (eR st) (eK st) (aG st) .none kV doc pm an cdv ct),osl⟩)
  (c:PySem.W.codeIn K cdv qual=true) (k:PySem.W.keepIn K (.ref f)=true):Fun K x qual st f (PySem.W.fnOf x qual (eR st) (eK st) (aG st) .none kV doc pm an cdv ct):=⟨⟨oc,od,kV,doc,pm,an,cdv,ct,osl,rfl,l,c⟩,k⟩
end
theorem aQ{n:Nat}(h:n≤1000):n<sizeLine:=m7 h (by decide)
section
variable {X:Cx}
theorem pv(i:Nat){x:Str}{pos:Pos}(hN:X.N[i]?=some x:=by rfl)(hv:IZ X.env.scope x:=by first | exact Or.inl rfl | exact Or.inr (Or.inl rfl) | exact Or.inr (Or.inr rfl))(hd:(x == ("__debug__":Str))=false:=by decide)
  (hcd:(x == ("__classdict__":Str))=false:=by decide):PE X (.Name x pos) (vT i):=GQ hN hv hd hcd
end
theorem jO{A B:Prop}(h:B):if false=true then A else B:=by
 rw[if_neg i8]
 exact h
theorem lW{A B:Prop}(h:A):if true=true then A else B:=by
 rw[if_pos rfl]
 exact h
theorem gC{c A B:Prop}[Decidable c](h1:c→A)(h2:¬ c→B):if c then A else B:=by
 by_cases h:c
 ·rw[if_pos h]
  exact h1 h
 ·rw[if_neg h]
  exact h2 h
def Same(H H':Hp):Prop:=∀ b o,H b=some o→H' b=some o
theorem Same.refl(H:Hp):Same H H:=fun _ _ h=>h
theorem Same.trans{H H1 H2:Hp}(a:Same H H1)(b:Same H1 H2):Same H H2:=fun c o h=>b c o (a c o h)
theorem Same.free{H H':Hp}(e:Same H H'){l:Addr}(h:H' l=Option.none):H l=Option.none:=by
 cases q:H l with
 | none=>rfl
 | some o =>
  rw[e l o q] at h
  cases h
def fE(cells:List (Str×Addr))(acc:List (Str×Addr))(p:Str×NameKind):List (Str×Addr) :=
 if p.2 == .free then (match cells.lookup p.1 with | some c=>(p.1,c)::acc | none=>acc) else acc
def Cw(names:List (Str×NameKind))(cells:List (Str×Addr)):List (Str×Addr):=names.foldl (fE cells) []
theorem lY{env:Env}:∀ (names:List (Str×NameKind)) (acc:List (Str×Addr)),(∀ y∈names,y.2=.free→∃ c,env.cells.lookup y.1=some c) →
  (forIn names acc (fun (p:Str×NameKind) (cs:List (Str×Addr))=>(match p with
   | (name,kind)=>if (kind == .free)=true then (do let c ← cellOf env name;pure (ForInStep.yield ((name,c)::cs))) else pure (ForInStep.yield cs):Sem (ForInStep (List (Str×Addr))))))=pure (names.foldl (fE env.cells) acc)
 | [],acc,_=>rfl
 | (n,k)::r,acc,h=>by
  have ih:=fun acc=>lY (env:=env) r acc fun y hy=>h y (c8 _ hy)
  rw[aXP,aXQ]
  by_cases e:(k == NameKind.free)=true
  ·obtain⟨c,hc⟩:=h (n,k) d4 (by simpa using e)
   have hc':env.cells.lookup n=some c:=hc
   have e1:fE env.cells acc (n,k)=(n,c)::acc:=by unfold fE;rw[if_pos e];simp only [hc']
   rw[e1,← ih]
   have e2:cellOf env n=pure c:=by unfold cellOf;rw[hc']
   simp only [e,if_true,e2]
   rfl
  ·have e1:fE env.cells acc (n,k)=acc:=by unfold fE;rw[if_neg e]
   rw[e1,← ih]
   simp only [e,if_false]
   rfl
theorem kU{scope:Scope}{env:Env}(h:∀ y∈scope.names,y.2=.free→∃ c,env.cells.lookup y.1=some c):closureFor scope env=pure (Cw scope.names env.cells):=by
 unfold closureFor
 have q:=lY (env:=env) scope.names [] h
 unfold Cw
 exact(congrArg (fun (m:Sem (List (Str×Addr)))=>m >>= fun cs=>pure cs) q).trans rfl
theorem xY{cells:List (Str×Addr)}:∀ (names:List (Str×NameKind)) (acc:List (Str×Addr)),(∀ y c,acc.lookup y=some c→cells.lookup y=some c)→∀ y c,(names.foldl (fE cells) acc).lookup y=some c→cells.lookup y=some c
 | [],acc,h,y,c,e=>h y c e
 | p::r,acc,h,y,c,e=>by
  refine xY r (fE cells acc p) (fun z d q=>?_) y c e
  unfold fE at q
  split at q
  ·split at q
   ·rename_i c' hc'
    rw[t5] at q
    split at q
    ·rename_i hz
     have hz':z=p.1:=by simpa using hz
     cases q
     rw[hz'];exact hc'
    ·exact h z d q
   ·exact h z d q
  ·exact h z d q
theorem xW{cells:List (Str×Addr)}:∀ (names:List (Str×NameKind)) (acc:List (Str×Addr)) (y:Str),(acc.lookup y).isSome=true→((names.foldl (fE cells) acc).lookup y).isSome=true
 | [],_,_,h=>h
 | p::r,acc,y,h=>by
  refine xW r _ y ?_
  unfold fE
  split
  ·split
   ·rw[t5]
    split
    ·rfl
    ·exact h
   ·exact h
  ·exact h
theorem Ac{cells:List (Str×Addr)}:∀ (names:List (Str×NameKind)) (acc:List (Str×Addr)) (y:Str) (c:Addr),(y,NameKind.free)∈names→cells.lookup y=some c→((names.foldl (fE cells) acc).lookup y).isSome=true
 | [],_,_,_,h,_=>by simp at h
 | p::r,acc,y,c,h,hc=>by
  rcases c7.mp h with e | e
  ·refine xW r _ y ?_
   subst e
   unfold fE
   simp only [hc]
   simp[t5]
  ·exact Ac r _ y c e hc
theorem iU{env:Env}:∀ {names:List (Str×NameKind)} {x:Str},names.lookup x=some .free →
  (names.map fun (n,k)=>if (k == NameKind.free && env.scope.kind == .function && env.kindOf n == some .cell) then (n,NameKind.cell) else (n,k)).lookup x=some .cell ∨
  (names.map fun (n,k)=>if (k == NameKind.free && env.scope.kind == .function && env.kindOf n == some .cell) then (n,NameKind.cell) else (n,k)).lookup x=some .free
 | [],_,h=>by simp at h
 | (n,k)::r,x,h=>by
  have ih:=@iU env r x
  rw[g9]
  cases hx:x == n with
  | true =>
   simp only [t5,hx] at h
   cases h
   by_cases hc:(NameKind.free == NameKind.free && env.scope.kind == .function && env.kindOf n == some .cell)=true
   ·left;dsimp only;rw[if_pos hc];simp[t5,hx]
   ·right;dsimp only;rw[if_neg hc];simp[t5,hx]
  | false =>
   simp only [t5,hx] at h
   have e:∀ z:Str×NameKind,z.1=n→((z::(r.map fun (n,k)=>if (k == NameKind.free && env.scope.kind == .function && env.kindOf n == some .cell) then (n,NameKind.cell) else (n,k))).lookup x=(r.map fun (n,k)=>if (k == NameKind.free && env.scope.kind == .function && env.kindOf n == some .cell) then (n,NameKind.cell) else (n,k)).lookup x):=fun z hz=>by
    obtain⟨z1,z2⟩:=z
    cases hz
    rw[t5,hx]
   dsimp only
   split
   ·rw[e _ rfl];exact ih h
   ·rw[e _ rfl];exact ih h
theorem lV{env:Env}:∀ {names:List (Str×NameKind)} {x:Str},(∀ y∈names,y.2≠.cell) →
  ((names.map fun (n,k)=>if (k == NameKind.free && env.scope.kind == .function && env.kindOf n == some .cell) then (n,NameKind.cell) else (n,k)).lookup x=some .cell ∨
  (names.map fun (n,k)=>if (k == NameKind.free && env.scope.kind == .function && env.kindOf n == some .cell) then (n,NameKind.cell) else (n,k)).lookup x=some .free)→names.lookup x=some .free
 | [],_,_,h=>by simp at h
 | (n,k)::r,x,hn,h=>by
  have ih:=@lV env r x fun y hy=>hn y (c8 _ hy)
  have hk:k≠.cell:=hn (n,k) d4
  rw[g9] at h
  cases hx:x == n with
  | true =>
   by_cases hc:(k == NameKind.free && env.scope.kind == .function && env.kindOf n == some .cell)=true
   ·have:k=.free:=by
     cases k <;> simp at hc ⊢
    subst this
    simp[t5,hx]
   ·dsimp only at h;rw[if_neg hc] at h
    simp only [t5,hx] at h ⊢
    rcases h with h | h
    ·cases h;exact absurd rfl hk
    ·exact h
  | false =>
   have e:∀ z:Str×NameKind,z.1=n→((z::(r.map fun (n,k)=>if (k == NameKind.free && env.scope.kind == .function && env.kindOf n == some .cell) then (n,NameKind.cell) else (n,k))).lookup x=(r.map fun (n,k)=>if (k == NameKind.free && env.scope.kind == .function && env.kindOf n == some .cell) then (n,NameKind.cell) else (n,k)).lookup x):=fun z hz=>by
    obtain⟨z1,z2⟩:=z
    cases hz
    rw[t5,hx]
   dsimp only at h
   have h':(r.map fun (n,k)=>if (k == NameKind.free && env.scope.kind == .function && env.kindOf n == some .cell) then (n,NameKind.cell) else (n,k)).lookup x=some .cell∨(r.map fun (n,k)=>if (k == NameKind.free && env.scope.kind == .function && env.kindOf n == some .cell) then (n,NameKind.cell) else (n,k)).lookup x=some .free:=by
    split at h
    ·rw[e _ rfl] at h;exact h
    ·rw[e _ rfl] at h;exact h
   rw[t5,hx]
   exact ih h'
structure CompSc(X:Cx)(scope:Scope)(x:Str)(ix:List Nat):Prop where
 kind:scope.kind=.function
 nocell:∀ y∈scope.names,y.2≠.cell
 loc:∀ y∈scope.names,y.2=.local→scope.names.lookup y.1=some .local
 x:scope.names.lookup x=some .local
 free:∀ y∈scope.names,y.2=.free→X.env.scope.names.lookup y.1=some .cell∨X.env.scope.names.lookup y.1=some .free
 cap:∀ i∈ix,i<X.N.length∧scope.names.lookup (X.N.getD i "")=some .free
def oE(X:Cx)(x:Str)(ix:List Nat):List Str:=x::ix.map fun i=>X.N.getD i ""
def xU(σ:St)(ix:List Nat):St:=none::ix.map fun i=>σ.getD i none
def bO(X:Cx)(scope:Scope)(x:Str)(ix:List Nat)(ex:List Addr)(s:Shared)(H:Hp):Cx where
 prog:=X.prog
 w:=X.w
 K:=X.K
 mg:=X.mg
 base:=X.base
 A:=X.A
 N:=oE X x ix
 s₀:=s
 H₀:=H
 env:=compEnvC scope (Cw scope.names X.env.cells) s.heap.objs.size X.env
 outer:=X.stack
 stack:=X.stack
 ex:=ex
 fn:=fun _=>false
 calm:=X.calm
 pn:=[]
 xe:=fun _ _=>False
section
variable {X:Cx}{scope:Scope}{x:Str}{ix:List Nat}
theorem CompSc.cells(S:CompSc X scope x ix)(ok:X.Ok):∀ y∈scope.names,y.2=.free→∃ c,X.env.cells.lookup y.1=some c:=fun y hy hf=>ok.has y.1 (S.free y hy hf)
theorem B2{pins:List (Addr×Obj)}{σ:St}{H:Hp}{s:Shared}{h':Heap}{t':Nat}{fp:List Addr}(S:CompSc X scope x ix)(I:Inv X pins σ H s)(hf:∀ b∈fp,iH X pins H b)(hlt:∀ b∈fp,b<s.heap.objs.size)
  (ns:h'.Ns s.heap.objs.size (fun y=>([]:List (Str×Value)).reverse.lookup y)) (sb:Heap.SameBut s.heap.objs.size (s.heap.push { cls:=.type "dict",data:=.dict #[] }) h') :
  Inv (bO X scope x ix fp s H) [] (xU σ ix) H { s with heap:=h',toks:=t' }:=by
 have hk:∀ b u,s.heap.get? b=some u→h'.get? b=some u:=fun b u e=>(sb.2 b (i3 (d6 e))).trans (b9 _ e)
 have sound:∀ y c,(Cw scope.names X.env.cells).lookup y=some c→X.env.cells.lookup y=some c:=xY scope.names [] (fun _ _ q=>by simp at q)
 have cellLt:∀ y c,X.env.cells.lookup y=some c→c<s.heap.objs.size:=fun y c e=>by
  obtain⟨v,q⟩:=I.cell y c e
  exact q.lt
 have cellK:∀ y c v,X.env.cells.lookup y=some c→s.heap.IsCell c v→h'.IsCell c v:=fun y c v _ ⟨o,ho,hd⟩=>⟨o,hk c o ho,hd⟩
 refine⟨⟨I.ok.mod,S.kind,I.ok.glob,I.ok.blt,c0 _,fun y z c h1 h2=>I.ok.inj y z c (sound y c h1) (sound z c h2),fun y hy=>?_,fun y c hf _=>(by cases hf),I.ok.hd,I.ok.frames,.inl rfl,fun b hb=>⟨i3 (hlt b hb),fun y c e=>(hf b hb).2.2.2.2.1 y c (sound y c e)⟩,I.bs,j7 I.ok.bsz I.sz,fun b o e hb=>?_,fun b hb hs=>?_,I.stack,I.stkFree⟩,
  rfl,I.bare,Un.kept hk,⟨_,ns,fun i y v h1 h2 h3=>?_⟩,fun y c e=>?_,I.hok.fresh (c0 _),fun y c e=>I.freeC y c (sound y c e),fun p hp=>absurd (show p∈([]:List (Addr×Obj)) from hp) (by simp),I.hok.kept hk,?_⟩
 ·have hy':scope.names.lookup y=some .free:=lV (env:=X.env) S.nocell hy
  obtain⟨c,hc⟩:=S.cells I.ok (y,.free) (p8 hy') rfl
  exact aQ8.mp (Ac scope.names [] y c (p8 hy') hc)
 ·obtain⟨_,_,_,f3,_⟩:=hf b hb
  rcases f3 with f3 | f3
  ·exact I.ok.noex b o e f3
  ·exact absurd (m4 (d6 e) (j7 I.ok.bsz f3)) (aQW _)
 ·rcases c7.mp (I.stkSub b hs) with e | e
  ·exact(hf b hb).2.1 e
  ·exact(hf b hb).2.2.1 e
 ·cases i with
  | zero =>
   have h2':(none:Option V)=some v:=by simpa [xU] using h2
   cases h2'
  | succ i =>
   have h1':(ix.map fun i=>X.N.getD i "")[i]?=some y:=by simpa [bO,oE] using h1
   have h2':(ix.map fun i=>σ.getD i none)[i]?=some (some v):=by simpa [xU] using h2
   rw[c9] at h1' h2'
   cases ei:ix[i]? with
   | none=>rw[ei] at h1';cases h1'
   | some j =>
    rw[ei] at h1' h2'
    have h1'':X.N.getD j ""=y:=d9 h1'
    have h2'':σ.getD j none=some v:=d9 h2'
    obtain⟨hj,hfr⟩:=S.cap j (b6 ei)
    rw[h1''] at hfr
    have e1:X.N[j]?=some y:=by
     rw[b0 hj]
     rw[b8,b0 hj] at h1''
     exact congrArg some h1''
    have e2:σ[j]?=some (some v):=by
     have hj':j<σ.length:=by rw[I.len];exact hj
     rw[b0 hj']
     rw[b8,b0 hj'] at h2''
     exact congrArg some h2''
    have vis:IZ X.env.scope y:=by
     rcases S.free (y,.free) (p8 hfr) rfl with q | q
     ·exact .inr (.inl q)
     ·exact .inr (.inr q)
    obtain⟨m,hn,hl⟩:=I.loc
    obtain⟨u,r,q⟩:=hl j y v e1 e2 vis
    refine⟨u,r,.inr ⟨?_,?_⟩⟩
    ·exact iU (env:=X.env) hfr
    ·rcases q with ⟨k,_⟩ | ⟨_,c,hc,z⟩
     ·rcases S.free (y,.free) (p8 hfr) rfl with q | q
      ·rw[show X.env.kindOf y=X.env.scope.names.lookup y from rfl,q] at k;cases k
      ·rw[show X.env.kindOf y=X.env.scope.names.lookup y from rfl,q] at k;cases k
     ·obtain⟨c',hc'⟩:=aQ8.mp (Ac scope.names [] y c (p8 hfr) hc)
      have e3:=sound y c' hc'
      rw[hc] at e3;cases e3
      exact⟨c,hc',cellK y c _ hc z⟩
 ·obtain⟨v,q⟩:=I.cell y c (sound y c e)
  exact⟨v,cellK y c v (sound y c e) q⟩
 ·simp[xU,bO,oE]
theorem xG{pins:List (Addr×Obj)}{σ σ':St}{H H':Hp}{s s':Shared}{fp:List Addr}{h'':Heap}(I:Inv X pins σ H s)(hf:∀ b∈fp,iH X pins H b)(J:Inv (bO X scope x ix fp s H) [] σ' H' s')
  (sb:Heap.SameBut s.heap.objs.size s'.heap h''):Inv X pins σ H' { s' with heap:=h'' }:=by
 have neC:∀ b o,s.heap.get? b=some o→b≠s.heap.objs.size:=fun b o e=>i3 (d6 e)
 have B:Un (BZ X.stack) fp H H' s.heap s'.heap:=J.base
 have hC:H' s.heap.objs.size=none:=J.free
 refine I.call' (ch:=fp) J.os ?_ ?_ J.bare fun b hb=>⟨(hf b hb).2.2.2.1,(hf b hb).2.1,(hf b hb).2.2.2.2.1,(hf b hb).2.2.2.2.2⟩
 ·refine⟨fun b o e n hb hx=>(sb.2 b (neC b o e)).trans (B.keep b o e n hb hx),fun b o e n hb hx=>?_,B.free,fun b o e hx=>?_,B.tups,B.frzs,B.tbls⟩
  ·obtain⟨sl,q⟩:=B.slot b o e n hb hx
   exact⟨sl,(sb.2 b (neC b o e)).trans q⟩
  ·obtain⟨o',q⟩:=B.there b o e hx
   exact⟨o',(sb.2 b (neC b o e)).trans q⟩
 ·intro b ob e
  refine(J.hok b ob e).stay (fun c w' hc q=>(sb.2 c ?_).trans q) (fun _ q=>q) fun _ _ q=>q
  rintro rfl
  rcases hc with hc | hc
  ·rw[← hc,hC] at e;cases e
  ·rw[hC] at hc;cases hc
end
theorem rP{α β:Type}{M:Model}{A:Around}{a:α}{t:Sem β}{P:α→Shared→Prop}{Q:β→Shared→Prop}{E E':Value→Shared→Prop}{s:Shared}(h:wpAny M A (pure a:Sem α) P E s)(k:P a s→wpAny M A t Q E' s):wpAny M A t Q E' s:=fun Γ p hΓ=>k (h Γ p hΓ) Γ p hΓ
def xE(X:Cx)(ifs:List Expr)(t:TT):Prop :=
 ∀ (pins:List (Addr×Obj)) (s:Shared) (σ:St) (H:Hp) (Q:Bool→Hp→Prop),Inv X pins σ H s→t σ H Q →
  wpAny (model X.prog X.w) X.A (forIn ifs true fun c r=>if r=true then do let ok ← isTrue c X.env (eval c X.env);pure (ForInStep.yield ok) else pure (ForInStep.yield r)) (TP X pins σ Q) X.xe s
def Ik:TT:=fun _ H Q=>Q true H
theorem cM{X:Cx}:xE X [] Ik:=fun _ _ _ H _ I h=>wpAny_tests_nil ⟨H,I,h⟩
theorem pV{X:Cx}{c:Expr}{t:TT}(h:PT X c t):xE X [c] t:=fun pins s σ H Q I q=>wpAny_tests_one (h pins s σ H Q I q)
def DC(σ:St)(ix:List Nat):St:=ix.map fun i=>σ.getD i none
def jV(J:It)(D:Addr)(Q:VK)(ti:TT)(te:TE)(c:St)(H0:Hp):Prop :=
 ∃ W:Nat→Nat→Hp→Prop,(∃ m,W 0 m H0)∧∀ i m H,W i m H →
  (J.stop i H∧Q (.ref D) H)∨(J.go i H∧∃ N:Hp→Prop,(∀ H',N H'→∃ m',m' < m∧W (i+1) m' H')∧∀ v H',J.yld i H v H' →
   ti (some v::c) H' fun b H2=>if b=true then te (some v::c) H2 fun y H3=>∃ ys,H3 D=some (.lst ys)∧ys.length<sizeLine∧N (upd H3 D (.lst (ys++[y]))) else N H2)
def AA(wi:TI)(ix:List Nat)(ti:TT)(te:TE):TE:=fun σ H Q=>wi σ H fun J H1=>∀ D,H1 D=none→jV J D Q ti te (DC σ ix) (upd H1 D (.lst []))
section
variable {X:Cx}{scope:Scope}{x:Str}{px pos:Pos}{ix:List Nat}{elt iter:Expr}{ifs:List Expr}{wi:TI}{ti:TT}{te:TE}
theorem pK{pins:List (Addr×Obj)}{σ:St}{H:Hp}{s:Shared}{fp:List Addr}{it D:Addr}{tn:Nat→Heap→Prop}{J:It}{Q:VK}{E:Value→Shared→Prop}{RR:Result→Shared→Prop}(S:CompSc X scope x ix)(hc:X.calm=true)
  (he:∀ s H,PE (bO X scope x ix fp s H) elt te) (hi:∀ s H,xE (bO X scope x ix fp s H) ifs ti)
  (I:Inv X pins σ H s) (T:Turn X.prog X.w X.K (.Name x px) J fp it tn) (st:tn 0 s.heap) (hf:∀ b∈fp,iH X pins H b) (go:jV J D Q ti te (DC σ ix) H)
  (nd:(oE X x ix).Nodup)
  (hR:∀ σ' H' s',Inv (bO X scope x ix fp s H) [] σ' H' s'→Q (.ref D) H'→RR (.ok .next) s') :
  wpAny (model X.prog X.w) X.A (newFunctionEnv scope X.env.globals (Cw scope.names X.env.cells) [] X.env.qual none .none (some X.env)) (fun cenv s₄=>cenv.locals=s.heap.objs.size ∧
   codeAny (model X.prog X.w) X.A (.compStart (.ListComp elt [⟨.Name x px,iter,ifs,0⟩] scope pos) 0 (.ref it) (.ref D) { cenv with scope:=relabel scope X.env }) RR s₄) E s:=by
 refine wpAny_newFunctionEnv S.nocell (by intro y hy;simp at hy) (fun h' ns sb=>⟨rfl,?_⟩) S.kind
 have hlt:∀ b∈fp,b<s.heap.objs.size:=fun b hb=>by
  obtain⟨o,e,_⟩:=T.obj 0 _ st b hb
  exact d6 e
 have I0:Inv (bO X scope x ix fp s H) [] (xU σ ix) H { s with heap:=h',toks:=s.toks+([]:List (Str×Value)).length }:=B2 S I hf hlt ns sb
 have st0:tn 0 h':=T.keep 0 _ _ st fun b hb o e=>(sb.2 b (i3 (d6 e))).trans (b9 _ e)
 obtain⟨W,⟨m0,w0⟩,turn⟩:=go
 have stat:∀ {H':Hp},(∀ b∈fp,H' b=none)→∀ b∈fp,iH (bO X scope x ix fp s H) [] H' b:=fun hn b hb=>by
  refine⟨hn b hb,i3 (hlt b hb),fun z=>?_,.inl hb,fun y c e=>(I0.ok.exf b hb).2 y c e,fun p hp=>absurd (show p∈([]:List (Addr×Obj)) from hp) (by simp)⟩
  exact I0.ok.exfs b hb z
 have loop:codeAny (model X.prog X.w) X.A (.compLoop (.ListComp elt [⟨.Name x px,iter,ifs,0⟩] scope pos) 0 (.ref it) (.ref D) (bO X scope x ix fp s H).env) RR { s with heap:=h',toks:=s.toks+([]:List (Str×Value)).length }:=by
  refine codeAny_compLoop_tests (fun n s'=>∃ i o H',Inv (bO X scope x ix fp s H) [] (o::DC σ ix) H' s'∧tn i s'.heap∧(∀ b∈fp,H' b=none)∧W i n H') ?_ m0 ⟨0,none,H,I0,st0,fun b hb=>(hf b hb).1,w0⟩
  rintro n s3 ⟨i,o3,H3,I3,st3,fr3,w3⟩
  rcases turn i n H3 w3 with ⟨stop,qn⟩ | ⟨gone,N,hN,step⟩
  ·refine cK (T.done (bO X scope x ix fp s H) rfl rfl rfl hc i [] s3 _ H3 _ I3 (stat fr3) st3 stop) fun r s4 ⟨hr,I4⟩=>?_
   subst hr
   exact hR _ H3 s4 I4 qn
  ·refine cK (T.item (bO X scope x ix fp s H) rfl rfl rfl hc i [] s3 _ H3 (fun _ _=>False) I3 (stat fr3) st3 gone |> fun z=>wpAny_mono z (fun _ _ q=>q) fun _ _ f=>f.elim) fun r s4 ⟨u,hr,h4⟩=>?_
   subst hr
   refine rP (a:=()) h4 fun ⟨y,H5,I5,r5,y5,st5,fr5⟩=>?_
   have I5':=I5.pinned (stat fr5) (T.obj _ _ st5)
   have hx0:(bO X scope x ix fp s H).N[0]?=some x:=rfl
   refine wpAny_assign_Name (iE I5' nd hx0 (.inl (lookup_relabel_local S.x)) r5 (fun s6 I6=>?_) (.inr (lookup_relabel_local S.x)))
   refine wpAny_mono (hi s H _ s6 _ H5 _ I6 (step y H5 y5)) (fun ok s7 ⟨H7,I7,q7⟩=>?_) fun _ _ f=>f.elim
   have again:∀ {o7:Option V} {H7:Hp} {s7:Shared},Inv (bO X scope x ix fp s H) ([]++lJ fp s4.heap) (o7::DC σ ix) H7 s7→N H7→∃ m,m<n∧∃ i o H',Inv (bO X scope x ix fp s H) [] (o::DC σ ix) H' s7∧tn i s7.heap∧(∀ b∈fp,H' b=none)∧W i m H':=fun {o7 H7 s7} I7 n7=>by
    obtain⟨m',hm,w7⟩:=hN H7 n7
    refine⟨m',hm,i+1,o7,H7,I7.unpinned,T.keep _ _ _ st5 fun b hb o e=>(I7.pin (b,o) (j6 _ (j6 _ (jB hb e)))).1,fun b hb=>?_,w7⟩
    obtain⟨o,e,d⟩:=T.obj _ _ st5 b hb
    exact(I7.pin (b,o) (j6 _ (j6 _ (jB hb e)))).2.1
   cases ok with
   | false =>
    rw[if_neg (by simp)] at q7
    exact again I7 q7
   | true =>
    rw[if_pos rfl] at q7
    refine wpAny_mono (he s H _ s7 _ H7 _ I7 q7) (fun v s8 ⟨y8,H8,I8,r8,ys,hD,hz,n8⟩=>?_) fun _ _ f=>f.elim
    obtain⟨z,its,k,rv,e⟩:=I8.hok D _ hD
    have hl:s8.heap.IsList D its.toArray:=⟨_,e,rfl,k,rfl⟩
    refine cW _ s8 _ H8 (.ref D) [y8] (.ref D) [v] _ I8 rfl (.cons r8 .nil) ⟨D,ys,y8,rfl,rfl,hD,hz,n8⟩ |> fun z=>wpAny_mono z (fun _ s9 ⟨_,H9,I9,_,q9⟩=>again I9 q9) fun _ _ f=>f.elim
 exact codeAny_compStart_list loop (T.self _ 0 _ _ _ st0 loop)
end
section
variable {X:Cx}{scope:Scope}{x:Str}{px pos:Pos}{ix:List Nat}{elt iter:Expr}{ifs:List Expr}{wi:TI}{ti:TT}{te:TE}
theorem Inv.fp_upd{pins:List (Addr×Obj)}{H:Hp}{D:Addr}{o:HO}{fp:List Addr}(hf:∀ b∈fp,iH X pins H b)(hD:∀ b∈fp,b≠D):∀ b∈fp,iH X pins (upd H D o) b:=fun b hb =>
 ⟨by rw[aE (hD b hb)];exact(hf b hb).1,(hf b hb).2⟩
theorem Ap(S:CompSc X scope x ix)(nd:(oE X x ix).Nodup)(hc:X.calm=true)(hi:PI X (.Name x px) iter wi)(hif:∀ fp s H,xE (bO X scope x ix fp s H) ifs ti)(he:∀ fp s H,PE (bO X scope x ix fp s H) elt te)
  (hs:∀ z,foldedSetIterable iter X.env z=pure z:=by intro _;rfl):PE X (.ListComp elt [⟨.Name x px,iter,ifs,0⟩] scope pos) (AA wi ix ti te):=by
 intro pins s σ H Q I h
 rw[eval_ListComp]
 refine wpAny_comprehension_free (use:=none) rfl hs (kU (S.cells I.ok)) S.kind S.loc (cK (hi pins s σ H _ I h) fun v s1 h1=>cK h1 fun itv s2 h2=>?_)
 obtain⟨it,fp,tn,J,H2,rfl,I2,T,st2,f2,q⟩:=h2
 refine wpAny_newObj_type ?_
 have fr:=I2.fresh
 have I3:Inv X pins σ (upd H2 s2.heap.objs.size (.lst [])) { s2 with heap:=s2.heap.push { cls:=.type "list",data:=.seq ([]:List Value).toArray } }:=I2.lnew (t':=s2.toks) .nil (l7 _)
 have hD:∀ b∈fp,b≠s2.heap.objs.size:=fun b hb=>by
  obtain⟨o,e,_⟩:=T.obj 0 _ st2 b hb
  exact i3 (d6 e)
 have f3:=Inv.fp_upd (o:=.lst []) f2 hD
 have st3:tn 0 (s2.heap.push { cls:=.type "list",data:=.seq ([]:List Value).toArray }):=T.keep 0 _ _ st2 fun b hb o e=>b9 _ e
 refine cK (pK (px:=px) (pos:=pos) (iter:=iter) (E:=X.xe) (RR:=compPost (model X.prog X.w) X.A X.xe none (EP X pins σ Q) (.ref s2.heap.objs.size) (s2.heap.push { cls:=.type "list",data:=.seq ([]:List Value).toArray }).objs.size) S hc (he fp) (hif fp) I3 T st3 f3 (q _ fr) nd ?_) fun cenv s4 ⟨e,z⟩=>?_
 ·intro σ' H' s' J' q'
  obtain⟨m,hn,_⟩:=J'.loc
  exact⟨m,hn,fun h'' sb=>⟨_,H',xG I3 f3 J' sb,(show RelV (.ref s2.heap.objs.size) _ from rfl),q'⟩⟩
 ·rw[← show cenv.locals=(s2.heap.push { cls:=.type "list",data:=.seq ([]:List Value).toArray }).objs.size from e] at z;exact z
def E6(i:Nat)(wi:TI)(ix:List Nat)(ti:TT)(te:TE):TS:=fun D σ H=>AA wi ix ti te σ H fun v H1=>D.nx (σ.set i (some v)) H1
theorem EJ{i:Nat}{y:Str}{py spos:Pos}(hN:X.N.Nodup)(hy:X.N[i]?=some y)(hyl:X.env.scope.names.lookup y=some .local)(S:CompSc X scope x ix)(nd:(oE X x ix).Nodup)(hc:X.calm=true)(hi:PI X (.Name x px) iter wi)
  (hif:∀ fp s H,xE (bO X scope x ix fp s H) ifs ti) (he:∀ fp s H,PE (bO X scope x ix fp s H) elt te)
  (hsw:swapsWith (.ListComp elt [⟨.Name x px,iter,ifs,0⟩] scope pos) (some (.Name y py)) spos.line X.env=pure true:=by rfl)
  (hs:∀ z,foldedSetIterable iter X.env z=pure z:=by intro _;rfl):PS X (.Assign [.Name y py] (.ListComp elt [⟨.Name x px,iter,ifs,0⟩] scope pos) spos) (E6 i wi ix ti te):=by
 intro pins s σ H D I h
 rw[exec_Assign_Name_used _ _ _ _ hsw]
 refine wpAny_bind (wpAny_standAt (wpAny_bind ?_))
 show wpAny _ X.A (do let _ ← comprehension (.ListComp elt [⟨.Name x px,iter,ifs,0⟩] scope pos) scope X.env _ (newList []) false (eval iter X.env) (some (assign (.Name y py) X.env))) _ _ s
 refine wpAny_bind (wpAny_mono (wpAny_comprehension_free (use:=some (assign (.Name y py) X.env)) (Q:=fun _ s'=>SP X pins D .next s') rfl hs (kU (S.cells I.ok)) S.kind S.loc (cK (hi pins s σ H _ I h) fun v s1 h1=>cK h1 fun itv s2 h2=>?_)) (fun _ s' hq=>wpAny_pure (wpAny_pure hq)) fun _ _ e=>e)
 obtain⟨it,fp,tn,J,H2,rfl,I2,T,st2,f2,q⟩:=h2
 refine wpAny_newObj_type ?_
 have fr:=I2.fresh
 have I3:Inv X pins σ (upd H2 s2.heap.objs.size (.lst [])) { s2 with heap:=s2.heap.push { cls:=.type "list",data:=.seq ([]:List Value).toArray } }:=I2.lnew (t':=s2.toks) .nil (l7 _)
 have hD:∀ b∈fp,b≠s2.heap.objs.size:=fun b hb=>by
  obtain⟨o,e,_⟩:=T.obj 0 _ st2 b hb
  exact i3 (d6 e)
 have f3:=Inv.fp_upd (o:=.lst []) f2 hD
 have st3:tn 0 (s2.heap.push { cls:=.type "list",data:=.seq ([]:List Value).toArray }):=T.keep 0 _ _ st2 fun b hb o e=>b9 _ e
 refine cK (pK (px:=px) (pos:=pos) (iter:=iter) (E:=X.xe) (RR:=compPost (model X.prog X.w) X.A X.xe (some (assign (.Name y py) X.env)) (fun _ s'=>SP X pins D .next s') (.ref s2.heap.objs.size) (s2.heap.push { cls:=.type "list",data:=.seq ([]:List Value).toArray }).objs.size) S hc (he fp) (hif fp) I3 T st3 f3 (q _ fr) nd ?_) fun cenv s4 ⟨e,z⟩=>?_
 ·intro σ' H' s' J' q'
  have neL:(s2.heap.push { cls:=.type "list",data:=.seq ([]:List Value).toArray }).objs.size≠X.env.locals:=aQ7 I3.lt
  have I4:Inv X pins σ H' { s' with heap:=s'.heap }:=xG I3 f3 J' (.refl ..)
  show wpAny (model X.prog X.w) X.A (assign (.Name y py) X.env (.ref s2.heap.objs.size)) _ X.xe s'
  refine wpAny_assign_Name (tG (s:=s') I4 hN hy (.inl hyl) (show RelV (.ref s2.heap.objs.size) _ from rfl) (fun s6 I6 ⟨a,sb,ha⟩=>?_) (.inr hyl))
  have ha':a≠(s2.heap.push { cls:=.type "list",data:=.seq ([]:List Value).toArray }).objs.size:=by
   rcases ha with ha | ha
   ·rw[ha];exact aQ5 neL
   ·obtain⟨v,z⟩:=I3.cell y a ha
    exact i3 z.lt
  obtain⟨m,hn,_⟩:=J'.loc
  refine⟨m,hn.sameBut sb (aQ5 ha'),fun h'' sb2=>⟨σ.set i (some (.ref s2.heap.objs.size)),H',?_,q'⟩⟩
  -- the block's dict is not ours: its change is no matter
  have I7:Inv X pins (σ.set i (some (.ref s2.heap.objs.size))) H' s6:=I6
  have hCn:H' (s2.heap.push { cls:=.type "list",data:=.seq ([]:List Value).toArray }).objs.size=none:=J'.free
  refine I7.turned (s:=s6) (t':=s6.toks) (it:=(s2.heap.push { cls:=.type "list",data:=.seq ([]:List Value).toArray }).objs.size) (fun b o hb e=>(sb2.2 b hb).trans e) hCn neL (.inr (j7 I3.sz (c0 _))) (fun y c e z=>?_) fun p hp z=>?_
  ·obtain⟨v,q⟩:=I3.cell y c e
   exact absurd z (i3 q.lt)
  ·exact absurd z (i3 (d6 (I3.pin p hp).1))
 ·rw[← show cenv.locals=(s2.heap.push { cls:=.type "list",data:=.seq ([]:List Value).toArray }).objs.size from e] at z;exact z
end
theorem yT{lo:Int}{n:Nat}{D:Addr}{Q:VK}{te:TE}{c:St}{H0:Hp}(Pv:Nat→Hp→Prop)(h0:Pv 0 H0)
  (hs:∀ i H,i<n→Pv i H→te (some (.int (lo+i))::c) H fun y H2=>∃ ys,H2 D=some (.lst ys)∧ys.length<sizeLine∧Pv (i+1) (upd H2 D (.lst (ys++[y])))) (hd:∀ H,Pv n H→Q (.ref D) H) :
  jV (GG lo n) D Q Ik te c H0:=by
 refine⟨fun i m H'=>m=n - i∧i≤n∧Pv i H',⟨n,by simp,l7 _,h0⟩,?_⟩
 rintro i m H' ⟨rfl,hi,p⟩
 by_cases hlt:i<n
 ·refine .inr ⟨hlt,Pv (i+1),fun H'' p=>⟨n - (i+1),by omega,rfl,hlt,p⟩,fun v H2 y=>?_⟩
  obtain⟨e,y⟩:=y
  subst e y
  exact lW (B:=Pv (i+1) H2) (hs i H2 hlt p)
 ·have e:i=n:=by omega
  subst e
  exact .inl ⟨c0 _,hd H' p⟩
theorem fT{K:b5}{a:Addr}{xs:List V}{D:Addr}{Q:VK}{ti:TT}{te:TE}{c:St}{H0:Hp}(Pv:Nat→Hp→Prop)(h0:Pv 0 H0)(hl:∀ i H,i≤xs.length→Pv i H→SqL K H a xs)
  (hs:∀ i x H,xs[i]?=some x→Pv i H→ti (some x::c) H fun b H1=>if b=true then te (some x::c) H1 fun y H2=>∃ ys,H2 D=some (.lst ys)∧ys.length<sizeLine∧Pv (i+1) (upd H2 D (.lst (ys++[y]))) else Pv (i+1) H1) (hd:∀ H,Pv xs.length H→Q (.ref D) H) :
  jV (Hl K a) D Q ti te c H0:=by
 refine⟨fun i m H'=>m=xs.length - i∧i≤xs.length∧Pv i H',⟨xs.length,by simp,l7 _,h0⟩,?_⟩
 rintro i m H' ⟨rfl,hi,p⟩
 have q:=hl i H' hi p
 by_cases hlt:i<xs.length
 ·refine .inr ⟨⟨xs,xs[i],q,by simp[hlt]⟩,Pv (i+1),fun H'' p=>⟨xs.length - (i+1),by omega,rfl,hlt,p⟩,fun v H2 y=>?_⟩
  obtain⟨e,y⟩:=y
  subst e
  exact hs i v H2 (y xs q) p
 ·have e:i=xs.length:=by omega
  subst e
  exact .inl ⟨⟨xs,q,c0 _⟩,hd H' p⟩
theorem eF{K:b5}{a:Addr}{xs:List V}{D:Addr}{Q:VK}{ti:TT}{te:TE}{c:St}{H0:Hp}(Pv:Nat→Hp→Prop)(h0:Pv 0 H0)(hl:∀ i H,i≤xs.length→Pv i H→SqT K H a xs)
  (hs:∀ i x H,xs[i]?=some x→Pv i H→ti (some x::c) H fun b H1=>if b=true then te (some x::c) H1 fun y H2=>∃ ys,H2 D=some (.lst ys)∧ys.length<sizeLine∧Pv (i+1) (upd H2 D (.lst (ys++[y]))) else Pv (i+1) H1) (hd:∀ H,Pv xs.length H→Q (.ref D) H) :
  jV (Ho K a) D Q ti te c H0:=by
 refine⟨fun i m H'=>m=xs.length - i∧i≤xs.length∧Pv i H',⟨xs.length,by simp,l7 _,h0⟩,?_⟩
 rintro i m H' ⟨rfl,hi,p⟩
 have q:=hl i H' hi p
 by_cases hlt:i<xs.length
 ·refine .inr ⟨⟨xs,xs[i],q,by simp[hlt]⟩,Pv (i+1),fun H'' p=>⟨xs.length - (i+1),by omega,rfl,hlt,p⟩,fun v H2 y=>?_⟩
  obtain⟨e,y⟩:=y
  subst e
  exact hs i v H2 (y xs q) p
 ·have e:i=xs.length:=by omega
  subst e
  exact .inl ⟨⟨xs,q,c0 _⟩,hd H' p⟩
def Db(x:Str):It:=⟨fun i _=>i<x.cps.size,fun i H v H'=>H'=H∧∃ c,x.cps[i]?=some c∧v=.str ⟨#[c]⟩,fun i _=>i=x.cps.size⟩
theorem Ch{P:Program}{w:World}{K:b5}{tg:Expr}(x:Str)(t:Tok)(T:String)(it:Addr)(hT:T="str_ascii_iterator"∨T="str_iterator"):Turn P w K tg (Db x) [it] it (fun i h=>h.IsStrIter it T x t i) where
 mem:=by simp
 obj:=fun i h st b hb=>by
  have e:b=it:=by simpa using hb
  subst e
  obtain⟨o,e,c,d⟩:=st
  exact⟨o,e,fun v z=>by rw[d] at z;cases z⟩
 keep:=fun i h h' st k=>by
  obtain⟨o,e,r⟩:=st
  exact⟨o,k it (by simp) o e,r⟩
 item:=by
  intro X hP hw hK hc i pins s σ H E I hf st hg
  subst hP hw hK
  obtain⟨f0,f1,f2,f3,f4,f5⟩:=hf it (by simp)
  have hn:["enumerate","zip","dict_itemiterator","dict_reverseitemiterator","odict_iterator","itertools.zip_longest","itertools.pairwise"].contains T=false:=by rcases hT with rfl | rfl <;> decide
  have fin:∀ (v:Value) (h':Heap) (tk:Nat),SignAt x i v→h'.IsStrIter it T x t (i+1)→(∀ b o,b ∉ [it]→s.heap.get? b=some o→h'.get? b=some o) →
    ∃ u,some v=some u∧wpAny (model X.prog X.w) X.A (letOwnedTupleGo tg (.ref it) u) (fun _ s2=>∃ y H',Inv X pins σ H' s2∧RelV y u∧(Db x).yld i H y H'∧s2.heap.IsStrIter it T x t (i+1)∧∀ b∈[it],H' b=none) E { s with heap:=h',toks:=tk }:=fun v h' tk hv st' kk=>by
   obtain⟨c,u,hc',rfl⟩:=hv
   have I1:Inv X pins σ H { s with heap:=h',toks:=tk }:=I.turned (fun b o hb e=>kk b o (by simpa using hb) e) f0 f1 f3 f4 f5
   obtain⟨o,e,c2,d⟩:=id st'
   exact⟨_,rfl,rT (s:={ s with heap:=h',toks:=tk }) e c2 d hn ⟨.str ⟨#[c]⟩,H,I1,⟨u,rfl⟩,⟨rfl,c,hc',rfl⟩,st',fun b hb=>(hf b hb).1⟩⟩
  rcases hT with rfl | rfl
  ·exact(aJQ (prog:=X.prog) (w:=X.w) (I.ok.hd hc) it x t).item i s _ _ hg st fin
  ·exact(aJU (prog:=X.prog) (w:=X.w) (I.ok.hd hc) it x t).item i s _ _ hg st fin
 done:=by
  intro X hP hw hK hc i pins s σ H E I hf st hg
  subst hP hw hK
  obtain⟨f0,f1,f2,f3,f4,f5⟩:=hf it (by simp)
  have hi:i=x.cps.size:=hg
  subst hi
  have fin:∀ (h':Heap) (tk:Nat),(∀ b o,b ∉ [it]→s.heap.get? b=some o→h'.get? b=some o)→(none:Option Value)=none∧Inv X pins σ H { s with heap:=h',toks:=tk }:=fun h' tk kk =>
   ⟨rfl,I.turned (fun b o hb e=>kk b o (by simpa using hb) e) f0 f1 f3 f4 f5⟩
  rcases hT with rfl | rfl
  ·exact(aJQ (prog:=X.prog) (w:=X.w) (I.ok.hd hc) it x t).done s _ _ st fin
  ·exact(aJU (prog:=X.prog) (w:=X.w) (I.ok.hd hc) it x t).done s _ _ st fin
 self:=fun A i s Q E st h=>by
  rcases hT with rfl | rfl
  ·exact wpAny_pyIter_striter_ascii st h
  ·exact wpAny_pyIter_striter_wide st h
section
variable {X:Cx}{tg:Expr}
def J2(tl:TE):TI:=fun σ H R=>tl σ H fun x H1=>∃ z,x=.str z∧R (Db z) H1
theorem iW{l:Expr}{tl:TE}(hl:PE X l tl):PI X tg l (J2 tl):=by
 intro pins s σ H R I h
 refine cK (hl pins s σ H _ I h) fun v s1 ⟨x,H1,I1,r1,q1⟩=>?_
 obtain⟨z,e,q⟩:=q1
 subst e
 obtain⟨t,rfl⟩:=r1
 refine wpAny_pyIter_strU ?_
 refine⟨s1.heap.objs.size,[s1.heap.objs.size],_,_,H1,rfl,I1.kept (t':=s1.toks) fun b o e=>b9 _ e,Ch z t (strIterType z) _ (by unfold strIterType;split <;> simp),⟨_,d8 _ rfl,rfl,rfl⟩,fun b hb=>?_,q⟩
 have e:b=s1.heap.objs.size:=by simpa using hb
 subst e
 exact I1.fpOk (c0 _) (I1.hok.fresh (c0 _))
end
abbrev S(w:List Nat):Str:=⟨w.toArray⟩
theorem kR{w:List Nat}{g:TG}{tb:TS}{D:Ends}{σ:St}{H:Hp}(Pv:Nat→St→Hp→Prop)(h0:Pv 0 σ H)
  (hs:∀ i c σ H,w[i]?=some c→Pv i σ H→g (.str (S [c])) σ H fun σ2 H2=>tb { D with nx:=Pv (i+1),ct:=Pv (i+1),bk:=D.nx } σ2 H2) (hd:∀ σ H,Pv w.length σ H→D.nx σ H) :
  ∃ W:Nat→Nat→St→Hp→Prop,(∃ m,W 0 m σ H)∧∀ i m σ H,W i m σ H →
   ((Db (S w)).stop i H∧D.nx σ H)∨((Db (S w)).go i H∧∃ N:St→Hp→Prop,(∀ σ' H',N σ' H'→∃ m',m' < m∧W (i+1) m' σ' H')∧∀ x H',(Db (S w)).yld i H x H'→g x σ H' fun σ2 H2=>tb { D with nx:=N,ct:=N,bk:=D.nx } σ2 H2):=by
 refine⟨fun i m σ H=>m=w.length - i∧i≤w.length∧Pv i σ H,⟨w.length,by simp,l7 _,h0⟩,?_⟩
 rintro i m σ H ⟨rfl,hi,p⟩
 by_cases hlt:i<w.length
 ·refine .inr ⟨by simpa [Db] using hlt,Pv (i+1),fun σ' H' p'=>⟨w.length - (i+1),by omega,rfl,hlt,p'⟩,fun x H' y=>?_⟩
  obtain⟨e,c,hc,rfl⟩:=y
  subst e
  exact hs i c σ _ (by simpa using hc) p
 ·have e:i=w.length:=by omega
  subst e
  exact .inl ⟨by simp[Db],hd σ H p⟩
theorem lE{w:List Nat}{D:Addr}{Q:VK}{ti:TT}{te:TE}{c:St}{H0:Hp}(Pv:Nat→Hp→Prop)(h0:Pv 0 H0)
  (hs:∀ i k H,w[i]?=some k→Pv i H→ti (some (.str (S [k]))::c) H fun b H1=>if b=true then te (some (.str (S [k]))::c) H1 fun y H2=>∃ ys,H2 D=some (.lst ys)∧ys.length<sizeLine∧Pv (i+1) (upd H2 D (.lst (ys++[y]))) else Pv (i+1) H1) (hd:∀ H,Pv w.length H→Q (.ref D) H) :
  jV (Db (S w)) D Q ti te c H0:=by
 refine⟨fun i m H'=>m=w.length - i∧i≤w.length∧Pv i H',⟨w.length,by simp,l7 _,h0⟩,?_⟩
 rintro i m H' ⟨rfl,hi,p⟩
 by_cases hlt:i<w.length
 ·refine .inr ⟨by simpa [Db] using hlt,Pv (i+1),fun H'' p=>⟨w.length - (i+1),by omega,rfl,hlt,p⟩,fun v H2 y=>?_⟩
  obtain⟨e,k,hk,rfl⟩:=y
  subst e
  exact hs i k H2 (by simpa using hk) p
 ·have e:i=w.length:=by omega
  subst e
  exact .inl ⟨by simp[Db],hd H' p⟩
section
variable {X:Cx}
def J7(a:Addr)(D:List (PyData×PyData)):R2:=fun x y H Q=>x=.ref a∧∃ z,y=.str z∧((∃ v,lookup (.str z) D=some (.str v)∧Q (.str v) H)∨∃ i,lookup (.str z) D=some (.int i)∧Q (.int i) H)
theorem FL{a:Addr}{D:List (PyData×PyData)}(T:∀ h,X.K.In h→StrTab X.prog X.w h a D):Fp X (J7 a D):=by
 intro value slice pins s σ H x y v u Q I rx ry h hs
 obtain⟨rfl,z,rfl,q⟩:=h
 cases rx
 obtain⟨t,rfl⟩:=ry
 obtain⟨lo,kvs,hd,hf⟩:=T s.heap I.kIn
 rcases q with ⟨y,hl,q⟩ | ⟨y,hl,q⟩
 ·obtain⟨v,hv,hfl⟩:=hf.of_lookup (enc:=PyData.str) aZb hl
  exact tail_any hd.typeIs slot_dict_getitem.lookup (wpAny_getItem_of (strKind_is X.prog X.w z t) hd.mapOf hv ⟨.str y,H,I.tok _,aJo hfl,q⟩) hs
 ·obtain⟨v,hv,hfl⟩:=hf.of_lookup (enc:=PyData.str) aZb hl
  exact tail_any hd.typeIs slot_dict_getitem.lookup (wpAny_getItem_of (strKind_is X.prog X.w z t) hd.mapOf hv ⟨.int y,H,I.tok _,aJp hfl,q⟩) hs
inductive rSlSI(x:V)(lo:Option Int)(hi:Option Int)(H:Hp)(Q:VK):Prop
 | mk (z:_) (_:x=.str z) (_:z.length≤sizeLine) (_:Q (.str (Txt.slice z lo hi)) H):rSlSI x lo hi H Q
def JI:V→Option Int→Option Int→Hp→VK→Prop:=fun x lo hi H Q=>rSlSI x lo hi H Q
theorem nL:IM X JI:=by
 intro pins s σ H x v vl vu lo hi sl Q I rx hs pl pu h
 obtain⟨z,rfl,hz,q⟩:=h
 obtain⟨t,rfl⟩:=rx
 refine⟨"str",_,aX5.lookup,typeIs_str _ _ _,?_⟩
 obtain⟨o,ho,hc,hd⟩:=hs
 have fin:∀ t' k,EP X pins σ Q (.str (Txt.slice z lo hi) t') { s with toks:=k }:=fun t' k=>⟨.str (Txt.slice z lo hi),H,I.tok _,⟨t',rfl⟩,q⟩
 cases pl with
 | none =>
  cases pu with
  | none=>exact wpAny_getItem_str_slice (l:=none) (u:=none) (st:=none) ⟨o,ho,hc,hd⟩ rfl (post_val_or_str ⟨j7 (aXq z _ _) hz,fin⟩)
  | int j uj=>exact wpAny_getItem_str_slice (l:=none) (u:=some (j,uj)) (st:=none) ⟨o,ho,hc,hd⟩ rfl (post_val_or_str ⟨j7 (aXq z _ _) hz,fin⟩)
 | int i ui =>
  cases pu with
  | none=>exact wpAny_getItem_str_slice (l:=some (i,ui)) (u:=none) (st:=none) ⟨o,ho,hc,hd⟩ rfl (post_val_or_str ⟨j7 (aXq z _ _) hz,fin⟩)
  | int j uj=>exact wpAny_getItem_str_slice (l:=some (i,ui)) (u:=some (j,uj)) (st:=none) ⟨o,ho,hc,hd⟩ rfl (post_val_or_str ⟨j7 (aXq z _ _) hz,fin⟩)
theorem zL:Bo X "str.islower" (fun x xs H Q=>∃ z,x=.str z∧xs=[]∧Q (.bl (Txt.islower z)) H):=by
 intro pins s σ H x xs v us Q I rx rs h
 obtain⟨z,rfl,rfl,q⟩:=h
 obtain⟨t,rfl⟩:=rx
 cases rs
 exact SC.islower ⟨.bl _,H,I,rfl,q⟩
theorem rJ:Bo X "str.isupper" (fun x xs H Q=>∃ z,x=.str z∧xs=[]∧Q (.bl (Txt.isupper z)) H):=by
 intro pins s σ H x xs v us Q I rx rs h
 obtain⟨z,rfl,rfl,q⟩:=h
 obtain⟨t,rfl⟩:=rx
 cases rs
 exact SC.isupper ⟨.bl _,H,I,rfl,q⟩
theorem xS:Bo X "str.upper" (fun x xs H Q=>∃ z,x=.str z∧xs=[]∧Builtin.Str.tooLong (Txt.upper z).length=false∧Q (.str (Txt.upper z)) H):=by
 intro pins s σ H x xs v us Q I rx rs h
 obtain⟨z,rfl,rfl,hf,q⟩:=h
 obtain⟨t,rfl⟩:=rx
 cases rs
 exact SC.upper hf ⟨.str _,H,I.tok _,⟨_,rfl⟩,q⟩
theorem mS:Bo X "str.lower" (fun x xs H Q=>∃ z,x=.str z∧xs=[]∧Builtin.Str.tooLong (Txt.lower z).length=false∧Q (.str (Txt.lower z)) H):=by
 intro pins s σ H x xs v us Q I rx rs h
 obtain⟨z,rfl,rfl,hf,q⟩:=h
 obtain⟨t,rfl⟩:=rx
 cases rs
 exact SC.lower hf ⟨.str _,H,I.tok _,⟨_,rfl⟩,q⟩
theorem qF:∀ {zs:List Str} {us:List Value},Vals (zs.map V.str) us→StrsAre us zs
 | [],_,r=>by
  cases r
  exact .nil
 | z::zs,_,r=>by
  rw[g9] at r
  cases r with
  | cons r1 r2 =>
   obtain⟨t,rfl⟩:=r1
   exact .cons z t (qF r2)
theorem Eh:Bo X "str.join" (fun x xs H Q=>∃ z a zs,x=.str z∧xs=[.ref a]∧SqL X.K H a (zs.map V.str)∧(zs.map (·.length)).sum+zs.length * z.length≤16777216∧Q (.str (Txt.join z zs)) H):=by
 intro pins s σ H x xs v us Q I rx rs h
 obtain⟨z,a,zs,rfl,rfl,hq,hz,q⟩:=h
 obtain⟨t,rfl⟩:=rx
 obtain⟨u,rfl,ru⟩:=rs.one
 cases ru
 obtain⟨its,r,pl,_⟩:=I.list hq
 exact join_list pl.isList (by simpa using qF r) hz fun t' k=>⟨.str _,H,I.tok _,⟨t',rfl⟩,q⟩
end
end L2
namespace PySem
open Sem (wp)
namespace F
theorem tH:Manifest.owners.lookup (String.ofList ['d','e','s','r','e','v','e','r'].reverse)=some Manifest.sig_reversed:=by kernel_rfl
theorem slot_rvd_next:Slot "reversed" "__next__" "reversed.__next__" :=
 .of (owner:="reversed") (n:="__next__") (by rw[typeLookup_type,builtinLookup_eq_fast];kernel_rfl) (by decide +kernel) (by decide +kernel) (by decide +kernel)
  (by first | exact .inl (by decide +kernel) | exact .inr (by decide +kernel)) (by rw[isSubtype_type];kernel_rfl)
theorem entry_rvd_next:entryFor table "reversed.__next__"=some Builtin.«reversed.__next__»:=entryFor_of_tree (by kernel_rfl)
theorem args_rvd_next_1(a:Value):argsOk "reversed.__next__" ⟨[a],[]⟩:=by
 unfold argsOk;rw[signature?_of (id:="reversed.__next__") (n:=['_','_','t','x','e','n','_','_']) (o:=['d','e','s','r','e','v','e','r']) (by kernel_rfl) tH];kernel_rfl
theorem slot_rvd_iter:Slot "reversed" "__iter__" "reversed.__iter__" :=
 .of (owner:="reversed") (n:="__iter__") (by rw[typeLookup_type,builtinLookup_eq_fast];kernel_rfl) (by decide +kernel) (by decide +kernel) (by decide +kernel)
  (by first | exact .inl (by decide +kernel) | exact .inr (by decide +kernel)) (by rw[isSubtype_type];kernel_rfl)
theorem args_rvd_iter_1(a:Value):argsOk "reversed.__iter__" ⟨[a],[]⟩:=by
 unfold argsOk;rw[signature?_of (id:="reversed.__iter__") (n:=['_','_','r','e','t','i','_','_']) (o:=['d','e','s','r','e','v','e','r']) (by kernel_rfl) tH];kernel_rfl
theorem entry_rvd_iter:entryFor table "reversed.__iter__"=some Builtin.«dict_keyiterator.__iter__» :=
 entryFor_alias (id':="dict_keyiterator.__iter__") (by kernel_rfl) (by first | rfl | decide +kernel | (unfold String.splitOn;simp +decide [String.splitOnAux])) (by decide +kernel) (by kernel_rfl)
theorem rM:Slot "reversed" "__init__" "object.__init__" :=
 .of (owner:="object") (n:="__init__") (by rw[typeLookup_type,builtinLookup_eq_fast];kernel_rfl) (by decide +kernel) (by decide +kernel) (by decide +kernel)
  (by first | exact .inl (by decide +kernel) | exact .inr (by decide +kernel)) (by rw[isSubtype_type];kernel_rfl)
theorem called_reversed:TypeCalled "reversed" "reversed.__new__" "object.__init__" :=
 ⟨by decide +kernel,by decide +kernel,⟨_,_,mro_reversed⟩,madeBy_type mro_reversed lookup_reversed_new (by decide +kernel),by decide +kernel,by rw[isSubtype_type];kernel_rfl,rM⟩
theorem str_norev:typeLookup (.type "str") "__reversed__"=pure none:=by rw[typeLookup_type,builtinLookup_eq_fast];kernel_rfl
end F
theorem kS(x:Str)(t:Tok)(hx:¬ (x.length:Int) ≥ 2 ^ 63) :
  Meets (Builtin.«reversed.__new__» ⟨[.type "reversed",.str x t],[]⟩) (fun _ R s=>∀ tk,
   R (.ok (.ret (.ref s.heap.objs.size))) { s with heap:=s.heap.push { cls:=.type "reversed",data:=.fields #[.str x t,rawInt ((x.length:Int) - 1)] },toks:=tk }) :=
 .of_wp fun prog w A R s h=>by
  obtain⟨hp,g,d,tk,os⟩:=s
  have hsub:=F.sub_reversed_self
  have hnr:=F.str_norev
  have hsd:isSubtype (.type "str") (.type "dict")=pure false:=by rw[isSubtype_type];kernel_rfl
  have hgi:=aX5.lookup
  unfold Builtin.«reversed.__new__»
  refine wpAny_bind (wpAny_of_eq (newClass_reversed _) ?_)
  dsimp only
  refine wpAny_bind (wpAny_of_eq (a:=()) (by first | rfl | kernel_rfl) ?_)
  refine wpAny_bind (wpAny_of_eq (a:=()) (by first | rfl | kernel_rfl) ?_)
  try dsimp only
  wp_walk using P.len_str
  case hfit=>exact hx
  all_goals
   refine wpAny_bind (m:=asInt? _) (wpAny_of_eq (a:=some (x.length:Int)) rfl ?_)
   dsimp only
   refine wpAny_bind ?_
   show wpAny _ _ (newObj (.type "reversed") (.fields #[Value.str x t,rawInt ((x.length:Int) - 1)])) _ _ _
   exact wpAny_newObj_type (wpAny_pure ⟨_,rfl,h _⟩)
def Heap.IsRvd(h:Heap)(a:Addr)(x:Str)(t:Tok)(i:Int):Prop:=∃ o,h.get? a=some o∧o.cls=.type "reversed"∧o.data=.fields #[.str x t,rawInt i]
section
variable {prog:Program}{w:World}{A:Around}{E:Value→Shared→Prop}{s:Shared}
theorem Heap.IsRvd.typeIs{a:Addr}{x:Str}{t:Tok}{i:Int}(h:s.heap.IsRvd a x t i):s.TypeIs (.ref a) "reversed":=let ⟨o,ho,hc,_⟩:=h;⟨o,ho,hc⟩
theorem hU{x:Str}{t:Tok}{Q:Value→Shared→Prop}(hx:¬ (x.length:Int) ≥ 2 ^ 63)
  (h:∀ tk,Q (.ref s.heap.objs.size) { s with heap:=s.heap.push { cls:=.type "reversed",data:=.fields #[.str x t,rawInt ((x.length:Int) - 1)] },toks:=tk }):wpAny (model prog w) A (call (.type "reversed") [.str x t]) Q E s :=
 callType_new F.called_reversed (by decide) (F.typeCall_reversed_1 _) (F.newCall_reversed_1 _) (fun obj=>aZU obj _) F.entry_reversed_new (kS x t hx) fun tk=>⟨⟨_,d8 _ rfl,rfl⟩,h tk⟩
theorem fI{it:Addr}{x:Str}{t:Tok}{i:Int}{Q:Value→Shared→Prop}(hit:s.heap.IsRvd it x t i)(h:Q (.ref it) s):wpAny (model prog w) A (pyIter (.ref it)) Q E s:=by
 refine wpAny_pyIter_slot hit.typeIs F.slot_rvd_iter (wpAny_call_entry F.slot_rvd_iter hit.typeIs F.entry_rvd_iter ?_ (F.args_rvd_iter_1 _))
 show wpAny _ _ (ret (.ref it)) _ _ s
 exact wpAny_pure ⟨_,rfl,"reversed",_,hit.typeIs,F.slot_rvd_next.lookup,h⟩
theorem jJ{it:Addr}{x:Str}{t:Tok}{i c:Nat}{Q:Option Value→Shared→Prop}(hit:s.heap.IsRvd it x t (i:Int))(hc:x.cps[i]?=some c)(hx:(x.length:Int)<2 ^ 63)
  (hQ:∀ h' tk u,h'.IsRvd it x t ((i:Int) - 1)→Heap.SameBut it s.heap h'→Q (some (.str ⟨#[c]⟩ u)) { s with heap:=h',toks:=tk }):wpAny (model prog w) A (pyNext (.ref it)) Q E s:=by
 obtain⟨o,ho,hcl,hd⟩:=id hit
 have hi:i<x.length:=by
  have:=(Array.getElem?_eq_some_iff.mp hc).1
  exact this
 unfold pyNext
 refine wpAny_bind (wpAny_attempt (wpAny_callSpecial?_slot (name:=Str.ofString "__next__") hit.typeIs F.slot_rvd_next
  (wpAny_call_entry F.slot_rvd_next hit.typeIs F.entry_rvd_next ?_ (F.args_rvd_next_1 _))))
 unfold Builtin.«reversed.__next__»
 refine wpAny_bind (wpAny_of_eq (a:=(Value.ref it,[])) rfl ?_)
 try dsimp only
 refine wpAny_bind (wpAny_field ho hd (x:=.str x t) rfl ?_)
 refine wpAny_bind (wpAny_field ho hd (x:=rawInt (i:Int)) rfl ?_)
 show wpAny _ _ (if (i:Int)<0 then _ else _) _ _ s
 rw[if_neg (by omega)]
 have hgi:=aX5.lookup
 refine wpAny_bind (wpAny_specialOf (T:="str") (typeIs_str _ _ _) hgi ?_)
 show wpAny _ _ (if (some (Value.builtin "str.__getitem__")).isNone=true then _ else _) _ _ _
 rw[if_neg (by simp)]
 refine wpAny_bind (m:=mkInt _) (wpAny_mkInt ?_)
 refine wpAny_bind (wpAny_attempt (P.getItem_str (c:=c) (by
  have e1:decide ((i:Int) < -(2 ^ 63:Int))=false:=decide_eq_false (by omega)
  have e2:decide ((i:Int) ≥ 2 ^ 63)=false:=decide_eq_false (by omega)
  rw[e1,e2,aJT]) (by rw[seqIndex_of (by omega) (by omega)];simpa using hc) ?_))
 dsimp only
 refine wpAny_bind (wpAny_field ho hd (x:=rawInt (i:Int)) rfl ?_)
 refine wpAny_bind (wpAny_setField ho hd (by simp) ?_)
 refine wpAny_pure ⟨_,rfl,wpAny_pure (hQ _ _ _ ?_ (y0 ..))⟩
 exact⟨_,aQG _ ho (aQl (y6 hd _)),(aXd ..).trans hcl,by
  rw[y6 hd];simp⟩
theorem jQ{it:Addr}{x:Str}{t:Tok}{Q:Option Value→Shared→Prop}(hh:A.handled=none)(hit:s.heap.IsRvd it x t (-1))
  (hQ:∀ h',Heap.ExtBut it s.heap h'→Q none { s with heap:=h' }):wpAny (model prog w) A (pyNext (.ref it)) Q E s:=by
 obtain⟨o,ho,hcl,hd⟩:=id hit
 unfold pyNext
 refine wpAny_bind (wpAny_attempt (wpAny_callSpecial?_slot (name:=Str.ofString "__next__") hit.typeIs F.slot_rvd_next
  (wpAny_call_entry F.slot_rvd_next hit.typeIs F.entry_rvd_next ?_ (F.args_rvd_next_1 _))))
 unfold Builtin.«reversed.__next__»
 refine wpAny_bind (wpAny_of_eq (a:=(Value.ref it,[])) rfl ?_)
 try dsimp only
 refine wpAny_bind (wpAny_field ho hd (x:=.str x t) rfl ?_)
 refine wpAny_bind (wpAny_field ho hd (x:=rawInt (-1)) rfl ?_)
 show wpAny _ _ (if (-1:Int)<0 then _ else _) _ _ s
 rw[if_pos (by decide)]
 refine wpAny_bind (wpAny_rule ?_)
 refine wpAny_bind ?_
 show wpAny _ _ (setField (.ref it) 1 (rawInt (-1)) >>= fun _=>setField (.ref it) 0 .none) _ _ _
 refine wpAny_bind (wpAny_setField ho hd (by simp) ?_)
 have ho':(s.heap.update it (Obj.mapFields fun xs=>xs.setIfInBounds 1 (rawInt (-1)))).get? it=some _:=aQG _ ho (aQl (y6 hd (fun xs=>xs.setIfInBounds 1 (rawInt (-1)))))
 have hd':=y6 hd (fun xs=>xs.setIfInBounds 1 (rawInt (-1)))
 refine wpAny_setField (s:={ s with heap:=s.heap.update it (Obj.mapFields fun xs=>xs.setIfInBounds 1 (rawInt (-1))) }) ho' hd' (by simp) ?_
 have eb:Heap.ExtBut it s.heap ((s.heap.update it (Obj.mapFields fun xs=>xs.setIfInBounds 1 (rawInt (-1)))).update it (Obj.mapFields fun xs=>xs.setIfInBounds 0 .none)):=fun b ob hb e =>
  (aQh _ _ (aQ5 hb)).trans ((aQh _ _ (aQ5 hb)).trans e)
 refine wpAny_bind ?_
 show wpAny _ _ (newExc (.type "StopIteration") [] >>= _) _ _ _
 refine wpAny_bind ?_
 simp only [newExc,newTuple]
 refine wpAny_bind (wpAny_newObj_type ?_ (by size_fits))
 refine wpAny_bind (m:=firstArgMember _ _) (wpAny_of_eq (a:=Value.none) (by first | rfl | (simp only [firstArgMember];rfl)) ?_)
 refine wpAny_newObj_type ?_ (by size_fits)
 simp only [raiseNew]
 refine wpAny_bind (wpAny_handled ?_)
 first | rw[show A.in1.handled=none from hh] | rw[hh]
 refine wpAny_bind (wpAny_pure (wpAny_throw ?_))
 refine wpAny_bind (wpAny_isInstance (T:="StopIteration") (b:=true) ⟨_,d8 _ rfl,rfl⟩ isSubtype_stop ?_)
 exact wpAny_pure (hQ _ ((eb.push _).push _))
end
end PySem
namespace L2
open PySem PySem.Spec PyProof.Rows
def Hk(x:Str):It:=⟨fun i _=>i<x.cps.size,fun i H v H'=>H'=H∧∃ c,x.cps[x.cps.size - 1 - i]?=some c∧v=.str ⟨#[c]⟩,fun i _=>i=x.cps.size⟩
theorem wL{P:Program}{w:World}{K:b5}{tg:Expr}(x:Str)(t:Tok)(it:Addr)(hx:(x.length:Int)<2 ^ 63):Turn P w K tg (Hk x) [it] it (fun i h=>i≤x.cps.size∧h.IsRvd it x t ((x.cps.size:Int) - 1 - (i:Int))) where
 mem:=by simp
 obj:=fun i h st b hb=>by
  have e:b=it:=by simpa using hb
  subst e
  obtain⟨_,o,e,c,d⟩:=st
  exact⟨o,e,fun v z=>by rw[d] at z;cases z⟩
 keep:=fun i h h' st k=>by
  obtain⟨hi,o,e,r⟩:=st
  exact⟨hi,o,k it (by simp) o e,r⟩
 item:=by
  intro X hP hw hK hc i pins s σ H E I hf st hg
  subst hP hw hK
  obtain⟨f0,f1,f2,f3,f4,f5⟩:=hf it (by simp)
  obtain⟨hi,st⟩:=st
  have hg':i<x.cps.size:=hg
  have e1:(x.cps.size:Int) - 1 - (i:Int)=((x.cps.size - 1 - i:Nat):Int):=by omega
  rw[e1] at st
  have hcx:x.cps[x.cps.size - 1 - i]?=some (x.cps[x.cps.size - 1 - i]'(by omega)):=Array.getElem?_eq_getElem (by omega)
  refine jJ st hcx hx fun h' tk u st' sb=>?_
  have e2:((x.cps.size - 1 - i:Nat):Int) - 1=(x.cps.size:Int) - 1 - ((i+1:Nat):Int):=by omega
  rw[e2] at st'
  have I1:Inv X pins σ H { s with heap:=h',toks:=tk }:=I.turned (fun b o hb e=>(sb.2 b hb).trans e) f0 f1 f3 f4 f5
  obtain⟨o,e,c,d⟩:=id st'
  exact⟨_,rfl,rT (s:={ s with heap:=h',toks:=tk }) e c d (by decide) ⟨.str ⟨#[_]⟩,H,I1,⟨u,rfl⟩,⟨rfl,_,hcx,rfl⟩,⟨hg',st'⟩,fun b hb=>(hf b hb).1⟩⟩
 done:=by
  intro X hP hw hK hc i pins s σ H E I hf st hg
  subst hP hw hK
  obtain⟨f0,f1,f2,f3,f4,f5⟩:=hf it (by simp)
  have hi:i=x.cps.size:=hg
  subst hi
  have e1:(x.cps.size:Int) - 1 - ((x.cps.size:Nat):Int)=-1:=by omega
  have st':=st.2
  rw[e1] at st'
  exact jQ (I.ok.hd hc) st' fun h' eb=>⟨rfl,I.turned (t':=s.toks) (fun b o hb e=>eb b o hb e) f0 f1 f3 f4 f5⟩
 self:=fun A i s Q E st h=>fI st.2 h
section
variable {X:Cx}{tg:Expr}
def JW(ta:TA):TI:=fun σ H R=>ta σ H fun vs H1=>∃ z:Str,vs=[.str z]∧z.length≤1000∧R (Hk z) H1
theorem Hf{a:Expr}{ta:TA}{p pos:Pos}(hg:Gl X "reversed")(hm:X.mg "reversed"=none)(ha:PA X [a] ta)(hs:starEach [a] X.env=[(false,eval a X.env)]:=by rfl):PI X tg (.Call (.Name "reversed" p) [a] [] pos) (JW ta):=by
 intro pins s σ H R I h
 refine Call_ (jC I hg hm boot_reversed (t9 (cK (ha pos pins s σ H _ I h) fun us s1 ⟨vs,H1,I1,r1,q1⟩=>?_) hs rfl))
 obtain⟨z,e,hz,q⟩:=q1
 subst e
 obtain⟨u,rfl,ru⟩:=r1.one
 obtain⟨t,rfl⟩:=ru
 refine hU (by omega) fun tk=>?_
 have I2:Inv X pins σ H1 { s1 with heap:=s1.heap.push { cls:=.type "reversed",data:=.fields #[.str z t,rawInt ((z.length:Int) - 1)] },toks:=tk }:=I1.kept fun b o e=>b9 _ e
 have st:(s1.heap.push { cls:=.type "reversed",data:=.fields #[.str z t,rawInt ((z.length:Int) - 1)] }).IsRvd s1.heap.objs.size z t ((z.length:Int) - 1):=⟨_,d8 _ rfl,rfl,rfl⟩
 refine fI st ?_
 refine⟨s1.heap.objs.size,[s1.heap.objs.size],_,_,H1,rfl,I2,wL z t _ (by omega),⟨l7 _,?_⟩,fun b hb=>?_,q⟩
 ·have e0:(z.cps.size:Int) - 1 - ((0:Nat):Int)=(z.length:Int) - 1:=by show (z.cps.size:Int) - 1 - ((0:Nat):Int)=(z.cps.size:Int) - 1;omega
  rw[e0];exact st
 ·have e:b=s1.heap.objs.size:=by simpa using hb
  subst e
  exact I1.fpOk (c0 _) (I1.hok.fresh (c0 _))
end
theorem qO{w:List Nat}{D:Addr}{Q:VK}{ti:TT}{te:TE}{c:St}{H0:Hp}(Pv:Nat→Hp→Prop)(h0:Pv 0 H0)
  (hs:∀ i k H,w.reverse[i]?=some k→Pv i H→ti (some (.str (S [k]))::c) H fun b H1=>if b=true then te (some (.str (S [k]))::c) H1 fun y H2=>∃ ys,H2 D=some (.lst ys)∧ys.length<sizeLine∧Pv (i+1) (upd H2 D (.lst (ys++[y]))) else Pv (i+1) H1) (hd:∀ H,Pv w.length H→Q (.ref D) H) :
  jV (Hk (S w)) D Q ti te c H0:=by
 refine⟨fun i m H'=>m=w.length - i∧i≤w.length∧Pv i H',⟨w.length,by simp,l7 _,h0⟩,?_⟩
 rintro i m H' ⟨rfl,hi,p⟩
 by_cases hlt:i<w.length
 ·refine .inr ⟨by simpa [Hk] using hlt,Pv (i+1),fun H'' p=>⟨w.length - (i+1),by omega,rfl,hlt,p⟩,fun v H2 y=>?_⟩
  obtain⟨e,k,hk,rfl⟩:=y
  subst e
  refine hs i k H2 ?_ p
  rw[aQm hlt]
  simpa using hk
 ·have e:i=w.length:=by omega
  subst e
  exact .inl ⟨by simp[Hk],hd H' p⟩
def gU:List V→List V→Bool
 | [],[]=>true
 | x::xs,y::ys=>pU x y && gU xs ys
 | _,_=>false
theorem qU:∀ {xs ys:List V},xs.length≠ys.length→gU xs ys=false
 | [],[],h=>absurd rfl h
 | [],_::_,_=>rfl
 | _::_,[],_=>rfl
 | x::xs,y::ys,h=>by unfold gU;rw[qU (by simpa using h),aJO]
theorem qQ(n:Nat)(e:Nat→Bool):(List.range (n+1)).all e=(e 0 && (List.range n).all fun i=>e (i+1)):=by
 rw[List.range_succ_eq_map,aXb,aJk];rfl
theorem jA:∀ {xs ys:List V},xs.length=ys.length→(List.range xs.length).all (fun i=>match xs[i]?,ys[i]? with | some x,some y=>pU x y | _,_=>true)=gU xs ys
 | [],[],_=>rfl
 | [],_::_,h=>by simp at h
 | _::_,[],h=>by simp at h
 | x::xs,y::ys,h=>by
  have h':xs.length=ys.length:=by simpa using h
  rw[j0,qQ]
  unfold gU
  rw[← jA h']
  simp
theorem yD:∀ (a b:List Str),gU (a.map V.str) (b.map V.str)=decide (a=b)
 | [],[]=>by simp[gU]
 | [],_::_=>by simp[gU]
 | _::_,[]=>by simp[gU]
 | x::xs,y::ys=>by
  have e:pU (V.str x) (V.str y)=decide (x=y):=by
   unfold pU;by_cases h:x=y <;> simp[h]
  rw[g9,g9]
  unfold gU
  rw[yD xs ys,e]
  by_cases h:x=y <;> by_cases h2:xs=ys <;> simp[h,h2]
section
variable {X:Cx}
theorem qJ{A:Around}{s:Shared}{xs ys:List V}{us vs:List Value}(rx:Vals xs us)(ry:Vals ys vs)(fx:xs.all gN=true)(fy:ys.all gN=true) :
  ∀ (j:Nat) (h1:j<us.toArray.size) (h2:j<vs.toArray.size),SeqAt.EqAt A s us.toArray[j] vs.toArray[j] (match xs[j]?,ys[j]? with | some x,some y=>pU x y | _,_=>true):=fun j h1 h2=>by
 have hx:j<xs.length:=by rw[rx.length];simpa using h1
 have hy:j<ys.length:=by rw[ry.length];simpa using h2
 obtain⟨u,hu,ru⟩:=rx.get (b0 hx)
 obtain⟨v,hv,rv⟩:=ry.get (b0 hy)
 have eu:us.toArray[j]=u:=by
  have:us[j]?=some us.toArray[j]:=by rw[b0 (by simpa using h1)];simp
  rw[hu] at this;exact(d9 this).symm
 have ev:vs.toArray[j]=v:=by
  have:vs[j]?=some vs.toArray[j]:=by rw[b0 (by simpa using h2)];simp
  rw[hv] at this;exact(d9 this).symm
 rw[eu,ev,b0 hx,b0 hy]
 exact Dc ru rv (aQL.mp fx _ (aQF hx)) (aQL.mp fy _ (aQF hy))
inductive rEqLI(K:b5)(neg:Bool)(x:V)(y:V)(H:Hp)(Q:VK):Prop
 | mk (a b xs ys:_) (_:x=.ref a) (_:y=.ref b) (_:((SqL K H a xs∧SqL K H b ys)∨(SqT K H a xs∧SqT K H b ys))) (_:xs.all gN=true) (_:ys.all gN=true) (_:Q (.bl (if neg then !gU xs ys else gU xs ys)) H):rEqLI K neg x y H Q
def HL(K:b5)(neg:Bool):R2:=fun x y H Q=>rEqLI K neg x y H Q
theorem GF(hu:X.A.units<cLine):lD X (compareOp .NotEq) (HL X.K true):=by
 intro pins s σ H x y v u Q I rx ry h
 obtain⟨a,b,xs,ys,rfl,rfl,hq,fx,fy,q⟩:=h
 cases rx
 cases ry
 rcases hq with ⟨ha,hb⟩ | ⟨ha,hb⟩
 ·obtain⟨us,r1,p1,_⟩:=I.list ha
  obtain⟨vs,r2,p2,_⟩:=I.list hb
  by_cases hl:xs.length=ys.length
  ·refine aXe (aJy p1.isList p2.isList (by simp;rw[← r1.length,← r2.length];exact hl) hu (qJ r1 r2 fx fy)) ?_
   rw[d3,← r1.length,jA hl]
   exact⟨.bl _,H,I,rfl,q⟩
  ·refine aXe (aJV p1.isList p2.isList (by simp;rw[← r1.length,← r2.length];exact hl) hu) ?_
   rw[qU hl] at q
   exact⟨.bl _,H,I,rfl,q⟩
 ·obtain⟨us,r1,p1,_⟩:=I.tuple ha
  obtain⟨vs,r2,p2,_⟩:=I.tuple hb
  refine aXe (aJw (show s.heap.IsTuple a us.toArray from p1) (show s.heap.IsTuple b vs.toArray from p2) hu (qJ r1 r2 fx fy)) ?_
  refine⟨.bl _,H,I,rfl,?_⟩
  have e:((List.range (min us.toArray.size vs.toArray.size)).all (fun i=>match xs[i]?,ys[i]? with | some x,some y=>pU x y | _,_=>true) && us.toArray.size == vs.toArray.size)=gU xs ys:=by
   rw[d3,d3,← r1.length,← r2.length]
   by_cases hl:xs.length=ys.length
   ·rw[← hl,aZc,jA hl];simp
   ·rw[qU hl];simp[hl]
  rw[e]
  exact q
inductive Rcall_listStr(xs:List V)(H:Hp)(Q:VK):Prop
 | mk (w:List Nat) (_:xs=[.str (S w)]) (_:w.length≤1000) (_:∀ l,H l=none→Q (.ref l) (upd H l (.lst (w.map fun c=>V.str (S [c]))))):Rcall_listStr xs H Q
theorem lO(hc:X.calm=true):gS X (.type "list") (fun xs H Q=>Rcall_listStr xs H Q):=by
 intro pins s σ H xs us Q I r h
 obtain⟨w,rfl,hz,q⟩:=h
 obtain⟨u,rfl,ru⟩:=r.one
 obtain⟨t,rfl⟩:=ru
 have hz2:w.length≤sizeLine:=aQ6 (aQ hz)
 refine call_list_str (I.ok.hd hc) (S w) t (fun h' tk acc c hk hl hit=>?_) (by simpa using hz2)
 have hv:Vals (w.map fun c=>V.str (S [c])) acc.toList:=by
  have hn:acc.size=w.length:=by simpa using hit.1
  have:∀ (n:Nat) (w:List Nat) (l:List Value),w.length=n→l.length=n→(∀ (j:Nat) (v:Value),l[j]?=some v→∃ (c:Nat) (u:Tok),w[j]?=some c∧v=Value.str ⟨#[c]⟩ u)→Vals (w.map fun c=>V.str (S [c])) l:=by
   intro n
   induction n with
   | zero =>
    intro w l h1 h2 _
    have e1:=o6.mp h1
    have e2:=o6.mp h2
    subst e1 e2
    exact .nil
   | succ n ih =>
    intro w l h1 h2 h3
    cases w with
    | nil=>simp at h1
    | cons c w =>
     cases l with
     | nil=>simp at h2
     | cons v l =>
      obtain⟨c',u,hc',rfl⟩:=h3 0 v rfl
      have hc'':c=c':=by simpa using hc'
      subst hc''
      exact .cons ⟨u,rfl⟩ (ih w l (by simpa using h1) (by simpa using h2) fun j v hv=>by simpa using h3 (j+1) v (by simpa using hv))
  refine this w.length w acc.toList rfl (by simpa using hn) fun j v hv=>?_
  obtain⟨c,u,hc,hv'⟩:=hit.2 j v (by simpa using hv)
  exact⟨c,u,by simpa using hc,hv'⟩
 refine⟨.ref s.heap.objs.size,_,I.laid (t':=tk) (o:=.lst (w.map fun c=>V.str (S [c]))) hk (c0 _) ⟨by rw[b7];exact hz2,acc.toList,c,hv,?_⟩,rfl,q _ I.fresh⟩
 simpa using hl
end
def kP(sc0 scope:Scope)(N:List Str)(x:Str)(ix:List Nat):Bool :=
 decide (scope.kind=.function) && scope.names.all (fun y=>decide (y.2≠.cell)) && scope.names.all (fun y=>decide (y.2=.local→scope.names.lookup y.1=some .local)) && decide (scope.names.lookup x=some .local) &&
 scope.names.all (fun y=>decide (y.2=.free→sc0.names.lookup y.1=some .cell∨sc0.names.lookup y.1=some .free)) && ix.all (fun i=>decide (i<N.length) && decide (scope.names.lookup (N.getD i "")=some .free)) && decide ((x::ix.map fun i=>N.getD i "").Nodup)
theorem kN{X:Cx}{sc0 scope:Scope}{N:List Str}{x:Str}{ix:List Nat}(h:kP sc0 scope N x ix=true)(e1:X.env.scope=sc0)(e2:X.N=N):CompSc X scope x ix∧(oE X x ix).Nodup:=by
 subst e1 e2
 simp only [kP,aQE,aQL,decide_eq_true_eq] at h
 obtain⟨⟨⟨⟨⟨⟨h1,h2⟩,h3⟩,h4⟩,h5⟩,h6⟩,h7⟩:=h
 exact⟨⟨h1,h2,h3,h4,h5,h6⟩,h7⟩
section
variable {prog:Program}{w:World}{A:Around}{E:Value→Shared→Prop}{s:Shared}
theorem tT{it t:Addr}{items:Array Value}(hne:t≠it):∀ (n i:Nat) (s:Shared) (Q:List Value→Shared→Prop),s.heap.IsListIter it t i→s.heap.IsList t items→i+n≤items.size →
  (∀ h',h'.IsListIter it t (i+n)→Heap.SameBut it s.heap h'→Q ((items.toList.drop i).take n) { s with heap:=h' })→wpAny (model prog w) A (draw (.ref it) n) Q E s
 | 0,i,s,Q,hit,_,_,hQ=>by
  show wpAny _ _ (pure []) Q E s
  exact wpAny_pure (by simpa using hQ s.heap hit (aKA ..))
 | n+1,i,s,Q,hit,ht,hle,hQ=>by
  have hlt:i<items.size:=by omega
  show wpAny _ _ (pyNext (.ref it) >>= _) Q E s
  refine wpAny_bind (wpAny_pyNext_list_item hit ht (x:=items[i]) (by simp[hlt]) fun h₁ hit₁ hs₁=>?_)
  refine wpAny_bind (wpAny_holding (tT hne n (i+1) _ _ hit₁ (ht.extBut hs₁.extBut hne) (by omega) fun h₂ hit₂ hs₂=>wpAny_pure ?_))
  have hd:items.toList.drop i=items[i]::items.toList.drop (i+1):=by simp[y2,hlt]
  have:=hQ h₂ (by rw[show i+(n+1)=i+1+n by omega];exact hit₂) (hs₁.trans hs₂)
  rw[hd,List.take_succ_cons] at this
  exact this
theorem nT{t:Addr}{items:Array Value}{Q:List Value→Shared→Prop}(hh:A.handled=none)(ht:s.heap.IsList t items)
  (hQ:∀ h',Heap.ExtBut s.heap.objs.size s.heap h'→Q items.toList { s with heap:=h' }):wpAny (model prog w) A (unpackItems (.ref t) items.size none) Q E s:=by
 have hlt:t≠s.heap.objs.size:=by obtain⟨o,ho,_⟩:=ht;exact i3 (d6 ho)
 unfold unpackItems
 refine wpAny_bind ?_
 ·unfold notIterableAtAll
  refine wpAny_bind (wpAny_specialOf ht.typeIs slot_list_iter.lookup ?_)
  refine wpAny_pure ?_
  simp only [aQe,if_false]
  refine wpAny_bind (wpAny_holding (wpAny_pyIter_list ht ?_))
  refine wpAny_bind (wpAny_holding (tT hlt items.size 0 _ _ ⟨_,d8 _ rfl,rfl,rfl⟩ (ht.push _) (by omega) fun h₁ hit₁ hs₁=>?_))
  have hall:List.take items.size (List.drop 0 items.toList)=items.toList:=by
   rw[aZO];exact u6 (by simp)
  rw[hall]
  rw[if_neg (by simp)]
  have ht₁:h₁.IsList t items:=(ht.push _).extBut hs₁.extBut hlt
  refine wpAny_bind (wpAny_holding (wpAny_pyNext_list_end hh hit₁ ht₁ (by simp) fun h₂ he₂=>?_))
  simp only [Option.isSome_none,aQe,if_false]
  refine wpAny_pure (hQ h₂ fun b o hb e=>he₂ b o hb (hs₁.extBut b o hb (b9 _ e)))
theorem mF{env:Env}{elts:List Expr}{x1}{pos:Pos}{t:Addr}{items:Array Value}{Q:Unit→Shared→Prop}(hh:A.handled=none)(ht:s.heap.IsList t items)
  (hn:(assignEach elts env).length=items.size) (hstar:(assignEach elts env).findIdx? (·.1)=none)
  (h:∀ h',Heap.ExtBut s.heap.objs.size s.heap h'→wpAny (model prog w) A (assignInOrder ((assignEach elts env).map (·.2)) items.toList) Q E { s with heap:=h' }) :
  wpAny (model prog w) A (assign (.Tuple elts x1 pos) env (.ref t)) Q E s:=by
 rw[assign_Tuple]
 refine wpAny_bind (wpAny_standAt ?_)
 unfold unpack
 rw[hn,hstar]
 exact wpAny_bind (wpAny_holding (nT hh ht h))
end
section
variable {X:Cx}{pos:Pos}{K:b5}
def J6(K:b5)(n:Nat)(t:Fn):TG:=fun v σ H Q=>∃ a xs,v=.ref a∧(SqL K H a xs∨SqT K H a xs)∧xs.length=n∧t xs σ H Q
theorem jZ{es:List Expr}{k:Nat}{t:Fn}{n:Nat}(hK:X.K=K)(hc:X.calm=true)(h:Jz X es t)
  (hn:(assignEach es X.env).length=n:=by rfl) (hst:(assignEach es X.env).findIdx? (·.1)=none:=by rfl):PG X (.Tuple es k pos) (J6 K n t):=by
 subst hK
 intro pins s σ H v u Q I r hw
 obtain⟨a,xs,e1,hq,hl,hw⟩:=hw
 subst e1
 cases r
 rcases hq with hq | hq
 ·obtain⟨its,rv,ht,hz⟩:=I.list hq
  refine mF (I.ok.hd hc) ht.isList (by simp[hn,← hl,rv.length]) hst fun h' hx=>?_
  have I1:Inv X pins σ H { s with heap:=h' }:=I.kept (t':=s.toks) fun b o e=>hx b o (i3 (d6 e)) e
  exact h pins _ σ H xs _ Q I1 (by simpa using rv) hw
 ·obtain⟨its,rv,ht,hz⟩:=I.tuple hq
  refine assign_Tuple_tuple (I.ok.hd hc) ht (by simp[hn,← hl,rv.length]) hst fun h' hx=>?_
  have I1:Inv X pins σ H { s with heap:=h' }:=I.kept (t':=s.toks) fun b o e=>hx b o (i3 (d6 e)) e
  exact h pins _ σ H xs _ Q I1 (by simpa using rv) hw
end
end L2
namespace Ma
def con(c:Nat):Nat:=if 96<c then c - 32 else c+32
def bX(c:Nat):Prop:=(97≤c∧c≤100)∨(65≤c∧c≤68)
instance(c:Nat):Decidable (bX c):=by unfold bX;infer_instance
theorem aP{c:Nat}(h:bX c):con (con c)=c:=by unfold con;unfold bX at h;split <;> split <;> omega
theorem bQ{c:Nat}(h:bX c):bX (con c):=by unfold con;unfold bX at *;split <;> omega
theorem vP{a b:Nat}(ha:bX a)(hb:bX b)(h:con a=con b):a=b:=by rw[← aP ha,← aP hb,h]
theorem uS{c:Nat}(h:bX c):con c≠c:=by unfold con;unfold bX at h;split <;> omega
def push(k:List Nat)(c:Nat):List Nat:=match k with
 | []=>[c]
 | x::r=>if x=con c then r else c::x::r
def PlainR:List Nat→Prop
 | []=>True
 | [_]=>True
 | a::b::r=>b≠con a∧PlainR (b::r)
def AllL(w:List Nat):Prop:=∀ c∈w,bX c
def act(k:List Nat)(w:List Nat):List Nat:=w.foldl push k
def lay(w:List Nat):List Nat:=(act [] w).reverse
def aW(w:List Nat):Prop:=PlainR w.reverse
def back(w:List Nat):List Nat:=(w.map con).reverse
theorem AllL.cons{c:Nat}{w:List Nat}:AllL (c::w)↔bX c∧AllL w:=by unfold AllL;simp
theorem AllL.nil:AllL []:=by unfold AllL;simp
theorem AllL.app{u w:List Nat}:AllL (u++w)↔AllL u∧AllL w:=by
 unfold AllL;constructor
 ·intro h;exact⟨fun c hc=>h c (q8 _ hc),fun c hc=>h c (j6 _ hc)⟩
 ·rintro⟨h1,h2⟩ c hc;rcases k0.mp hc with h | h;exact h1 c h;exact h2 c h
theorem AllL.rev{w:List Nat}:AllL w.reverse↔AllL w:=by unfold AllL;simp
theorem PlainR.tail{a:Nat}{r:List Nat}(h:PlainR (a::r)):PlainR r:=by
 cases r with
 | nil=>trivial
 | cons b r=>exact h.2
theorem Ad{k:List Nat}{c:Nat}(hk:PlainR k):PlainR (push k c):=by
 cases k with
 | nil=>trivial
 | cons x r =>
  unfold push
  dsimp only
  split
  ·exact hk.tail
  ·rename_i h;exact⟨h,hk⟩
theorem xK{k:List Nat}{c:Nat}(hk:AllL k)(hc:bX c):AllL (push k c):=by
 cases k with
 | nil=>exact AllL.cons.mpr ⟨hc,hk⟩
 | cons x r =>
  unfold push
  dsimp only
  split
  ·exact(AllL.cons.mp hk).2
  ·exact AllL.cons.mpr ⟨hc,hk⟩
theorem gI:∀ {w k:List Nat},PlainR k→PlainR (act k w)
 | [],_,h=>h
 | c::w,k,h=>gI (w:=w) (Ad h)
theorem jH:∀ {w k:List Nat},AllL k→AllL w→AllL (act k w)
 | [],_,h,_=>h
 | c::w,k,h,hw=>jH (w:=w) (xK h (AllL.cons.mp hw).1) (AllL.cons.mp hw).2
theorem iP(k u w:List Nat):act k (u++w)=act (act k u) w:=by unfold act;rw[aXf]
theorem gQ(k u:List Nat)(c:Nat):act k (u++[c])=push (act k u) c:=by rw[iP];rfl
theorem jS(k w:List Nat)(c:Nat):act k (c::w)=act (push k c) w:=rfl
theorem uJ{k:List Nat}{c:Nat}(hk:PlainR k)(ha:AllL k)(hc:bX c):push (push k c) (con c)=k:=by
 cases k with
 | nil =>
  show (if c=con (con c) then [] else _)=[]
  rw[if_pos (aP hc).symm]
 | cons x r =>
  have hx:bX x:=(AllL.cons.mp ha).1
  by_cases e:x=con c
  ·have e1:push (x::r) c=r:=by unfold push;dsimp only;rw[if_pos e]
   rw[e1]
   cases r with
   | nil=>unfold push;dsimp only;rw[e]
   | cons y r =>
    have h1:y≠con x:=hk.1
    unfold push
    dsimp only
    rw[if_neg (by rw[← e];exact h1),e]
  ·have e1:push (x::r) c=c::x::r:=by unfold push;dsimp only;rw[if_neg e]
   rw[e1]
   unfold push
   dsimp only
   rw[if_pos (aP hc).symm]
theorem eM{w:List Nat}(h:AllL w):AllL (lay w):=AllL.rev.mpr (jH AllL.nil h)
theorem dW(w:List Nat):aW (lay w):=by unfold aW lay;rw[aQJ];exact gI trivial
theorem CY(k:List Nat)(c:Nat):(push k c).length≤k.length+1:=by
 cases k with
 | nil=>simp[push]
 | cons x r =>
  unfold push
  dsimp only
  split
  ·simp;omega
  ·simp
theorem oZ:∀ (w k:List Nat),(act k w).length≤k.length+w.length
 | [],k=>by simp[act]
 | c::w,k=>by
  have h1:=oZ w (push k c)
  have h2:=CY k c
  rw[jS,j0]
  omega
theorem gE(w:List Nat):(lay w).length≤w.length:=by
 unfold lay;rw[aQC];have:=oZ w [];simpa using this
theorem gZ(u v:List Nat){a b:Nat}(hu:AllL u)(hb:bX b)(e:a=con b):lay (u++a::b::v)=lay (u++v):=by
 unfold lay
 have ha:bX a:=by rw[e];exact bQ hb
 rw[iP,jS,jS,iP]
 have e2:b=con a:=by rw[e,aP hb]
 rw[e2,uJ (gI (k:=[]) trivial) (jH AllL.nil hu) ha]
theorem iY:∀ (w k:List Nat),PlainR (w.reverse++k)→act k w=w.reverse++k
 | [],k,_=>rfl
 | c::w,k,h=>by
  have h0:PlainR (w.reverse++(c::k)):=by simpa using h
  have e:push k c=c::k:=by
   cases k with
   | nil=>rfl
   | cons x r =>
    have h1:x≠con c:=by
     have:∀ (l:List Nat),PlainR (l++(c::x::r))→x≠con c:=by
      intro l
      induction l with
      | nil=>intro h;exact h.1
      | cons y l ih =>
       intro h
       exact ih (PlainR.tail h)
     exact this _ h0
    unfold push
    dsimp only
    rw[if_neg h1]
  rw[jS,e,iY w (c::k) h0]
  simp
theorem dZ{w:List Nat}(h:aW w):lay w=w:=by
 unfold lay
 rw[iY w [] (by rw[l4];exact h)]
 simp
theorem EY(w:List Nat):lay (lay w)=lay w:=dZ (dW w)
theorem DL:∀ (n:Nat) (w k:List Nat),w.length=n→PlainR k→AllL k→AllL w→act k (lay w)=act k w:=by
 intro n
 induction n with
 | zero =>
  intro w k hn _ _ _
  have:w=[]:=o6.mp hn
  subst this;rfl
 | succ n ih =>
  intro w k hn hk ha hw
  have hne:w≠[]:=by intro h;subst h;simp at hn
  obtain⟨u,c,rfl⟩:∃ u c,w=u++[c]:=⟨w.dropLast,w.getLast hne,(z9 hne).symm⟩
  have hu:u.length=n:=by simpa using hn
  obtain⟨hau,hac⟩:=AllL.app.mp hw
  have hc:bX c:=(AllL.cons.mp hac).1
  have ihu:=ih u k hu hk ha hau
  have hal:=jH (k:=[]) AllL.nil hau
  unfold lay at ihu ⊢
  rw[gQ,gQ,← ihu]
  cases e:act [] u with
  | nil=>simp[push,act]
  | cons x r =>
   rw[e] at hal
   have hx:bX x:=(AllL.cons.mp hal).1
   have har:AllL r:=(AllL.cons.mp hal).2
   by_cases h:x=con c
   ·have e1:push (x::r) c=r:=by unfold push;dsimp only;rw[if_pos h]
    rw[e1,p0,gQ]
    have e2:c=con x:=by rw[h,aP hc]
    rw[e2,uJ (gI hk) (jH ha (AllL.rev.mpr har)) hx]
   ·have e1:push (x::r) c=c::x::r:=by unfold push;dsimp only;rw[if_neg h]
    rw[e1,p0,gQ]
theorem cG(u w:List Nat)(hu:AllL u)(hw:AllL w):lay (u++lay w)=lay (u++w):=by
 unfold lay
 rw[iP,iP]
 have:=DL w.length w (act [] u) rfl (gI trivial) (jH AllL.nil hu) hw
 unfold lay at this
 rw[this]
theorem eJ(u w:List Nat)(hu:AllL u):lay (lay u++w)=lay (u++w):=by
 unfold lay
 rw[iP,iP]
 have e:=iY (lay u) [] (by rw[l4];exact dW u)
 unfold lay at e
 rw[e]
 simp
theorem cS(u w:List Nat):back (u++w)=back w++back u:=by unfold back;simp
theorem bY(w:List Nat):(back w).length=w.length:=by unfold back;simp
theorem aL{w:List Nat}(h:AllL w):AllL (back w):=by
 unfold back AllL
 intro c hc
 simp only [y7,d5] at hc
 obtain⟨a,ha,rfl⟩:=hc
 exact bQ (h a ha)
theorem cD:∀ {w:List Nat},AllL w→back (back w)=w
 | [],_=>rfl
 | c::w,h=>by
  have e:back (c::w)=back w++[con c]:=by unfold back;simp
  have ih:=cD (AllL.cons.mp h).2
  rw[e,cS,ih]
  unfold back
  simp[aP (AllL.cons.mp h).1]
theorem dS:∀ (n:Nat) (w:List Nat),w.length=n→AllL w→lay (w++back w)=[]:=by
 intro n
 induction n with
 | zero =>
  intro w hn _
  have:w=[]:=o6.mp hn
  subst this;rfl
 | succ n ih =>
  intro w hn hw
  have hne:w≠[]:=by intro h;subst h;simp at hn
  obtain⟨u,c,rfl⟩:∃ u c,w=u++[c]:=⟨w.dropLast,w.getLast hne,(z9 hne).symm⟩
  obtain⟨hau,hac⟩:=AllL.app.mp hw
  have hc:bX c:=(AllL.cons.mp hac).1
  have e:u++[c]++back (u++[c])=u++c::con c::back u:=by rw[cS];simp[back]
  rw[e,gZ u (back u) hau (bQ hc) (aP hc).symm]
  exact ih u (by simpa using hn) hau
theorem fM{w:List Nat}(h:AllL w):lay (w++back w)=[]:=dS _ w rfl h
theorem eU{w:List Nat}(h:AllL w):lay (back w++w)=[]:=by
 have:=fM (aL h)
 rwa [cD h] at this
theorem oF:∀ (l:List Nat) (a b:Nat),PlainR (l++[a])→b≠con a→PlainR (l++[a,b])
 | [],a,b,_,h=>⟨h,trivial⟩
 | [x],a,b,h,h2=>⟨h.1,h2,trivial⟩
 | x::y::l,a,b,h,h2=>⟨h.1,oF (y::l) a b h.2 h2⟩
theorem kY:∀ {k:List Nat},AllL k→PlainR k→PlainR (k.map con).reverse
 | [],_,_=>trivial
 | [a],_,_=>trivial
 | a::b::r,ha,h=>by
  have ih:=kY (AllL.cons.mp ha).2 h.2
  have hA:=AllL.cons.mp ha
  have hB:=AllL.cons.mp hA.2
  rw[g9,p0] at ih ⊢
  rw[g9,p0] at *
  have e:((r.map con).reverse++[con b])++[con a]=(r.map con).reverse++[con b,con a]:=by simp
  rw[e]
  refine oF _ _ _ ih ?_
  rw[aP hB.1]
  intro e2
  exact h.1 e2.symm
theorem lG{w:List Nat}(hw:AllL w)(h:aW w):aW (back w):=by
 unfold aW back at *
 rw[aQJ]
 have:=kY (AllL.rev.mpr hw) h
 rwa [aXC,aQJ] at this
theorem Dk:∀ (n:Nat) (w:List Nat),w.length=n→AllL w→lay (back w)=back (lay w):=by
 intro n
 induction n with
 | zero =>
  intro w hn _
  have:w=[]:=o6.mp hn
  subst this;rfl
 | succ n ih =>
  intro w hn hw
  have hne:w≠[]:=by intro h;subst h;simp at hn
  obtain⟨u,c,rfl⟩:∃ u c,w=u++[c]:=⟨w.dropLast,w.getLast hne,(z9 hne).symm⟩
  obtain⟨hau,hac⟩:=AllL.app.mp hw
  have hc:bX c:=(AllL.cons.mp hac).1
  have ihu:=ih u (by simpa using hn) hau
  have e0:back (u++[c])=[con c]++back u:=by rw[cS];simp[back]
  have hcc:AllL [con c]:=AllL.cons.mpr ⟨bQ hc,AllL.nil⟩
  rw[e0,← cG [con c] (back u) hcc (aL hau),ihu]
  have hal:=jH (k:=[]) AllL.nil hau
  have hpl:=gI (w:=u) (k:=[]) trivial
  have el:lay u=(act [] u).reverse:=rfl
  have el2:lay (u++[c])=(push (act [] u) c).reverse:=by unfold lay;rw[gQ]
  rw[el2,el]
  cases e:act [] u with
  | nil=>rfl
  | cons x r =>
   rw[e] at hal hpl
   have hx:bX x:=(AllL.cons.mp hal).1
   have har:AllL r:=(AllL.cons.mp hal).2
   have hbr:AllL (back r.reverse):=aL (AllL.rev.mpr har)
   have eb:back (x::r).reverse=con x::back r.reverse:=by rw[p0,cS];rfl
   rw[eb]
   have hp2:aW (back (x::r).reverse):=lG (AllL.rev.mpr hal) (by unfold aW;rw[aQJ];exact hpl)
   by_cases h:x=con c
   ·have e1:push (x::r) c=r:=by unfold push;dsimp only;rw[if_pos h]
    rw[e1]
    show lay ([]++con c::con x::back r.reverse)=_
    rw[gZ [] _ AllL.nil (bQ hx) (by rw[aP hx,h])]
    exact dZ (lG (AllL.rev.mpr har) (by unfold aW;rw[aQJ];exact hpl.tail))
   ·have e1:push (x::r) c=c::x::r:=by unfold push;dsimp only;rw[if_neg h]
    rw[e1]
    have e3:back (c::x::r).reverse=[con c]++con x::back r.reverse:=by rw[p0,cS,eb];rfl
    rw[e3]
    refine dZ ?_
    rw[← e3]
    refine lG (AllL.rev.mpr (AllL.cons.mpr ⟨hc,hal⟩)) ?_
    unfold aW
    rw[aQJ]
    exact⟨h,hpl⟩
theorem iI{w:List Nat}(h:AllL w):lay (back w)=back (lay w):=Dk _ w rfl h
end Ma
namespace Lw
open PySem PySem.Spec PyProof.Rows L2 Ma
theorem bV(w:List Nat):(S w).length=w.length:=by simp[Str.length]
theorem jI(u w:List Nat):(S u++S w:Str)=S (u++w):=by
 show Str.append (S u) (S w)=S (u++w)
 unfold Str.append;simp
theorem xT{u w:List Nat}(h:S u=S w):u=w:=by
 have h':u.toArray=w.toArray:=congrArg Str.cps h
 simpa using congrArg Array.toList h'
theorem fX(u w:List Nat):decide (V.str (S u)=V.str (S w))=decide (u=w):=by
 by_cases h:u=w
 ·subst h;simp
 ·rw[decide_eq_false h,decide_eq_false fun e=>h (xT (V.str.inj e))]
theorem oI:(Str.ofString "":Str)=S []:=by decide +kernel
theorem H_(w:List Nat):(S w).cps.toList=w:=by simp
theorem aN{n:Nat}(h:n≤100000):n≤sizeLine:=j7 h (by decide)
theorem Dh{n:Nat}(h:n≤99999):n<sizeLine:=m4 (show n<100000 by omega) (aN (c0 _))
theorem iG(w:List Nat){j:Int}(h0:0≤j)(h2:j≤w.length):Txt.slice (S w) none (some j)=S (w.take j.toNat):=by
 have:=slice_closes_toL (x:=S w) h0 (by rw[bV];exact h2)
 rw[beq_iff_eq.mp this]
 simp
theorem Af:∀ (zs:List (List Nat)),Txt.join (S []) (zs.map S)=S zs.flatten
 | []=>by unfold Txt.join;rw[aXK];rfl
 | [z]=>by unfold Txt.join;rw[aXK];simp[Str.join]
 | z::y::r=>by
  have ih:=Af (y::r)
  unfold Txt.join at ih ⊢
  rw[aXK] at ih ⊢
  rw[g9,g9]
  show (S z++S [])++Str.join (S []) (S y::r.map S)=_
  rw[g9] at ih
  rw[ih,jI,jI]
  simp
theorem Ay(zs:List (List Nat)):((zs.map S).map (·.length)).sum=zs.flatten.length:=by
 induction zs with
 | nil=>rfl
 | cons z zs ih=>simp only [g9,u8,x8,c5,ih,bV]
def aY(c:Nat):Bool:=decide (96<c)
theorem aO{c:Nat}(h:bX c):c=97∨c=98∨c=99∨c=100∨c=65∨c=66∨c=67∨c=68:=by unfold bX at h;omega
theorem Bz{c:Nat}(h:bX c):Txt.islower (S [c])=aY c:=by
 rcases aO h with rfl | rfl | rfl | rfl | rfl | rfl | rfl | rfl <;> decide +kernel
theorem sY{c:Nat}(h:bX c):Txt.isupper (S [c])=!aY c:=by
 rcases aO h with rfl | rfl | rfl | rfl | rfl | rfl | rfl | rfl <;> decide +kernel
theorem pG{c:Nat}(h:bX c)(hl:aY c=true):Txt.upper (S [c])=S [con c]:=by
 rcases aO h with rfl | rfl | rfl | rfl | rfl | rfl | rfl | rfl <;> first | (decide +kernel) | (exact absurd hl (by decide))
theorem A1{c:Nat}(h:bX c)(hl:aY c=false):Txt.lower (S [c])=S [con c]:=by
 rcases aO h with rfl | rfl | rfl | rfl | rfl | rfl | rfl | rfl <;> first | (decide +kernel) | (exact absurd hl (by decide))
theorem Ah(c:Nat):Builtin.Str.tooLong (S [c]).length=false:=by rw[bV];show Builtin.Str.tooLong 1=false;decide +kernel
def conTab_rows:List (Str×PyData):=[("a",.str "A"),("A",.str "a"),("b",.str "B"),("B",.str "b"),("c",.str "C"),("C",.str "c"),("d",.str "D"),("D",.str "d")]
def B0:List (PyData×PyData):=conTab_rows.map fun p=>(PyData.str p.1,p.2)
theorem wJ{c:Nat}(h:bX c):lookup (.str (S [c])) B0=some (.str (S [con c])):=by
 rcases aO h with rfl | rfl | rfl | rfl | rfl | rfl | rfl | rfl <;> kernel_rfl
def Kp(fl:Addr)(H H':Hp):Prop:=∀ b o,H b=some o→b≠fl→H' b=some o
theorem Kp.refl(fl:Addr)(H:Hp):Kp fl H H:=fun _ _ h _=>h
theorem Kp.trans{fl:Addr}{H H1 H2:Hp}(a:Kp fl H H1)(b:Kp fl H1 H2):Kp fl H H2:=fun c o h n=>b c o (a c o h n) n
theorem _root_.L2.Same.kp{fl:Addr}{H H':Hp}(h:Same H H'):Kp fl H H':=fun b o e _=>h b o e
theorem _root_.L2.Same.new{H:Hp}{l:Addr}{o:HO}(h:H l=none):Same H (upd H l o):=fun b u e=>by rw[aE (aJ e h)];exact e
theorem _root_.L2.Same.upd{H H':Hp}{l:Addr}{o:HO}(s:Same H H')(h:H l=none):Same H (upd H' l o):=fun b u e=>by rw[aE (aJ e h)];exact s b u e
theorem _root_.L2.Same.upd'{H H':Hp}{l:Addr}{o:HO}(s:Same H H')(h:H' l=none):Same H (upd H' l o):=s.trans (Same.new h)
theorem Kp.upd{fl:Addr}{H H':Hp}{l:Addr}{o:HO}(s:Kp fl H H')(h:H l=none):Kp fl H (upd H' l o):=fun b u e n=>by rw[aE (aJ e h)];exact s b u e n
theorem Kp.self{fl:Addr}{H H':Hp}{o:HO}(s:Kp fl H H'):Kp fl H (L2.upd H' fl o):=fun b u e n=>by rw[aE n];exact s b u e n
theorem Kp.free{fl:Addr}{H H':Hp}(k:Kp fl H H'){l:Addr}(h:H' l=none)(n:l≠fl):H l=none:=by
 cases q:H l with
 | none=>rfl
 | some o=>rw[k l o q n] at h;cases h
def IsFl(H:Hp)(fl sc:Addr):Prop:=∃ (ns:List Int) (i a b c:Int),H fl=some (.lst [.ref sc,.int i,.int a,.int b,.int c])∧H sc=some (.lst (ns.map V.int))∧ns.length≤63∧0≤i∧0≤a∧0≤b
theorem IsFl.same{H H':Hp}{fl sc:Addr}(s:Same H H')(h:IsFl H fl sc):IsFl H' fl sc:=by
 obtain⟨ns,i,a,b,c,h1,h2,r⟩:=h
 exact⟨ns,i,a,b,c,s _ _ h1,s _ _ h2,r⟩
theorem IsFl.some{H:Hp}{fl sc:Addr}(h:IsFl H fl sc):(∃ o,H fl=some o)∧∃ o,H sc=some o:=by
 obtain⟨ns,i,a,b,c,h1,h2,r⟩:=h
 exact⟨⟨_,h1⟩,⟨_,h2⟩⟩
theorem IsFl.ne{H:Hp}{fl sc l:Addr}(h:IsFl H fl sc)(n:H l=none):l≠fl:=by
 obtain⟨⟨o,e⟩,_⟩:=h.some
 exact(aJ e n).symm
theorem IsFl.ne2{H:Hp}{fl sc l:Addr}(h:IsFl H fl sc)(n:H l=none):l≠sc:=by
 obtain⟨_,⟨o,e⟩⟩:=h.some
 exact(aJ e n).symm
theorem IsFl.upd{H:Hp}{fl sc l:Addr}{o:HO}(h:IsFl H fl sc)(n:H l=none):IsFl (L2.upd H l o) fl sc:=h.same (Same.new n)
theorem IsFl.set{H:Hp}{fl sc l:Addr}{o:HO}(h:IsFl H fl sc)(n:l≠fl)(n2:l≠sc):IsFl (L2.upd H l o) fl sc:=by
 obtain⟨ns,i,a,b,c,h1,h2,r⟩:=h
 exact⟨ns,i,a,b,c,by rw[aE n.symm];exact h1,by rw[aE n2.symm];exact h2,r⟩
structure Df(K:b5)(mg:Str→Option Value)(x:Str)(st:Stmt)(ps:List Str)(f:Addr)(fd:FuncData):Prop where
 F:Fun K x x st f fd
 b:Binds K fd ps []
 m:mg x=some (.ref f)
def Cl(P:Program)(w:World)(K:b5)(mg:Str→Option Value)(base:Heap)(x:Str)(ps:List Str)(n:Nat)(sp:Sp):Prop :=
 ∃ f fd,FnOk P w K mg base AV n f fd ps sp∧mg x=some (.ref f)∧PySem.W.keepIn K (.ref f)=true∧Binds K fd ps []
theorem Df.cl{P:Program}{w:World}{K:b5}{mg:Str→Option Value}{base:Heap}{x:Str}{st:Stmt}{ps:List Str}{f:Addr}{fd:FuncData}{n:Nat}{sp:Sp}(D:Df K mg x st ps f fd)(h:FnOk P w K mg base AV n f fd ps sp):Cl P w K mg base x ps n sp :=
 ⟨f,fd,h,D.m,D.F.kp,D.b⟩
def lets:List Nat:=[97,65,98,66,99,67,100,68]
def aI(n:Int):List Nat:=lets.take (2 * n).toNat
def OfN(n:Int)(w:List Nat):Prop:=∀ c∈w,c∈aI n
theorem aK{n:Int}{c:Nat}(h:c∈aI n):bX c:=by
 have h2:c∈lets:=r6 h
 unfold lets at h2
 simp only [c7,o8,or_false] at h2
 unfold bX
 omega
theorem OfN.all{n:Int}{w:List Nat}(h:OfN n w):AllL w:=fun c hc=>aK (h c hc)
theorem kL{n:Int}(h1:1≤n)(h4:n≤4):(aI n).length=(2 * n).toNat:=by
 unfold aI lets
 rw[i7]
 simp
 omega
def bB(w:List Nat):List V:=w.map fun c=>V.str (S [c])
theorem mL(w:List Nat):bB w=(w.map fun c=>S [c]).map V.str:=by unfold bB;rw[p7];rfl
theorem nB:∀ (w:List Nat),(w.map fun c=>[c]).flatten=w
 | []=>rfl
 | c::w=>by rw[g9,x8,nB w];rfl
theorem C_(w:List Nat):(w.map fun c=>[c]).map S=w.map fun c=>S [c]:=by rw[p7];rfl
theorem kM(w:List Nat):Txt.join (Str.ofString "") (w.map fun c=>S [c])=S w:=by
 have h:=Af (w.map fun c=>[c])
 rw[C_,nB] at h
 rw[oI]
 exact h
theorem iX(w:List Nat)(hw:w.length≤100000):((w.map fun c=>S [c]).map (·.length)).sum+(w.map fun c=>S [c]).length * (Str.ofString "").length≤16777216:=by
 have h:=Ay (w.map fun c=>[c])
 rw[C_,nB] at h
 have e2:(Str.ofString "").length=0:=by decide +kernel
 rw[e2,aJl,aXr,h]
 omega
theorem cF(w:List Nat)(c:Nat):bB (w++[c])=bB w++[V.str (S [c])]:=by unfold bB;simp
theorem bA(w:List Nat):(bB w).length=w.length:=by unfold bB;simp
theorem lS{w:List Nat}{i:Nat}{c:Nat}(h:w[i]?=some c):(bB w)[i]?=some (.str (S [c])):=by unfold bB;rw[c9,h];rfl
theorem Iu{w:List Nat}{i:Int}{c:Nat}(h0:0≤i)(h:w[i.toNat]?=some c):wD (S w).cps.toList i=some c:=by
 rw[H_]
 have:=dJ h
 rwa [aXX h0] at this
theorem Aa{α:Type}{xs:List α}{i:Int}{v:α}(h0:0≤i)(h:xs[i.toNat]?=some v):wD xs i=some v:=by
 have:=dJ h
 rwa [aXX h0] at this
theorem bI{w:List Nat}{i c:Nat}(h:w[i]?=some c):w.take (i+1)=w.take i++[c]:=by rw[p6,h];rfl
inductive spFlow(K:b5)(vs:List V)(H:Hp)(Q:VK)(E:XK):Prop
 | mk (a:Addr) (ns:List Int) (_:vs=[.ref a]) (_:SqL K H a (ns.map V.int)) (_:ns.length≤63) (_:∀ (fl sc:Addr) (H':Hp),H fl=none→Same H H'→IsFl H' fl sc→Q (.ref fl) H'):spFlow K vs H Q E
inductive spPick(vs:List V)(H:Hp)(Q:VK)(E:XK):Prop
 | mk (fl sc:Addr) (m:Int) (_:vs=[.ref fl,.int m]) (_:IsFl H fl sc) (_:0<m) (_:m<1073741824) (_:∀ (d:Int) (H':Hp),0≤d→d<m→IsFl H' fl sc→Kp fl H H'→Q (.int d) H'):spPick vs H Q E
inductive spCon(vs:List V)(H:Hp)(Q:VK)(E:XK):Prop
 | mk (c:Nat) (_:vs=[.str (S [c])]) (_:bX c) (_:∀ H',Same H H'→Q (.str (S [con c])) H'):spCon vs H Q E
inductive spLay(vs:List V)(H:Hp)(Q:VK)(E:XK):Prop
 | mk (w:List Nat) (_:vs=[.str (S w)]) (_:AllL w) (_:w.length≤60000) (_:∀ H',Same H H'→Q (.str (S (lay w))) H'):spLay vs H Q E
inductive spBack(vs:List V)(H:Hp)(Q:VK)(E:XK):Prop
 | mk (w:List Nat) (_:vs=[.str (S w)]) (_:AllL w) (_:w.length≤1000) (_:∀ H',Same H H'→Q (.str (S (back w))) H'):spBack vs H Q E
inductive spLetters(vs:List V)(H:Hp)(Q:VK)(E:XK):Prop
 | mk (n:Int) (_:vs=[.int n]) (_:1≤n) (_:n≤4) (_:∀ (l:Addr) (H':Hp),H l=none→Same H H'→H' l=some (.lst (bB (aI n)))→Q (.ref l) H'):spLetters vs H Q E
inductive spWord(vs:List V)(H:Hp)(Q:VK)(E:XK):Prop
 | mk (fl sc:Addr) (n most:Int) (_:vs=[.ref fl,.int n,.int most]) (_:IsFl H fl sc) (_:1≤n) (_:n≤4) (_:0≤most) (_:most≤900) (_:∀ (w:List Nat) (H':Hp),OfN n w→aW w→(w.length:Int)≤most→IsFl H' fl sc→Kp fl H H'→Q (.str (S w)) H'):spWord vs H Q E
inductive spLaw(K:b5)(vs:List V)(H:Hp)(Q:VK)(E:XK):Prop
 | mk (a:Addr) (ns:List Int) (_:vs=[.ref a]) (_:SqL K H a (ns.map V.int)) (_:ns.length≤63) (_:∀ H',Q (.bl true) H'):spLaw K vs H Q E
end Lw
namespace L2
open PySem PySem.Spec PyProof.Rows
def JQ(t u:TS):TS:=fun D σ H=>∃ M:St→Hp→Prop,t { D with nx:=M } σ H∧∀ σ' H',M σ' H'→u D σ' H'
theorem gG{X:Cx}{st:Stmt}{rest:List Stmt}{t u:TS}(h1:PS X st t)(h2:PSs X rest u):PSs X (st::rest) (JQ t u):=by
 intro pins s σ H D I ⟨M,q1,q2⟩
 refine wpAny_execs_cons (cK (h1 pins s σ H { D with nx:=M } I q1) fun f s1 q=>?_)
 cases f with
 | next =>
  obtain⟨σ',H',I',q⟩:=q
  exact h2 pins s1 σ' H' D I' (q2 σ' H' q)
 | ret v=>exact q
 | brk=>exact q
 | cont=>exact q
end L2
namespace Lw
open PySem PySem.Spec PyProof.Rows L2 Ma
def mV(x:List Nat)(c:Nat):Bool:=match x.getLast? with
 | none=>true
 | some z=>!decide ([c]=[con z])
theorem Er{n:Int}{x:List Nat}(h1:1≤n)(h4:n≤4):0<((aI n).filter (mV x)).length:=by
 have m1:97∈aI n∧65∈aI n:=by
  have:n=1∨n=2∨n=3∨n=4:=by omega
  rcases this with rfl | rfl | rfl | rfl <;> decide
 have:mV x 97=true∨mV x 65=true:=by
  unfold mV
  cases x.getLast? with
  | none=>exact .inl rfl
  | some z =>
   by_cases e:con z=97
   ·right;dsimp only;rw[e];rfl
   ·left;dsimp only;simp;omega
 rcases this with h | h
 ·exact aXA (aQB.mpr ⟨m1.1,h⟩)
 ·exact aXA (aQB.mpr ⟨m1.2,h⟩)
theorem nK{x:List Nat}{c:Nat}(hx:AllL x)(hc:bX c)(hp:aW x)(h:mV x c=true):aW (x++[c]):=by
 unfold aW at *
 rw[aXY]
 show PlainR (c::x.reverse)
 cases hq:x.reverse with
 | nil=>trivial
 | cons z r =>
  rw[hq] at hp
  refine⟨?_,hp⟩
  intro e
  have hz:x.getLast?=some z:=by
   rw[List.getLast?_eq_head?_reverse,hq];rfl
  unfold mV at h
  rw[hz] at h
  have h':¬ c=con z:=by simpa using h
  exact h' (by rw[e,aP hc])
end Lw
namespace L2
open PySem PySem.Spec PyProof.Rows
section
variable {X:Cx}{K:b5}
theorem aR(h:X.K=K):Fp X (HA K):=by subst h;exact Ex
theorem cH(h:X.K=K):Fp X (FM K):=by subst h;exact GI
theorem bG(h:X.K=K):gS X (.builtin "len") (fun xs H Q=>Rcall_len_seq K xs H Q):=by subst h;exact uX
theorem lI(h:X.K=K):gS X (.type "list") (fun xs H Q=>Rcall_list_of K xs H Q):=by subst h;exact vD
theorem dD(h:X.K=K):gS X (.type "tuple") (fun xs H Q=>Rcall_tuple_of K xs H Q):=by subst h;exact rN
theorem jX(h:X.K=K):Bo X "str.join" (fun x xs H Q=>∃ z a zs,x=.str z∧xs=[.ref a]∧SqL K H a (zs.map V.str)∧(zs.map (·.length)).sum+zs.length * z.length≤16777216∧Q (.str (Txt.join z zs)) H):=by subst h;exact Eh
theorem Es(h:X.K=K)(hu:X.A.units<cLine):lD X (compareOp .NotEq) (HL K true):=by subst h;exact GF hu
theorem B4(h:X.K=K):lD X (compareOp .In) (HR K false):=by subst h;exact Bn
theorem sM(h:X.K=K):lD X (compareOp .NotIn) (HR K true):=by subst h;exact wB
theorem Dy(h:X.K=K):lD X (binaryOp .Add) (E5 K):=by subst h;exact EB
theorem fP{tg l:Expr}{tl:TE}(h:X.K=K)(hl:PE X l tl):PI X tg l (Dq K tl):=by subst h;exact DX hl
theorem fL{tg l:Expr}{tl:TE}(h:X.K=K)(hl:PE X l tl):PI X tg l (Gc K tl):=by subst h;exact GK hl
variable {o e:Expr}{es:List Expr}{to:TE}{t:TA}{name:Str}{apos cpos:Pos}{T id:String}{r:V→List V→Hp→VK→Prop}
theorem fA(h:X.K=K)(pa:PlainAttrs T)(slot:Slot T name id)(hty:typeOf (.builtin id)=pure (.type "method_descriptor"))(hm:Bo X id r)(ho:PE X o to)
  (hbase:attributeBase o name X.env (eval o X.env)=eval o X.env:=by rfl) (hline:(apos.endLine == cpos.line)=true:=by rfl):PE X (.Call (.Attribute o name apos) [] [] cpos) (HF K T r to):=by subst h;exact GR pa slot hty hm ho hbase hline
theorem cX(h:X.K=K)(pa:PlainAttrs T)(slot:Slot T name id)(hty:typeOf (.builtin id)=pure (.type "method_descriptor"))(hm:Bo X id r)(ho:PE X o to)(ha:PA X (e::es) t)
  (hbase:attributeBase o name X.env (eval o X.env)=eval o X.env:=by rfl)
  (hfew:((backTo cpos (starEach (e::es) X.env)).all (fun x=>!x.1) && (backToKw cpos (keywordEach [] X.env)).all (fun x=>x.1.isSome)
   && decide ((e::es).length+([]:List Keyword).length+(if ([]:List Keyword).isEmpty then 0 else 1)<30))=true:=by rfl)
  (hline:(apos.endLine == cpos.line)=true:=by rfl) (hs:starEach (e::es) X.env=(false,eval e X.env)::starEach es X.env:=by rfl) (hplain:(backTo cpos (starEach es X.env)).any (·.1)=false:=by rfl) :
  PE X (.Call (.Attribute o name apos) (e::es) [] cpos) (Kf K T r to t):=by subst h;exact Jd pa slot hty hm ho ha hbase hfew hline hs hplain
end
section
variable {X:Cx}{scope:Scope}{x:Str}{px pos:Pos}{ix:List Nat}{elt iter:Expr}{ifs:List Expr}{wi:TI}{ti:TT}{te:TE}
theorem cY{sc0:Scope}{N:List Str}(h:kP sc0 scope N x ix=true)(e1:X.env.scope=sc0)(e2:X.N=N)(hc:X.calm=true)(hi:PI X (.Name x px) iter wi)(hif:∀ fp s H,xE (bO X scope x ix fp s H) ifs ti)(he:∀ fp s H,PE (bO X scope x ix fp s H) elt te)
  (hs:∀ z,foldedSetIterable iter X.env z=pure z:=by intro _;rfl):PE X (.ListComp elt [⟨.Name x px,iter,ifs,0⟩] scope pos) (AA wi ix ti te) :=
 Ap (kN h e1 e2).1 (kN h e1 e2).2 hc hi hif he hs
theorem lU{i:Nat}{y:Str}{py spos:Pos}{sc0:Scope}{N:List Str}(hN:X.N.Nodup)(hy:X.N[i]?=some y)(hyl:X.env.scope.names.lookup y=some .local)(h:kP sc0 scope N x ix=true)(e1:X.env.scope=sc0)(e2:X.N=N)(hc:X.calm=true)(hi:PI X (.Name x px) iter wi)
  (hif:∀ fp s H,xE (bO X scope x ix fp s H) ifs ti) (he:∀ fp s H,PE (bO X scope x ix fp s H) elt te)
  (hsw:swapsWith (.ListComp elt [⟨.Name x px,iter,ifs,0⟩] scope pos) (some (.Name y py)) spos.line X.env=pure true:=by rfl)
  (hs:∀ z,foldedSetIterable iter X.env z=pure z:=by intro _;rfl):PS X (.Assign [.Name y py] (.ListComp elt [⟨.Name x px,iter,ifs,0⟩] scope pos) spos) (E6 i wi ix ti te) :=
 EJ hN hy hyl (kN h e1 e2).1 (kN h e1 e2).2 hc hi hif he hsw hs
end
end L2
namespace Lw
open PySem PySem.Spec PyProof.Rows L2 Ma
def Ie(x:List Nat)(k:Nat):Prop:=∃ a b,x[k]?=some a∧x[k+1]?=some b∧a=con b
theorem tZ{x:List Nat}{k:Nat}(h:Ie x k):∃ a b,x=x.take k++a::b::x.drop (k+2)∧a=con b∧k+1<x.length:=by
 obtain⟨a,b,h1,h2,e⟩:=h
 obtain⟨l1,e1⟩:=a9.mp h1
 obtain⟨l2,e2⟩:=a9.mp h2
 refine⟨a,b,?_,e,l2⟩
 have q1:x.drop k=x[k]::x.drop (k+1):=y2 l1
 have q2:x.drop (k+1)=x[k+1]::x.drop (k+1+1):=y2 l2
 rw[e1] at q1
 rw[e2] at q2
 have q3:=aQO k x
 rw[q1,q2] at q3
 exact q3.symm
theorem EZ{x:List Nat}{k:Nat}(hx:AllL x)(h:Ie x k):lay (x.take k++x.drop (k+2))=lay x:=by
 obtain⟨a,b,e,hab,_⟩:=tZ h
 have hx':AllL (x.take k++a::b::x.drop (k+2)):=by rw[← e];exact hx
 obtain⟨h1,h2⟩:=AllL.app.mp hx'
 have hb:bX b:=(AllL.cons.mp (AllL.cons.mp h2).2).1
 have:=gZ (x.take k) (x.drop (k+2)) h1 hb hab
 rw[← this,← e]
theorem tJ:∀ (k:List Nat),(∀ i a b,k[i]?=some a→k[i+1]?=some b→b≠con a)→PlainR k
 | [],_=>trivial
 | [_],_=>trivial
 | a::b::r,h=>⟨h 0 a b rfl rfl,tJ (b::r) fun i x y h1 h2=>h (i+1) x y (by simpa using h1) (by simpa using h2)⟩
theorem jM{x:List Nat}(h:∀ k,¬ Ie x k):aW x:=by
 unfold aW
 refine tJ _ fun i a b h1 h2 e=>?_
 have l2:i+1<x.length:=by
  have:=(a9.mp h2).1
  simpa using this
 rw[aQm (by omega)] at h1 h2
 refine h (x.length - 1 - (i+1)) ⟨b,a,h2,?_,e⟩
 rw[show x.length - 1 - (i+1)+1=x.length - 1 - i by omega]
 exact h1
theorem cE{n:Int}{c:Nat}(h1:1≤n)(h4:n≤4)(h:c∈aI n):con c∈aI n:=by
 have:n=1∨n=2∨n=3∨n=4:=by omega
 have hL:=aO (aK h)
 rcases this with rfl | rfl | rfl | rfl <;> rcases hL with rfl | rfl | rfl | rfl | rfl | rfl | rfl | rfl <;> revert h <;> decide
theorem C7{k:List Nat}{c d:Nat}(h:d∈push k c):d∈k∨d=c:=by
 cases k with
 | nil=>right;simpa [push] using h
 | cons x r =>
  unfold push at h
  dsimp only at h
  split at h
  ·left;exact c8 _ h
  ·rcases c7.mp h with q | q
   ·exact .inr q
   ·exact .inl q
theorem AJ:∀ {w k:List Nat} {d:Nat},d∈act k w→d∈k∨d∈w
 | [],_,_,h=>.inl h
 | c::w,k,d,h=>by
  rcases AJ (w:=w) (k:=push k c) h with q | q
  ·rcases C7 q with q | q
   ·exact .inl q
   ·exact .inr (by rw[q];exact d4)
  ·exact .inr (c8 _ q)
theorem El{w:List Nat}{c:Nat}(h:c∈lay w):c∈w:=by
 rcases AJ (w:=w) (k:=[]) (y7.mp h) with q | q
 ·exact nomatch q
 ·exact q
theorem OfN.back{n:Int}{w:List Nat}(h:OfN n w)(h1:1≤n)(h4:n≤4):OfN n (Ma.back w):=fun c hc=>by
 unfold Ma.back at hc
 simp only [y7,d5] at hc
 obtain⟨a,ha,rfl⟩:=hc
 exact cE h1 h4 (h a ha)
theorem OfN.lay{n:Int}{w:List Nat}(h:OfN n w):OfN n (Ma.lay w):=fun c hc=>h c (El hc)
theorem OfN.app{n:Int}{u w:List Nat}(h:OfN n u)(h2:OfN n w):OfN n (u++w):=fun c hc=>(k0.mp hc).elim (h c) (h2 c)
theorem OfN.nil{n:Int}:OfN n []:=fun c hc=>nomatch hc
theorem gT:∀ (k l:List Nat),PlainR (k++l)→PlainR k
 | [],_,_=>trivial
 | [_],_,_=>trivial
 | a::b::r,l,h=>⟨h.1,gT (b::r) l h.2⟩
theorem gB:∀ (k l:List Nat),PlainR (k++l)→PlainR l
 | [],_,h=>h
 | a::r,l,h=>gB r l (PlainR.tail h)
theorem zP{x:List Nat}(h:aW x)(i:Nat):aW (x.drop i):=by
 unfold aW at *
 have e:x=x.take i++x.drop i:=(aQO i x).symm
 rw[e,aXY] at h
 exact gT _ _ h
theorem qZ{x:List Nat}(h:aW x)(i:Nat):aW (x.take i):=by
 unfold aW at *
 have e:x=x.take i++x.drop i:=(aQO i x).symm
 rw[e,aXY] at h
 exact gB _ _ h
end Lw
namespace LtL
open PySem PyProof.Rows HT
open PySem.SeqAt
open PySem.AutoSeq1 (wpAny_loadPart')
open PySem.MeetsSeq PySem.MeetsSeq2 PySem.MeetsSeq3
theorem vK:∀ {us:List Value} {ns:List Int},IntsAre us ns→∀ i,i<us.length→∃ a t,us[i]?=some (.int a t)∧ns[i]?=some a
 | _,_,.nil,i,h=>by simp at h
 | _,_,.cons a t r,0,_=>⟨a,t,rfl,rfl⟩
 | _,_,.cons a t r,i+1,h=>by
  obtain⟨c,u,h1,h2⟩:=vK r i (by simpa using h)
  exact⟨c,u,by simpa using h1,by simpa using h2⟩
theorem AN{ns:List Int}{i:Nat}{a:Int}(h:ns[i]?=some a):ns.drop i=a::ns.drop (i+1):=by
 obtain⟨hl,e⟩:=a9.mp h
 rw[y2 hl,e]
theorem Eu(l b:Addr)(us vs:List Value)(n n2:Nat)(ns ms:List Int)(hi:IntsAre us ns)(hj:IntsAre vs ms)(k:Nat) :
  ∀ i:Nat,us.length - i=k→us.length=vs.length→Meets (Builtin.«list.__eq__.loop» ⟨[.ref l,.ref b,rawInt i,rawInt 0],[]⟩)
   (fun A R s=>s.heap.get? l=some { cls:=.type "list",data:=.seq us.toArray n }∧s.heap.get? b=some { cls:=.type "list",data:=.seq vs.toArray n2 }∧R (.ok (.ret (.bool (lexLt (ns.drop i) (ms.drop i))))) s):=by
 have ln:us.length=ns.length:=hi.length
 have lm:vs.length=ms.length:=hj.length
 induction k with
 | zero =>
  intro i hk hlen prog w A R s h
  obtain⟨hp,g,d,tk,os⟩:=s;obtain⟨hl,hb,h⟩:=h
  wp_walk using wpAny_loadPart' hl,wpAny_loadPart' hb
  have n1:us.toArray[((i:Nat):Int).toNat]?=none:=by simp;omega
  have n2':vs.toArray[((i:Nat):Int).toNat]?=none:=by simp;omega
  rw[n1,n2']
  wp_walk using wpAny_loadPart' hl,wpAny_loadPart' hb
  have d1:ns.drop i=[]:=by simp;omega
  have d2:ms.drop i=[]:=by simp;omega
  rw[d1,d2] at h
  have e:(decide (us.toArray.size<vs.toArray.size))=HT.lexLt [] []:=by rw[d3,d3,hlen];simp[HT.lexLt]
  show R (.ok (.ret (.bool (decide (us.toArray.size<vs.toArray.size))))) _
  rw[e]
  exact h
 | succ k ih =>
  intro i hk hlen prog w A R s h
  obtain⟨hp,g,d,tk,os⟩:=s;obtain⟨hl,hb,h⟩:=h
  obtain⟨a,t,ha,ha'⟩:=vK hi i (by omega)
  obtain⟨c,u,hc,hc'⟩:=vK hj i (by omega)
  have n1:us.toArray[((i:Nat):Int).toNat]?=some (.int a t):=by simpa using ha
  have n2':vs.toArray[((i:Nat):Int).toNat]?=some (.int c u):=by simpa using hc
  rw[AN ha',AN hc',lexLt_cons] at h
  wp_walk using wpAny_loadPart' hl,wpAny_loadPart' hb
  rw[n1,n2']
  have he:=aX4 (A:=A.in1) (s:=⟨hp,g,d,tk,os⟩) a t c u
  refine wpAny_bind (he prog w _ _ ?_)
  cases q:(a == c) with
  | true =>
   have q':a=c:=by simpa using q
   rw[if_pos q'] at h
   wp_walk
   refine⟨plainId_quiet plain_eq_loop _,codeAny_builtin entry_eq_loop ?_⟩
   rw[aZV plain_eq_loop _]
   exact ih (i+1) (by omega) hlen prog w A R _ ⟨hl,hb,h⟩
  | false =>
   have q':¬ a=c:=by simpa using q
   rw[if_neg q'] at h
   have hri:=CA A.in1 ⟨hp,g,d,tk,os⟩ a t c u prog w
   wp_walk using wpAny_loadPart' hl,wpAny_loadPart' hb
   rw[n1,n2']
   wp_walk using hri
   exact h
theorem list_lt(l b:Addr)(us vs:List Value)(n n2:Nat)(ns ms:List Int)(hi:IntsAre us ns)(hj:IntsAre vs ms)(hlen:us.length=vs.length) :
  Meets (Builtin.«list.__lt__» ⟨[.ref l,.ref b],[]⟩)
   (fun A R s=>s.heap.get? l=some { cls:=.type "list",data:=.seq us.toArray n }∧s.heap.get? b=some { cls:=.type "list",data:=.seq vs.toArray n2 }∧R (.ok (.ret (.bool (lexLt ns ms)))) s):=by
 intro prog w A R s h
 obtain⟨hp,g,d,tk,os⟩:=s;obtain⟨hl,hb,h⟩:=h
 have f3:=AutoSeq1.sub_list_list
 wp_walk using wpAny_loadPart' hl,wpAny_loadPart' hb
 refine⟨plainId_quiet plain_eq_loop _,codeAny_builtin entry_eq_loop ?_⟩
 rw[aZV plain_eq_loop _]
 exact Eu l b us vs n n2 ns ms hi hj _ 0 rfl hlen prog w A R _ ⟨hl,hb,h⟩
end LtL
namespace L2
open PySem PySem.Spec PyProof.Rows
theorem qE:∀ ns:List Int,HT.lexLt ns ns=false
 | []=>rfl
 | n::ns=>by rw[HT.lexLt_cons,if_pos rfl];exact qE ns
theorem qA:∀ (a b:List Int),gU (a.map V.int) (b.map V.int)=decide (a=b)
 | [],[]=>by simp[gU]
 | [],_::_=>by simp[gU]
 | _::_,[]=>by simp[gU]
 | x::xs,y::ys=>by
  have e:pU (V.int x) (V.int y)=decide (x=y):=by
   unfold pU;by_cases h:x=y <;> simp[h]
  rw[g9,g9]
  unfold gU
  rw[qA xs ys,e]
  by_cases h:x=y <;> by_cases h2:xs=ys <;> simp[h,h2]
section
variable {X:Cx}
theorem xL(hc:X.calm=true):Bo X "str.index" (fun x xs H Q=>∃ z y,x=.str z∧xs=[.str y]∧(Builtin.Str.occurrences z y 0 z.length 1).isEmpty=false∧Q (.int (Txt.find z y)) H):=by
 intro pins s σ H x xs v us Q I rx rs h
 obtain⟨z,y,rfl,rfl,ho,q⟩:=h
 obtain⟨t,rfl⟩:=rx
 obtain⟨u,rfl,ru⟩:=rs.one
 obtain⟨t',rfl⟩:=ru
 exact index_or (I.ok.hd hc) (fun _ e=>by rw[e] at ho;cases ho) fun _ _=>⟨.int _,H,I.tok _,⟨_,rfl⟩,q⟩
inductive Rop_mul_str(x:V)(y:V)(H:Hp)(Q:VK):Prop
 | mk (z n:_) (_:x=.str z) (_:y=.int n) (_:MulOk z n) (_:Q (.str (Txt.mul z n)) H):Rop_mul_str x y H Q
theorem qC:lD X (binaryOp .Mult) (fun x y H Q=>Rop_mul_str x y H Q):=by
 intro pins s σ H x y v u Q I rx ry h
 obtain⟨z,n,rfl,rfl,hok,q⟩:=h
 obtain⟨t,rfl⟩:=rx
 obtain⟨t',rfl⟩:=ry
 exact SB.mul hok fun t' k=>⟨.str _,H,I.tok _,⟨t',rfl⟩,q⟩
end
end L2
namespace MaR
section
variable {g:Nat→Nat}{n:Nat}
def Lt(g:Nat→Nat)(n i j:Nat):Prop:=∃ l,l<n∧(∀ t,t<l→g (i+t)=g (j+t))∧g (i+l)<g (j+l)
theorem GH(hg:∀ t,g (t % n)=g t){i j:Nat}(h:Lt g n i j):Lt g n (i % n) j:=by
 have e:∀ t,g (i % n+t)=g (i+t):=fun t=>by
  rw[← hg (i % n+t),← hg (i+t)]
  congr 1
  simp[aJq]
 obtain⟨l,h1,h2,h3⟩:=h
 exact⟨l,h1,fun t ht=>by rw[e];exact h2 t ht,by rw[e];exact h3⟩
end
end MaR
namespace Lw
open PySem PySem.Spec PyProof.Rows L2 Ma MaR
def rk(c:Nat):Nat:=if 96<c then 2 * (c - 97) else 2 * (c - 65)+1
theorem Fy{a b:Nat}(ha:bX a)(hb:bX b)(h:rk a=rk b):a=b:=by unfold rk at h;unfold bX at *;split at h <;> split at h <;> omega
def gr(x:List Nat)(t:Nat):Nat:=rk (x.getD (t % x.length) 0)
theorem CB(x:List Nat):∀ t,gr x (t % x.length)=gr x t:=fun t=>by unfold gr;rw[aJr]
def LeastAt(x:List Nat)(b:Nat):Prop:=(x=[]∧b=0)∨(b<x.length∧∀ j,j<x.length→¬ Lt (gr x) x.length j b)
def Ends(x:List Nat)(m:Nat):Prop:=(∀ j,j<m→2 * j+1<x.length∧x.getD j 0=con (x.getD (x.length - 1 - j) 0))∧¬ (2 * m+1<x.length∧x.getD m 0=con (x.getD (x.length - 1 - m) 0))
def tD(x:List Nat)(m:Nat):List Nat:=(x.drop m).take (x.length - 2 * m)
def kK(x:List Nat)(b:Nat):List Nat:=x.drop b++x.take b
def hV(x r:List Nat):Prop:=∃ m b,Ends x m∧LeastAt (tD x m) b∧r=kK (tD x m) b
theorem Ends.le{x:List Nat}{m:Nat}(h:Ends x m):2 * m≤x.length:=by
 cases m with
 | zero=>omega
 | succ m=>have:=(h.1 m (aXo _)).1;omega
theorem Ends.inj{x:List Nat}{m m':Nat}(h:Ends x m)(h':Ends x m'):m=m':=by
 by_cases c:m<m'
 ·exact absurd (h'.1 m c) h.2
 ·by_cases c2:m' < m
  ·exact absurd (h.1 m' c2) h'.2
  ·omega
theorem ET{x:List Nat}{m:Nat}(h:2 * m≤x.length):(tD x m).length=x.length - 2 * m:=by unfold tD;rw[i7,y4];omega
theorem En{x:List Nat}{m:Nat}(h:AllL x):AllL (tD x m):=fun c hc=>h c (List.mem_of_mem_drop (r6 hc))
theorem LeastAt.le{x:List Nat}{b:Nat}(h:LeastAt x b):b≤x.length:=by
 rcases h with ⟨e,rfl⟩ | ⟨h,_⟩
 ·exact l7 _
 ·omega
theorem fK{x:List Nat}{b:Nat}(h:b≤x.length):(kK x b).length=x.length:=by unfold kK;rw[c5,y4,i7];omega
theorem vM{x:List Nat}{b t:Nat}(h:b<x.length)(ht:t<x.length):(kK x b)[t]?=some (x.getD ((b+t) % x.length) 0):=by
 unfold kK
 by_cases c:t<x.length - b
 ·rw[l5 (by rw[y4];omega),aZd,aXD (by omega),b8,b0 (by omega)]
  rfl
 ·rw[u0 (by rw[y4];omega),y4,aQI (by omega)]
  have e:(b+t) % x.length=t - (x.length - b):=by
   rw[show b+t=(t - (x.length - b))+x.length by omega,aXg,aXD (by omega)]
  rw[e,b8,b0 (by omega)]
  rfl
def rks(x:List Nat):List Int:=x.map fun c=>((rk c:Nat):Int)
theorem oR(x:List Nat):(rks x).length=x.length:=by unfold rks;rw[b7]
theorem Ff{c:Nat}(h:bX c):(Builtin.Str.occurrences (Str.ofString "aAbBcCdD") (S [c]) 0 (Str.ofString "aAbBcCdD").length 1).isEmpty=false∧Txt.find (Str.ofString "aAbBcCdD") (S [c])=((rk c:Nat):Int):=by
 rcases aO h with rfl | rfl | rfl | rfl | rfl | rfl | rfl | rfl <;> exact⟨by decide +kernel,by decide +kernel⟩
inductive spKey(vs:List V)(H:Hp)(Q:VK)(E:XK):Prop
 | mk (x:List Nat) (_:vs=[.str (S x)]) (_:AllL x) (_:x.length≤900) (_:∀ (p a:Addr) (H':Hp),H p=none→H a=none→Same H H'→H' p=some (.tup [.int (x.length:Nat),.ref a])→H' a=some (.lst ((rks x).map V.int))→Q (.ref p) H'):spKey vs H Q E
theorem EM{x:List Nat}{t i:Nat}(h:i<x.length - 2 * t):(tD x t)[i]?=some (x.getD (t+i) 0):=by
 unfold tD
 rw[aQI h,aZd,b8,b0 (by omega)]
 rfl
theorem qV(x:List Nat):tD x 0=x:=by unfold tD;simp
theorem CG(x:List Nat):kK x 0=x:=by unfold kK;simp
def Ko(y:List Nat):Prop:=∀ k,k<y.length→y.getD k 0≠con (y.getD ((k+1) % y.length) 0)
theorem rD:∀ (k:List Nat),PlainR k→∀ i a b,k[i]?=some a→k[i+1]?=some b→b≠con a
 | [],_,i,a,b,h,_=>by simp at h
 | [_],_,i,a,b,_,h=>by simp at h
 | c::d::r,h,0,a,b,h1,h2=>by
  simp at h1 h2
  subst h1 h2
  exact h.1
 | c::d::r,h,i+1,a,b,h1,h2=>rD (d::r) h.2 i a b (by simpa using h1) (by simpa using h2)
theorem uC{x:List Nat}(h:aW x){k a b:Nat}(h1:x[k]?=some a)(h2:x[k+1]?=some b):a≠con b:=by
 have l2:=(a9.mp h2).1
 refine rD x.reverse h (x.length - 1 - (k+1)) b a ?_ ?_
 ·rw[aQm (by omega),show x.length - 1 - (x.length - 1 - (k+1))=k+1 by omega];exact h2
 ·rw[aQm (by omega),show x.length - 1 - (x.length - 1 - (k+1)+1)=k by omega];exact h1
theorem qI{x:List Nat}{i:Nat}(h:i<x.length):x[i]?=some (x.getD i 0):=by rw[b8,b0 h];rfl
theorem qY{x:List Nat}(hx:AllL x){i:Nat}(h:i<x.length):bX (x.getD i 0):=hx _ (b6 (qI h))
theorem lN{x:List Nat}{t i:Nat}(h:i<x.length - 2 * t):(tD x t).getD i 0=x.getD (t+i) 0:=by
 rw[b8,EM h];rfl
theorem EV{x:List Nat}(hx:AllL x)(hp:aW x){t:Nat}(he:Ends x t):Ko (tD x t):=fun k hk=>by
 have ml:=ET he.le
 rw[ml] at hk ⊢
 by_cases c:k+1<x.length - 2 * t
 ·rw[aXD c,lN hk,lN c]
  exact uC hp (qI (by omega)) (by rw[show t+k+1=t+(k+1) by omega];exact qI (by omega))
 ·have e:k+1=x.length - 2 * t:=by omega
  rw[← e,Nat.mod_self,lN hk,lN (by omega)]
  by_cases c2:k=0
  ·subst c2;exact(uS (qY hx (by omega))).symm
  ·intro q
   refine he.2 ⟨by omega,?_⟩
   rw[show x.length - 1 - t=t+k by omega,q,aXr,aP (qY hx (by omega))]
theorem mO{x:List Nat}{b t:Nat}(h:b<x.length)(ht:t<x.length):(kK x b).getD t 0=x.getD ((b+t) % x.length) 0:=by
 rw[b8,vM h ht];rfl
theorem FW{x:List Nat}{a:Nat}(h:a<x.length)(t:Nat):gr (kK x a) t=gr x (a+t):=by
 unfold gr
 rw[fK (by omega),mO h (aQ2 _ (by omega)),aZD]
theorem CK{x:List Nat}(hx:AllL x)(hc:Ko x){a:Nat}(h:a<x.length):Ends (kK x a) 0:=by
 refine⟨fun j hj=>absurd hj (x6 _),fun ⟨h1,h2⟩=>?_⟩
 rw[fK (by omega)] at h1 h2
 rw[mO h (by omega),mO h (by omega)] at h2
 have q:=hc ((a+(x.length - 1 - 0)) % x.length) (aQ2 _ (by omega))
 apply q
 have e:((a+(x.length - 1 - 0)) % x.length+1) % x.length=(a+0) % x.length:=by
  rw[aZE,show a+(x.length - 1 - 0)+1=a+0+x.length by omega,aXg]
 rw[e,h2,aP (qY hx (aQ2 _ (by omega)))]
theorem FY{x:List Nat}{a i j:Nat}(h:a<x.length):Lt (gr (kK x a)) x.length i j↔Lt (gr x) x.length (a+i) (a+j):=by
 have e:∀ i t,gr (kK x a) (i+t)=gr x (a+i+t):=fun i t=>by rw[FW h,aJW]
 constructor
 ·rintro⟨l,h1,h2,h3⟩;exact⟨l,h1,fun t ht=>by rw[← e,← e];exact h2 t ht,by rw[← e,← e];exact h3⟩
 ·rintro⟨l,h1,h2,h3⟩;exact⟨l,h1,fun t ht=>by rw[e,e];exact h2 t ht,by rw[e,e];exact h3⟩
theorem D_{g:Nat→Nat}{n i j:Nat}(hg:∀ t,g (t % n)=g t)(h:Lt g n i j):Lt g n i (j % n):=by
 have e:∀ t,g (j % n+t)=g (j+t):=fun t=>by rw[← hg (j % n+t),← hg (j+t),aZE]
 obtain⟨l,h1,h2,h3⟩:=h
 exact⟨l,h1,fun t ht=>by rw[e];exact h2 t ht,by rw[e];exact h3⟩
theorem BR{x:List Nat}{a b c:Nat}(ha:a<x.length)(hb:LeastAt x b)(hc:c<x.length)(e:(a+c) % x.length=b):LeastAt (kK x a) c:=by
 rcases hb with ⟨h0,_⟩ | ⟨hb,hm⟩
 ·subst h0;simp at ha
 ·refine .inr ⟨by rw[fK (by omega)];exact hc,fun j hj q=>?_⟩
  rw[fK (by omega)] at hj q
  have q1:=D_ (CB x) (GH (CB x) ((FY ha).mp q))
  rw[e] at q1
  exact hm _ (aQ2 _ (by omega)) q1
theorem vC{x:List Nat}{a c b:Nat}(ha:a<x.length)(hc:c<x.length)(hb:b<x.length)(e:(a+c) % x.length=b):kK (kK x a) c=kK x b:=by
 have l1:(kK x a).length=x.length:=fK (by omega)
 refine aQz fun t=>?_
 by_cases ht:t<x.length
 ·rw[vM (by omega) (by omega),vM hb ht,l1,mO ha (aQ2 _ (by omega)),aZD,← e,aZE,aJW]
 ·rw[aQP (by rw[fK (by omega)];omega),aQP (by rw[fK (by omega)];omega)]
theorem yH:hV [] []:=⟨0,0,⟨fun j hj=>absurd hj (x6 _),fun h=>by simp at h⟩,.inl ⟨rfl,rfl⟩,rfl⟩
theorem vE(x:List Nat):kK x x.length=x:=by unfold kK;simp
theorem xX{x r:List Nat}(hx:AllL x)(hp:aW x)(h:hV x r){a:Nat}(ha:a≤r.length):hV (kK r a) r:=by
 obtain⟨m,b,he,hb,rfl⟩:=h
 have hy:=En (m:=m) hx
 have hc:=EV hx hp he
 generalize tD x m=y at hb hy hc ha
 rcases id hb with ⟨rfl,rfl⟩ | ⟨hbl,hm⟩
 ·have:a=0:=by simpa [kK] using ha
  subst this
  exact yH
 ·have lr:(kK y b).length=y.length:=fK (by omega)
  have key:∀ a,a<y.length→hV (kK (kK y b) a) (kK y b):=fun a ha=>by
   rw[vC hbl ha (aQ2 _ (by omega)) rfl]
   have ha':(b+a) % y.length<y.length:=aQ2 _ (by omega)
   generalize (b+a) % y.length=a' at ha'
   have e:(a' + (b+y.length - a') % y.length) % y.length=b:=by
    rw[aZD,show a' + (b+y.length - a')=b+y.length by omega,aXg,aXD hbl]
   have hcl:(b+y.length - a') % y.length<y.length:=aQ2 _ (by omega)
   refine⟨0,(b+y.length - a') % y.length,CK hy hc ha',?_,?_⟩
   ·rw[qV];exact BR ha' hb hcl e
   ·rw[qV,vC ha' hcl hbl e]
  by_cases c:a<y.length
  ·exact key a c
  ·have:a=(kK y b).length:=by omega
   rw[this,vE]
   have:=key 0 (by omega)
   rwa [CG] at this
theorem Fr(w:List Nat)(n:Nat)(h1:1≤n)(h2:n≤10)(hw:w.length≤100):MulOk (S w) (n:Int):=by
 refine⟨?_,fun _ _=>?_,fun _ _=>?_⟩
 ·have e1:decide ((n:Int) < -(2 ^ 63:Int))=false:=decide_eq_false (by omega)
  have e2:decide ((n:Int) ≥ 2 ^ 63)=false:=decide_eq_false (by omega)
  rw[e1,e2];rfl
 ·rw[bV]
  have:(n=1∨n=2∨n=3∨n=4∨n=5∨n=6∨n=7∨n=8∨n=9∨n=10):=by omega
  rcases this with rfl | rfl | rfl | rfl | rfl | rfl | rfl | rfl | rfl | rfl <;> omega
 ·rw[bV,show ((n:Nat):Int).toNat=n by omega]
  have h9:w.length * n≤1000:=j7 (aQM hw h2) (by decide)
  unfold Builtin.Str.tooLong
  have h10:(1000:Nat)≤sizeLine:=aN (by decide)
  exact decide_eq_false (by omega)
end Lw
namespace L2
open PySem PySem.Spec PyProof.Rows
section
variable {X:Cx}{e:Expr}{te:TE}{lo hi:Option Expr}{stp:Expr}{tl th tk:TO}{pos p2:Pos}
def HG(X:Cx)(r:V→Option Int→Option Int→Option Int→Hp→VK→Prop):Prop :=
 ∀ (pins:List (Addr×Obj)) (s:Shared) (σ:St) (H:Hp) (x:V) (v vl vu vk:Value) (lo hi st:Option Int) (sl:Addr) (Q:VK),Inv X pins σ H s→RelV x v→s.heap.IsSliceOf sl vl vu vk→IsPart vl lo→IsPart vu hi→IsPart vk st→r x lo hi st H Q →
  ∃ T id,typeLookup (.type T) "__getitem__"=pure (some (.builtin id))∧s.TypeIs v T∧wpAny (model X.prog X.w) X.A (getItem v (.ref sl)) (EP X pins σ Q) X.xe s
def J4(r:V→Option Int→Option Int→Option Int→Hp→VK→Prop)(te:TE)(tl th tk:TO):TE:=fun σ H Q=>te σ H fun x H1=>tl σ H1 fun l H2=>th σ H2 fun u H3=>tk σ H3 fun k H4=>r x l u k H4 Q
theorem BO{r:V→Option Int→Option Int→Option Int→Hp→VK→Prop}(hr:HG X r)(he:PE X e te)(hl:PO X lo tl)(hu:PO X hi th)(hk:PO X (some stp) tk):PE X (.Subscript e (.Slice lo hi (some stp) p2) pos) (J4 r te tl th tk):=by
 intro pins s σ H Q I h
 refine Subscript_ (cK (he pins s σ H _ I h) fun v s1 ⟨x,H1,I1,r1,q1⟩=>?_)
 refine wpAny_Slice (cK (hl pins s1 σ H1 _ I1 q1) fun vl s2 ⟨l,H2,I2,pl,q2⟩=>cK (hu pins s2 σ H2 _ I2 q2) fun vu s3 ⟨u,H3,I3,pu,q3⟩=>cK (hk pins s3 σ H3 _ I3 q3) fun vk s4 ⟨k,H4,I4,pk,q4⟩=>?_)
 have I5:Inv X pins σ H4 { s4 with heap:=s4.heap.push { cls:=.type "slice",data:=.fields #[vl,vu,vk] } }:=I4.kept (t':=s4.toks) fun b ob q=>b9 _ q
 obtain⟨T,id,hT,ht,hg⟩:=hr pins { s4 with heap:=s4.heap.push { cls:=.type "slice",data:=.fields #[vl,vu,vk] } } σ H4 x v vl vu vk l u k s4.heap.objs.size Q I5 r1 (aZ9 ..) pl pu pk q4
 show wpAny (model X.prog X.w) X.A (subscriptTail e (.Slice lo hi (some stp) p2) v (.ref s4.heap.objs.size)) (EP X pins σ Q) X.xe { s4 with heap:=s4.heap.push { cls:=.type "slice",data:=.fields #[vl,vu,vk] } }
 exact tail_any (ops:=[v,.ref s4.heap.objs.size]) ht hT hg rfl
end
abbrev Cx.one(X:Cx):Cx:={ X with A:=X.A.in1,xe:=fun _ _=>False }
theorem Cx.Ok.one{X:Cx}(o:X.Ok):X.one.Ok :=
 ⟨o.mod,o.kind,o.glob,o.blt,o.above,o.inj,o.has,o.cab,o.hd,o.frames,o.stk,o.exf,o.bs,o.bsz,o.noex,o.exfs,o.funs,o.frf⟩
section
variable {X:Cx}{pins:List (Addr×Obj)}{σ:St}{H:Hp}{s:Shared}
theorem Inv.one(I:Inv X pins σ H s):Inv X.one pins σ H s:=⟨I.ok.one,I.os,I.bare,I.base,I.loc,I.cell,I.free,I.freeC,I.pin,I.hok,I.len⟩
theorem Inv.unone(o:X.Ok)(I:Inv X.one pins σ H s):Inv X pins σ H s:=⟨o,I.os,I.bare,I.base,I.loc,I.cell,I.free,I.freeC,I.pin,I.hok,I.len⟩
end
end L2
namespace Lw
open PySem PySem.Spec PyProof.Rows L2 Ma MaR
theorem kO(u v w:List Nat)(hu:AllL u)(hv:AllL v)(hw:AllL w):lay (u++lay v++w)=lay (u++v++w):=by
 rw[← eJ (u++lay v) w (AllL.app.mpr ⟨hu,eM hv⟩),cG u v hu hv,eJ (u++v) w (AllL.app.mpr ⟨hu,hv⟩)]
theorem Ez{x r:List Nat}{m:Nat}(hx:AllL x)(he:Ends x m)(hr:hV x r):∃ a,a≤r.length∧tD x m=kK r a:=by
 obtain⟨m',b,he',hb,rfl⟩:=hr
 obtain rfl:=he.inj he'
 have hbl:=hb.le
 generalize tD x m=y at *
 have hl:(kK y b).length=y.length:=fK hbl
 refine⟨y.length - b,by omega,?_⟩
 have h1:(y.drop b).length=y.length - b:=y4
 have e:kK y b=y.drop b++y.take b:=rfl
 generalize y.length - b=a at *
 rw[e]
 subst h1
 show y=(y.drop b++y.take b).drop (y.drop b).length++(y.drop b++y.take b).take (y.drop b).length
 rw[aJR,aZP,aQO]
def lo(c:Nat):Nat:=if 96<c then c else c+32
theorem A_{c:Nat}(h:bX c):Unicode.lowerOf c=[lo c]:=by
 rcases aO h with rfl | rfl | rfl | rfl | rfl | rfl | rfl | rfl <;> decide +kernel
theorem Bc{w:List Nat}{i c:Nat}(h:bX c)(e:w[i]?=some c):Unicode.lowerAt w.toArray i=[lo c]:=by
 unfold Unicode.lowerAt
 have e2:w.toArray[i]?=some c:=by simpa using e
 rw[e2]
 have e3:((c == 0x3A3 && Unicode.endsWord w.toArray i))=false:=by
  have:(c == 0x3A3)=false:=by unfold bX at h;simp;omega
  rw[this];rfl
 simp only [e3]
 exact A_ h
theorem BT{α:Type}(f:Nat→α)(w:List Nat):(w.map fun c=>[f c]).flatten=w.map f:=by
 induction w with
 | nil=>rfl
 | cons a w ih=>rw[g9,x8,ih];rfl
theorem iF{w:List Nat}(h:AllL w):Txt.lower (S w)=S (w.map lo):=by
 unfold Txt.lower placed
 show Str.mk _=Str.mk _
 congr 1
 apply aZt.mp
 rw[Array.toList_flatten,Array.toList_mapIdx]
 have e:(List.mapIdx (fun i c=>(Unicode.lowerAt (S w).cps i).toArray) (S w).cps.toList)=w.map fun c=>#[lo c]:=by
  refine aQz fun i=>?_
  have e1:(S w).cps.toList=w:=by simp
  have e2:(S w).cps=w.toArray:=rfl
  rw[e1,e2,List.getElem?_mapIdx,c9]
  cases hq:w[i]? with
  | none=>rfl
  | some c =>
   show some _=some _
   rw[Bc (h c (b6 hq)) hq]
 rw[e,p7]
 show (w.map fun c=>[lo c]).flatten=w.map lo
 exact BT lo w
theorem mX(w:List Nat)(h:AllL w)(hl:w.length≤1000):Builtin.Str.tooLong (Txt.lower (S w)).length=false:=by
 rw[iF h,bV,b7]
 unfold Builtin.Str.tooLong
 have h10:(1000:Nat)≤sizeLine:=aN (by decide)
 exact decide_eq_false (by omega)
theorem CH{c:Nat}(h:bX c):c∈lets:=by rcases aO h with rfl | rfl | rfl | rfl | rfl | rfl | rfl | rfl <;> decide
end Lw
namespace PySem
open Sem (wp)
section
variable {prog:Program}{w:World}{A:Around}{E:Value→Shared→Prop}{s:Shared}
theorem iT{j t:Addr}{k:Nat}{vs:Array Value}{x:Value}{Q:Value→Shared→Prop}(hj:s.heap.IsTupleIter j t k)(ht:s.heap.IsTuple t vs)(hx:vs[k]?=some x)
  (hQ:∀ g,g.IsTupleIter j t (k+1)→Heap.SameBut j s.heap g→Q x { s with heap:=g }):wpAny (model prog w) A (Builtin.SmallTypes.nextOf (.ref j)) Q E s:=by
 obtain⟨oj,goj,cj,dj⟩:=id hj
 obtain⟨ot,got,_,m,dt⟩:=ht
 unfold Builtin.SmallTypes.nextOf
 refine wpAny_bind (wpAny_callSpecial?_slot (name:=Str.ofString "__next__") hj.typeIs aQX (wpAny_call_entry aQX hj.typeIs aX6 ?_ (aX1 _)))
 show wpAny _ _ (field (.ref j) 0 >>= _) _ _ s
 refine wpAny_bind (wpAny_field goj dj (x:=.ref t) rfl ?_)
 show wpAny _ _ (if (Value.ref t == Value.none)=true then _ else _) _ _ s
 rw[if_neg (by intro c;cases c)]
 show wpAny _ _ (field (.ref j) 1 >>= _) _ _ s
 refine wpAny_bind (wpAny_field goj dj (x:=.int k 0) rfl ?_)
 show wpAny _ _ (seqItems? (.ref t) >>= _) _ _ s
 refine wpAny_bind (wpAny_seqItems got dt ?_)
 simp only [aQZ,hx]
 refine wpAny_bind (wpAny_setField goj dj (by simp) (wpAny_pure ⟨x,rfl,wpAny_pure (hQ _ ?_ (y0 ..))⟩))
 refine⟨_,aQG _ goj (aQl (y6 dj _)),(aXd ..).trans cj,?_⟩
 rw[y6 dj]
 simp[rawInt]
theorem mW{j t:Addr}{k:Nat}{vs:Array Value}{Q:Value→Shared→Prop}(hh:A.handled=none)(hj:s.heap.IsTupleIter j t k)(ht:s.heap.IsTuple t vs)(hx:vs[k]?=none)
  (hE:∀ g e,Heap.ExtBut j s.heap g→(∃ o,g.get? e=some o∧o.cls=.type "StopIteration")→E (.ref e) { s with heap:=g }):wpAny (model prog w) A (Builtin.SmallTypes.nextOf (.ref j)) Q E s:=by
 obtain⟨oj,goj,cj,dj⟩:=id hj
 obtain⟨ot,got,_,m,dt⟩:=ht
 unfold Builtin.SmallTypes.nextOf
 refine wpAny_bind (wpAny_callSpecial?_slot (name:=Str.ofString "__next__") hj.typeIs aQX (wpAny_call_entry aQX hj.typeIs aX6 ?_ (aX1 _)))
 show wpAny _ _ (field (.ref j) 0 >>= _) _ _ s
 refine wpAny_bind (wpAny_field goj dj (x:=.ref t) rfl ?_)
 show wpAny _ _ (if (Value.ref t == Value.none)=true then _ else _) _ _ s
 rw[if_neg (by intro c;cases c)]
 show wpAny _ _ (field (.ref j) 1 >>= _) _ _ s
 refine wpAny_bind (wpAny_field goj dj (x:=.int k 0) rfl ?_)
 show wpAny _ _ (seqItems? (.ref t) >>= _) _ _ s
 refine wpAny_bind (wpAny_seqItems got dt ?_)
 simp only [aQZ,hx]
 refine wpAny_bind (wpAny_rule (wpAny_bind (wpAny_setField goj dj (by simp) ?_)))
 show wpAny _ _ (newExc (.type "StopIteration") [] >>= _) _ _ _
 refine wpAny_bind ?_
 simp only [newExc,newTuple]
 refine wpAny_bind (wpAny_newObj_type ?_ (by size_fits))
 refine wpAny_bind (m:=firstArgMember _ _) (wpAny_of_eq (a:=Value.none) (by first | rfl | (simp only [firstArgMember];rfl)) ?_)
 refine wpAny_newObj_type ?_ (by size_fits)
 simp only [raiseNew]
 refine wpAny_bind (wpAny_handled ?_)
 first | rw[show A.in1.handled=none from hh] | rw[hh]
 refine wpAny_bind (wpAny_pure (wpAny_throw ?_))
 exact hE _ _ (((y0 ..).extBut.push _).push _) ⟨_,d8 _ rfl,rfl⟩
structure ZApart(z a b i j t u:Addr):Prop where
 az:a≠z
 bz:b≠z
 iz:i≠z
 jz:j≠z
 ab:a≠b
 ai:a≠i
 aj:a≠j
 bi:b≠i
 bj:b≠j
 ij:i≠j
 tz:t≠z
 tb:t≠b
 ti:t≠i
 tj:t≠j
 uz:u≠z
 ub:u≠b
 ui:u≠i
 uj:u≠j
structure ZSt(h:Heap)(z a b i j t u:Addr)(k:Nat)(f0:Value):Prop where
 zip:IsZip h z a b f0
 its:IsPair h a (.ref i) (.ref j)
 own:∃ p q,IsPair h b p q
 one:h.IsTupleIter i t k
 two:h.IsTupleIter j u k
theorem ZSt.at{h h':Heap}{z a b i j t u:Addr}{k:Nat}{f0:Value}(S:ZSt h z a b i j t u k f0)(kp:∀ c∈[z,a,b,i,j],∀ o,h.get? c=some o→h'.get? c=some o):ZSt h' z a b i j t u k f0:=by
 obtain⟨p,q,ho⟩:=S.own
 obtain⟨o1,g1,r1⟩:=S.one
 obtain⟨o2,g2,r2⟩:=S.two
 exact⟨kp z (by simp) _ S.zip,kp a (by simp) _ S.its,⟨p,q,kp b (by simp) _ ho⟩,⟨o1,kp i (by simp) _ g1,r1⟩,⟨o2,kp j (by simp) _ g2,r2⟩⟩
theorem BX{z a b i j t u:Addr}{k:Nat}{xs ys:Array Value}{x y:Value}{Q:Value→Shared→Prop}(D:ZApart z a b i j t u)(S:ZSt s.heap z a b i j t u k .none)
  (ht:s.heap.IsTuple t xs) (hu:s.heap.IsTuple u ys) (hx:xs[k]?=some x) (hy:ys[k]?=some y)
  (hQ:∀ g,ZSt g z a b i j t u (k+1) (rawInt s.heap.objs.size)→IsPair g s.heap.objs.size x y→g.objs.size=s.heap.objs.size+1→(∀ c o,c≠z→c≠b→c≠i→c≠j→s.heap.get? c=some o→g.get? c=some o)→Q (.ref s.heap.objs.size) { s with heap:=g }) :
  wpAny (model prog w) A (Builtin.«zip.__next__» ⟨[.ref z],[]⟩) (fun fin s'=>∃ v,fin=.done (.ret v)∧Q v s') E s:=by
 obtain⟨hz,hI,⟨p,q,hO⟩,h1,h2⟩:=S
 show wpAny _ _ (field (.ref z) 2 >>= _) _ _ _
 refine wpAny_bind (wpAny_field hz rfl (x:=.bool false) rfl ?_)
 show wpAny _ _ (field (.ref z) 3 >>= _) _ _ _
 refine wpAny_bind (wpAny_field hz rfl (x:=.ref a) rfl (wpAny_bind (wpAny_seqItems hI rfl ?_)))
 show wpAny _ _ (Builtin.SmallTypes.ownedTupleIsFree (.ref z) >>= _) _ _ _
 unfold Builtin.SmallTypes.ownedTupleIsFree
 refine wpAny_bind (wpAny_bind (wpAny_field hz rfl (x:=.none) rfl (wpAny_pure ?_)))
 simp only [if_true]
 refine wpAny_bind (wpAny_rule (wpAny_bind (wpAny_field hz rfl (x:=.ref b) rfl (wpAny_bind (wpAny_setField_rec hz (by simp) fun g1 z1 e1=>?_)))))
 replace z1:IsZip g1 z a b .ellipsis:=z1
 refine wpAny_bind ?_
 simp only [aXs,aJF,aXP,aZQ]
 refine wpAny_bind (wpAny_bind (wpAny_onRaise ?_))
 show wpAny _ _ (Builtin.SmallTypes.nextOf (.ref i) >>= _) _ _ _
 refine wpAny_bind (iT (h1.extBut e1.extBut D.iz) (ht.extBut e1.extBut D.tz) hx fun g2 i2 e2=>wpAny_pure ?_)
 have o2:IsPair g2 b p q:=e2.extBut _ _ D.bi (e1.extBut _ _ D.bz hO)
 refine wpAny_bind (wpAny_seqItems o2 rfl (wpAny_bind (wpAny_updateSeq_pair o2 fun g3 o3 e3=>wpAny_bind (wpAny_letGo (wpAny_pure ?_)))))
 replace o3:IsPair g3 b x q:=o3
 refine wpAny_bind (wpAny_bind (wpAny_onRaise ?_))
 show wpAny _ _ (Builtin.SmallTypes.nextOf (.ref j) >>= _) _ _ _
 have j3:=((h2.extBut e1.extBut D.jz).extBut e2.extBut D.ij.symm).extBut e3.extBut D.bj.symm
 have u3:=((hu.extBut e1.extBut D.uz).extBut e2.extBut D.ui).extBut e3.extBut D.ub
 refine wpAny_bind (iT j3 u3 hy fun g4 j4 e4=>wpAny_pure ?_)
 have o4:IsPair g4 b x q:=e4.extBut _ _ D.bj o3
 refine wpAny_bind (wpAny_seqItems o4 rfl (wpAny_bind (wpAny_updateSeq_pair o4 fun g5 o5 e5=>wpAny_bind (wpAny_letGo (wpAny_pure (wpAny_pure ?_))))))
 replace o5:IsPair g5 b x y:=o5
 refine wpAny_bind (wpAny_seqItems o5 rfl (wpAny_bind (wpAny_newTuple ?_)))
 have sz:g5.objs.size=s.heap.objs.size:=by rw[e5.1,e4.1,e3.1,e2.1,e1.1]
 have z5:IsZip g5 z a b .ellipsis:=e5.extBut _ _ D.bz.symm (e4.extBut _ _ D.jz.symm (e3.extBut _ _ D.bz.symm (e2.extBut _ _ D.iz.symm z1)))
 have kp:∀ c o,c≠z→c≠b→c≠i→c≠j→s.heap.get? c=some o→g5.get? c=some o:=fun c o c1 c2 c3 c4 e=>e5.extBut _ _ c2 (e4.extBut _ _ c4 (e3.extBut _ _ c2 (e2.extBut _ _ c3 (e1.extBut _ _ c1 e))))
 have i5:g5.IsTupleIter i t (k+1):=((i2.extBut e3.extBut D.bi.symm).extBut e4.extBut D.ij).extBut e5.extBut D.bi.symm
 have j5:g5.IsTupleIter j u (k+1):=j4.extBut e5.extBut D.bj.symm
 have lz:=d6 z5
 show wpAny _ _ (Builtin.SmallTypes.ownedTupleHandOut (.ref z) (.ref g5.objs.size) >>= _) _ _ _
 unfold Builtin.SmallTypes.ownedTupleHandOut
 have z6:IsZip (g5.push { cls:=.type "tuple",data:=.seq #[x,y] }) z a b .ellipsis:=b9 _ z5
 refine wpAny_bind (wpAny_bind (wpAny_setField_rec z6 (by simp) fun g7 z7 e7=>?_))
 replace z7:IsZip g7 z a b (rawInt g5.objs.size):=z7
 refine wpAny_setField_rec z7 (by simp) fun g8 z8 e8=>wpAny_pure ⟨_,rfl,?_⟩
 replace z8:IsZip g8 z a b (rawInt g5.objs.size):=z8
 have up:∀ c o,c≠z→g5.get? c=some o→g8.get? c=some o:=fun c o c1 e=>e8.extBut _ _ c1 (e7.extBut _ _ c1 (b9 _ e))
 have T8:IsPair g8 g5.objs.size x y:=e8.extBut _ _ (aQ7 lz) (e7.extBut _ _ (aQ7 lz) (d8 _ rfl))
 have n8:g8.objs.size=g5.objs.size+1:=by rw[e8.1,e7.1,y9]
 show Q (.ref g5.objs.size) _
 rw[sz] at z8 T8 n8 ⊢
 obtain⟨oi,goi,ri⟩:=i5
 obtain⟨oj,goj,rj⟩:=j5
 exact hQ g8 ⟨z8,up _ _ D.az (kp _ _ D.az D.ab D.ai D.aj hI),⟨x,y,up _ _ D.bz o5⟩,⟨oi,up _ _ D.iz goi,ri⟩,⟨oj,up _ _ D.jz goj,rj⟩⟩ T8 n8 fun c o c1 c2 c3 c4 e=>up c o c1 (kp c o c1 c2 c3 c4 e)
theorem Dr{z a b i j t u:Addr}{k:Nat}{xs ys:Array Value}{Q:Fin→Shared→Prop}(hh:A.handled=none)(D:ZApart z a b i j t u)(S:ZSt s.heap z a b i j t u k .none)
  (ht:s.heap.IsTuple t xs) (hu:s.heap.IsTuple u ys) (hn:xs[k]?=none∨ys[k]?=none)
  (hE:∀ g e,(∀ c o,c≠z→c≠b→c≠i→c≠j→s.heap.get? c=some o→g.get? c=some o)→(∃ o,g.get? e=some o∧o.cls=.type "StopIteration")→E (.ref e) { s with heap:=g }) :
  wpAny (model prog w) A (Builtin.«zip.__next__» ⟨[.ref z],[]⟩) Q E s:=by
 obtain⟨hz,hI,⟨p,q,hO⟩,h1,h2⟩:=S
 show wpAny _ _ (field (.ref z) 2 >>= _) _ _ _
 refine wpAny_bind (wpAny_field hz rfl (x:=.bool false) rfl ?_)
 show wpAny _ _ (field (.ref z) 3 >>= _) _ _ _
 refine wpAny_bind (wpAny_field hz rfl (x:=.ref a) rfl (wpAny_bind (wpAny_seqItems hI rfl ?_)))
 show wpAny _ _ (Builtin.SmallTypes.ownedTupleIsFree (.ref z) >>= _) _ _ _
 unfold Builtin.SmallTypes.ownedTupleIsFree
 refine wpAny_bind (wpAny_bind (wpAny_field hz rfl (x:=.none) rfl (wpAny_pure ?_)))
 simp only [if_true]
 refine wpAny_bind (wpAny_rule (wpAny_bind (wpAny_field hz rfl (x:=.ref b) rfl (wpAny_bind (wpAny_setField_rec hz (by simp) fun g1 z1 e1=>?_)))))
 replace z1:IsZip g1 z a b .ellipsis:=z1
 refine wpAny_bind ?_
 simp only [aXs,aJF,aXP,aZQ]
 refine wpAny_bind (wpAny_bind (wpAny_onRaise ?_))
 show wpAny _ _ (Builtin.SmallTypes.nextOf (.ref i) >>= _) _ _ _
 cases hx:xs[k]? with
 | none =>
  refine wpAny_bind (mW hh (h1.extBut e1.extBut D.iz) (ht.extBut e1.extBut D.tz) hx fun g2 e e2 he=>?_)
  obtain⟨oe,goe,ce⟩:=he
  have z2:IsZip g2 z a b .ellipsis:=e2 _ _ D.iz.symm z1
  have ne:e≠z:=fun c=>by subst c;rw[z2] at goe;cases goe;simp at ce
  exact wpAny_setField_rec z2 (by simp) fun g3 _ e3=>hE g3 e (fun c o c1 _ c3 _ v=>e3.extBut _ _ c1 (e2 _ _ c3 (e1.extBut _ _ c1 v))) ⟨oe,e3.extBut _ _ ne goe,ce⟩
 | some x =>
  have hy:ys[k]?=none:=by
   rcases hn with h | h
   ·rw[hx] at h;cases h
   ·exact h
  refine wpAny_bind (iT (h1.extBut e1.extBut D.iz) (ht.extBut e1.extBut D.tz) hx fun g2 i2 e2=>wpAny_pure ?_)
  have o2:IsPair g2 b p q:=e2.extBut _ _ D.bi (e1.extBut _ _ D.bz hO)
  refine wpAny_bind (wpAny_seqItems o2 rfl (wpAny_bind (wpAny_updateSeq_pair o2 fun g3 o3 e3=>wpAny_bind (wpAny_letGo (wpAny_pure ?_)))))
  refine wpAny_bind (wpAny_bind (wpAny_onRaise ?_))
  show wpAny _ _ (Builtin.SmallTypes.nextOf (.ref j) >>= _) _ _ _
  have j3:=((h2.extBut e1.extBut D.jz).extBut e2.extBut D.ij.symm).extBut e3.extBut D.bj.symm
  have u3:=((hu.extBut e1.extBut D.uz).extBut e2.extBut D.ui).extBut e3.extBut D.ub
  refine wpAny_bind (mW hh j3 u3 hy fun g4 e e4 he=>?_)
  obtain⟨oe,goe,ce⟩:=he
  have z4:IsZip g4 z a b .ellipsis:=e4 _ _ D.jz.symm (e3.extBut _ _ D.bz.symm (e2.extBut _ _ D.iz.symm z1))
  have ne:e≠z:=fun c=>by subst c;rw[z4] at goe;cases goe;simp at ce
  exact wpAny_setField_rec z4 (by simp) fun g5 _ e5=>hE g5 e (fun c o c1 c2 c3 c4 v=>e5.extBut _ _ c1 (e4 _ _ c4 (e3.extBut _ _ c2 (e2.extBut _ _ c3 (e1.extBut _ _ c1 v))))) ⟨oe,e5.extBut _ _ ne goe,ce⟩
theorem yX{z a b i j t u:Addr}{k:Nat}{xs ys:Array Value}{x y:Value}{Q:Option Value→Shared→Prop}(D:ZApart z a b i j t u)(S:ZSt s.heap z a b i j t u k .none)
  (ht:s.heap.IsTuple t xs) (hu:s.heap.IsTuple u ys) (hx:xs[k]?=some x) (hy:ys[k]?=some y)
  (hQ:∀ g,ZSt g z a b i j t u (k+1) (rawInt s.heap.objs.size)→IsPair g s.heap.objs.size x y→g.objs.size=s.heap.objs.size+1→(∀ c o,c≠z→c≠b→c≠i→c≠j→s.heap.get? c=some o→g.get? c=some o)→Q (some (.ref s.heap.objs.size)) { s with heap:=g }) :
  wpAny (model prog w) A (pyNext (.ref z)) Q E s:=by
 have hT:s.TypeIs (.ref z) "zip":=⟨_,S.zip,rfl⟩
 unfold pyNext
 exact wpAny_bind (wpAny_attempt (wpAny_callSpecial?_slot (name:=Str.ofString "__next__") hT aXR (wpAny_call_entry aXR hT aZu (BX D S ht hu hx hy fun g b1 b2 b3 b4=>wpAny_pure (hQ g b1 b2 b3 b4)) (aZi _))))
theorem BM{z a b i j t u:Addr}{k:Nat}{xs ys:Array Value}{Q:Option Value→Shared→Prop}(hh:A.handled=none)(D:ZApart z a b i j t u)(S:ZSt s.heap z a b i j t u k .none)
  (ht:s.heap.IsTuple t xs) (hu:s.heap.IsTuple u ys) (hn:xs[k]?=none∨ys[k]?=none)
  (hQ:∀ g,(∀ c o,c≠z→c≠b→c≠i→c≠j→s.heap.get? c=some o→g.get? c=some o)→Q none { s with heap:=g }):wpAny (model prog w) A (pyNext (.ref z)) Q E s:=by
 have hT:s.TypeIs (.ref z) "zip":=⟨_,S.zip,rfl⟩
 unfold pyNext
 refine wpAny_bind (wpAny_attempt (wpAny_callSpecial?_slot (name:=Str.ofString "__next__") hT aXR (wpAny_call_entry aXR hT aZu (Dr hh D S ht hu hn fun g e kp he=>?_) (aZi _))))
 obtain⟨o,go,co⟩:=he
 exact wpAny_bind (wpAny_isInstance (T:="StopIteration") (b:=true) ⟨o,go,co⟩ isSubtype_stop (wpAny_pure (hQ _ kp)))
end
abbrev JA(h:Heap)(t:Addr):Heap:=h.push { cls:=.type "tuple_iterator",data:=.fields #[.ref t,.int 0 0] }
abbrev Jv(h:Heap)(t u:Addr):Heap:=(JA h t).push { cls:=.type "tuple_iterator",data:=.fields #[.ref u,.int 0 0] }
abbrev JC(h:Heap)(t u:Addr):Heap:=(Jv h t u).push { cls:=.type "tuple",data:=.seq #[.ref h.objs.size,.ref (JA h t).objs.size] }
abbrev Js(h:Heap)(t u:Addr):Heap:=(JC h t u).push { cls:=.type "tuple",data:=.seq #[.none,.none] }
abbrev Hj(h:Heap)(t u:Addr):Heap:=(Js h t u).push { cls:=.type "zip",data:=.fields #[.none,.bool false,.bool false,.ref (Jv h t u).objs.size,.ref (JC h t u).objs.size] }
theorem zE(t u:Addr)(xs ys:Array Value) :
  Meets (Builtin.«zip.__new__» ⟨[.type "zip",.ref t,.ref u],[]⟩) (fun _ R s=>s.heap.IsTuple t xs∧s.heap.IsTuple u ys∧R (.ok (.ret (.ref (Js s.heap t u).objs.size))) { s with heap:=Hj s.heap t u }) :=
 .of_wp fun prog w A R s h=>by
  obtain⟨hp,g,d,tk,os⟩:=s
  obtain⟨ht,hu,h⟩:=h
  have hsub:=sub_zip
  have hL1:Heap.IsTuple (Shared.heap ⟨hp,g,d,tk,os⟩) t xs:=ht
  have hL2:Heap.IsTuple (Shared.heap ⟨hp.push { cls:=.type "tuple_iterator",data:=.fields #[.ref t,.int 0 0] },g,d,tk,os⟩) u ys:=aKB hu _
  wp_walk using wpAny_pyIter_tuple hL1,wpAny_pyIter_tuple hL2
  exact⟨_,rfl,h⟩
end PySem
namespace L2
open PySem PySem.Spec PyProof.Rows
section
variable {X:Cx}{pins:List (Addr×Obj)}{σ:St}{H:Hp}{s:Shared}{h':Heap}
theorem Inv.turnedN{t':Nat}{ch:List Addr}{a:Addr}{xs:List V}(I:Inv X pins σ H s)(k:∀ b o,b ∉ ch→s.heap.get? b=some o→h'.get? b=some o)(hf:∀ b∈ch,iH X pins H b)(ha:s.heap.objs.size≤a)
  (new:ObjOk X.prog X.w (upd H a (.tup xs)) h' a (.tup xs)):Inv X pins σ (upd H a (.tup xs)) { s with heap:=h',toks:=t' }:=by
 have hn:H a=none:=I.hok.fresh ha
 have un:∀ {b u},H b=some u→upd H a (.tup xs) b=some u:=fun e=>by rw[aE (aJ e hn)];exact e
 have nch:∀ {b u},H b=some u→b ∉ ch:=fun e hb=>by rw[(hf _ hb).1] at e;cases e
 refine I.step (g':=s.gens) (d':=s.drawn) (ch:=ch) (fun b hb=>?_) (fun b o _ _ hc e _=>k b o hc e) (fun b o _ _ hc e _=>⟨o.slots,k b o hc e⟩) (fun b o _ e n=>?_) (fun b o hc e=>⟨o,k b o hc e⟩) (fun _ _ e=>un e) (fun _ _ _ e=>un e)
  (fun b ps e=>⟨#[],by rw[un e];simp⟩) (fun m hm=>?_) (fun b u e=>?_) I.bare
 ·obtain⟨f0,f1,f2,f3,f4,f5⟩:=hf b hb
  exact⟨f3,f1,f4,f5⟩
 ·rw[aE (i3 (m4 (d6 e) ha))]
  exact n
 ·obtain⟨o,es,ep,ho,r⟩:=hm
  exact⟨o,es,ep,k _ o (fun hb=>(hf _ hb).2.1 rfl) ho,r⟩
 ·by_cases hb:b=a
  ·subst hb
   rw[aC] at e
   cases e
   exact new
  ·rw[aE hb] at e
   refine(I.hok b u e).stay (fun c v hc q=>k c v ?_ q) (fun c q=>un q) fun c ys q=>un q
   rcases hc with z | z
   ·rw[z];exact nch e
   ·exact nch z
theorem Inv.turnedM{t':Nat}{ch:List Addr}(I:Inv X pins σ H s)(k:∀ b o,b ∉ ch→s.heap.get? b=some o→h'.get? b=some o)(hf:∀ b∈ch,iH X pins H b):Inv X pins σ H { s with heap:=h',toks:=t' }:=by
 have nch:∀ {b u},H b=some u→b ∉ ch:=fun e hb=>by rw[(hf _ hb).1] at e;cases e
 refine I.step (g':=s.gens) (d':=s.drawn) (ch:=ch) (fun b hb=>?_) (fun b o _ _ hc e _=>k b o hc e) (fun b o _ _ hc e _=>⟨o.slots,k b o hc e⟩) (fun b o _ e n=>n) (fun b o hc e=>⟨o,k b o hc e⟩) (fun _ _ e=>e) (fun _ _ _ e=>e)
  (fun b ps e=>⟨#[],by rw[e];simp⟩) (fun m hm=>?_) (fun b u e=>?_) I.bare
 ·obtain⟨f0,f1,f2,f3,f4,f5⟩:=hf b hb
  exact⟨f3,f1,f4,f5⟩
 ·obtain⟨o,es,ep,ho,r⟩:=hm
  exact⟨o,es,ep,k _ o (fun hb=>(hf _ hb).2.1 rfl) ho,r⟩
 ·refine(I.hok b u e).stay (fun c v hc q=>k c v ?_ q) (fun c q=>q) fun c ys q=>q
  rcases hc with z | z
  ·rw[z];exact nch e
  ·exact nch z
end
def IY(K:b5)(t u:Addr):It :=
 ⟨fun i H=>∃ xs ys x y,SqT K H t xs∧SqT K H u ys∧xs[i]?=some x∧ys[i]?=some y,
  fun i H v H'=>∃ p x y,v=.ref p∧H p=none∧H'=upd H p (.tup [x,y])∧∀ xs ys,SqT K H t xs→SqT K H u ys→xs[i]?=some x∧ys[i]?=some y,
  fun i H=>∃ xs ys,SqT K H t xs∧SqT K H u ys∧(xs.length≤i∨ys.length≤i)⟩
theorem Ds{P:Program}{w:World}{K:b5}{es:List Expr}{x1}{pos:Pos}(z a b i j t u:Addr)(D:ZApart z a b i j t u):Turn P w K (.Tuple es x1 pos) (IY K t u) [z,a,b,i,j] z (fun k h=>ZSt h z a b i j t u k .none) where
 mem:=by simp
 obj:=fun k h st c hc=>by
  obtain⟨p,q,ho⟩:=st.own
  obtain⟨o1,g1,c1,d1⟩:=st.one
  obtain⟨o2,g2,c2,d2⟩:=st.two
  simp only [c7,o8,or_false] at hc
  rcases hc with rfl | rfl | rfl | rfl | rfl
  ·exact⟨_,st.zip,fun v e=>by cases e⟩
  ·exact⟨_,st.its,fun v e=>by cases e⟩
  ·exact⟨_,ho,fun v e=>by cases e⟩
  ·exact⟨o1,g1,fun v e=>by rw[d1] at e;cases e⟩
  ·exact⟨o2,g2,fun v e=>by rw[d2] at e;cases e⟩
 keep:=fun k h h' st kp=>st.at kp
 item:=by
  intro X hP hw hK hc k pins s σ H E I hf st hg
  subst hP hw hK
  obtain⟨xs,ys,x,y,hq1,hq2,hx,hy⟩:=hg
  obtain⟨v1,r1,p1,_⟩:=I.tuple hq1
  obtain⟨v2,r2,p2,_⟩:=I.tuple hq2
  obtain⟨ux,hux,rux⟩:=r1.get hx
  obtain⟨uy,huy,ruy⟩:=r2.get hy
  refine yX D st (show s.heap.IsTuple t v1.toArray from p1) (show s.heap.IsTuple u v2.toArray from p2) (x:=ux) (y:=uy) (by simpa using hux) (by simpa using huy) fun g S1 hT hn kp=>⟨_,rfl,?_⟩
  refine wpAny_letOwnedTupleGo_zip S1.zip fun g2 z2 e2=>?_
  have kp2:∀ c o,c≠z→c≠b→c≠i→c≠j→s.heap.get? c=some o→g2.get? c=some o:=fun c o c1 c2 c3 c4 e=>(e2.2 c c1).trans (kp c o c1 c2 c3 c4 e)
  have nz:s.heap.objs.size≠z:=aQ7 (d6 st.zip)
  have hT2:IsPair g2 s.heap.objs.size ux uy:=(e2.2 _ nz).trans hT
  have hsub:∀ c∈[z,b,i,j],iH X pins H c:=fun c hc=>hf c (by
   simp only [c7,o8,or_false] at hc ⊢
   rcases hc with h | h | h | h <;> simp[h])
  have kpn:∀ c o,c ∉ [z,b,i,j]→s.heap.get? c=some o→g2.get? c=some o:=fun c o hn e=>kp2 c o (fun q=>hn (by simp[q])) (fun q=>hn (by simp[q])) (fun q=>hn (by simp[q])) (fun q=>hn (by simp[q])) e
  have hHn:H s.heap.objs.size=none:=I.hok.fresh (c0 _)
  refine⟨.ref s.heap.objs.size,upd H s.heap.objs.size (.tup [x,y]),?_,rfl,⟨_,x,y,rfl,hHn,rfl,fun xs' ys' h1 h2=>by rw[I.tuple_inj h1 hq1,I.tuple_inj h2 hq2];exact⟨hx,hy⟩⟩,?_,fun c hc=>?_⟩
  ·exact I.turnedN (t':=s.toks) (h':=g2) kpn hsub (c0 _) ⟨by show 2≤sizeLine;decide,[ux,uy],.cons rux (.cons ruy .nil),⟨_,hT2,rfl,0,rfl⟩,⟨_,hT2,rfl⟩⟩
  ·obtain⟨p,q,ho⟩:=S1.own
   obtain⟨o1,g1,d1⟩:=S1.one
   obtain⟨o2,gg2,d2⟩:=S1.two
   exact⟨z2,(e2.2 _ D.az).trans S1.its,⟨p,q,(e2.2 _ D.bz).trans ho⟩,⟨o1,(e2.2 _ D.iz).trans g1,d1⟩,⟨o2,(e2.2 _ D.jz).trans gg2,d2⟩⟩
  ·have hce:c≠s.heap.objs.size:=by
    obtain⟨p,q,ho⟩:=st.own
    obtain⟨o1,g1,_⟩:=st.one
    obtain⟨o2,g2',_⟩:=st.two
    simp only [c7,o8,or_false] at hc
    rcases hc with rfl | rfl | rfl | rfl | rfl
    ·exact i3 (d6 st.zip)
    ·exact i3 (d6 st.its)
    ·exact i3 (d6 ho)
    ·exact i3 (d6 g1)
    ·exact i3 (d6 g2')
   rw[aE hce]
   exact(hf c hc).1
 done:=by
  intro X hP hw hK hc k pins s σ H E I hf st hg
  subst hP hw hK
  obtain⟨xs,ys,hq1,hq2,hn⟩:=hg
  obtain⟨v1,r1,p1,_⟩:=I.tuple hq1
  obtain⟨v2,r2,p2,_⟩:=I.tuple hq2
  have l1:=r1.length
  have l2:=r2.length
  refine BM (I.ok.hd hc) D st (show s.heap.IsTuple t v1.toArray from p1) (show s.heap.IsTuple u v2.toArray from p2) (by
   rcases hn with h | h
   ·exact .inl (by simp;omega)
   ·exact .inr (by simp;omega)) fun g kp=>⟨rfl,?_⟩
  refine I.turnedM (t':=s.toks) (ch:=[z,b,i,j]) (fun c o hn e=>kp c o (fun q=>hn (by simp[q])) (fun q=>hn (by simp[q])) (fun q=>hn (by simp[q])) (fun q=>hn (by simp[q])) e) fun c hc=>hf c ?_
  simp only [c7,o8,or_false] at hc ⊢
  rcases hc with h | h | h | h <;> simp[h]
 self:=fun A k s Q E st h=>wpAny_pyIter_zip st.zip h
section
variable {X:Cx}
theorem KF(n t u:Nat)(h1:t<n)(h2:u<n):ZApart (n+4) (n+2) (n+3) n (n+1) t u :=
 ⟨(by omega:(n+2:Nat)≠n+4),(by omega:(n+3:Nat)≠n+4),(by omega:(n:Nat)≠n+4),(by omega:(n+1:Nat)≠n+4),(by omega:(n+2:Nat)≠n+3),(by omega:(n+2:Nat)≠n),(by omega:(n+2:Nat)≠n+1),(by omega:(n+3:Nat)≠n),(by omega:(n+3:Nat)≠n+1),(by omega:(n:Nat)≠n+1),
  (by omega:(t:Nat)≠n+4),(by omega:(t:Nat)≠n+3),(by omega:(t:Nat)≠n),(by omega:(t:Nat)≠n+1),(by omega:(u:Nat)≠n+4),(by omega:(u:Nat)≠n+3),(by omega:(u:Nat)≠n),(by omega:(u:Nat)≠n+1)⟩
def JD(K:b5)(ta:TA):TI:=fun σ H R=>ta σ H fun vs H1=>∃ t u,vs=[.ref t,.ref u]∧(∃ xs,SqT K H1 t xs)∧(∃ ys,SqT K H1 u ys)∧R (IY K t u) H1
theorem BN{pins:List (Addr×Obj)}{σ:St}{H:Hp}{s:Shared}{t u:Addr}{xs ys:Array Value}{Q:Value→Shared→Prop}{E:Value→Shared→Prop}(ht:s.heap.IsTuple t xs)(hu:s.heap.IsTuple u ys)
  (h:∀ g,ZSt g (s.heap.objs.size+4) (s.heap.objs.size+2) (s.heap.objs.size+3) s.heap.objs.size (s.heap.objs.size+1) t u 0 .none→(∀ c o,s.heap.get? c=some o→g.get? c=some o)→Q (.ref (s.heap.objs.size+4)) { s with heap:=g }) :
  wpAny (model X.prog X.w) X.A (call (.type "zip") [.ref t,.ref u]) Q E s:=by
 refine callType_new F.called_zip (by decide) (F.typeCall_zip_2 _ _) (F.newCall_zip_2 _ _) (fun obj=>F.args_object_init_3 obj _ _) F.entry_zip_new (zE t u xs ys) ⟨ht,hu,?_⟩
 have n1:(JA s.heap t).objs.size=s.heap.objs.size+1:=y9 ..
 have n2:(Jv s.heap t u).objs.size=s.heap.objs.size+2:=by rw[y9,n1]
 have n3:(JC s.heap t u).objs.size=s.heap.objs.size+3:=by rw[y9,n2]
 have n4:(Js s.heap t u).objs.size=s.heap.objs.size+4:=by rw[y9,n3]
 have g5:(Hj s.heap t u).get? (Js s.heap t u).objs.size=some _:=d8 _ rfl
 have g4:(Hj s.heap t u).get? (JC s.heap t u).objs.size=some _:=b9 _ (d8 _ rfl)
 have g3:(Hj s.heap t u).get? (Jv s.heap t u).objs.size=some _:=b9 _ (b9 _ (d8 _ rfl))
 have g2:(Hj s.heap t u).get? (JA s.heap t).objs.size=some _:=b9 _ (b9 _ (b9 _ (d8 _ rfl)))
 have g1:(Hj s.heap t u).get? s.heap.objs.size=some _:=b9 _ (b9 _ (b9 _ (b9 _ (d8 _ rfl))))
 show _∧_
 rw[n2,n3,n4] at g5
 rw[n1,n2] at g3
 rw[n3] at g4
 rw[n1] at g2
 rw[n4]
 exact⟨⟨_,g5,rfl⟩,h _ ⟨g5,g3,⟨_,_,g4⟩,⟨_,g1,rfl,rfl⟩,⟨_,g2,rfl,rfl⟩⟩ fun c o e=>b9 _ (b9 _ (b9 _ (b9 _ (b9 _ e))))⟩
theorem Ct{es:List Expr}{x1}{tpos:Pos}{a b:Expr}{ta:TA}{p pos:Pos}{K:b5}(hK:X.K=K)(hg:Gl X "zip")(hm:X.mg "zip"=none)(ha:PA X [a,b] ta)(hs:starEach [a,b] X.env=[(false,eval a X.env),(false,eval b X.env)]:=by rfl)(hs2:starEach [b] X.env=[(false,eval b X.env)]:=by rfl) :
  PI X (.Tuple es x1 tpos) (.Call (.Name "zip" p) [a,b] [] pos) (JD K ta):=by
 subst hK
 intro pins s σ H R I h
 refine Call_ (jC I hg hm boot_zip (t9 (cK (ha pos pins s σ H _ I h) fun us s1 ⟨vs,H1,I1,r1,q1⟩=>?_) (by rw[hs,hs2]) (by rw[hs2];rfl)))
 obtain⟨t,u,e,⟨xs,hx⟩,⟨ys,hy⟩,q⟩:=q1
 subst e
 obtain⟨v1,v2,rfl,rv1,rv2⟩:=HH r1
 cases rv1
 cases rv2
 obtain⟨w1,rw1,p1,_⟩:=I1.tuple hx
 obtain⟨w2,rw2,p2,_⟩:=I1.tuple hy
 have lt:t<s1.heap.objs.size:=by obtain⟨o,e,_⟩:=p1;exact d6 e
 have lu:u<s1.heap.objs.size:=by obtain⟨o,e,_⟩:=p2;exact d6 e
 refine BN (pins:=pins) (σ:=σ) (H:=H1) (show s1.heap.IsTuple t w1.toArray from p1) (show s1.heap.IsTuple u w2.toArray from p2) fun g st kp=>?_
 have I2:Inv X pins σ H1 { s1 with heap:=g }:=I1.kept (t':=s1.toks) kp
 have D:ZApart (s1.heap.objs.size+4) (s1.heap.objs.size+2) (s1.heap.objs.size+3) s1.heap.objs.size (s1.heap.objs.size+1) t u:=by
  exact KF _ t u lt lu
 refine wpAny_pyIter_zip st.zip ⟨s1.heap.objs.size+4,[s1.heap.objs.size+4,s1.heap.objs.size+2,s1.heap.objs.size+3,s1.heap.objs.size,s1.heap.objs.size+1],_,_,H1,rfl,I2,Ds _ _ _ _ _ t u D,st,fun c hc=>?_,q⟩
 have hle:s1.heap.objs.size≤c:=by
  simp only [c7,o8,or_false] at hc
  rcases hc with h | h | h | h | h <;> rw[h]
  ·exact aQ9 _ _
  ·exact aQ9 _ _
  ·exact aQ9 _ _
  ·exact c0 _
  ·exact aQ9 _ _
 exact I1.fpOk hle (I1.hok.fresh hle)
end
theorem AX{K:b5}{t u:Addr}{xs ys:List V}{g:TG}{tb:TS}{D:Ends}{σ:St}{H:Hp}(Pv:Nat→St→Hp→Prop)(h0:Pv 0 σ H)(hl:∀ i σ H,i≤min xs.length ys.length→Pv i σ H→SqT K H t xs∧SqT K H u ys)
  (hs:∀ i x y p σ H,xs[i]?=some x→ys[i]?=some y→H p=none→Pv i σ H→g (.ref p) σ (upd H p (.tup [x,y])) fun σ2 H2=>tb { D with nx:=Pv (i+1),ct:=Pv (i+1),bk:=D.nx } σ2 H2) (hd:∀ σ H,Pv (min xs.length ys.length) σ H→D.nx σ H) :
  ∃ W:Nat→Nat→St→Hp→Prop,(∃ m,W 0 m σ H)∧∀ i m σ H,W i m σ H →
   ((IY K t u).stop i H∧D.nx σ H)∨((IY K t u).go i H∧∃ N:St→Hp→Prop,(∀ σ' H',N σ' H'→∃ m',m' < m∧W (i+1) m' σ' H')∧∀ x H',(IY K t u).yld i H x H'→g x σ H' fun σ2 H2=>tb { D with nx:=N,ct:=N,bk:=D.nx } σ2 H2):=by
 refine⟨fun i m σ H=>m=min xs.length ys.length - i∧i≤min xs.length ys.length∧Pv i σ H,⟨_,rfl,l7 _,h0⟩,?_⟩
 rintro i m σ H ⟨rfl,hi,p⟩
 obtain⟨q1,q2⟩:=hl i σ H hi p
 by_cases hlt:i<min xs.length ys.length
 ·have l1:i<xs.length:=by omega
  have l2:i<ys.length:=by omega
  refine .inr ⟨⟨xs,ys,xs[i],ys[i],q1,q2,by simp[l1],by simp[l2]⟩,Pv (i+1),fun σ' H' p'=>⟨min xs.length ys.length - (i+1),by omega,rfl,hlt,p'⟩,fun v H' hv=>?_⟩
  obtain⟨pp,x,y,rfl,hn,rfl,hxy⟩:=hv
  obtain⟨ex,ey⟩:=hxy xs ys q1 q2
  exact hs i x y pp σ H ex ey hn p
 ·have e:i=min xs.length ys.length:=by omega
  subst e
  refine .inl ⟨⟨xs,ys,q1,q2,?_⟩,hd σ H p⟩
  rcases Nat.le_total xs.length ys.length with h | h
  ·exact .inl (by omega)
  ·exact .inr (by omega)
section
variable {κ:Type}[DecidableEq κ]
def dB(kvs:List (κ×V))(k:κ):Option V:=(kvs.find? fun kv=>decide (kv.1=k)).map (·.2)
def dF(kvs:List (κ×V))(k:κ)(v:V):List (κ×V) :=
 if (kvs.any fun kv=>decide (kv.1=k))=true then kvs.map (fun kv=>if kv.1=k then (kv.1,v) else kv) else kvs++[(k,v)]
theorem dN{p:κ×V}{r:List (κ×V)}{k:κ}(e:p.1=k):dB (p::r) k=some p.2:=by simp[dB,aQf,e]
theorem dM{p:κ×V}{r:List (κ×V)}{k:κ}(e:¬ p.1=k):dB (p::r) k=dB r k:=by simp[dB,aQf,e]
theorem jR(k:κ):∀ kvs:List (κ×V),(kvs.any fun kv=>decide (kv.1=k))=(dB kvs k).isSome
 | []=>rfl
 | p::r=>by
  rw[aQq]
  by_cases e:p.1=k
  ·simp only [dN e,decide_eq_true e,Bool.true_or,Option.isSome_some]
  ·rw[dM e,decide_eq_false e,aJX];exact jR k r
theorem xV(k j:κ)(y:V):∀ kvs:List (κ×V),dB (kvs.map fun kv=>if kv.1=k then (kv.1,y) else kv) j=(dB kvs j).map fun x=>if j=k then y else x
 | []=>rfl
 | p::r=>by
  have ih:=xV k j y r
  rw[g9]
  by_cases h:p.1=k
  ·rw[if_pos h]
   by_cases e:p.1=j
   ·rw[dN (p:=(p.1,y)) e,dN e,u5,if_pos (e.symm.trans h)]
   ·rw[dM (p:=(p.1,y)) e,dM e,ih]
  ·rw[if_neg h]
   by_cases e:p.1=j
   ·rw[dN (p:=p) e,dN e,u5,if_neg (fun z=>h (e.trans z))]
   ·rw[dM (p:=p) e,dM e,ih]
theorem uI(k j:κ)(y:V):∀ kvs:List (κ×V),dB kvs k=none→dB (kvs++[(k,y)]) j=if j=k then some y else dB kvs j
 | [],_=>by
  by_cases e:k=j
  ·rw[if_pos e.symm];exact dN (p:=(k,y)) e
  ·rw[if_neg (fun z=>e z.symm)];exact dM (p:=(k,y)) e
 | p::r,hn=>by
  rw[List.cons_append]
  have hk:¬ p.1=k:=fun z=>by rw[dN z] at hn;cases hn
  rw[dM hk] at hn
  have ih:=uI k j y r hn
  by_cases e:p.1=j
  ·rw[dN e,dN e,if_neg (fun z=>hk (e.trans z))]
  ·rw[dM e,dM e,ih]
theorem kE(kvs:List (κ×V))(k j:κ)(y:V):dB (dF kvs k y) j=if j=k then some y else dB kvs j:=by
 unfold dF
 by_cases a:(kvs.any fun kv=>decide (kv.1=k))=true
 ·rw[if_pos a,xV]
  rw[jR] at a
  by_cases e:j=k
  ·obtain⟨x,hx⟩:=aQ8.mp a
   rw[if_pos e,e,hx,u5,if_pos rfl]
  ·rw[if_neg e]
   cases dB kvs j with
   | none=>rfl
   | some x=>rw[u5,if_neg e]
 ·rw[if_neg a]
  refine uI k j y kvs ?_
  rw[jR] at a
  cases q:dB kvs k with
  | none=>rfl
  | some x=>rw[q] at a;exact(a rfl).elim
theorem dQ(kvs:List (κ×V))(k:κ)(v:V):(dF kvs k v).length≤kvs.length+1:=by
 unfold dF
 split
 ·rw[b7];omega
 ·rw[c5,j0,aJG];omega
theorem wF{kvs:List (κ×V)}{k:κ}(v:V)(h:dB kvs k=none):dF kvs k v=kvs++[(k,v)]:=by
 unfold dF
 rw[jR,h]
 exact if_neg (by decide)
theorem RelO.isSome_eq{o:Option V}{u:Option Value}(r:RelO o u):o.isSome=u.isSome:=by
 cases o with
 | none=>cases u with
  | none=>rfl
  | some _=>exact(show False from r).elim
 | some _=>cases u with
  | none=>exact(show False from r).elim
  | some _=>rfl
theorem RelO.getD{o:Option V}{u:Option Value}{d:V}{d':Value}(r:RelO o u)(rd:RelV d d'):RelV (o.getD d) (u.getD d'):=by
 cases o with
 | none=>cases u with
  | none=>exact rd
  | some _=>exact(show False from r).elim
 | some _=>cases u with
  | none=>exact(show False from r).elim
  | some _=>exact r
theorem KV.val{kvs:List (κ×V)}{vs:List (κ×Value)}(r:KV kvs vs)(k:κ):RelO (dB kvs k) (valueAt vs k):=by
 unfold KV at r
 induction r with
 | nil=>exact True.intro
 | @cons p q ps qs h t ih =>
  obtain⟨h1,h2⟩:=h
  by_cases e:p.1=k
  ·have e':q.1=k:=h1.symm.trans e
   have b:valueAt (q::qs) k=some q.2:=by simp[valueAt,aQf,e']
   rw[dN e,b];exact h2
  ·have e':¬ q.1=k:=fun z=>e (h1.trans z)
   have b:valueAt (q::qs) k=valueAt qs k:=by simp[valueAt,aQf,e']
   rw[dM e,b];exact ih
theorem KV.any{kvs:List (κ×V)}{vs:List (κ×Value)}(r:KV kvs vs)(k:κ):(kvs.any fun kv=>decide (kv.1=k))=vs.any fun kv=>decide (kv.1=k):=by
 unfold KV at r
 induction r with
 | nil=>rfl
 | cons h t ih=>rw[aQq,aQq,ih,h.1]
theorem KV.repl{kvs:List (κ×V)}{vs:List (κ×Value)}(r:KV kvs vs)(k:κ){y:V}{u:Value}(ry:RelV y u) :
  KV (kvs.map fun kv=>if kv.1=k then (kv.1,y) else kv) (vs.map fun kv=>if kv.1=k then (kv.1,u) else kv):=by
 unfold KV at r ⊢
 induction r with
 | nil=>exact .nil
 | @cons p q ps qs h t ih =>
  rw[g9,g9]
  refine .cons ?_ ih
  obtain⟨h1,h2⟩:=h
  by_cases e:p.1=k
  ·rw[if_pos e,if_pos (h1.symm.trans e)];exact⟨h1,ry⟩
  ·rw[if_neg e,if_neg (fun z=>e (h1.trans z))];exact⟨h1,h2⟩
theorem KV.put{kvs:List (κ×V)}{vs:List (κ×Value)}(r:KV kvs vs)(k:κ){y:V}{u:Value}(ry:RelV y u):KV (dF kvs k y) (stored vs k u):=by
 unfold dF stored
 rw[r.any k]
 by_cases e:(vs.any fun kv=>decide (kv.1=k))=true
 ·rw[if_pos e,if_pos e];exact r.repl k ry
 ·rw[if_neg e,if_neg e];exact aZp r ⟨rfl,ry⟩
theorem KV.length{kvs:List (κ×V)}{vs:List (κ×Value)}(r:KV kvs vs):kvs.length=vs.length:=aQp r
end
theorem qD{P:Program}{w:World}{k:cN}{u:Value}(r:RelV (kV k) u):(bZ P w).is k u=true:=by
 cases k with
 | inl i=>obtain⟨t,e⟩:=(show ∃ t,u=Value.int i t from r);subst e;exact yJ P w i t
 | inr x=>obtain⟨t,e⟩:=(show ∃ t,u=Value.str x t from r);subst e;exact yQ P w x t
theorem tX{P:Program}{w:World}:∀ {ks:List cN} {us:List Value},Vals (ks.map kV) us→ItemsAre (bZ P w) ks us
 | [],_,r=>by rw[aXN] at r;cases r;exact .nil
 | k::ks,_,r=>by
  rw[g9] at r
  cases r with
  | cons h t=>exact .cons (qD h) (tX t)
abbrev KT(H:Hp):List (List cN×V)→List (List cN×Addr×Value)→Prop:=Paired fun p q=>p.1=q.1∧H q.2.1=some (.tup (p.1.map kV))∧RelV p.2 q.2.2
theorem KT.val{H:Hp}{kvs:List (List cN×V)}{xs:List (List cN×Addr×Value)}(r:KT H kvs xs)(k:List cN):RelO (dB kvs k) ((atKey xs k).map (·.2)):=by
 induction r with
 | nil=>exact True.intro
 | @cons p q ps qs h t ih =>
  obtain⟨h1,_,h2⟩:=h
  by_cases e:p.1=k
  ·have e':q.1=k:=h1.symm.trans e
   have b:atKey (q::qs) k=some q.2:=by simp[atKey,aQf,e']
   rw[dN e,b];exact h2
  ·have e':¬ q.1=k:=fun z=>e (h1.trans z)
   have b:atKey (q::qs) k=atKey qs k:=by simp[atKey,aQf,e']
   rw[dM e,b];exact ih
theorem KT.repl{H:Hp}{kvs:List (List cN×V)}{xs:List (List cN×Addr×Value)}(r:KT H kvs xs)(k:List cN){y:V}{u:Value}(ry:RelV y u) :
  KT H (kvs.map fun kv=>if kv.1=k then (kv.1,y) else kv) (xs.map (putAt k u)):=by
 induction r with
 | nil=>exact .nil
 | @cons p q ps qs h t ih =>
  rw[g9,g9]
  refine .cons ?_ ih
  obtain⟨h1,h2,h3⟩:=h
  unfold putAt
  by_cases e:p.1=k
  ·rw[if_pos e,if_pos (h1.symm.trans e)];exact⟨h1,h2,ry⟩
  ·rw[if_neg e,if_neg (fun z=>e (h1.trans z))];exact⟨h1,h2,h3⟩
theorem KT.put{H:Hp}{kvs:List (List cN×V)}{xs:List (List cN×Addr×Value)}(r:KT H kvs xs)(k:List cN){b:Addr}{y:V}{u:Value}(hb:H b=some (.tup (k.map kV)))(ry:RelV y u) :
  KT H (dF kvs k y) (storedH xs k b u):=by
 have e:(kvs.any fun kv=>decide (kv.1=k))=(atKey xs k).isSome:=by
  rw[jR,(r.val k).isSome_eq,aZj]
 unfold dF storedH
 rw[e]
 by_cases q:(atKey xs k).isSome=true
 ·rw[if_pos q,if_pos q];exact r.repl k ry
 ·rw[if_neg q,if_neg q];exact aZp r ⟨rfl,hb,ry⟩
theorem KT.keeps{H H':Hp}{kvs:List (List cN×V)}{xs:List (List cN×Addr×Value)}(r:KT H kvs xs)(ht:∀ b ys,H b=some (.tup ys)→H' b=some (.tup ys)):KT H' kvs xs :=
 Paired.mapP r fun _ _ z=>⟨z.1,ht _ _ z.2.1,z.2.2⟩
section
variable {P:Program}{w:World}{H:Hp}{h:Heap}{a:Addr}
theorem Fa{u:HO}(ok:HOk P w H h)(e:Rd H a u):ObjOk P w H h a u:=e.ok ok
theorem sH{kvs:List (cN×V)}(ok:HOk P w H h)(e:Rd H a (.dK kvs)):kvs.length≤sizeLine∧(a == sysModules)=false∧∃ vs,KV kvs vs∧h.DictOf (bZ P w) a vs :=
 show ObjOk P w H h a (.dK kvs) from Fa ok e
theorem yA{kvs:List (cN×V)}(ok:HOk P w H h)(e:H a=some (.dK kvs)):kvs.length≤sizeLine∧(a == sysModules)=false∧∃ vs,KV kvs vs∧h.DictOf (bZ P w) a vs:=sH ok (.inl e)
theorem pN{ks:List cN}(ok:HOk P w H h)(e:H a=some (.tup (ks.map kV))):(tupleKind (bZ P w)).is h ks a:=by
 obtain⟨_,its,r,⟨o,h1,h2,n,h3⟩,_⟩:=(show ObjOk P w H h a (.tup (ks.map kV)) from ok a _ e)
 exact⟨o,its.toArray,n,h1,h2,h3,by simpa using tX r⟩
theorem sO{kvs:List (List cN×V)}(ok:HOk P w H h)(e:Rd H a (.dT kvs)):kvs.length≤sizeLine∧(a == sysModules)=false ∧
  ∃ xs,KT H kvs xs∧h.DictOfH (tupleKind (bZ P w)) a xs:=by
 obtain⟨z,y,xs,r,o,es,ep,h1,h2,h3,h4,h5⟩:=(show ObjOk P w H h a (.dT kvs) from Fa ok e)
 refine⟨z,y,xs,r,o,es,ep,h1,h2,h3,h4,fun x hx=>?_,h5⟩
 have all:∀ {l:List (List cN×V)} {m:List (List cN×Addr×Value)},KT H l m→∀ x∈m,(tupleKind (bZ P w)).is h x.1 x.2.1:=by
  intro l m q
  induction q with
  | nil=>intro x hx;exact nomatch hx
  | @cons p q ps qs hq t ih =>
   intro x hx
   rcases c7.mp hx with e | hx
   ·subst e
    exact pN ok (by rw[← hq.1];exact hq.2.1)
   ·exact ih x hx
 exact all r x hx
theorem Ii{kvs:List (List cN×V)}(ok:HOk P w H h)(e:H a=some (.dT kvs)):kvs.length≤sizeLine∧(a == sysModules)=false ∧
  ∃ xs,KT H kvs xs∧h.DictOfH (tupleKind (bZ P w)) a xs:=sO ok (.inl e)
end
def DGet(H:Hp)(a:Addr)(y:V)(r:Option V):Prop :=
 (∃ kvs k,Rd H a (.dK kvs)∧y=kV k∧r=dB kvs k)∨∃ kvs k b,Rd H a (.dT kvs)∧y=.ref b∧H b=some (.tup (k.map kV))∧r=dB kvs k
def DPut(H:Hp)(a:Addr)(y v:V)(H':Hp):Prop :=
 (∃ kvs k,H a=some (.dK kvs)∧y=kV k∧kvs.length<sizeLine∧H'=upd H a (.dK (dF kvs k v))) ∨
 ∃ kvs k b,H a=some (.dT kvs)∧y=.ref b∧H b=some (.tup (k.map kV))∧kvs.length<sizeLine∧H'=upd H a (.dT (dF kvs k v))
theorem DGet.k{H:Hp}{a:Addr}{kvs:List (cN×V)}{k:cN}(e:H a=some (.dK kvs)):DGet H a (kV k) (dB kvs k):=.inl ⟨kvs,k,.inl e,rfl,rfl⟩
theorem DGet.t{H:Hp}{a b:Addr}{kvs:List (List cN×V)}{k:List cN}(e:H a=some (.dT kvs))(eb:H b=some (.tup (k.map kV))):DGet H a (.ref b) (dB kvs k):=.inr ⟨kvs,k,b,.inl e,rfl,eb,rfl⟩
theorem DPut.k{H:Hp}{a:Addr}{kvs:List (cN×V)}{k:cN}{v:V}(e:H a=some (.dK kvs))(hl:kvs.length<sizeLine):DPut H a (kV k) v (upd H a (.dK (dF kvs k v))):=.inl ⟨kvs,k,e,rfl,hl,rfl⟩
theorem DPut.t{H:Hp}{a b:Addr}{kvs:List (List cN×V)}{k:List cN}{v:V}(e:H a=some (.dT kvs))(eb:H b=some (.tup (k.map kV)))(hl:kvs.length<sizeLine) :
  DPut H a (.ref b) v (upd H a (.dT (dF kvs k v))):=.inr ⟨kvs,k,b,e,rfl,eb,hl,rfl⟩
section
variable {X:Cx}{pins:List (Addr×Obj)}{σ:St}{H:Hp}{s:Shared}{a:Addr}{y v:V}{u r:Value}{o:Option V}{A:Around}{E:Value→Shared→Prop}
theorem Inv.big(I:Inv X pins σ H s):sysModules<s.heap.objs.size:=by
 have h:mainGlobals<s.heap.objs.size:=(I.mod.glob.keeps I.bk).lt
 exact Nat.lt_trans (by decide) h
theorem Bx{Q:Value→Shared→Prop}(hu:A.units+1<cLine)(I:Inv X pins σ H s)(g:DGet H a y (some v))(ry:RelV y u)(h:∀ w' s',Inv X pins σ H s'→RelV v w'→Q w' s') :
  wpAny (model X.prog X.w) A (getItem (.ref a) u) Q E s:=by
 rcases g with ⟨kvs,k,e,ey,l⟩ | ⟨kvs,k,b,e,ey,eb,l⟩
 ·subst ey
  obtain⟨z,hd,vs,rel,dd⟩:=sH I.hok e
  obtain⟨w',hw,rw'⟩:=RelO.some_of (v:=v) (o:=valueAt vs k) (by rw[l];exact rel.val k)
  exact wpAny_getItem_of (qD ry) dd.mapOf hw (h w' _ (I.tok _) rw')
 ·subst ey
  cases (show u=Value.ref b from ry)
  obtain⟨z,hd,xs,rel,dd⟩:=sO I.hok e
  obtain⟨w',hw,rw'⟩:=RelO.some_of (v:=v) (o:=(atKey xs k).map (·.2)) (by rw[l];exact rel.val k)
  obtain⟨p,hp,hp2⟩:=i9.mp hw
  refine wpAny_getItem_heap (tupleKind_room_in1 hu) (pN I.hok eb) dd hp ?_
  rw[hp2]
  exact h w' _ (I.tok _) rw'
theorem Ew{Q:Value→Shared→Prop}(hu:A.units+1<cLine)(I:Inv X pins σ H s)(g:DGet H a y o)(ry:RelV y u)(h:∀ s',Inv X pins σ H s'→Q (.bool (!o.isSome)) s') :
  wpAny (model X.prog X.w) A (compareOp .NotIn u (.ref a)) Q E s:=by
 rcases g with ⟨kvs,k,e,ey,l⟩ | ⟨kvs,k,b,e,ey,eb,l⟩
 ·subst ey
  obtain⟨z,hd,vs,rel,dd⟩:=sH I.hok e
  refine wpAny_notIn_of (qD ry) hd dd.mapOf ?_
  rw[← (rel.val k).isSome_eq,← l]
  exact h _ (I.tok _)
 ·subst ey
  cases (show u=Value.ref b from ry)
  obtain⟨z,hd,xs,rel,dd⟩:=sO I.hok e
  refine wpAny_notIn_heap (tupleKind_room_in1 hu) (pN I.hok eb) hd dd ?_
  have q:=(rel.val k).isSome_eq
  rw[aZj] at q
  rw[← q,← l]
  exact h _ (I.tok _)
theorem oY{h':Heap}{t':Nat}{ob:HO}(I:Inv X pins σ H s)(mu:HB (H a))(hs:Heap.SameBut a s.heap h')(he:∃ q,h'.get? a=some q)(new:ObjOk X.prog X.w (upd H a ob) h' a ob) :
  Inv X pins σ (upd H a ob) { s with heap:=h',toks:=t' } :=
 I.write (x:=a) (e:=a) mu (.inl rfl) (fun b q hb z=>(hs.2 b hb).trans z) he new
theorem zW{P:Program}{w:World}{H':Hp}{h':Heap}{kvs:List (cN×V)}{vs:List (cN×Value)}(z:kvs.length≤sizeLine)(hd:(a == sysModules)=false)(rel:KV kvs vs)(dd:h'.DictOf (bZ P w) a vs) :
  ObjOk P w H' h' a (.dK kvs):=⟨z,hd,vs,rel,dd⟩
theorem Bt{H':Hp}{Q:Unit→Shared→Prop}(hu:A.units+1<cLine)(I:Inv X pins σ H s)(g:DPut H a y v H')(ry:RelV y u)(rv:RelV v r)(h:∀ s',Inv X pins σ H' s'→Q () s') :
  wpAny (model X.prog X.w) A (setItem (.ref a) u r) Q E s:=by
 rcases g with ⟨kvs,k,e,ey,l,eH⟩ | ⟨kvs,k,b,e,ey,eb,l,eH⟩
 ·subst ey eH
  obtain⟨z,hd,vs,rel,dd⟩:=yA I.hok e
  have hz:vs.length≤sizeLine:=by rw[← rel.length];exact z
  have hl:(dF kvs k v).length≤sizeLine:=by have:=dQ kvs k v;omega
  refine wpAny_setItem_pairs (hsz:=hz) (qD ry) dd fun h' dd' hs=>h _ ?_
  have he:∃ q,h'.get? a=some q:=let ⟨q,_,_,hq,_⟩:=dd';⟨q,hq⟩
  exact oY I (by rw[e];exact True.intro) hs he (zW hl hd (rel.put k rv) dd')
 ·subst ey eH
  cases (show u=Value.ref b from ry)
  obtain⟨z,hd,xs,rel,dd⟩:=Ii I.hok e
  have hz:xs.length≤sizeLine:=by rw[← aQp rel];exact z
  have hl:(dF kvs k v).length≤sizeLine:=by have:=dQ kvs k v;omega
  refine wpAny_setItem_heap (hsz:=hz) (tupleKind_room_in1 hu) (pN I.hok eb) dd fun h' dd' hs=>h _ ?_
  obtain⟨q,es,ep,hq,h2,h3,h4,_,h5⟩:=dd'
  refine oY I (by rw[e];exact True.intro) hs ⟨q,hq⟩ ⟨hl,hd,_,(rel.put k eb rv).keeps fun c ys ec=>?_,q,es,ep,hq,h2,h3,h4,h5⟩
  rw[aE (dI ec e (fun z=>nomatch z))]
  exact ec
end
def Ix(i:Expr):Prop:=∀ ov iv,subscripted i false ov iv=operate [ov,iv] (getItem ov iv)
theorem DU{prog:Program}{w:World}{A:Around}{E:Value→Shared→Prop}{s:Shared}{env:Env}{value slice:Expr}{pos:Pos}{T id:String}{Q:Value→Shared→Prop}
  (hl:typeLookup (.type T) "__getitem__"=pure (some (.builtin id))) (hs:Ix slice)
  (h:wpAny (model prog w) A (eval value env) (fun o s₁=>wpAny (model prog w) A (eval slice env) (fun i s₂=>s₂.TypeIs o T∧wpAny (model prog w) A (getItem o i) Q E s₂) E s₁) E s) :
  wpAny (model prog w) A (eval (.Subscript value slice pos) env) Q E s:=by
 refine Subscript_ (wpAny_mono h (fun o s₁ h₁=>wpAny_mono h₁ (fun i s₂ h₂=>?_) fun _ _ x=>x) fun _ _ x=>x)
 obtain⟨hT,h₂⟩:=h₂
 unfold subscriptTail
 refine wpAny_bind ?_
 rw[getitemInPython_of_ne hT.not_modules]
 refine wpAny_bind (wpAny_specialOf hT hl ?_)
 have fin:wpAny (model prog w) A (subscripted slice false o i) (fun r s₃=>wpAny (model prog w) A (letTemporaryGo value o r >>= fun _=>pure r) Q E s₃) E s₂:=by
  rw[hs o i]
  exact wpAny_operating (wpAny_mono h₂ (fun r s₃ h₃=>wpAny_bind (wpAny_letTemporaryGo (wpAny_pure h₃))) fun _ _ x=>x)
 first
  | exact wpAny_pure (wpAny_bind fin)
  | exact wpAny_bind (wpAny_pure (wpAny_bind fin))
  | exact wpAny_bind fin
theorem wG{X:Cx}{pins:List (Addr×Obj)}{σ:St}{H:Hp}{s:Shared}{a:Addr}{y:V}{o:Option V}(I:Inv X pins σ H s)(g:DGet H a y o):s.TypeIs (.ref a) "dict":=by
 rcases g with ⟨kvs,k,e,_,_⟩ | ⟨kvs,k,b,e,_,_,_⟩
 ·obtain⟨_,_,vs,_,dd⟩:=sH I.hok e
  exact dd.typeIs
 ·obtain⟨_,_,xs,_,dd⟩:=sO I.hok e
  exact dd.typeIs
inductive tDGetI(Q:VK)(x:V)(y:V)(H2:Hp):Prop
 | mk (a v:_) (_:x=.ref a) (_:DGet H2 a y (some v)) (_:Q v H2):tDGetI Q x y H2
def Ic(td ty:TE):TE:=fun σ H Q=>td σ H fun x H1=>ty σ H1 fun y H2=>tDGetI Q x y H2
inductive tDNotInI(Q:VK)(y:V)(x:V)(H2:Hp):Prop
 | mk (a o:_) (_:x=.ref a) (_:DGet H2 a y o) (_:Q (.bl (!o.isSome)) H2):tDNotInI Q y x H2
def A6(ty td:TE):TE:=fun σ H Q=>ty σ H fun y H1=>td σ H1 fun x H2=>tDNotInI Q y x H2
def IT(td ty tv:TE):TS:=fun D σ H=>tv σ H fun v H1=>td σ H1 fun x H2=>ty σ H2 fun y H3=>∃ a H4,x=.ref a∧DPut H3 a y v H4∧D.nx σ H4
section
variable {X:Cx}{o i e value:Expr}{pos pos' tpos:Pos}{td ty tv:TE}
theorem AQ(hu:X.A.units+1<cLine)(ho:PE X o td)(hi:PE X i ty)(hs:Ix i):PE X (.Subscript o i pos) (Ic td ty):=by
 intro pins s σ H Q I h
 refine DU PySem.F.slot_dict_getitem.lookup hs (cK (ho pins s σ H _ I h) fun u s1 ⟨x,H1,I1,rx,q1⟩=>cK (hi pins s1 σ H1 _ I1 q1) fun iv s2 ⟨y,H2,I2,ry,a,v,ex,g,q2⟩=>?_)
 subst ex
 obtain rfl:u=Value.ref a:=rx
 exact⟨wG I2 g,Bx hu I2 g ry fun w' s3 I3 rw'=>⟨v,H2,I3,rw',q2⟩⟩
theorem By(hu:X.A.units+1<cLine)(hi:PE X i ty)(ho:PE X o td):PC X .NotIn i o (A6 ty td):=by
 intro pins s σ H Q I h
 refine cK (hi pins s σ H _ I h) fun iv s1 ⟨y,H1,I1,ry,q1⟩=>cK (ho pins s1 σ H1 _ I1 q1) fun u s2 ⟨x,H2,I2,rx,a,ov,ex,g,q2⟩=>?_
 subst ex
 obtain rfl:u=Value.ref a:=rx
 exact Ew hu I2 g ry fun s3 I3=>⟨.bl (!ov.isSome),H2,I3,rfl,q2⟩
theorem mT(hu:X.A.units+1<cLine)(ho:PE X o td)(hi:PE X i ty)(hv:PE X value tv)(hs:swapsWith value (some (.Subscript o i pos')) pos.line X.env=pure false) :
  PS X (.Assign [.Subscript o i pos'] value pos) (IT td ty tv):=by
 intro pins s σ H D I h
 refine wpAny_Assign_Subscript (cK (hv pins s σ H _ I h) fun r s1 ⟨v,H1,I1,rv,q1⟩=>cK (ho pins s1 σ H1 _ I1 q1) fun u s2 ⟨x,H2,I2,rx,q2⟩=>cK (hi pins s2 σ H2 _ I2 q2) fun iv s3 ⟨y,H3,I3,ry,a,H4,ex,g,q3⟩=>?_) hs
 subst ex
 obtain rfl:u=Value.ref a:=rx
 exact Bt hu I3 g ry rv fun s4 I4=>⟨σ,H4,I4,q3⟩
end
theorem wT{P:Program}{w:World}{H:Hp}(h:Heap)(hb:sysModules<h.objs.size):ObjOk P w H (h.push { cls:=.type "dict",data:=.dict #[] }) h.objs.size (.dK []) :=
 ⟨l7 _,beq_eq_false_iff_ne.mpr (aQ5 (i3 hb)),[],.nil,aKE h⟩
theorem Cr{P:Program}{w:World}{H:Hp}(h:Heap)(hb:sysModules<h.objs.size):ObjOk P w H (h.push { cls:=.type "dict",data:=.dict #[] }) h.objs.size (.dT []) :=
 ⟨l7 _,beq_eq_false_iff_ne.mpr (aQ5 (i3 hb)),[],.nil,_,#[],0,d8 _ rfl,⟨rfl,rfl,rfl⟩,rfl,rfl,aZR⟩
def GB:TE:=fun _ H Q=>∀ p,H p=none→Q (.ref p) (upd H p (.dK []))
def He:TE:=fun _ H Q=>∀ p,H p=none→Q (.ref p) (upd H p (.dT []))
section
variable {X:Cx}{pos:Pos}
theorem rH:PE X (.Dict [] [] pos) GB:=fun pins s σ H Q I h =>
 wpAny_Dict_empty ⟨.ref s.heap.objs.size,_,I.laid (a:=s.heap.objs.size) (o:=.dK []) (t':=s.toks) (fun _ _ q=>b9 _ q) (c0 _) (wT s.heap I.big),rfl,h _ (I.hok.fresh (c0 _))⟩
theorem C6:PE X (.Dict [] [] pos) He:=fun pins s σ H Q I h =>
 wpAny_Dict_empty ⟨.ref s.heap.objs.size,_,I.laid (a:=s.heap.objs.size) (o:=.dT []) (t':=s.toks) (fun _ _ q=>b9 _ q) (c0 _) (Cr s.heap I.big),rfl,h _ (I.hok.fresh (c0 _))⟩
end
def zT:List (TE×TE)→St→Hp→(List (V×V)→Hp→Prop)→Prop
 | [],_,H,Q=>Q [] H
 | (tk,tv)::r,σ,H,Q=>tk σ H fun x H1=>tv σ H1 fun y H2=>zT r σ H2 fun ps H3=>Q ((x,y)::ps) H3
abbrev VV:List (V×V)→List (Value×Value)→Prop:=Paired fun p q=>RelV p.1 q.1∧RelV p.2 q.2
def Jw(X:Cx)(pos:Pos)(keys:List (Option Expr))(values:List Expr)(trs:List (TE×TE)):Prop :=
 ∀ (pins:List (Addr×Obj)) (s:Shared) (σ:St) (H:Hp) (Q:List (V×V)→Hp→Prop),Inv X pins σ H s→zT trs σ H Q →
  wpAny (model X.prog X.w) X.A (evalPairs (pairTrees keys values X.env pos)) (fun vs s'=>∃ ps H',Inv X pins σ H' s'∧VV ps vs∧Q ps H') X.xe s
theorem DQ{X:Cx}{pos:Pos}:Jw X pos [] [] []:=fun pins s σ H Q I h=>pairTrees_nil_walk ⟨[],H,I,.nil,h⟩
theorem Dw{X:Cx}{pos:Pos}{k v:Expr}{ks:List (Option Expr)}{vs:List Expr}{tk tv:TE}{trs:List (TE×TE)}(hk:PE X k tk)(hv:PE X v tv)(hr:Jw X pos ks vs trs) :
  Jw X pos (some k::ks) (v::vs) ((tk,tv)::trs):=fun pins s σ H Q I h =>
 pairTrees_cons_walk (cK (hk pins s σ H _ I h) fun u s1 ⟨x,H1,I1,rx,q1⟩=>cK (hv pins s1 σ H1 _ I1 q1) fun w2 s2 ⟨y,H2,I2,ry,q2⟩ =>
  cK (hr pins s2 σ H2 _ I2 q2) fun ws s3 ⟨ps,H3,I3,rel,q3⟩=>⟨(x,y)::ps,H3,I3,.cons ⟨rx,ry⟩ rel,q3⟩)
def pW(kvs more:List (cN×V)):List (cN×V):=more.foldl (fun acc kv=>dF acc kv.1 kv.2) kvs
theorem KV.merge:∀ {more:List (cN×V)} {rs:List (cN×Value)} {kvs:List (cN×V)} {vs:List (cN×Value)},KV more rs→KV kvs vs→KV (pW kvs more) (merged vs rs):=by
 intro more rs kvs vs r
 unfold KV at r
 induction r generalizing kvs vs with
 | nil=>intro q;exact q
 | @cons p q ps qs h t ih =>
  intro r0
  have e:KV (dF kvs p.1 p.2) (stored vs q.1 q.2):=by
   have:=r0.put p.1 h.2
   rw[← h.1];exact this
  exact ih e
theorem kT:∀ (more kvs:List (cN×V)),(pW kvs more).length≤kvs.length+more.length
 | [],kvs=>by show kvs.length≤kvs.length+0;omega
 | p::r,kvs=>by
  have h1:=kT r (dF kvs p.1 p.2)
  have h2:=dQ kvs p.1 p.2
  show (pW (dF kvs p.1 p.2) r).length≤_
  rw[j0];omega
theorem rE{P:Program}{w:World}:∀ {kvs:List (cN×V)} {ws:List (Value×Value)},VV (kvs.map fun kv=>(kV kv.1,kv.2)) ws→∃ rs,Carries (bZ P w) ws rs∧KV kvs rs
 | [],_,r=>by rw[aXN] at r;cases r;exact⟨[],True.intro,.nil⟩
 | p::kvs,_,r=>by
  rw[g9] at r
  cases r with
  | @cons a b as bs h t =>
   obtain⟨rs,c,q⟩:=rE (P:=P) (w:=w) t
   obtain⟨b1,b2⟩:=b
   exact⟨(p.1,b2)::rs,⟨qD h.1,rfl,c⟩,.cons ⟨rfl,h.2⟩ q⟩
def II(trs:List (TE×TE)):TE:=fun σ H Q=>∀ p,H p=none→zT trs σ (upd H p (.dK [])) fun ps H2=>H2 p=some (.dK [])∧∃ kvs:List (cN×V),ps=kvs.map (fun kv=>(kV kv.1,kv.2))∧kvs.length≤15∧Q (.ref p) (upd H2 p (.dK (pW [] kvs)))
theorem EC{X:Cx}{pos:Pos}{keys:List (Option Expr)}{values:List Expr}{trs:List (TE×TE)}(h:Jw X pos keys values trs)(hall:keys.all (·.isSome)=true)(hl:keys.length=values.length)(h0:keys≠[])
  (h15:keys.length≤15):PE X (.Dict keys values pos) (II trs):=by
 intro pins s σ H Q I q
 have hn:=I.hok.fresh (c0 s.heap.objs.size)
 have I1:=I.laid (a:=s.heap.objs.size) (o:=.dK []) (h':=s.heap.push { cls:=.type "dict",data:=.dict #[] }) (t':=s.toks) (fun _ _ q=>b9 _ q) (c0 _) (wT s.heap I.big)
 refine wpAny_Dict_walk (knd:=bZ X.prog X.w) hall hl h0 h15 (cK (h pins _ σ _ _ I1 (q _ hn)) fun ws s2 ⟨ps,H2,I2,rel,e,kvs,ep,lk,q2⟩=>?_)
 subst ep
 obtain⟨rs,c,rk⟩:=rE (P:=X.prog) (w:=X.w) rel
 obtain⟨z,hd,vs0,r0,dd⟩:=yA I2.hok e
 cases r0
 refine⟨rs,c,dd,fun h' dd' hs=>⟨.ref s.heap.objs.size,_,?_,rfl,q2⟩⟩
 have hz:(pW [] kvs).length≤sizeLine:=by
  have h1:=kT kvs []
  rw[aJG] at h1
  rw[sizeLine_eq];omega
 have he:∃ q,h'.get? s.heap.objs.size=some q:=let ⟨q,_,_,hq,_⟩:=dd';⟨q,hq⟩
 exact oY I2 (by rw[e];exact True.intro) hs he (zW hz hd (rk.merge .nil) dd')
structure M1(X:Cx)(o:Expr)(m:Str)(apos:Pos)(e:Expr)(cpos:Pos):Prop where
 base:attributeBase o m X.env (eval o X.env)=eval o X.env
 few:((backTo cpos (starEach [e] X.env)).all (fun x=>!x.1) && (backToKw cpos (keywordEach [] X.env)).all (fun x=>x.1.isSome)
  && decide (([e]:List Expr).length+([]:List Keyword).length+(if ([]:List Keyword).isEmpty then 0 else 1)<30))=true
 line:(apos.endLine == cpos.line)=true
 trees:backTo cpos (starEach [e] X.env)=[(false,eval e X.env)]
structure M2(X:Cx)(o:Expr)(m:Str)(apos:Pos)(e f:Expr)(cpos:Pos):Prop where
 base:attributeBase o m X.env (eval o X.env)=eval o X.env
 few:((backTo cpos (starEach [e,f] X.env)).all (fun x=>!x.1) && (backToKw cpos (keywordEach [] X.env)).all (fun x=>x.1.isSome)
  && decide (([e,f]:List Expr).length+([]:List Keyword).length+(if ([]:List Keyword).isEmpty then 0 else 1)<30))=true
 line:(apos.endLine == cpos.line)=true
 trees:backTo cpos (starEach [e,f] X.env)=[(false,eval e X.env),(false,eval f X.env)]
def J5(H:Hp)(a:Addr):Prop:=(∃ kvs,Rd H a (.dK kvs))∨∃ kvs,Rd H a (.dT kvs)
theorem Dm{X:Cx}{pins:List (Addr×Obj)}{σ:St}{H:Hp}{s:Shared}{a:Addr}(I:Inv X pins σ H s)(d:J5 H a) :
  s.TypeIs (.ref a) "dict"∧(∀ b,Value.ref a=.ref b→∃ ob,s.heap.get? b=some ob∧ob.dict=none)∧(a == sysModules)=false:=by
 rcases d with ⟨kvs,e⟩ | ⟨kvs,e⟩
 ·obtain⟨_,hd,vs,_,dd⟩:=sH I.hok e
  refine⟨dd.typeIs,fun b q=>?_,hd⟩
  cases q
  obtain⟨ob,_,_,h1,h2,_⟩:=dd
  exact⟨ob,h1,h2.2.1⟩
 ·obtain⟨_,hd,xs,_,dd⟩:=sO I.hok e
  refine⟨dd.typeIs,fun b q=>?_,hd⟩
  cases q
  obtain⟨ob,_,_,h1,h2,_⟩:=dd
  exact⟨ob,h1,h2.2.1⟩
section
variable {X:Cx}{pins:List (Addr×Obj)}{σ:St}{H:Hp}{s:Shared}{a:Addr}{y d:V}{u r:Value}{o:Option V}{A:Around}{E:Value→Shared→Prop}
theorem Gi{Q:Value→Shared→Prop}(hu:A.units+1<cLine)(I:Inv X pins σ H s)(g:DGet H a y o)(ry:RelV y u)(h:∀ w' s',Inv X pins σ H s'→RelV (o.getD .non) w'→Q w' s') :
  wpAny (model X.prog X.w) A (call (.builtin "dict.get") [.ref a,u]) Q E s:=by
 rcases g with ⟨kvs,k,e,ey,l⟩ | ⟨kvs,k,b,e,ey,eb,l⟩
 ·subst ey
  obtain⟨z,hd,vs,rel,dd⟩:=sH I.hok e
  refine call_meetsIn aXL dd.typeIs aZH (aXz _ _) (meets_dict_get (bZ X.prog X.w) a (qD ry) hd) ⟨_,dd.mapOf,h _ _ (I.tok _) ?_⟩
  rw[l]
  exact(rel.val k).getD rfl
 ·subst ey
  cases (show u=Value.ref b from ry)
  obtain⟨z,hd,xs,rel,dd⟩:=sO I.hok e
  refine call_meetsIn aXL dd.typeIs aZH (aXz _ _) (meetsH_dict_get (tupleKind (bZ X.prog X.w)) a b hd) ⟨tupleKind_room_in1 hu,k,xs,pN I.hok eb,dd,h _ _ (I.tok _) ?_⟩
  rw[l]
  exact(rel.val k).getD rfl
end
inductive tDGet1I(ty:TE)(σ:St)(Q:VK)(x:V)(H1:Hp):Prop
 | mk (a:_) (_:x=.ref a) (_:J5 H1 a) (_:ty σ H1 fun y H2=>∃ o,DGet H2 a y o∧Q (o.getD .non) H2):tDGet1I ty σ Q x H1
def GE(td ty:TE):TE:=fun σ H Q=>td σ H fun x H1=>tDGet1I ty σ Q x H1
section
variable {X:Cx}{o e f:Expr}{apos cpos:Pos}{td ty tx:TE}
theorem wZ(hu:X.A.units+1<cLine)(ho:PE X o td)(he:PE X e ty)(m:M1 X o "get" apos e cpos):PE X (.Call (.Attribute o "get" apos) [e] [] cpos) (GE td ty):=by
 intro pins s σ H Q I h
 refine wpAny_Call_method m.base m.few m.line aQw aXL PySem.F.type_dict_get (cK (ho pins s σ H _ I h) fun u s1 ⟨x,H1,I1,rx,a,ex,d,q1⟩=>?_)
 subst ex
 obtain rfl:u=Value.ref a:=rx
 obtain⟨t1,t2,_⟩:=Dm I1 d
 refine⟨t1,t2,?_⟩
 rw[m.trees]
 refine aQN rfl (aXO (aQs (cK (he pins s1 σ H1 _ I1 q1) fun iv s2 ⟨y,H2,I2,ry,ov,g,q2⟩=>aXc ?_)))
 exact Gi hu I2 g ry fun w' s3 I3 rw'=>⟨_,H2,I3,rw',q2⟩
end
def sF(xs:List V)(f:Nat→Nat)(l:List Nat):List V:=l.filterMap fun m=>xs[f m]?
theorem qN{xs:List V}{us:List Value}(r:Vals xs us)(f:Nat→Nat):∀ l:List Nat,Vals (sF xs f l) (l.filterMap fun m=>us[f m]?)
 | []=>.nil
 | m::l=>by
  have ih:=qN r f l
  unfold sF at *
  rw[aQa,aQa]
  cases hx:xs[f m]? with
  | none =>
   have:us[f m]?=none:=by
    have h1:=r.length
    have h2:=aXj.mp hx
    exact aQP (by omega)
   rw[this]
   exact ih
  | some x =>
   obtain⟨u,hu,ru⟩:=r.get hx
   rw[hu]
   exact .cons ru ih
theorem BC(xs:List V)(f:Nat→Nat)(l:List Nat):(sF xs f l).length≤l.length:=aXt _ _
section
variable {prog:Program}{w:World}{A:Around}{E:Value→Shared→Prop}{s:Shared}
theorem yL{sl:Addr}{vu vk:Value}{j n:Nat}{Q:Int×Int×Nat→Shared→Prop}(hs:s.heap.IsSliceOf sl .none vu vk)(pu:IsPart vu (some (j:Int)))(pk:IsPart vk (some 2))(hj:j≤n)
  (h:Q (0,2,(j+1) / 2) s):wpAny (model prog w) A (Builtin.Slice.sliceApplied (.ref sl) (pure (n:Int))) Q E s:=by
 obtain⟨os,hos,hcs,hds⟩:=id hs
 unfold Builtin.Slice.sliceApplied Builtin.Slice.sliceFields
 refine wpAny_bind (wpAny_bind (wpAny_field hos hds (x:=.none) rfl (wpAny_bind (wpAny_field hos hds (x:=vu) rfl (wpAny_bind (wpAny_field hos hds (x:=vk) rfl (wpAny_pure ?_)))))))
 refine wpAny_bind (HT.slicePart_ pk ?_)
 show wpAny _ _ (if ((2:Int) == 0)=true then _ else _) _ _ s
 rw[if_neg (by decide)]
 refine wpAny_bind (HT.slicePart_ .none (wpAny_bind (HT.slicePart_ pu (wpAny_bind (wpAny_pure ?_)))))
 show wpAny _ _ (match Builtin.Slice.sliceAdjust none (some (j:Int)) 2 (n:Int) with | (lo,hi)=>pure (lo,(2:Int),Builtin.Slice.slicePlaces lo hi 2)) _ _ s
 have e1:Builtin.Slice.sliceAdjust none (some (j:Int)) 2 (n:Int)=(0,(j:Int)):=by
  unfold Builtin.Slice.sliceAdjust
  have h1:¬ ((2:Int)<0):=by omega
  have h2:¬ ((j:Int)<0):=by omega
  simp only [if_neg h1,if_neg h2]
  congr 1
  omega
 rw[e1]
 show wpAny _ _ (pure ((0:Int),(2:Int),Builtin.Slice.slicePlaces 0 (j:Int) 2)) _ _ s
 have e2:Builtin.Slice.slicePlaces 0 (j:Int) 2=(j+1) / 2:=by
  unfold Builtin.Slice.slicePlaces
  rw[if_pos (by omega)]
  split <;> omega
 rw[e2]
 exact wpAny_pure h
theorem Ce{t sl:Addr}{items:Array Value}{vu vk:Value}{j:Nat}{Q:Value→Shared→Prop}(ht:IsTup s.heap t items)(hs:s.heap.IsSliceOf sl .none vu vk)(pu:IsPart vu (some (j:Int)))(pk:IsPart vk (some 2))(hj:j≤items.size)
  (h:Q (.ref s.heap.objs.size) { s with heap:=s.heap.push { cls:=.type "tuple",data:=.seq ((List.range ((j+1) / 2)).filterMap fun m=>items.toList[2 * m]?).toArray } })
  (hsz:items.size≤sizeLine):wpAny (model prog w) A (getItem (.ref t) (.ref sl)) Q E s:=by
 have htake:sizeOk (.seq ((List.range ((j+1) / 2)).filterMap fun m=>items.toList[2 * m]?).toArray):=by
  show ((List.range ((j+1) / 2)).filterMap fun m=>items.toList[2 * m]?).toArray.size≤sizeLine
  rw[d3]
  refine j7 (aXt _ _) ?_
  rw[aQ0]
  omega
 obtain⟨os,hos,hcs,hds⟩:=id hs
 have hTs:s.TypeIs (.ref sl) "slice":=⟨os,hos,hcs⟩
 unfold getItem
 try with_reducible refine wpAny_holding ?_
 first | refine wpAny_bind (wpAny_pure ?_) | skip
 refine wpAny_bind (wpAny_sequenceKey ht.typeIs (by decide) ?_)
 refine wpAny_bind (wpAny_callSpecial?_slot (name:=Str.ofString "__getitem__") ht.typeIs o0
  (wpAny_call_entry o0 ht.typeIs entry_tuple_getitem ?_ (args_tuple_getitem _ _)))
 show wpAny _ _ (Builtin.Tuple.tupleItemsOf (.ref t) >>= _) _ _ s
 refine wpAny_bind (tupleItemsOf_ ht ?_)
 refine wpAny_bind (wpAny_typeOf hTs ?_)
 rw[if_pos (by decide)]
 refine wpAny_bind (yL hs pu pk hj ?_)
 show wpAny _ _ (if ((0:Int) == 0 && (2:Int) == 1 && ((j+1) / 2) == items.size)=true then _ else _) _ _ s
 rw[if_neg (by simp)]
 have e:(fun (m:Nat)=>items[((0:Int)+(m:Int) * 2).toNat]?)=fun m=>items.toList[2 * m]?:=by
  funext m
  have:((0:Int)+(m:Int) * 2).toNat=2 * m:=by omega
  rw[this]
  simp
 rw[e]
 first
  | exact wpAny_bind (m:=Builtin.Tuple.tupleExact _) (wpAny_newObj_type (wpAny_pure ⟨_,rfl,wpAny_pure h⟩) htake)
  | exact wpAny_bind (m:=Builtin.Tuple.tupleExact _) (wpAny_newObj_type (wpAny_bind (wpAny_pure (wpAny_pure ⟨_,rfl,wpAny_pure h⟩))) htake)
  | exact wpAny_bind (wpAny_bind (m:=Builtin.Tuple.tupleExact _) (wpAny_newObj_type (wpAny_pure (wpAny_pure ⟨_,rfl,wpAny_pure h⟩)) htake))
  | exact wpAny_bind (wpAny_bind (m:=Builtin.Tuple.tupleExact _) (wpAny_newObj_type (wpAny_pure ⟨_,rfl,wpAny_pure h⟩) htake))
end
inductive rSl2I(K:b5)(x:V)(lo:Option Int)(hi:Option Int)(st:Option Int)(H:Hp)(Q:VK):Prop
 | mk (a:Addr) (xs:List V) (j:Nat) (_:x=.ref a) (_:SqT K H a xs) (_:lo=none) (_:hi=some (j:Int)) (_:st=some 2) (_:j≤xs.length) (_:∀ p,H p=none→Q (.ref p) (upd H p (.tup (sF xs (2 * ·) (List.range ((j+1) / 2)))))):rSl2I K x lo hi st H Q
def JM(K:b5):V→Option Int→Option Int→Option Int→Hp→VK→Prop:=fun x lo hi st H Q=>rSl2I K x lo hi st H Q
theorem Cq{X:Cx}{K:b5}(hK:X.K=K):HG X (JM K):=by
 subst hK
 intro pins s σ H x v vl vu vk lo hi st sl Q I rx hs pl pu pk h
 obtain⟨a,xs,j,rfl,hx,rfl,rfl,rfl,hj,q⟩:=h
 cases rx
 cases pl
 obtain⟨its,r,ht,hz⟩:=I.tuple hx
 have hlen:=r.length
 refine⟨"tuple",_,o0.lookup,ht.typeIs,?_⟩
 refine Ce ht hs pu pk (by rw[d3];omega) ?_ (by rw[d3];omega)
 have rv:=qN r (2 * ·) (List.range ((j+1) / 2))
 have pl:=BC xs (2 * ·) (List.range ((j+1) / 2))
 rw[aQ0] at pl
 refine⟨.ref s.heap.objs.size,_,I.laid (t':=s.toks) (o:=.tup (sF xs (2 * ·) (List.range ((j+1) / 2)))) (fun b ob q=>b9 _ q) (c0 _) ?_,rfl,q _ (I.hok.fresh (c0 _))⟩
 refine⟨by omega,_,rv,?_⟩
 exact⟨aX3 _ _,NoD.new _ _⟩
theorem pT:∀ (n:Nat) (w:List Nat) (l:List Value),w.length=n→l.length=n→(∀ (j:Nat) (v:Value),l[j]?=some v→∃ (c:Nat) (u:Tok),w[j]?=some c∧v=Value.str ⟨#[c]⟩ u)→Vals (w.map fun c=>V.str (S [c])) l
 | 0,w,l,h1,h2,_=>by
  have e1:=o6.mp h1
  have e2:=o6.mp h2
  subst e1 e2
  exact .nil
 | n+1,[],l,h1,_,_=>by simp at h1
 | n+1,c::w,[],_,h2,_=>by simp at h2
 | n+1,c::w,v::l,h1,h2,h3=>by
  obtain⟨c',u,hc',rfl⟩:=h3 0 v rfl
  obtain rfl:c=c':=by simpa using hc'
  exact .cons ⟨u,rfl⟩ (pT n w l (by simpa using h1) (by simpa using h2) fun j v hv=>by simpa using h3 (j+1) v (by simpa using hv))
inductive Rcall_tupleStr(xs:List V)(H:Hp)(Q:VK):Prop
 | mk (w:List Nat) (_:xs=[.str (S w)]) (_:w.length≤1000) (_:∀ l,H l=none→Q (.ref l) (upd H l (.tup (w.map fun c=>V.str (S [c]))))):Rcall_tupleStr xs H Q
theorem rO{X:Cx}(hc:X.calm=true):gS X (.type "tuple") (fun xs H Q=>Rcall_tupleStr xs H Q):=by
 intro pins s σ H xs us Q I r h
 obtain⟨w,rfl,hz,q⟩:=h
 obtain⟨u,rfl,ru⟩:=r.one
 obtain⟨t,rfl⟩:=ru
 have hz2:w.length≤sizeLine:=aQ6 (aQ hz)
 refine call_tuple_str (I.ok.hd hc) (S w) t (fun h' tk acc hk hit=>?_) (by simpa using hz2)
 have hn:acc.size=w.length:=by simpa using hit.1
 have hv:Vals (w.map fun c=>V.str (S [c])) acc.toList:=pT w.length w acc.toList rfl (by simpa using hn) fun j v hv=>by
  obtain⟨c,u,hc,hv'⟩:=hit.2 j v (by simpa using hv)
  exact⟨c,u,by simpa using hc,hv'⟩
 have I1:Inv X pins σ H { s with heap:=h',toks:=tk }:=I.kept hk
 refine⟨.ref h'.objs.size,_,I1.laid (t':=tk) (o:=.tup (w.map fun c=>V.str (S [c]))) (fun b o e=>b9 _ e) (c0 _) ⟨by rw[b7];exact hz2,acc.toList,hv,?_⟩,rfl,q _ (I1.hok.fresh (c0 _))⟩
 have:=aX3 h' acc
 exact⟨by simpa using this,NoD.new _ _⟩
end L2
namespace Lw
open PySem PySem.Spec PyProof.Rows L2 Ma MaR
def bS(rs:List (List Nat)):List V:=rs.map fun x=>V.str (S x)
theorem aS(rs:List (List Nat)):(bS rs).length=rs.length:=by unfold bS;rw[b7]
theorem fB{rs:List (List Nat)}{i:Nat}{v:V}(h:(bS rs)[i]?=some v):∃ x,rs[i]?=some x∧v=.str (S x):=by
 unfold bS at h
 rw[c9] at h
 cases hq:rs[i]? with
 | none=>rw[hq] at h;cases h
 | some x=>rw[hq] at h;exact⟨x,rfl,(d9 h).symm⟩
theorem mY{rs:List (List Nat)}{i:Nat}{x:List Nat}(h:rs[i]?=some x):(bS rs)[i]?=some (.str (S x)):=by unfold bS;rw[c9,h];rfl
structure RT(rs:List (List Nat))(n M:Nat):Prop where
 len:rs.length=n
 all:∀ x∈rs,AllL x
 le:∀ x∈rs,x.length≤M
def tell(rs:List (List Nat))(c:Nat):List Nat:=if aY c=true then rs.getD (c - 97) [] else back (rs.getD (c - 65) [])
def told(rs:List (List Nat))(w:List Nat):List Nat:=w.flatMap (tell rs)
def retl(rs:List (List Nat))(w:List Nat):List Nat:=lay (told rs w)
theorem mJ{rs:List (List Nat)}{P:List Nat→Prop}(h0:P [])(h:∀ x∈rs,P x)(i:Nat):P (rs.getD i []):=by
 rw[b8]
 cases hq:rs[i]? with
 | none=>exact h0
 | some x=>exact h x (b6 hq)
section
variable {rs:List (List Nat)}{n M:Nat}
theorem RT.getA(r:RT rs n M)(i:Nat):AllL (rs.getD i []):=mJ AllL.nil r.all i
theorem RT.getL(r:RT rs n M)(i:Nat):(rs.getD i []).length≤M:=mJ (P:=fun x=>x.length≤M) (l7 _) r.le i
theorem mN(r:RT rs n M)(c:Nat):AllL (tell rs c):=by
 unfold tell
 split
 ·exact r.getA _
 ·exact aL (r.getA _)
theorem xC(r:RT rs n M)(c:Nat):(tell rs c).length≤M:=by
 unfold tell
 split
 ·exact r.getL _
 ·rw[bY];exact r.getL _
theorem yB(r:RT rs n M){c:Nat}(h:bX c):tell rs (con c)=back (tell rs c):=by
 have hc:(aY c=true∧aY (con c)=false∧con c - 65=c - 97)∨(aY c=false∧aY (con c)=true∧con c - 97=c - 65):=by
  rcases aO h with rfl | rfl | rfl | rfl | rfl | rfl | rfl | rfl <;> decide
 unfold tell
 rcases hc with ⟨h1,h2,h3⟩ | ⟨h1,h2,h3⟩
 ·rw[if_pos h1,if_neg (by rw[h2];decide),h3]
 ·rw[if_pos h2,if_neg (c:=aY c=true) (by rw[h1];decide),h3,cD (r.getA _)]
theorem iJ(u v:List Nat):told rs (u++v)=told rs u++told rs v:=by unfold told;rw[aZ1]
theorem dX(c:Nat)(w:List Nat):told rs (c::w)=tell rs c++told rs w:=by unfold told;rw[x9]
theorem xZ:told rs []=[]:=rfl
theorem eC(r:RT rs n M)(w:List Nat):AllL (told rs w):=by
 induction w with
 | nil=>exact AllL.nil
 | cons c w ih=>rw[dX];exact AllL.app.mpr ⟨mN r c,ih⟩
theorem mR(r:RT rs n M)(w:List Nat):(told rs w).length≤w.length * M:=by
 induction w with
 | nil=>simp[told]
 | cons c w ih =>
  rw[dX,c5,j0,aJm]
  have:=xC r c
  omega
theorem iK(r:RT rs n M)(w:List Nat):AllL (retl rs w):=eM (eC r w)
theorem qT(r:RT rs n M)(w:List Nat):(retl rs w).length≤w.length * M:=j7 (gE _) (mR r w)
theorem BG(r:RT rs n M){w:List Nat}(h:AllL w):told rs (back w)=back (told rs w):=by
 induction w with
 | nil=>rfl
 | cons c w ih =>
  obtain⟨hc,hw⟩:=AllL.cons.mp h
  have e:back (c::w)=back w++[con c]:=by unfold back;simp
  rw[e,iJ,ih hw,dX c w,cS,dX,xZ,l4,yB r hc]
theorem Ck(r:RT rs n M):∀ (k:Nat) (w:List Nat),w.length=k→AllL w→lay (told rs (lay w))=lay (told rs w):=by
 intro k
 induction k using Nat.strongRecOn with
 | ind k ih =>
  intro w hk hw
  by_cases hp:∀ j,¬ Ie w j
  ·rw[dZ (jM hp)]
  ·obtain⟨j,hj⟩:∃ j,Ie w j:=Classical.byContradiction fun c=>hp fun j hj=>c ⟨j,hj⟩
   obtain⟨a,b,e,hab,hl⟩:=tZ hj
   have e1:=EZ hw hj
   generalize hu:w.take j=u at *
   generalize hv:w.drop (j+2)=v at *
   have hw':AllL (u++a::b::v):=by rw[← e];exact hw
   obtain⟨ha1,ha2⟩:=AllL.app.mp hw'
   obtain⟨_,ha3⟩:=AllL.cons.mp ha2
   obtain⟨hb,ha4⟩:=AllL.cons.mp ha3
   have huv:AllL (u++v):=AllL.app.mpr ⟨ha1,ha4⟩
   have hlen:(u++v).length<k:=by
    rw[← hk,e,c5,c5,j0,j0];omega
   have q:=ih _ hlen (u++v) rfl huv
   rw[← e1,q,e,iJ,iJ,dX,dX,hab,yB r hb]
   have e9:told rs u++(back (tell rs b)++(tell rs b++told rs v))=told rs u++(back (tell rs b)++tell rs b)++told rs v:=by simp[i6]
   rw[e9,← kO _ _ _ (eC r u) (AllL.app.mpr ⟨aL (mN r b),mN r b⟩) (eC r v),eU (mN r b),l4]
theorem kC(r:RT rs n M){w:List Nat}(hw:AllL w):retl rs (lay w)=retl rs w:=Ck r _ w rfl hw
theorem rX(r:RT rs n M){w:List Nat}(hw:AllL w):retl rs (back w)=back (retl rs w):=by unfold retl;rw[BG r hw,iI (eC r w)]
theorem Cb(r:RT rs n M){u v:List Nat}:retl rs (u++v)=lay (retl rs u++retl rs v):=by
 unfold retl
 rw[eJ _ _ (eC r u),cG _ _ (eC r u) (eC r v),iJ]
end
def bP(n:Nat):List Nat:=[97,98,99,100].take n
def cC(n:Nat):List (List Nat):=(bP n).map fun c=>[c]
theorem Ey(n:Nat):bS (cC n)=bB (bP n):=by unfold bS cC bB;rw[p7];rfl
theorem Aq{n:Nat}(h1:1≤n)(h4:n≤4):n=1∨n=2∨n=3∨n=4:=by omega
theorem lP{n:Nat}(h1:1≤n)(h4:n≤4):RT (cC n) n 1:=by
 refine⟨?_,?_,?_⟩
 ·rcases Aq h1 h4 with rfl | rfl | rfl | rfl <;> rfl
 ·intro x hx
  obtain⟨c,hc,rfl⟩:=d5.mp hx
  intro d hd
  rw[c6.mp hd]
  have:c∈[97,98,99,100]:=r6 hc
  simp only [c7,o8,or_false] at this
  unfold bX
  omega
 ·intro x hx
  obtain⟨c,_,rfl⟩:=d5.mp hx
  exact c0 _
theorem BB{n:Nat}(h1:1≤n)(h4:n≤4){c:Nat}(h:c∈aI n):tell (cC n) c=[c]:=by
 have hL:=aO (aK h)
 rcases Aq h1 h4 with rfl | rfl | rfl | rfl <;> rcases hL with rfl | rfl | rfl | rfl | rfl | rfl | rfl | rfl <;> revert h <;> decide
theorem uK{n:Nat}(h1:1≤n)(h4:n≤4){w:List Nat}(h:OfN n w):told (cC n) w=w:=by
 induction w with
 | nil=>rfl
 | cons c w ih=>rw[dX,BB h1 h4 (h c d4),ih fun d hd=>h d (c8 _ hd)];rfl
theorem tN{n:Nat}(h1:1≤n)(h4:n≤4){w:List Nat}(h:OfN n w)(hp:aW w):retl (cC n) w=w:=by unfold retl;rw[uK h1 h4 h,dZ hp]
def bC(f s:List (List Nat)):List (List Nat):=f.map (retl s)
theorem sP(f s:List (List Nat))(i:Nat):(bC f s).getD i []=retl s (f.getD i []):=by
 unfold bC
 rw[b8,b8,c9]
 cases f[i]? <;> rfl
theorem Bu{f s:List (List Nat)}{n m M L:Nat}(hf:RT f n M)(hs:RT s m L)(c:Nat):tell (bC f s) c=lay (told s (tell f c)):=by
 unfold tell
 split
 ·rw[sP];rfl
 ·rw[sP,← rX hs (hf.getA _)];rfl
theorem pJ{g:Nat→List Nat}:∀ (w:List Nat),(∀ c,AllL (g c))→lay (w.flatMap fun c=>lay (g c))=lay (w.flatMap g)
 | [],_=>rfl
 | c::w,h=>by
  have ih:=pJ w h
  have ha:∀ w:List Nat,AllL (w.flatMap g):=fun w d hd=>by
   obtain⟨c,_,hc⟩:=aXE.mp hd
   exact h c d hc
  have hb:∀ w:List Nat,AllL (w.flatMap fun c=>lay (g c)):=fun w d hd=>by
   obtain⟨c,_,hc⟩:=aXE.mp hd
   exact eM (h c) d hc
  rw[x9,x9,eJ _ _ (h c),← cG _ _ (h c) (hb w),ih,cG _ _ (h c) (ha w)]
theorem BI(f s:List (List Nat))(w:List Nat):(w.flatMap fun c=>told s (tell f c))=told s (told f w):=by
 induction w with
 | nil=>rfl
 | cons c w ih=>rw[x9,dX,iJ,ih]
theorem rY{f s:List (List Nat)}{n m M L:Nat}(hf:RT f n M)(hs:RT s m L)(w:List Nat):retl (bC f s) w=retl s (retl f w):=by
 rw[show retl f w=lay (told f w) from rfl,kC hs (eC hf w)]
 unfold retl
 rw[← BI,← pJ w fun c=>eC hs _]
 congr 1
 unfold told
 congr 1
 funext c
 exact Bu hf hs c
theorem vZ{f s:List (List Nat)}{n m M L:Nat}(hf:RT f n M)(hs:RT s m L):RT (bC f s) n (M * L):=by
 refine⟨by unfold bC;rw[b7];exact hf.len,fun x hx=>?_,fun x hx=>?_⟩
 ·obtain⟨y,_,rfl⟩:=d5.mp hx
  exact iK hs y
 ·obtain⟨y,hy,rfl⟩:=d5.mp hx
  exact j7 (qT hs y) (aQ3 _ (hf.le y hy))
theorem nV{f s t:List (List Nat)}{n m k M L J:Nat}(hf:RT f n M)(hs:RT s m L)(ht:RT t k J):bC (bC f s) t=bC f (bC s t):=by
 unfold bC
 rw[p7]
 refine p9 fun x hx=>?_
 exact(rY hs ht x).symm
theorem _root_.L2.SqT.same{K:b5}{H H':Hp}{a:Addr}{xs:List V}(s:Same H H')(h:SqT K H a xs):SqT K H' a xs:=by
 rcases h with (h | ⟨o,h⟩) | h
 ·exact .inl (.inl (s _ _ h))
 ·exact .inl (.inr ⟨o,s _ _ h⟩)
 ·exact .inr h
theorem SqT.new{K:b5}{H:Hp}{a p:Addr}{xs:List V}{o:HO}(h:SqT K H a xs)(hp:H p=none):SqT K (upd H p o) a xs:=h.same (Same.new hp)
inductive spFirst(vs:List V)(H:Hp)(Q:VK)(E:XK):Prop
 | mk (n:Nat) (_:vs=[.int (n:Nat)]) (_:1≤n) (_:n≤4) (_:∀ (p:Addr) (H':Hp),H p=none→Same H H'→H' p=some (.tup (bS (cC n)))→Q (.ref p) H'):spFirst vs H Q E
def Kl(kvs:List (cN×V))(rs:List (List Nat)):Prop:=∀ c,c∈aI rs.length→dB kvs (.inr (S [c]))=some (.str (S (tell rs c)))
inductive spTab(K:b5)(vs:List V)(H:Hp)(Q:VK)(E:XK):Prop
 | mk (a:Addr) (rs:List (List Nat)) (n M:Nat) (_:vs=[.ref a]) (_:SqT K H a (bS rs)) (_:RT rs n M) (_:1≤n) (_:n≤4) (_:M≤1000) (_:∀ (p:Addr) (kvs:List (cN×V)) (H':Hp),H p=none→Same H H'→H' p=some (.dK kvs)→Kl kvs rs→Q (.ref p) H'):spTab K vs H Q E
inductive spRetold(K:b5)(vs:List V)(H:Hp)(Q:VK)(E:XK):Prop
 | mk (a:Addr) (rs:List (List Nat)) (n M:Nat) (w:List Nat) (_:vs=[.ref a,.str (S w)]) (_:SqT K H a (bS rs)) (_:RT rs n M) (_:1≤n) (_:n≤4) (_:M≤1000) (_:OfN n w) (_:w.length≤60000) (_:w.length * M≤60000) (_:∀ H',Same H H'→Q (.str (S (retl rs w))) H'):spRetold K vs H Q E
inductive spThen(K:b5)(vs:List V)(H:Hp)(Q:VK)(E:XK):Prop
 | mk (a b:Addr) (f s:List (List Nat)) (n M L:Nat) (_:vs=[.ref a,.ref b]) (_:SqT K H a (bS f)) (_:SqT K H b (bS s)) (_:RT f n M) (_:RT s n L) (_:(∀ x∈f,OfN n x)) (_:1≤n) (_:n≤4) (_:M≤1000) (_:L≤1000) (_:M * L≤9000) (_:∀ (p:Addr) (H':Hp),H p=none→Same H H'→H' p=some (.tup (bS (bC f s)))→Q (.ref p) H'):spThen K vs H Q E
def letV:List V:=bB lets
theorem wX:letV.length=8:=rfl
theorem EG{xs:List V}{i:Array Value}(h:Vals xs i.toList)(hl:xs.length≤1000):i.size≤sizeLine:=by
 have h2:xs.length=i.toList.length:=h.length
 have h3:i.toList.length=i.size:=u7
 exact aN (by omega)
theorem BF{n:Nat}(h1:1≤n)(h4:n≤4):sF letV (2 * ·) (List.range ((2 * n+1) / 2))=bS (cC n):=by
 rcases Aq h1 h4 with rfl | rfl | rfl | rfl <;> rfl
def Ep(kvs:List (cN×V))(rs:List (List Nat))(i:Nat):Prop:=∀ j,j<i→dB kvs (.inr (S [97+j]))=some (.str (S (tell rs (97+j))))∧dB kvs (.inr (S [65+j]))=some (.str (S (tell rs (65+j))))
theorem FG(a b:Nat):((Sum.inr (S [a]):cN)=Sum.inr (S [b]))↔a=b:=by
 constructor
 ·intro h
  have:=xT (aZo h)
  simpa using this
 ·rintro rfl;rfl
theorem Ef{rs:List (List Nat)}{kvs:List (cN×V)}{i:Nat}{r:List Nat}(hi:rs[i]?=some r)(hi4:i<4)(h:Ep kvs rs i) :
  Ep (dF (dF kvs (.inr (S [97+i])) (.str (S r))) (.inr (S [con (97+i)])) (.str (S (back r)))) rs (i+1):=by
 have ec:con (97+i)=65+i:=by unfold con;rw[if_pos (by omega)];omega
 have e1:tell rs (97+i)=r:=by
  unfold tell
  rw[if_pos (by unfold aY;exact decide_eq_true (by omega)),show 97+i - 97=i by omega,b8,hi];rfl
 have e2:tell rs (65+i)=back r:=by
  unfold tell
  rw[if_neg (by unfold aY;simp;omega),show 65+i - 65=i by omega,b8,hi];rfl
 intro j hj
 rw[kE,kE,kE,kE,ec]
 simp only [FG]
 by_cases c:j=i
 ·subst c
  rw[if_neg (by omega),if_pos rfl,if_pos rfl,e1,e2]
  exact⟨rfl,rfl⟩
 ·rw[if_neg (by omega),if_neg (by omega),if_neg (by omega),if_neg (by omega)]
  exact h j (by omega)
theorem DM{rs:List (List Nat)}{kvs:List (cN×V)}{n:Nat}(hl:rs.length=n)(h1:1≤n)(h4:n≤4)(h:Ep kvs rs n):Kl kvs rs:=by
 intro c hc
 rw[hl] at hc
 have hd:(c - 97<n∧97≤c)∨(c - 65<n∧c<97∧65≤c):=by
  have hL:=aO (aK hc)
  rcases Aq h1 h4 with rfl | rfl | rfl | rfl <;> rcases hL with rfl | rfl | rfl | rfl | rfl | rfl | rfl | rfl <;> revert hc <;> decide
 rcases hd with ⟨h2,h3⟩ | ⟨h2,h3,h5⟩
 ·have:=(h (c - 97) h2).1
  rw[show 97+(c - 97)=c by omega] at this
  exact this
 ·have:=(h (c - 65) h2).2
  rw[show 65+(c - 65)=c by omega] at this
  exact this
theorem vI{n i:Nat}(h4:n≤4){v:V}(h:(bS (cC n))[i]?=some v):v=.str (S [97+i])∧i<n:=by
 have hi:i<n:=by
  have:=(a9.mp h).1
  rw[aS] at this
  unfold cC bP at this
  rw[b7,i7] at this
  omega
 obtain⟨x,hx,rfl⟩:=fB h
 unfold cC bP at hx
 rw[c9,aQI hi] at hx
 have:i=0∨i=1∨i=2∨i=3:=by omega
 rcases this with rfl | rfl | rfl | rfl <;> (cases hx;exact⟨rfl,hi⟩)
theorem nQ:(Str.ofString "abcd":Str)=S [97,98,99,100]:=by decide +kernel
theorem AI{c:Nat}(h:bX c):(Builtin.Str.occurrences (Str.ofString "abcd") (S [lo c]) 0 (Str.ofString "abcd").length 1).isEmpty=false∧Txt.find (Str.ofString "abcd") (S [lo c])=((lo c - 97:Nat):Int):=by
 rcases aO h with rfl | rfl | rfl | rfl | rfl | rfl | rfl | rfl <;> exact⟨by decide +kernel,by decide +kernel⟩
theorem Ip{n c:Nat}(h:c∈aI n){l:Nat}(hl:l=n)(h1:1≤n)(h4:n≤4):lo c - 97<l:=by
 subst hl
 have hL:=aO (aK h)
 rcases Aq h1 h4 with rfl | rfl | rfl | rfl <;> rcases hL with rfl | rfl | rfl | rfl | rfl | rfl | rfl | rfl <;> revert h <;> decide
theorem Cp{rs:List (List Nat)}{n:Nat}(h1:1≤n)(h4:n≤4)(h:∀ x∈rs,OfN n x)(c:Nat):OfN n (tell rs c):=by
 unfold tell
 split
 ·exact mJ (P:=OfN n) OfN.nil h _
 ·exact(mJ (P:=OfN n) OfN.nil h _).back (by omega) (by omega)
theorem fN{rs:List (List Nat)}{n:Nat}(h1:1≤n)(h4:n≤4)(h:∀ x∈rs,OfN n x)(w:List Nat):OfN n (retl rs w):=by
 refine OfN.lay ?_
 intro d hd
 obtain⟨c,_,hc⟩:=aXE.mp hd
 exact Cp h1 h4 h c d hc
theorem xM{f s:List (List Nat)}{n:Nat}(h1:1≤n)(h4:n≤4)(h:∀ x∈s,OfN n x):∀ x∈bC f s,OfN n x:=by
 intro x hx
 obtain⟨y,_,rfl⟩:=d5.mp hx
 exact fN h1 h4 h y
theorem EO{n:Nat}(h1:1≤n)(h4:n≤4):∀ x∈cC n,OfN n x:=by
 intro x hx c hc
 obtain⟨d,hd,rfl⟩:=d5.mp hx
 rw[c6.mp hc]
 rcases Aq h1 h4 with rfl | rfl | rfl | rfl <;> (unfold bP at hd;simp at hd;revert hd;first | (rintro rfl;decide) | (rintro(rfl | rfl) <;> decide) | (rintro(rfl | rfl | rfl) <;> decide) | (rintro(rfl | rfl | rfl | rfl) <;> decide))
theorem vL{fl sc p:Addr}{H H':Hp}{xs:List V}(f:IsFl H fl sc)(k:Kp fl H H')(h:H p=some (.tup xs)):H' p=some (.tup xs):=by
 obtain⟨ns,i,x,b,c,h1,_⟩:=f
 exact k _ _ h fun e=>by rw[e,h1] at h;cases h
end Lw
namespace PySem
end PySem
namespace L2
open PySem PySem.Spec PyProof.Rows
end L2
namespace L2
open PySem PySem.Spec PyProof.Rows PySem.Calls
end L2
namespace PySem
open Sem (wp)
end PySem
namespace L2
open PySem PySem.Spec PyProof.Rows
def FA(x:Str):It :=
 ⟨fun i _=>i<x.cps.size,fun i H v H'=>∃ p c,v=.ref p∧H p=none∧H'=upd H p (.tup [.int (i:Nat),.str ⟨#[c]⟩])∧x.cps[i]?=some c,fun i _=>i=x.cps.size⟩
theorem sR{prog:Program}{w:World}{A:Around}(hh:A.handled=none)(it:Addr)(x:Str)(t:Tok)(T:String)(hT:T="str_ascii_iterator"∨T="str_iterator") :
  Draws prog w A it [it] x.cps.size (fun i v=>∃ c u,x.cps[i]?=some c∧v=.str ⟨#[c]⟩ u) (fun i h=>h.IsStrIter it T x t i):=by
 rcases hT with rfl | rfl
 ·exact Draws.strAscii hh it x t
 ·exact Draws.strWide hh it x t
theorem Bw{P:Program}{w:World}{K:b5}{es:List Expr}{x1}{pos:Pos}(x:Str)(t:Tok)(T:String)(e it:Addr)(hne:e≠it)(hT:T="str_ascii_iterator"∨T="str_iterator") :
  Turn P w K (.Tuple es x1 pos) (FA x) [e,it] e (fun i h=>(∃ old,IsEnum h e it ((i:Nat):Int) old)∧h.IsStrIter it T x t i) where
 mem:=by simp
 obj:=fun i h st b hb=>by
  obtain⟨⟨old,he⟩,o,g,c,d⟩:=st
  simp only [c7,o8,or_false] at hb
  rcases hb with rfl | rfl
  ·exact⟨_,he,fun v z=>by cases z⟩
  ·exact⟨o,g,fun v z=>by rw[d] at z;cases z⟩
 keep:=fun i h h' st k=>by
  obtain⟨⟨old,he⟩,o,g,r⟩:=st
  exact⟨⟨old,k e (by simp) _ he⟩,o,k it (by simp) o g,r⟩
 item:=by
  intro X hP hw hK hc i pins s σ H E I hf st hg
  subst hP hw hK
  obtain⟨⟨old,he⟩,hs⟩:=st
  have hei:e ∉ [it]:=by simpa using hne
  have DD:=sR (prog:=X.prog) (w:=X.w) (A:=X.A.in1) (I.ok.hd hc) it x t T hT
  refine wpAny_pyNext_enum_itemD DD he hs hg hne hei fun v h1 tk hv ho hs1 hT1 hz1 kp=>⟨_,rfl,?_⟩
  obtain⟨c,u,hc',rfl⟩:=hv
  refine wpAny_letOwnedTupleGo_enum ho fun h2 he2 e2=>?_
  have ne:s.heap.objs.size≠e:=aQ7 (d6 he)
  have hT2:h2.get? s.heap.objs.size=some { cls:=.type "tuple",data:=.seq #[.int i tk,.str ⟨#[c]⟩ u] }:=(e2.2 _ ne).trans hT1
  have hHn:H s.heap.objs.size=none:=I.hok.fresh (c0 _)
  have kpn:∀ b o,b ∉ [e,it]→s.heap.get? b=some o→h2.get? b=some o:=fun b o hn q=>(e2.2 b fun z=>hn (by simp[z])).trans (kp b o (fun z=>hn (by simp[z])) (fun z=>hn (by simp[z])) q)
  refine⟨.ref s.heap.objs.size,upd H s.heap.objs.size (.tup [.int (i:Nat),.str ⟨#[c]⟩]),?_,rfl,⟨_,c,rfl,hHn,rfl,hc'⟩,⟨⟨_,by simpa using he2⟩,?_⟩,fun b hb=>?_⟩
  ·exact I.turnedN (t':=tk+1) (h':=h2) kpn hf (c0 _) ⟨by show 2≤sizeLine;decide,[.int i tk,.str ⟨#[c]⟩ u],.cons ⟨_,rfl⟩ (.cons ⟨_,rfl⟩ .nil),⟨_,hT2,rfl,0,rfl⟩,⟨_,hT2,rfl⟩⟩
  ·obtain⟨o,g,r⟩:=hs1
   exact⟨o,(e2.2 it hne.symm).trans g,r⟩
  ·have hce:b≠s.heap.objs.size:=by
    obtain⟨o1,g1,_⟩:=hs
    simp only [c7,o8,or_false] at hb
    rcases hb with rfl | rfl
    ·exact i3 (d6 he)
    ·exact i3 (d6 g1)
   rw[aE hce]
   exact(hf b hb).1
 done:=by
  intro X hP hw hK hc i pins s σ H E I hf st hg
  subst hP hw hK
  obtain⟨⟨old,he⟩,hs⟩:=st
  have hi:i=x.cps.size:=hg
  subst hi
  have DD:=sR (prog:=X.prog) (w:=X.w) (A:=X.A.in1) (I.ok.hd hc) it x t T hT
  refine wpAny_pyNext_enum_endD DD he hs fun h1 e1=>⟨rfl,?_⟩
  exact I.turnedM (t':=s.toks) (ch:=[e,it]) (fun b o hn q=>e1 b o (fun z=>hn (by simp[z])) q) hf
 self:=fun A i s Q E st h=>by
  obtain⟨⟨old,he⟩,_⟩:=st
  exact wpAny_pyIter_enum he h
section
variable {X:Cx}
def HN(ta:TA):TI:=fun σ H R=>ta σ H fun vs H1=>∃ z,vs=[.str z]∧R (FA z) H1
theorem EU{es:List Expr}{x1}{tpos:Pos}{a:Expr}{ta:TA}{p pos:Pos}(hg:Gl X "enumerate")(hm:X.mg "enumerate"=none)(ha:PA X [a] ta)(hs:starEach [a] X.env=[(false,eval a X.env)]:=by rfl) :
  PI X (.Tuple es x1 tpos) (.Call (.Name "enumerate" p) [a] [] pos) (HN ta):=by
 intro pins s σ H R I h
 refine Call_ (jC I hg hm boot_enumerate (t9 (cK (ha pos pins s σ H _ I h) fun us s1 ⟨vs,H1,I1,r1,q1⟩=>?_) hs rfl))
 obtain⟨z,e,q⟩:=q1
 subst e
 obtain⟨u,rfl,ru⟩:=r1.one
 obtain⟨t,rfl⟩:=ru
 refine call_enumerate_str fun h' he hit hz kp=>?_
 have I2:Inv X pins σ H1 { s1 with heap:=h' }:=I1.kept (t':=s1.toks) kp
 have hne:s1.heap.objs.size+1≠s1.heap.objs.size:=by omega
 refine wpAny_pyIter_enum he ⟨s1.heap.objs.size+1,[s1.heap.objs.size+1,s1.heap.objs.size],_,_,H1,rfl,I2,Bw z t (strIterType z) _ _ hne (by unfold strIterType;split <;> simp),⟨⟨_,he⟩,hit⟩,fun b hb=>?_,q⟩
 have hle:s1.heap.objs.size≤b:=by
  simp only [c7,o8,or_false] at hb
  rcases hb with h | h <;> rw[h]
  ·exact aQ9 _ _
  ·exact c0 _
 exact I1.fpOk hle (I1.hok.fresh hle)
end
theorem B5{w:List Nat}{g:TG}{tb:TS}{D:Ends}{σ:St}{H:Hp}(Pv:Nat→St→Hp→Prop)(h0:Pv 0 σ H)
  (hs:∀ i c p σ H,w[i]?=some c→H p=none→Pv i σ H→g (.ref p) σ (upd H p (.tup [.int (i:Nat),.str (S [c])])) fun σ2 H2=>tb { D with nx:=Pv (i+1),ct:=Pv (i+1),bk:=D.nx } σ2 H2) (hd:∀ σ H,Pv w.length σ H→D.nx σ H) :
  ∃ W:Nat→Nat→St→Hp→Prop,(∃ m,W 0 m σ H)∧∀ i m σ H,W i m σ H →
   ((FA (S w)).stop i H∧D.nx σ H)∨((FA (S w)).go i H∧∃ N:St→Hp→Prop,(∀ σ' H',N σ' H'→∃ m',m' < m∧W (i+1) m' σ' H')∧∀ x H',(FA (S w)).yld i H x H'→g x σ H' fun σ2 H2=>tb { D with nx:=N,ct:=N,bk:=D.nx } σ2 H2):=by
 refine⟨fun i m σ H=>m=w.length - i∧i≤w.length∧Pv i σ H,⟨w.length,by simp,l7 _,h0⟩,?_⟩
 rintro i m σ H ⟨rfl,hi,p⟩
 by_cases hlt:i<w.length
 ·refine .inr ⟨by simpa [FA] using hlt,Pv (i+1),fun σ' H' p'=>⟨w.length - (i+1),by omega,rfl,hlt,p'⟩,fun x H' y=>?_⟩
  obtain⟨pp,c,rfl,hn,rfl,hc⟩:=y
  exact hs i c pp σ H (by simpa using hc) hn p
 ·have e:i=w.length:=by omega
  subst e
  exact .inl ⟨by simp[FA],hd σ H p⟩
section
variable {prog:Program}{w:World}{A:Around}{E:Value→Shared→Prop}{s:Shared}
theorem zH{t sl:Addr}{items:Array Value}{vl vu:Value}{lo hi:Option Int}{Q:Value→Shared→Prop}(ht:IsTup s.heap t items)(hs:s.heap.IsSliceOf sl vl vu .none)(pl:IsPart vl lo)(pu:IsPart vu hi)
  (h1:HT.sIx items.size 0 lo=0) (h2:HT.sIx items.size items.size hi=items.size)
  (h:Q (.ref t) s):wpAny (model prog w) A (getItem (.ref t) (.ref sl)) Q E s:=by
 obtain⟨os,hos,hcs,hds⟩:=id hs
 have hTs:s.TypeIs (.ref sl) "slice":=⟨os,hos,hcs⟩
 unfold getItem
 try with_reducible refine wpAny_holding ?_
 first | refine wpAny_bind (wpAny_pure ?_) | skip
 refine wpAny_bind (wpAny_sequenceKey ht.typeIs (by decide) ?_)
 refine wpAny_bind (wpAny_callSpecial?_slot (name:=Str.ofString "__getitem__") ht.typeIs o0
  (wpAny_call_entry o0 ht.typeIs entry_tuple_getitem ?_ (args_tuple_getitem _ _)))
 show wpAny _ _ (Builtin.Tuple.tupleItemsOf (.ref t) >>= _) _ _ s
 refine wpAny_bind (tupleItemsOf_ ht ?_)
 refine wpAny_bind (wpAny_typeOf hTs ?_)
 rw[if_pos (by decide)]
 refine wpAny_bind (HT.sliceApplied_gen hs pl pu ?_)
 rw[h1,h2]
 show wpAny _ _ (if (((0:Nat):Int) == 0 && (1:Int) == 1 && (items.size - 0) == items.size)=true then _ else _) _ _ s
 rw[if_pos (by simp)]
 refine wpAny_bind ?_
 unfold Builtin.Tuple.tupleIsExact
 refine wpAny_bind (wpAny_typeOf ht.typeIs (wpAny_pure ?_))
 rw[if_pos (by decide)]
 exact wpAny_bind (wpAny_rule (wpAny_pure ⟨_,rfl,wpAny_pure h⟩))
end
inductive rSlBI(K:b5)(x:V)(lo:Option Int)(hi:Option Int)(H:Hp)(Q:VK):Prop
 | mk (a:Addr) (xs:List V) (j:Nat) (_:x=.ref a) (_:SqT K H a xs) (_:lo=none) (_:hi=some (j:Int)) (_:j≤xs.length) (_:(j<xs.length→∀ p,H p=none→Q (.ref p) (upd H p (.tup (xs.take j))))) (_:(j=xs.length→Q (.ref a) H)):rSlBI K x lo hi H Q
def J1(K:b5):V→Option Int→Option Int→Hp→VK→Prop:=fun x lo hi H Q=>rSlBI K x lo hi H Q
theorem DO{X:Cx}{K:b5}(hK:X.K=K):IM X (J1 K):=by
 subst hK
 intro pins s σ H x v vl vu lo hi sl Q I rx hs pl pu h
 obtain⟨a,xs,j,rfl,hx,rfl,rfl,hj,q1,q2⟩:=h
 have e0:HT.sIx xs.length 0 none=0:=rfl
 have e1:HT.sIx xs.length xs.length (some (j:Int))=j:=by
  unfold HT.sIx
  simp only
  rw[if_neg (by omega)]
  simp
  omega
 rcases Nat.lt_or_ge j xs.length with hlt | hge
 ·refine GZ pins s σ H _ v vl vu _ _ sl Q I rx hs pl pu ⟨a,xs,rfl,hx,fun z=>?_,?_⟩
  ·rw[e1] at z;omega
  ·have e:wM xs none (some (j:Int))=xs.take j:=by
    unfold wM
    rw[e1,e0]
    simp
   rw[e]
   exact q1 hlt
 ·have ej:j=xs.length:=by omega
  cases rx
  obtain⟨its,r,ht,hz⟩:=I.tuple hx
  have hlen:its.toArray.size=xs.length:=by rw[d3];exact r.length.symm
  refine⟨"tuple",_,o0.lookup,ht.typeIs,?_⟩
  exact zH ht hs pl pu (by rw[hlen];exact e0) (by rw[hlen,e1];exact ej) ⟨.ref a,H,I,rfl,q2 ej⟩
end L2
namespace L2
open PySem PySem.W PyProof.Rows
def KTr(lt:Nat→Nat→Bool)(n:Nat){α:Type}:KasT α→(α→Prop)→Prop
 | .ret a,Q=>Q a
 | .ask i j k,Q=>i<n∧j<n∧KTr lt n (k (lt i j)) Q
theorem KTr.bind{lt:Nat→Nat→Bool}{n:Nat}{α β:Type}{f:α→KasT β}{Q:β→Prop}:∀ {t:KasT α},KTr lt n t (fun a=>KTr lt n (f a) Q)→KTr lt n (t.bind f) Q
 | .ret a,h=>h
 | .ask i j k,h=>⟨h.1,h.2.1,KTr.bind h.2.2⟩
theorem KTr.wp{lt:Nat→Nat→Bool}{n:Nat}{α:Type}{cmp:Nat→Nat→(Bool→Shared→Prop)→Shared→Prop}{Ok:Shared→Prop}
  (hc:∀ i j C s,i<n→j<n→Ok s→(∀ s',Ok s'→C (lt i j) s')→cmp i j C s) {Q:α→Prop} {R:α→Shared→Prop} (hq:∀ a s,Q a→Ok s→R a s):∀ {t:KasT α} {s:Shared},KTr lt n t Q→Ok s→t.kasWp cmp R s
 | .ret a,s,h,o=>hq a s h o
 | .ask i j k,s,h,o=>hc i j _ s h.1 h.2.1 o fun s' o'=>KTr.wp hc hq h.2.2 o'
structure TotLt(lt:Nat→Nat→Bool):Prop where
 asym:∀ i j,lt i j=true→lt j i=false
 tr:∀ i j k,lt j i=false→lt k j=false→lt k i=false
section
variable {lt:Nat→Nat→Bool}{n:Nat}
theorem TotLt.irr(T:TotLt lt)(i:Nat):lt i i=false:=by
 cases h:lt i i with
 | false=>rfl
 | true=>have:=T.asym i i h;rw[h] at this;cases this
def PermN(n:Nat)(p:Array Nat):Prop:=p.Perm (List.toArray (List.range n))
theorem PermN.size{p:Array Nat}(h:PermN n p):p.size=n:=by
 have:=(aQY.mp h).length_eq
 simpa using this
theorem PermN.below{p:Array Nat}(h:PermN n p){i:Nat}(hi:i<n):p.getD i 0<n:=by
 have hs:=h.size
 have e:p.getD i 0=p[i]'(by omega):=by simp[Array.getD,show i<p.size by omega]
 rw[e]
 have hm:p[i]'(by omega)∈p:=Array.getElem_mem _
 have:p[i]'(by omega)∈(List.toArray (List.range n)):=h.mem_iff.mp hm
 simpa using this
theorem lZ{p q:Array Nat}{i j:Nat}(h:p[i]?=q[j]?):p.getD i 0=q.getD j 0:=by
 rw[aX7,aX7,h]
theorem Ao{p:Array Nat}{i j:Nat}(hj:j≤p.size)(k:Nat):(kas_rev p i j).getD k 0=if i≤k∧k<j then p.getD (i+j - 1 - k) 0 else p.getD k 0:=by
 have:=getElem?_mirror_all (i:=i) hj k
 unfold kas_rev
 split
 ·rename_i h;rw[if_pos h] at this;exact lZ this
 ·rename_i h;rw[if_neg h] at this;exact lZ this
theorem PermN.rev{p:Array Nat}(h:PermN n p)(i j:Nat):PermN n (kas_rev p i j):=(mirror_perm p i j _).trans h
theorem PermN.bub{p:Array Nat}(h:PermN n p)(k d:Nat):PermN n (bubble p k d):=(bubble_perm p k d).trans h
def jN(lt:Nat→Nat→Bool)(p:Array Nat)(m:Nat):Prop:=∀ i j,i≤j→j<m→lt (p.getD j 0) (p.getD i 0)=false
def kX(lt:Nat→Nat→Bool)(p:Array Nat)(m:Nat):Prop:=∀ i j,i≤j→j<m→lt (p.getD i 0) (p.getD j 0)=false
def Jx(lt:Nat→Nat→Bool)(p:Array Nat)(m q:Nat):Prop:=∀ i j,m≤i+q+1→i<m→m≤j+q+1→j<m→lt (p.getD i 0) (p.getD j 0)=false
theorem zB(T:TotLt lt){p:Array Nat}(g:PermN n p){Q:Nat→Prop}:∀ (f m:Nat),1≤m→m+f=n→jN lt p m →
  (∀ m',m≤m'→m'≤n→jN lt p m'→(m'=n∨lt (p.getD m' 0) (p.getD (m' - 1) 0)=true)→Q m')→KTr lt n (kas_asc p f m) Q
 | 0,m,h1,h2,hs,hq=>hq m (c0 _) (by omega) hs (.inl (by omega))
 | f+1,m,h1,h2,hs,hq=>by
  refine⟨g.below (by omega),g.below (by omega),?_⟩
  cases hc:lt (p.getD m 0) (p.getD (m - 1) 0) with
  | true=>exact hq m (c0 _) (by omega) hs (.inr hc)
  | false =>
   refine zB T g f (m+1) (by omega) (by omega) (fun i j hij hj=>?_) fun m' hm=>hq m' (by omega)
   by_cases e:j=m
   ·subst e
    by_cases e2:i=j
    ·subst e2;exact T.irr _
    ·exact T.tr _ _ _ (hs i (j - 1) (by omega) (by omega)) hc
   ·exact hs i j hij (by omega)
theorem BJ(T:TotLt lt){p q:Array Nat}{m:Nat}(h:kX lt p m)(e1:∀ i,i<m→lt (q.getD i 0) (p.getD i 0)=false)(e2:∀ i,i<m→lt (p.getD i 0) (q.getD i 0)=false):kX lt q m:=fun i j hij hj =>
 T.tr _ _ _ (e2 j hj) (T.tr _ _ _ (h i j hij hj) (e1 i (by omega)))
theorem mZ(T:TotLt lt){p:Array Nat}(g:PermN n p){m q k:Nat}(hm:m≤n)(hq:q+1≤m)(hmk:m≤k)(h:kX lt p k)(e:Jx lt p m q):kX lt (kas_rev p (m - (q+1)) m) k:=by
 have hs:=g.size
 have rd:=Ao (p:=p) (i:=m - (q+1)) (j:=m) (by omega)
 refine BJ T h (fun i hi=>?_) fun i hi=>?_
 ·rw[rd]
  split
  ·exact e _ _ (by omega) (by omega) (by omega) (by omega)
  ·exact T.irr _
 ·rw[rd]
  split
  ·exact e _ _ (by omega) (by omega) (by omega) (by omega)
  ·exact T.irr _
theorem oQ(T:TotLt lt){Q:Array Nat×Nat×Nat→Prop}:∀ (f:Nat) (p:Array Nat) (m q:Nat),PermN n p→1≤m→q+1≤m→m+f=n→kX lt p m→Jx lt p m q →
  (∀ p' m' q',PermN n p'→1≤m'→m'≤n→q' + 1≤m'→kX lt p' m'→Jx lt p' m' q'→Q (p',m',q'))→KTr lt n (kas_desc f p m q) Q
 | 0,p,m,q,g,h1,hq,h2,hn,he,k=>k p m q g h1 (by omega) hq hn he
 | f+1,p,m,q,g,h1,hq,h2,hn,he,k=>by
  refine⟨g.below (by omega),g.below (by omega),?_⟩
  cases hc:lt (p.getD m 0) (p.getD (m - 1) 0) with
  | true =>
   have hn1:kX lt p (m+1):=fun i j hij hj=>by
    by_cases e:j=m
    ·subst e
     by_cases e2:i=j
     ·subst e2;exact T.irr _
     ·exact T.tr _ _ _ (T.asym _ _ hc) (hn i (j - 1) (by omega) (by omega))
    ·exact hn i j hij (by omega)
   have z0:∀ (p:Array Nat) (m:Nat),Jx lt p (m+1) 0:=fun p m i j hi hi2 hj hj2=>by
    have e1:i=m:=by omega
    have e2:j=m:=by omega
    rw[e1,e2];exact T.irr _
   show KTr lt n (if q > 0 then _ else _) Q
   split
   ·exact oQ T f _ (m+1) 0 (g.rev _ _) (by omega) (by omega) (by omega) (mZ T g (by omega) hq (by omega) hn1 he) (z0 _ _) k
   ·exact oQ T f p (m+1) 0 g (by omega) (by omega) (by omega) hn1 (z0 _ _) k
  | false =>
   refine⟨g.below (by omega),g.below (by omega),?_⟩
   cases hd:lt (p.getD (m - 1) 0) (p.getD m 0) with
   | true=>exact k p m q g h1 (by omega) hq hn he
   | false =>
    refine oQ T f p (m+1) (q+1) g (by omega) (by omega) (by omega) (fun i j hij hj=>?_) (fun i j hi hi2 hj hj2=>?_) k
    ·by_cases e:j=m
     ·subst e
      by_cases e2:i=j
      ·subst e2;exact T.irr _
      ·exact T.tr _ _ _ hd (hn i (j - 1) (by omega) (by omega)) |> fun z=>by
        first | exact z | exact T.tr _ _ _ hc (hn i (j - 1) (by omega) (by omega))
     ·exact hn i j hij (by omega)
    ·by_cases e:i=m
     ·subst e
      by_cases e2:j=i
      ·subst e2;exact T.irr _
      ·exact T.tr _ _ _ (he j (i - 1) (by omega) (by omega) (by omega) (by omega) |> fun z=>he (i - 1) j (by omega) (by omega) (by omega) (by omega)) hc
     ·by_cases e2:j=m
      ·subst e2
       exact T.tr _ _ _ hd (he i (j - 1) (by omega) (by omega) (by omega) (by omega))
      ·exact he i j (by omega) (by omega) (by omega) (by omega)
theorem wN(T:TotLt lt){p:Array Nat}(g:PermN n p){m:Nat}(h1:1≤m)(hm:m≤n)(hn:kX lt p m){Q:Nat×Array Nat→Prop}
  (k:∀ p' m',PermN n p'→1≤m'→m'≤n→jN lt p' m'→Q (m',p')):KTr lt n (kas_tail3 m n p) Q:=by
 unfold kas_tail3
 have hs:=g.size
 have rd:=Ao (p:=p) (i:=0) (j:=m) (by omega)
 refine KTr.bind (zB T (g.rev 0 m) (n - m) m h1 (by omega) (fun i j hij hj=>?_) fun m' hm' hn' so _=>k _ m' (g.rev 0 m) (by omega) hn' so)
 rw[rd,rd,if_pos ⟨by omega,by omega⟩,if_pos ⟨by omega,by omega⟩]
 exact hn _ _ (by omega) (by omega)
theorem nW(T:TotLt lt){p:Array Nat}(g:PermN n p){m:Nat}(hm:m+1≤n)(hn:kX lt p (m+1)){Q:Nat×Array Nat→Prop}
  (k:∀ p' m',PermN n p'→1≤m'→m'≤n→jN lt p' m'→Q (m',p')):KTr lt n (kas_descPart m n p) Q:=by
 unfold kas_descPart
 refine KTr.bind (oQ T (n - (m+1)) p (m+1) 0 g (by omega) (by omega) (by omega) hn (fun i j hi hi2 hj hj2=>?_) fun p' m' q' g' h1 h2 hq hn' he=>?_)
 ·have e1:i=m:=by omega
  have e2:j=m:=by omega
  rw[e1,e2];exact T.irr _
 ·show KTr lt n (if q' > 0 then _ else _) Q
  split
  ·exact wN T (g'.rev _ _) h1 h2 (mZ T g' h2 hq (c0 _) hn' he) k
  ·exact wN T g' h1 h2 hn' k
theorem Cy(T:TotLt lt){p:Array Nat}(g:PermN n p)(h1:1≤n){Q:Nat×Array Nat→Prop}
  (k:∀ p' m',PermN n p'→1≤m'→m'≤n→jN lt p' m'→Q (m',p')):KTr lt n (kas_count n p) Q:=by
 unfold kas_count
 have hs:=g.size
 refine KTr.bind (zB T g (n - 1) 1 (c0 _) (by omega) (fun i j hij hj=>?_) fun m hm hn so hor=>?_)
 ·have e1:i=j:=by omega
  rw[e1];exact T.irr _
 ·split
  ·exact k p m g hm hn so
  ·rename_i hne
   have hne':m≠n:=fun e=>hne (by rw[e];simp)
   have hlt:lt (p.getD m 0) (p.getD (m - 1) 0)=true:=by
    rcases hor with e | e
    ·exact absurd e hne'
    ·exact e
   split
   ·rename_i hm1
    refine⟨g.below (by omega),g.below (by omega),?_⟩
    cases hc:lt (p.getD 0 0) (p.getD (m - 1) 0) with
    | true=>exact k p m g hm hn so
    | false =>
     have all:∀ i j,i<m→j<m→lt (p.getD i 0) (p.getD j 0)=false:=fun i j hi hj =>
      T.tr _ _ _ (so j (m - 1) (by omega) (by omega)) (T.tr _ _ _ hc (so 0 i (by omega) hi))
     have hn1:kX lt p (m+1):=fun i j hij hj=>by
      by_cases e:j=m
      ·subst e
       by_cases e2:i=j
       ·subst e2;exact T.irr _
       ·exact T.tr _ _ _ (T.asym _ _ hlt) (all i (j - 1) (by omega) (by omega))
      ·exact all i j (by omega) (by omega)
     have hr:=mZ T g (q:=m - 1) hn (by omega) (aQg m) hn1 (fun i j _ hi _ hj=>all i j hi hj)
     rw[show m - (m - 1+1)=0 by omega] at hr
     exact nW T (g.rev 0 m) (by omega) hr k
   ·rename_i hm1
    have e1:m=1:=by omega
    subst e1
    refine nW T g (by omega) (fun i j hij hj=>?_) k
    by_cases e:i=j
    ·subst e;exact T.irr _
    ·have e1:i=0:=by omega
     have e2:j=1:=by omega
     rw[e1,e2]
     exact T.asym _ _ hlt
theorem qW(T:TotLt lt){p:Array Nat}(g:PermN n p){k:Nat}(hk:k<n)(so:jN lt p k){Q:Nat→Prop}:∀ (f l r:Nat),l≤r→r≤k→r - l≤f→(∀ i,i<l→lt (p.getD k 0) (p.getD i 0)=false)→(∀ i,r≤i→i<k→lt (p.getD k 0) (p.getD i 0)=true) →
  (∀ l',l'≤k→(∀ i,i<l'→lt (p.getD k 0) (p.getD i 0)=false)→(∀ i,l'≤i→i<k→lt (p.getD k 0) (p.getD i 0)=true)→Q l')→KTr lt n (kas_place p k f l r) Q
 | 0,l,r,h1,h2,h3,ha,hb,q=>q l (by omega) ha fun i hi=>hb i (by omega)
 | f+1,l,r,h1,h2,h3,ha,hb,q=>by
  show KTr lt n (if l ≥ r then _ else _) Q
  split
  ·exact q l (by omega) ha fun i hi=>hb i (by omega)
  ·refine⟨g.below hk,g.below (by omega),?_⟩
   cases hc:lt (p.getD k 0) (p.getD ((l+r) / 2) 0) with
   | true =>
    refine qW T g hk so f l ((l+r) / 2) (by omega) (by omega) (by omega) ha (fun i hi hik=>?_) q
    cases hz:lt (p.getD k 0) (p.getD i 0) with
    | true=>rfl
    | false =>
     have:=T.tr _ _ _ (so ((l+r) / 2) i hi hik) hz
     rw[hc] at this;cases this
   | false =>
    refine qW T g hk so f ((l+r) / 2+1) r (by omega) h2 (by omega) (fun i hi=>?_) hb q
    exact T.tr _ _ _ (so i ((l+r) / 2) (by omega) (by omega)) hc
theorem EW{p:Array Nat}{k l:Nat}(hk:k<p.size)(hl:l≤k)(i:Nat):(bubble p k (k - l)).getD i 0=if i=l then p.getD k 0 else if l<i∧i≤k then p.getD (i - 1) 0 else p.getD i 0:=by
 have:=getElem?_bubble hk (k - l) (by omega) i
 rw[show k - (k - l)=l by omega] at this
 by_cases h:i=l
 ·rw[if_pos h] at this ⊢;exact lZ this
 ·rw[if_neg h] at this ⊢
  by_cases h2:l<i∧i≤k
  ·rw[if_pos h2] at this ⊢;exact lZ this
  ·rw[if_neg h2] at this ⊢;exact lZ this
theorem C2(T:TotLt lt){Q:Array Nat→Prop}:∀ (f:Nat) (p:Array Nat) (k:Nat),PermN n p→k+f=n→jN lt p k→(∀ p',PermN n p'→jN lt p' n→Q p')→KTr lt n (kas_bin f p k) Q
 | 0,p,k,g,h,so,q=>q p g (by rw[← h];exact so)
 | f+1,p,k,g,h,so,q=>by
  have hs:=g.size
  refine KTr.bind (qW T g (by omega) so k 0 k (by omega) (c0 _) (by omega) (fun i hi=>absurd hi (x6 _)) (fun i h1 h2=>absurd h2 (by omega)) fun l hl ha hb=>?_)
  refine C2 T f _ (k+1) (g.bub _ _) (by omega) (fun i j hij hj=>?_) q
  have rd:=EW (p:=p) (k:=k) (l:=l) (by omega) hl
  rw[rd,rd]
  by_cases e1:i=j
  ·subst e1;exact T.irr _
  ·by_cases cj:j=l
   ·rw[if_pos cj,if_neg (by omega),if_neg (by omega)]
    exact ha i (by omega)
   ·rw[if_neg cj]
    by_cases ci:i=l
    ·rw[if_pos ci,if_pos (by omega)]
     exact T.asym _ _ (hb (j - 1) (by omega) (by omega))
    ·rw[if_neg ci]
     split <;> split
     ·exact so _ _ (by omega) (by omega)
     ·exact so _ _ (by omega) (by omega)
     ·exact so _ _ (by omega) (by omega)
     ·exact so _ _ (by omega) (by omega)
theorem EL(T:TotLt lt)(h1:1≤n):KTr lt n (kas_sort n) fun p=>PermN n p∧jN lt p n:=by
 unfold kas_sort
 refine KTr.bind (Cy T (aJH _) h1 fun p m g h2 h3 so=>?_)
 show KTr lt n (if m<n then _ else _) _
 split
 ·rw[show max m 1=m by omega]
  exact C2 T (n - m) p m g (by omega) so fun p' g' so'=>⟨g',so'⟩
 ·rename_i h
  have e:m=n:=by omega
  subst e
  exact⟨g,so⟩
end
end L2
namespace L2
open PySem PySem.W PySem.Spec PyProof.Rows
def nO(x y:Int×List Int):Bool:=if x.1=y.1 then HT.lexLt x.2 y.2 else decide (x.1<y.1)
def qL(H:Hp)(v:V)(k:Int×List Int):Prop:=∃ (p a:Addr),v=.ref p∧H p=some (.tup [.int k.1,.ref a])∧H a=some (.lst (k.2.map V.int))
theorem DT{X:Cx}{pins:List (Addr×Obj)}{σ:St}{H:Hp}{s:Shared}(hu:X.A.units+8<cLine)(I:Inv X pins σ H s){v y:V}{u z:Value}{k m:Int×List Int}(hv:qL H v k)(hw:qL H y m)(ru:RelV v u)(rz:RelV y z)
  (hl:k.1=m.1→k.2.length=m.2.length) {Q:Bool→Shared→Prop} {E:Value→Shared→Prop} (h:Q (nO k m) s):wpAny (model X.prog X.w) X.A (keyLt' (tuples' true) u z) Q E s:=by
 obtain⟨L,ns⟩:=k
 obtain⟨M,ms⟩:=m
 obtain⟨p,a,rfl,hp,ha⟩:=hv
 obtain⟨q,c,rfl,hq,hc⟩:=hw
 cases ru
 cases rz
 obtain⟨_,ip,rp,⟨op,gp1,gp2,np,gp3⟩,_⟩:=I.hok p _ hp
 obtain⟨_,iq,rq,⟨oq,gq1,gq2,nq,gq3⟩,_⟩:=I.hok q _ hq
 obtain⟨u1,u2,rfl,r1,r2⟩:=rp.two
 obtain⟨w1,w2,rfl,r3,r4⟩:=rq.two
 obtain⟨t1,rfl⟩:=r1
 obtain⟨t3,rfl⟩:=r3
 cases r2
 cases r4
 obtain⟨_,us,n1,ru,gu⟩:=I.hok a _ ha
 obtain⟨_,vs,n2,rv,gv⟩:=I.hok c _ hc
 have lus:us.length=ns.length:=by rw[← ru.length,b7]
 have lvs:vs.length=ms.length:=by rw[← rv.length,b7]
 have hla:s.heap.IsList a us.toArray:=⟨_,gu,rfl,n1,rfl⟩
 have hlc:s.heap.IsList c vs.toArray:=⟨_,gv,rfl,n2,rfl⟩
 have fl:∀ zs:List Int,(zs.map V.int).all gN=true:=fun zs=>by rw[aJk];exact aQL.mpr fun _ _=>rfl
 have hu1:X.A.in1.units<cLine:=by unfold Around.in1;show X.A.units+1<cLine;omega
 have hu0:X.A.units<cLine:=by omega
 have hiu:=rG ru
 have hiv:=rG rv
 refine kat_lt gp1 gp3 gq1 gq3 ?_
 refine kat_cons ((aX4 L t1 M t3 (A:=X.A) (s:=s)) X.prog X.w _ _ ?_)
 show KatGo _ _ _ _ _ _ _ _ _ _ (L == M) s
 by_cases e:L=M
 ·subst e
  have hlen:ns.length=ms.length:=hl rfl
  have h':Q (HT.lexLt ns ms) s:=by
   have:nO (L,ns) (L,ms)=HT.lexLt ns ms:=by unfold nO;rw[if_pos rfl]
   rw[← this];exact h
  rw[show (L == L)=true from by simp]
  refine kat_yes ?_
  have heq:SeqAt.EqAt X.A s (.ref a) (.ref c) (decide (ns=ms)):=by
   by_cases hac:a=c
   ·subst hac
    rw[ha] at hc
    have e1:ns=ms:=by
     have:=HO.lst.inj (d9 hc)
     exact(List.map_inj_right (fun x y h=>V.int.inj h)).mp this
    rw[decide_eq_true e1]
    exact aJD _
   ·have z:=SeqAt.RcAt.lists (A:=X.A) hla hlc (by simp;omega) hu0 (qJ (A:=X.A.in1) (s:=s) ru rv (fl ns) (fl ms))
    rw[d3,← ru.length,jA (by rw[b7,b7];exact hlen),qA] at z
    exact SeqAt.EqAt.of_refs hac z
  refine kat_cons (heq X.prog X.w _ _ ?_)
  show KatGo _ _ _ _ _ _ _ _ _ _ (decide (ns=ms)) s
  by_cases e2:ns=ms
  ·rw[decide_eq_true e2]
   refine kat_yes (kat_nil ?_)
   rw[e2,qE] at h'
   exact h'
  ·rw[decide_eq_false e2]
   refine kat_no (kat_one _ _ ?_)
   exact richCompare_meets_room (op:=.Lt) ⟨_,gu,rfl⟩ ⟨_,gv,rfl⟩ PySem.F.slot_list_lt PySem.F.entry_list_lt (PySem.F.args_list_lt_2 _ _) (LtL.list_lt a c us vs n1 n2 ns ms hiu hiv (by omega))
    ⟨gu,gv,show Value.bool (HT.lexLt ns ms)≠Value.notImplemented∧PySem.W.BoolBack Q (.bool (HT.lexLt ns ms)) s from ⟨(fun x=>nomatch x),h'⟩⟩ hu0
 ·have h':Q (decide (L<M)) s:=by
   have:nO (L,ns) (M,ms)=decide (L<M):=by unfold nO;rw[if_neg e]
   rw[← this];exact h
  rw[show (L == M)=false from by simpa using e]
  exact kat_no (oneLt_int h')
section
variable {X:Cx}{pins:List (Addr×Obj)}{σ:St}{H:Hp}{s:Shared}{h':Heap}
theorem Inv.adopt{t':Nat}{D:Addr}{xs:List V}(I:Inv X pins σ H s)(k:∀ b o,b≠D→s.heap.get? b=some o→h'.get? b=some o)(hf:iH X pins H D)
  (new:ObjOk X.prog X.w (upd H D (.lst xs)) h' D (.lst xs)):Inv X pins σ (upd H D (.lst xs)) { s with heap:=h',toks:=t' }:=by
 obtain⟨f0,f1,f2,f3,f4,f5⟩:=hf
 have un:∀ {b u},H b=some u→upd H D (.lst xs) b=some u:=fun e=>by rw[aE (aJ e f0)];exact e
 have nch:∀ {b u},H b=some u→b≠D:=fun e=>aJ e f0
 refine I.step (g':=s.gens) (d':=s.drawn) (ch:=[D]) (fun b hb=>?_) (fun b o _ _ hc e _=>k b o (by simpa using hc) e) (fun b o _ _ hc e _=>⟨o.slots,k b o (by simpa using hc) e⟩) (fun b o hc e n=>?_) (fun b o hc e=>⟨o,k b o (by simpa using hc) e⟩) (fun _ _ e=>un e) (fun _ _ _ e=>un e)
  (fun b ps e=>⟨#[],by rw[un e];simp⟩) (fun m hm=>?_) (fun b u e=>?_) I.bare
 ·have e:b=D:=by simpa using hb
  subst e
  exact⟨f3,f1,f4,f5⟩
 ·rw[aE (by simpa using hc)]
  exact n
 ·obtain⟨o,es,ep,ho,r⟩:=hm
  exact⟨o,es,ep,k _ o (fun z=>f1 z.symm) ho,r⟩
 ·by_cases hb:b=D
  ·subst hb
   rw[aC] at e
   cases e
   exact new
  ·rw[aE hb] at e
   refine(I.hok b u e).stay (fun c v hc q=>k c v ?_ q) (fun c q=>un q) fun c ys q=>un q
   rcases hc with z | z
   ·rw[z];exact hb
   ·exact nch z
end
def FR(K:b5)(sp:Sp)(ta:TA):TE:=fun σ H Q=>ta σ H fun vs H1=>∃ (l:Addr) (xs:List V) (kz:List (Int×List Int)) (Pv:Addr→Nat→List V→Hp→Prop),vs=[.ref l]∧SqL K H1 l xs∧xs.length<64∧kz.length=xs.length ∧
 (∀ (i j:Nat) (a b:Int×List Int),kz[i]?=some a→kz[j]?=some b→a.1=b.1→a.2.length=b.2.length)∧TotLt (fun i j=>nO (kz.getD i (0,[])) (kz.getD j (0,[]))) ∧
 (∀ S,H1 S=none→Pv S 0 [] (upd H1 S (.lst []))) ∧
 (∀ S i ks H,Pv S i ks H→∀ y,xs[i]?=some y→sp [y] H (fun v H2=>H2 S=some (.lst ks)∧ks.length=i∧Pv S (i+1) (ks++[v]) (upd H2 S (.lst (ks++[v])))) E0) ∧
 (∀ S ks H,Pv S xs.length ks H→H S=some (.lst ks)∧ks.length=xs.length∧(∀ (i:Nat) (v:V) (k:Int×List Int),ks[i]?=some v→kz[i]?=some k→qL H v k) ∧
  ∀ p:Array Nat,PermN xs.length p→jN (fun i j=>nO (kz.getD i (0,[])) (kz.getD j (0,[]))) p xs.length→∀ D,upd H S (.lst []) D=none→Q (.ref D) (upd (upd H S (.lst [])) D (.lst (p.toList.map fun i=>xs.getD i .non))))
section
variable {X:Cx}{k:Nat}{f:Addr}{fd:FuncData}{ps:List Str}{sp:Sp}
theorem AL{pins:List (Addr×Obj)}{σ:St}{S:Addr}{xs:List V}{Pv:Nat→List V→Hp→Prop}{body:Value→PUnit→Sem (ForInStep PUnit)}{E:Value→Shared→Prop}
  (F:FnOk X.prog X.w X.K X.mg X.base AV k f fd ps sp) (hr:Room k X.one.one.A) (hb:Binds X.K fd ps []) (h64:xs.length<64)
  (hbody:∀ x (s:Shared) (R:ForInStep PUnit→Shared→Prop),wpAny (model X.prog X.w) X.one.one.A (call (.ref f) [x]) (fun kv s'=>wpAny (model X.prog X.w) X.one.one.A (Builtin.List.listUpdate (.ref S) (·.push kv)) (fun _ s''=>R (.yield ⟨⟩) s'') E s') (fun _ _=>False) s→wpAny (model X.prog X.w) X.one.one.A (body x ⟨⟩) R E s)
  (hst:∀ i ks H,Pv i ks H→∀ y,xs[i]?=some y→sp [y] H (fun v H2=>H2 S=some (.lst ks)∧ks.length=i∧Pv (i+1) (ks++[v]) (upd H2 S (.lst (ks++[v])))) E0) :
  ∀ (r:List V) (us:List Value) (i:Nat) (ks:List V) (s:Shared) (H:Hp),Vals r us→xs.drop i=r→i+r.length=xs.length→Inv X.one.one pins σ H s→Pv i ks H →
   wpAny (model X.prog X.w) X.one.one.A (forIn us PUnit.unit body) (fun _ s'=>∃ ks H',Inv X.one.one pins σ H' s'∧Pv xs.length ks H') E s
 | [],us,i,ks,s,H,rv,hd,hl,I,pv=>by
  cases rv
  rw[aZQ]
  have:i=xs.length:=by simpa using hl
  subst this
  exact wpAny_pure ⟨ks,H,I,pv⟩
 | y::r,us,i,ks,s,H,rv,hd,hl,I,pv=>by
  cases rv with
  | cons ru rr =>
   rename_i u us
   have hy:xs[i]?=some y:=by
    have:=congrArg List.head? hd
    rw[List.head?_drop] at this
    exact this
   rw[aXP]
   refine wpAny_bind (hbody _ _ _ (wpAny_mono (vF (X:=X.one.one) F hr hb .nil fW I (.cons ru .nil) (hst i ks H pv y hy)) (fun kv s1 hq=>?_) fun _ _ e=>e))
   obtain⟨v,H1,I1,rk,eS,hkl,pv1⟩:=hq
   obtain⟨z,its,n,rks,hlk,eo⟩:=I1.lstM eS
   rw[j0] at hl
   have h64':its.length<64:=by omega
   refine listUpdate_at eo rfl ?_ (by rw[d3,sizeLine_eq];omega) (j7 (aZ7 (Array.size_push ..)) (by rw[d3,sizeLine_eq];omega))
   have I2:=I1.lset (t':=s1.toks) (its':=its++[kv]) (ys:=ks++[v]) (f:=(·.push kv)) eS eo (by simp) (rks.append (.cons rk .nil)) (by rw[c5,u9,sizeLine_eq];omega)
   exact AL F hr hb h64 hbody hst r us (i+1) (ks++[v]) _ _ rr (by rw[← List.drop_drop,hd];rfl) (by omega) I2 pv1
theorem zD{kz:List (Int×List Int)}{i:Nat}(h:i<kz.length):kz[i]?=some (kz.getD i (0,[])):=by
 rw[b8,b0 h];rfl
theorem pO{pins:List (Addr×Obj)}{σ:St}{H:Hp}{s:Shared}(I:Inv X pins σ H s):∀ (ks:List V) (us:List Value),Vals ks us→(∀ v∈ks,∃ q,qL H v q)→∃ fs,PySem.W.KatTups s.heap us fs∧fs.length=us.length∧∀ v∈fs,∃ i t,v=Value.int i t
 | [],us,r,_=>by
  cases r
  exact⟨[],.nil,rfl,fun v hv=>(nomatch hv)⟩
 | v::ks,us,r,h=>by
  cases r with
  | cons r1 r2 =>
   obtain⟨fs,t,hl,hi⟩:=pO I ks _ r2 fun y hy=>h y (c8 _ hy)
   obtain⟨q,p,a,rfl,hp,ha⟩:=h v (d4 ..)
   cases r1
   obtain⟨_,ip,rp,⟨op,gp1,gp2,np,gp3⟩,_⟩:=I.hok p _ hp
   obtain⟨u1,u2,rfl,r1,r2⟩:=rp.two
   obtain⟨t1,rfl⟩:=r1
   refine⟨Value.int q.1 t1::fs,.cons gp1 gp2 gp3 (by simp) t,by simp[hl],fun y hy=>?_⟩
   rcases c7.mp hy with rfl | hy
   ·exact⟨_,_,rfl⟩
   ·exact hi y hy
theorem vB{xs:List V}{us:List Value}(r:Vals xs us)(i:Nat)(h:i<xs.length):RelV (xs.getD i .non) (us.getD i Value.none):=by
 obtain⟨u,hu,ru⟩:=r.get (b0 h)
 rw[b8,b8,hu,b0 h]
 exact ru
theorem sT{xs:List V}{us:List Value}(r:Vals xs us):∀ l:List Nat,(∀ i∈l,i<xs.length)→Vals (l.map fun i=>xs.getD i .non) (l.map fun i=>us.getD i Value.none)
 | [],_=>.nil
 | i::l,h=>.cons (vB r i (h i (d4 ..))) (sT r l fun j hj=>h j (c8 _ hj))
theorem Em(us vs:List Value)(h:us.length=vs.length):(us.toArray.zip vs.toArray).map (·.2)=vs.toArray:=by
 apply aZt.mp
 rw[Array.toList_map,ksk_zip]
 simp only [aXZ]
 rw[List.map_snd_zip (by omega)]
theorem zV(vs:List Value):List.toArray ((List.toArray (List.range vs.length)).toList.map fun i=>vs.getD i Value.none)=vs.toArray:=by
 congr 1
 refine aQz fun i=>?_
 by_cases h:i<vs.length
 ·simp[h]
 ·simp[h]
theorem Cf{pins:List (Addr×Obj)}{σ:St}{H:Hp}{s:Shared}{S D:Addr}{e1:Nat}{ks xs:List V}{vs:List Value}{kz:List (Int×List Int)}{P:PySem.Fin→Shared→Prop}{E:Value→Shared→Prop}(hu:X.one.one.A.units+8<cLine)
  (I:Inv X.one.one (pins++[(D,seqObj "list" #[] e1)]) σ H s) (hf:iH X.one.one pins H D) (eS:H S=some (.lst ks)) (rx:Vals xs vs) (hl:ks.length=xs.length) (h64:xs.length<64) (hkl:kz.length=xs.length)
  (hk:∀ (i:Nat) (v:V) (q:Int×List Int),ks[i]?=some v→kz[i]?=some q→qL H v q)
  (hlen:∀ (i j:Nat) (a b:Int×List Int),kz[i]?=some a→kz[j]?=some b→a.1=b.1→a.2.length=b.2.length) (T:TotLt (fun i j=>nO (kz.getD i (0,[])) (kz.getD j (0,[]))))
  (h:∀ (p:Array Nat) (s':Shared),PermN xs.length p→jN (fun i j=>nO (kz.getD i (0,[])) (kz.getD j (0,[]))) p xs.length→Inv X.one.one pins σ (upd (upd H S (.lst [])) D (.lst (p.toList.map fun i=>xs.getD i .non))) s'→P (.done (.ret .none)) s') :
  wpAny (model X.prog X.w) X.one.one.A (Builtin.List.listItems (.ref S) >>= fun keys=>ksk_end D false vs.toArray e1 (.ref S) keys) P E s:=by
 obtain⟨z,us,n,ru,hlu,eo⟩:=I.lstM eS
 have lx:=rx.length
 have hD:s.heap.get? D=some (seqObj "list" #[] e1):=(I.pin (D,seqObj "list" #[] e1) (j6 _ (j6 _ (aQb _)))).1
 refine wpAny_bind (listItems_at eo rfl ?_)
 -- the last steps: the keys' list is emptied,the sorted one is laid
 have tail:∀ (st:SortSt) (p:Array Nat) (s1:Shared),Inv X.one.one (pins++[(D,seqObj "list" #[] e1)]) σ H s1→(arrOf st).map (·.2)=List.toArray (p.toList.map fun i=>vs.getD i Value.none)→failedOf st=none→PermN xs.length p →
   jN (fun i j=>nO (kz.getD i (0,[])) (kz.getD j (0,[]))) p xs.length→wpAny (model X.prog X.w) X.one.one.A (ksk_tail D false e1 (.ref S) st) P E s1:=fun st p s1 I1 hout hfl hp hso=>by
  obtain⟨z1,us1,n1,ru1,hlu1,eo1⟩:=I1.lstM eS
  have I2:=I1.lset (t':=s1.toks) (its':=[]) (ys:=[]) (f:=fun _=>#[]) eS eo1 rfl .nil (l7 _)
  have hD1:s1.heap.get? D=some (seqObj "list" #[] e1):=(I1.pin (D,seqObj "list" #[] e1) (j6 _ (j6 _ (aQb _)))).1
  have hD2:(s1.heap.update S (Obj.mapSeq fun _=>(#[]:Array Value))).get? D=some (seqObj "list" #[] e1):=(I2.pin (D,seqObj "list" #[] e1) (j6 _ (j6 _ (aQb _)))).1
  have hps:p.toList.length=xs.length:=by rw[u7];exact hp.size
  have hpb:∀ i∈p.toList,i<xs.length:=fun i hi=>by
   have:=(aQY.mp hp).mem_iff.mp hi
   simpa using this
  unfold ksk_tail
  try dsimp only
  rw[hout]
  refine wpAny_bind (listUpdate_at eo1 rfl ?_ (by rw[d3,sizeLine_eq];omega) (l7 _))
  refine wpAny_bind (wpAny_letGo ?_)
  refine wpAny_bind (seqEpoch_at hD2 rfl ?_)
  simp only [aQe,if_false]
  refine wpAny_bind (listUpdate_at hD2 rfl ?_ (l7 _) (by show (List.toArray (p.toList.map fun i=>vs.getD i Value.none)).size≤_;rw[d3,b7,hps,sizeLine_eq];omega))
  rw[hfl]
  simp only [bne_self_eq_false,aQe,if_false]
  refine wpAny_pure (h p _ hp hso ?_)
  have rv:=sT rx p.toList hpb
  have I3:=I2.unpinned
  have f2:iH X.one.one pins (upd H S (.lst [])) D:=⟨by rw[aE (aJ eS hf.1).symm];exact hf.1,hf.2⟩
  have sb:=y0 (s1.heap.update S (Obj.mapSeq fun _=>(#[]:Array Value))) D (Obj.mapSeq fun _=>List.toArray (p.toList.map fun i=>vs.getD i Value.none))
  refine I3.adopt (t':=s1.toks) (D:=D) (fun b o hb e=>(sb.2 b hb).trans e) f2 ⟨by rw[b7,hps,sizeLine_eq];omega,_,_,rv,get?_update_seq hD2 fun _=>List.toArray (p.toList.map fun i=>vs.getD i Value.none)⟩
 unfold ksk_end
 try dsimp only
 simp only [aQe,if_false]
 by_cases h2:xs.length<2
 ·have h2':vs.toArray.size<2:=by rw[d3];omega
  rw[if_pos h2',if_pos h2']
  refine wpAny_bind (wpAny_pure ?_)
  show wpAny _ _ (pure ((),SortSt.mk' general' (us.toArray.zip vs.toArray) #[] 7 none) >>= _) _ _ _
  refine wpAny_bind (wpAny_pure ?_)
  refine tail _ (List.toArray (List.range xs.length)) s I ?_ rfl (aJH _) (fun i j hij hj=>?_)
  ·show (us.toArray.zip vs.toArray).map (·.2)=_
   rw[Em us vs (by omega),lx,zV]
  ·have e:i=j:=by omega
   rw[e];exact T.irr _
 ·have h2':¬ vs.toArray.size<2:=by rw[d3];omega
  rw[if_neg h2',if_neg h2']
  have lu:us.length=vs.length:=by omega
  obtain⟨fs,ht,hfl,hfi⟩:=pO I ks us ru fun v hv=>by
   obtain⟨i,hi⟩:=o9 hv
   have hi':i<ks.length:=(a9.mp hi).1
   exact⟨_,hk i v _ hi (zD (by omega))⟩
  refine wpAny_bind (PySem.W.kat_kind (T:=.type "int") ht (by omega) (fun v hv=>?_) (by decide) ?_)
  ·obtain⟨i,t,rfl⟩:=hfi v hv
   exact .now
  ·have hsort:=KTr.wp (cmp:=PySem.W.kas_ask X.prog X.w X.one.one.A (tuples' true) us) (Ok:=Inv X.one.one (pins++[(D,seqObj "list" #[] e1)]) σ H) (fun i j C s' hi hj o k'=>?_) (R:=fun p s'=>(PermN xs.length p∧jN (fun i j=>nO (kz.getD i (0,[])) (kz.getD j (0,[]))) p xs.length)∧Inv X.one.one (pins++[(D,seqObj "list" #[] e1)]) σ H s') (fun a s' q o=>⟨q,o⟩) (EL T (n:=xs.length) (by omega)) I
   ·refine wpAny_bind (wpAny_mono (PySem.W.kat_run (Q:=fun st s'=>∃ p:Array Nat,arrOf st=p.map (PySem.W.kas_item (us.toArray.zip vs.toArray))∧failedOf st=none∧(PermN xs.length p∧jN (fun i j=>nO (kz.getD i (0,[])) (kz.getD j (0,[]))) p xs.length)∧Inv X.one.one (pins++[(D,seqObj "list" #[] e1)]) σ H s')
     lu (by omega) (by omega) (fun p st s' _ a2 a3 a4=>⟨p,a2,a3,a4⟩) (by rw[← lx];exact hsort)) ?_ fun _ _ x=>x)
    rintro⟨⟨⟩,st⟩ s1 ⟨p,har,hfl1,⟨hp,hso⟩,I1⟩
    exact tail st p s1 I1 (PySem.W.kat_snds lu har) hfl1 hp hso
   ·have e1':ks[i]?=some (ks.getD i .non):=by rw[b8,b0 (by omega)];rfl
    have e2':ks[j]?=some (ks.getD j .non):=by rw[b8,b0 (by omega)];rfl
    have z1:=zD (kz:=kz) (i:=i) (by omega)
    have z2:=zD (kz:=kz) (i:=j) (by omega)
    exact DT hu o (hk i _ _ e1' z1) (hk j _ _ e2' z2) (vB ru i (by omega)) (vB ru j (by omega)) (hlen i j _ _ z1 z2) (k' s' o)
theorem C8{pins:List (Addr×Obj)}{σ:St}{Q:VK}{l:Addr}{xs:List V}{kz:List (Int×List Int)}{Pv:Addr→Nat→List V→Hp→Prop}{s:Shared}{H:Hp}
  (F:FnOk X.prog X.w X.K X.mg X.base AV k f fd ps sp) (hr:Room (k+2) X.A) (hu:X.one.one.A.units+8<cLine) (hb:Binds X.K fd ps []) (I:Inv X pins σ H s) (hq:SqL X.K H l xs) (h64:xs.length<64) (hkl:kz.length=xs.length)
  (hlen:∀ (i j:Nat) (a b:Int×List Int),kz[i]?=some a→kz[j]?=some b→a.1=b.1→a.2.length=b.2.length) (T:TotLt (fun i j=>nO (kz.getD i (0,[])) (kz.getD j (0,[]))))
  (h0:∀ S,H S=none→Pv S 0 [] (upd H S (.lst [])))
  (hst:∀ S i ks H,Pv S i ks H→∀ y,xs[i]?=some y→sp [y] H (fun v H2=>H2 S=some (.lst ks)∧ks.length=i∧Pv S (i+1) (ks++[v]) (upd H2 S (.lst (ks++[v])))) E0)
  (hend:∀ S ks H,Pv S xs.length ks H→H S=some (.lst ks)∧ks.length=xs.length∧(∀ (i:Nat) (v:V) (k:Int×List Int),ks[i]?=some v→kz[i]?=some k→qL H v k) ∧
   ∀ p:Array Nat,PermN xs.length p→jN (fun i j=>nO (kz.getD i (0,[])) (kz.getD j (0,[]))) p xs.length→∀ D,upd H S (.lst []) D=none→Q (.ref D) (upd (upd H S (.lst [])) D (.lst (p.toList.map fun i=>xs.getD i .non)))) :
  wpAny (model X.prog X.w) X.A (call (.builtin "sorted") [.ref l] [(Str.ofString "key",.ref f)]) (EP X pins σ Q) X.xe s:=by
 obtain⟨vs,rx,pl,hz⟩:=I.list hq
 have lx:=rx.length
 refine call_function_entry_kw kind_sorted plain_sorted entry_sorted (ksk_s1 _ _) ?_
 unfold Builtin.«sorted»
 refine wpAny_bind (m:=checkCount "sorted" 1 1 _) (wpAny_pure ?_)
 refine wpAny_bind (collect_list pl.isList ?_ (by rw[sizeLine_eq];omega))
 refine wpAny_bind (wpAny_newList ?_ (by rw[sizeLine_eq];omega))
 have hsz:((s.heap.push (seqObj "list" #[] 0)).update s.heap.objs.size (Obj.mapSeq (·++vs.toArray))).objs.size=s.heap.objs.size+1:=by
  rw[Heap.size_update,size_push']
 have hoL:(((s.heap.push (seqObj "list" #[] 0)).update s.heap.objs.size (Obj.mapSeq (·++vs.toArray))).push (seqObj "list" vs.toArray 0)).get? (s.heap.objs.size+1)=some (seqObj "list" vs.toArray 0):=by
  rw[← hsz];exact d8 _ rfl
 have keep:∀ b o,s.heap.get? b=some o→(((s.heap.push (seqObj "list" #[] 0)).update s.heap.objs.size (Obj.mapSeq (·++vs.toArray))).push (seqObj "list" vs.toArray 0)).get? b=some o:=fun b o q=>by
  have hlt:b<s.heap.objs.size:=d6 q
  rw[aZk _ _ _ (by rw[hsz];exact i3 (Nat.lt_succ_of_lt hlt)),Heap.get?_update_ne _ _ _ _ (i3 hlt),aZk _ _ _ (i3 hlt)]
  exact q
 show wpAny _ _ _ _ _ { s with heap:=((s.heap.push (seqObj "list" #[] 0)).update s.heap.objs.size (Obj.mapSeq (·++vs.toArray))).push (seqObj "list" vs.toArray 0) }
 rw[hsz]
 have I0:Inv X.one.one pins σ H { s with heap:=((s.heap.push (seqObj "list" #[] 0)).update s.heap.objs.size (Obj.mapSeq (·++vs.toArray))).push (seqObj "list" vs.toArray 0) }:=I.one.one.kept (t':=s.toks) keep
 have fD:iH X.one.one pins H (s.heap.objs.size+1):=I.one.one.fpOk (aQg _) (I.hok.fresh (aQg _))
 generalize ((s.heap.push (seqObj "list" #[] 0)).update s.heap.objs.size (Obj.mapSeq (·++vs.toArray))).push (seqObj "list" vs.toArray 0)=hA at hoL keep I0
 generalize s.heap.objs.size+1=D at hoL fD
 refine wpAny_bind (wpAny_holding (wpAny_call_entry_kw slot_list_sort ⟨_,hoL,rfl⟩ entry_list_sort ?body (ksk_l1 _ _)))
 case body =>
  show wpAny (model X.prog X.w) X.A.in1.in1 (Builtin.«list.sort» ⟨[.ref D],[(Str.ofString "key",.ref f)]⟩) _ _ _
  rw[ksk_t1]
  obtain⟨f0,f1,f2,f3,f4,f5⟩:=id fD
  have s1:=y0 hA D (Obj.mapSeq fun _=>(#[]:Array Value))
  obtain⟨e1,ho1⟩:∃ e1,(hA.update D (Obj.mapSeq fun _=>(#[]:Array Value))).get? D=some (seqObj "list" #[] e1):=⟨_,get?_update_seq hoL fun _=>#[]⟩
  have I1:Inv X.one.one pins σ H { s with heap:=hA.update D (Obj.mapSeq fun _=>(#[]:Array Value)) }:=I0.turned (t':=s.toks) (fun b o hb e=>(s1.2 b hb).trans e) f0 f1 f3 f4 f5
  unfold ksk_tree
  refine wpAny_bind (listItems_at hoL rfl ?_)
  refine wpAny_bind (listUpdate_at hoL rfl ?_ (by rw[d3,sizeLine_eq];omega) (l7 _))
  refine wpAny_bind (seqEpoch_at ho1 rfl ?_)
  refine wpAny_bind (wpAny_newTuple ?_ (by show vs.length≤_;rw[sizeLine_eq];omega))
  refine wpAny_bind (wpAny_newList ?_ (l7 _))
  refine wpAny_holding ?_
  show wpAny (model X.prog X.w) X.one.one.A _ _ _ { s with heap:=((hA.update D (Obj.mapSeq fun _=>(#[]:Array Value))).push (seqObj "tuple" vs.toArray 0)).push (seqObj "list" #[] 0) }
  generalize hA.update D (Obj.mapSeq fun _=>(#[]:Array Value))=hB at ho1 I1
  have I2:Inv X.one.one pins σ H { s with heap:=hB.push (seqObj "tuple" vs.toArray 0) }:=I1.kept (t':=s.toks) fun b o e=>b9 _ e
  have ho2:(hB.push (seqObj "tuple" vs.toArray 0)).get? D=some (seqObj "list" #[] e1):=b9 _ ho1
  generalize hB.push (seqObj "tuple" vs.toArray 0)=hC at ho2 I2
  have fS:H hC.objs.size=none:=I2.hok.fresh (c0 _)
  have I3:Inv X.one.one pins σ (upd H hC.objs.size (.lst [])) { s with heap:=hC.push (seqObj "list" #[] 0) }:=I2.lnew (t':=s.toks) (its:=[]) (ys:=[]) .nil (l7 _)
  have ho3:(hC.push (seqObj "list" #[] 0)).get? D=some (seqObj "list" #[] e1):=b9 _ ho2
  have hDS:D≠hC.objs.size:=i3 (d6 ho2)
  have fD3:iH X.one.one pins (upd H hC.objs.size (.lst [])) D:=⟨by rw[aE hDS];exact f0,fD.2⟩
  have I4:=I3.pinned (fp:=[D]) (fun b hb=>by rw[c6.mp hb];exact fD3) (fun b hb=>by rw[c6.mp hb];exact⟨_,ho3,fun v z=>by cases z⟩)
  have epn:lJ [D] (hC.push (seqObj "list" #[] 0))=[(D,seqObj "list" #[] e1)]:=by unfold lJ;simp[ho3]
  have I5:Inv X.one.one (pins++[(D,seqObj "list" #[] e1)]) σ (upd H hC.objs.size (.lst [])) { s with heap:=hC.push (seqObj "list" #[] 0) }:=by rw[← epn];exact I4
  generalize hC.objs.size=S at fS I5 hDS
  unfold ksk_rest
  refine wpAny_bind (wpAny_rule ?_)
  first
   | rw[List.forIn_toArray]
   | (rw[← aZe];simp only [aXZ])
   | rw[← aZe]
  refine wpAny_bind (wpAny_mono (AL (X:=X) (pins:=pins++[(D,seqObj "list" #[] e1)]) (S:=S) (Pv:=Pv S) F hr.in1.in1 hb h64 (fun x s' R hx=>?_) (hst S) xs vs 0 [] _ _ rx rfl (by simp) I5 (h0 S fS)) (fun _ s' hd=>?_) fun _ _ x=>x)
  ·refine wpAny_bind (wpAny_attempt (wpAny_mono hx (fun kv s'' hk=>?_) fun _ _ hF=>hF.elim))
   try dsimp only
   exact wpAny_bind (wpAny_mono hk (fun _ s3 h3=>wpAny_pure h3) fun _ _ x=>x)
  ·obtain⟨ks,H',I6,pv⟩:=hd
   obtain⟨eS,hkl2,hka,hfin⟩:=hend S ks H' pv
   have pD:=(I6.pin (D,seqObj "list" #[] e1) (j6 _ (j6 _ (aQb _)))).2.1
   refine Cf (X:=X) (pins:=pins) (D:=D) (kz:=kz) hu I6 ⟨pD,fD.2⟩ eS rx hkl2 h64 hkl hka hlen T fun p s4 hp hso I7=>?_
   exact⟨_,rfl,wpAny_pure ⟨_,rfl,⟨.ref D,_,(I7.unone I.ok.one).unone I.ok,rfl,hfin p hp hso D (by rw[aE (aJ eS pD).symm];exact pD)⟩⟩⟩
theorem Dl{K:b5}{e:Expr}{ta:TA}{kn:Str}{p kp kpos pos:Pos}(hK:X.K=K)(F:FnOk X.prog X.w X.K X.mg X.base AV k f fd ps sp)(hr:Room (k+2) X.A)(hb:Binds X.K fd ps [])
  (hg:Gl X "sorted") (hm:X.mg "sorted"=none) (hgk:Gl X kn) (hmk:X.mg kn=some (.ref f)) (ha:PA X [e] ta) (hkd:(kn == ("__debug__":Str))=false:=by decide)
  (hall:(backToKw pos (keywordEach [⟨some (Str.ofString "key"),.Name kn kp,kpos⟩] X.env)).all (·.1.isSome)=true:=by rfl) (hks:(backToKw pos (keywordEach [⟨some (Str.ofString "key"),.Name kn kp,kpos⟩] X.env)).filterMap (·.1)=[Str.ofString "key"]:=by rfl)
  (hs:backTo pos (starEach [e] X.env)=[(false,eval e X.env)]:=by rfl) (hkw:(backToKw pos (keywordEach [⟨some (Str.ofString "key"),.Name kn kp,kpos⟩] X.env)).any (·.1.isNone)=false:=by rfl) :
  PE X (.Call (.Name "sorted" p) [e] [⟨some (Str.ofString "key"),.Name kn kp,kpos⟩] pos) (FR K sp ta):=by
 subst hK
 intro pins s σ H Q I h
 refine wpAny_Call_Name_kw (jC I hg hm boot_sorted ?_ (by decide) (by decide))
 refine callWith_kw (cK (ha pos pins s σ H _ I h) fun us s1 ⟨vs,H1,I1,r1,q1⟩=>?_) (by rw[hs];rfl) (by rw[hs];rfl) hall hkw
 obtain⟨l,xs,kz,Pv,rfl,hq,h64,hkl,hlen,T,h0,hst,hend⟩:=q1
 have hpk:PK X [⟨some (Str.ofString "key"),.Name kn kp,kpos⟩] (Aw (tC (.ref f)) BH):=EX (oW (v:=.ref f) hgk hmk rfl hkd) F8
 refine cK (hpk pos pins s1 σ H1 (fun zs H2=>zs=[.ref f]∧H2=H1) I1 ⟨rfl,rfl⟩) fun ks s2 ⟨zs,H2,I2,r2,e2,e3⟩=>?_
 subst e2 e3
 obtain⟨u,rfl,ru⟩:=mI r1
 obtain⟨kf,rfl,rk⟩:=mI r2
 cases ru
 cases rk
 rw[hks]
 have hu:X.one.one.A.units+8<cLine:=by
  have:=hr.units
  show X.A.units+1+1+8<cLine
  omega
 exact C8 F hr hu hb I2 hq h64 hkl hlen T h0 hst hend
end
end L2
namespace PySem
open Sem (wp)
end PySem
namespace L2
open PySem PySem.Spec PyProof.Rows
def EF(z:Str):Value→Bool
 | .str w _=>w == z
 | _=>false
theorem wY(z:Str):∀ {ws:List Str} {us:List Value},Vals (ws.map V.str) us→us.countP (EF z)=ws.countP (· == z)∧∀ u∈us,∃ w t,u=Value.str w t
 | [],us,r=>by
  cases r
  exact⟨rfl,fun u hu=>(nomatch hu)⟩
 | w::ws,us,r=>by
  rw[g9] at r
  cases r with
  | cons r1 r2 =>
   obtain⟨t,rfl⟩:=r1
   obtain⟨h1,h2⟩:=wY z r2
   refine⟨?_,fun u hu=>?_⟩
   ·rw[aZv,aZv,h1]
    rfl
   ·rcases c7.mp hu with rfl | hu
    ·exact⟨_,_,rfl⟩
    ·exact h2 u hu
end L2
namespace Lw
open PySem PySem.Spec PyProof.Rows L2 Ma MaR
def lR(x:List Nat):Int×List Int:=((x.length:Nat),rks x)
theorem wR:∀ {a b:List Int},a.length=b.length→HT.lexLt a b=true→HT.lexLt b a=false
 | [],[],_,h=>by cases h
 | x::a,y::b,hl,h=>by
  rw[HT.lexLt_cons] at h ⊢
  by_cases e:x=y
  ·subst e
   rw[if_pos rfl] at h ⊢
   exact wR (by simpa using hl) h
  ·rw[if_neg e] at h
   rw[if_neg (fun z=>e z.symm)]
   have:=of_decide_eq_true h
   exact decide_eq_false (by omega)
theorem CW:∀ {a b c:List Int},a.length=b.length→b.length=c.length→HT.lexLt b a=false→HT.lexLt c b=false→HT.lexLt c a=false
 | [],[],[],_,_,_,h=>h
 | x::a,y::b,z::c,h1,h2,h3,h4=>by
  rw[HT.lexLt_cons] at h3 h4 ⊢
  by_cases e:y=x
  ·subst e
   rw[if_pos rfl] at h3
   by_cases e2:z=y
   ·subst e2
    rw[if_pos rfl] at h4 ⊢
    exact CW (by simpa using h1) (by simpa using h2) h3 h4
   ·rw[if_neg e2] at h4 ⊢
    exact h4
  ·rw[if_neg e] at h3
   have q1:=of_decide_eq_false h3
   by_cases e2:z=y
   ·subst e2
    rw[if_neg e]
    exact h3
   ·rw[if_neg e2] at h4
    have q2:=of_decide_eq_false h4
    rw[if_neg (by omega)]
    exact decide_eq_false (by omega)
def DH(k:Int×List Int):Prop:=k.1=(k.2.length:Nat)
theorem DG{a b:Int×List Int}(ha:DH a)(hb:DH b)(h:nO a b=true):nO b a=false:=by
 unfold nO at h ⊢
 unfold DH at ha hb
 by_cases e:a.1=b.1
 ·rw[if_pos e] at h
  rw[if_pos e.symm]
  exact wR (by omega) h
 ·rw[if_neg e] at h
  rw[if_neg (fun z=>e z.symm)]
  have:=of_decide_eq_true h
  exact decide_eq_false (by omega)
theorem FS{a b c:Int×List Int}(ha:DH a)(hb:DH b)(hc:DH c)(h1:nO b a=false)(h2:nO c b=false):nO c a=false:=by
 unfold nO at h1 h2 ⊢
 unfold DH at ha hb hc
 by_cases e:b.1=a.1
 ·rw[if_pos e] at h1
  by_cases e2:c.1=b.1
  ·rw[if_pos e2] at h2
   rw[if_pos (e2.trans e)]
   exact CW (by omega) (by omega) h1 h2
  ·rw[if_neg e2] at h2
   rw[if_neg (by omega)]
   have:=of_decide_eq_false h2
   exact decide_eq_false (by omega)
 ·rw[if_neg e] at h1
  have q1:=of_decide_eq_false h1
  by_cases e2:c.1=b.1
  ·rw[if_neg (by omega)]
   exact decide_eq_false (by omega)
  ·rw[if_neg e2] at h2
   have q2:=of_decide_eq_false h2
   rw[if_neg (by omega)]
   exact decide_eq_false (by omega)
theorem jE(x:List Nat):DH (lR x):=by
 unfold DH lR
 rw[oR]
theorem nN(ws:List (List Nat))(i:Nat):(ws.map lR).getD i (0,[])=lR (ws.getD i []):=by
 rw[b8,c9,b8]
 cases ws[i]? with
 | none=>rfl
 | some x=>rfl
theorem DE(ws:List (List Nat)):TotLt (fun i j=>nO ((ws.map lR).getD i (0,[])) ((ws.map lR).getD j (0,[]))):=by
 refine⟨fun i j h=>?_,fun i j k h1 h2=>?_⟩
 ·simp only [nN] at h ⊢
  exact DG (jE _) (jE _) h
 ·simp only [nN] at h1 h2 ⊢
  exact FS (jE _) (jE _) (jE _) h1 h2
def CL(x y:List Nat):Prop:=nO (lR y) (lR x)=false
theorem yY{ws:List (List Nat)}{p:Array Nat}(h:PermN ws.length p):(p.toList.map fun i=>ws.getD i []).Perm ws:=by
 have h1:=(aQY.mp h).map fun i=>ws.getD i []
 have e:(List.range ws.length).map (fun i=>ws.getD i [])=ws:=by
  refine aQz fun i=>?_
  by_cases hi:i<ws.length
  ·simp[hi]
  ·simp[hi]
 simp only [aXZ] at h1
 rw[e] at h1
 exact h1
theorem uW{ws:List (List Nat)}{p:Array Nat}{n:Nat}(hn:ws.length=n)(h:PermN n p)(so:jN (fun i j=>nO ((ws.map lR).getD i (0,[])) ((ws.map lR).getD j (0,[]))) p n):(p.toList.map fun i=>ws.getD i []).Pairwise CL:=by
 rw[List.pairwise_iff_getElem]
 intro i j hi hj hij
 have hs:=h.size
 rw[b7,u7] at hi hj
 have:=so i j (by omega) (by omega)
 simp only [nN] at this
 unfold CL
 rw[aXF,aXF]
 have e1:p.getD i 0=p.toList[i]'(by rw[u7];exact hi):=by simp[Array.getD,hi]
 have e2:p.getD j 0=p.toList[j]'(by rw[u7];exact hj):=by simp[Array.getD,hj]
 rw[← e1,← e2]
 exact this
theorem Cv(ws:List (List Nat))(l:List Nat)(h:∀ i∈l,i<ws.length):(l.map fun i=>(bS ws).getD i .non)=bS (l.map fun i=>ws.getD i []):=by
 unfold bS
 rw[p7]
 refine p9 fun i hi=>?_
 have:=h i hi
 simp[b8,this]
theorem _root_.L2.SqL_same{K:b5}{H H':Hp}{a:Addr}{xs:List V}(s:Same H H')(h:SqL K H a xs):SqL K H' a xs:=by
 rcases h with (h | ⟨o,h⟩) | h
 ·exact .inl (.inl (s _ _ h))
 ·exact .inl (.inr ⟨o,s _ _ h⟩)
 ·exact .inr h
theorem A3:∀ {x y:List Nat},AllL x→AllL y→rks x=rks y→x=y
 | [],[],_,_,_=>rfl
 | [],_::_,_,_,h=>by simp[rks] at h
 | _::_,[],_,_,h=>by simp[rks] at h
 | a::x,b::y,hx,hy,h=>by
  obtain⟨e1,e2⟩:=List.cons.inj (show ((rk a:Nat):Int)::rks x=((rk b:Nat):Int)::rks y from h)
  rw[Fy (AllL.cons.mp hx).1 (AllL.cons.mp hy).1 (by omega),A3 (AllL.cons.mp hx).2 (AllL.cons.mp hy).2 e2]
theorem CZ:∀ {a b:List Int},a.length=b.length→HT.lexLt a b=false→HT.lexLt b a=false→a=b
 | [],[],_,_,_=>rfl
 | x::a,y::b,hl,h1,h2=>by
  rw[HT.lexLt_cons] at h1 h2
  by_cases e:x=y
  ·subst e
   rw[if_pos rfl] at h1 h2
   rw[CZ (by simpa using hl) h1 h2]
  ·rw[if_neg e] at h1
   rw[if_neg (fun z=>e z.symm)] at h2
   have:=of_decide_eq_false h1
   have:=of_decide_eq_false h2
   omega
theorem Dv{x y:List Nat}(hx:AllL x)(hy:AllL y)(h1:CL x y)(h2:CL y x):x=y:=by
 unfold CL nO lR at h1 h2
 dsimp only at h1 h2
 by_cases e:x.length=y.length
 ·rw[if_pos (by omega)] at h1 h2
  exact A3 hx hy (CZ (by rw[oR,oR,e]) h2 h1)
 ·rw[if_neg (by omega)] at h1 h2
  have:=of_decide_eq_false h1
  have:=of_decide_eq_false h2
  omega
theorem uE:∀ {ps qs:List (List Nat)},(∀ x∈ps,AllL x)→ps.Perm qs→ps.Pairwise CL→qs.Pairwise CL→ps=qs
 | [],qs,_,h,_,_=>by rw[List.nil_perm.mp h]
 | x::ps,[],_,h,_,_=>by exact absurd h.length_eq (by simp)
 | x::ps,y::qs,ha,h,h1,h2=>by
  have hy:y∈x::ps:=h.mem_iff.mpr d4
  have hx:x∈y::qs:=h.mem_iff.mp d4
  obtain⟨p1,p2⟩:=aZf.mp h1
  obtain⟨q1,q2⟩:=aZf.mp h2
  have e:x=y:=by
   rcases c7.mp hy with e | m1
   ·exact e.symm
   ·rcases c7.mp hx with e | m2
    ·exact e
    ·exact Dv (ha x d4) (ha y hy) (p1 y m1) (q1 x m2)
  subst e
  rw[uE (fun z hz=>ha z (c8 _ hz)) (List.perm_cons _ |>.mp h) p2 q2]
theorem yK{x:List Nat}{d e:Nat}{j:Nat}(h:j<x.length):(d::x++[e]).getD (j+1) 0=x.getD j 0:=by
 rw[b8,b8]
 show ((d::(x++[e]))[j+1]?).getD 0=_
 rw[aQK,l5 h]
theorem sJ{x:List Nat}{d e:Nat}:(d::x++[e]).getD (x.length+1) 0=e:=by
 rw[b8]
 show ((d::(x++[e]))[x.length+1]?).getD 0=_
 rw[aQK,u0 (c0 _)]
 simp
theorem mU(x:List Nat)(d e:Nat):(d::x++[e]).length=x.length+2:=by simp
theorem wrap_pair{x:List Nat}{d:Nat}{j:Nat}:(2 * (j+1)+1<(d::x++[con d]).length∧(d::x++[con d]).getD (j+1) 0=con ((d::x++[con d]).getD ((d::x++[con d]).length - 1 - (j+1)) 0))↔(2 * j+1<x.length∧x.getD j 0=con (x.getD (x.length - 1 - j) 0)):=by
 rw[mU]
 by_cases c:2 * j+1<x.length
 ·rw[yK (by omega),show x.length+2 - 1 - (j+1)=(x.length - 1 - j)+1 by omega,yK (by omega)]
  constructor
  ·rintro⟨_,h⟩;exact⟨c,h⟩
  ·rintro⟨_,h⟩;exact⟨by omega,h⟩
 ·constructor
  ·rintro⟨h,_⟩;omega
  ·rintro⟨h,_⟩;omega
theorem uH{x:List Nat}{d m:Nat}(hd:bX d):Ends (d::x++[con d]) (m+1)↔Ends x m:=by
 unfold Ends
 constructor
 ·rintro⟨h1,h2⟩
  exact⟨fun j hj=>wrap_pair.mp (h1 (j+1) (by omega)),fun h=>h2 (wrap_pair.mpr h)⟩
 ·rintro⟨h1,h2⟩
  refine⟨fun j hj=>?_,fun h=>h2 (wrap_pair.mp h)⟩
  cases j with
  | zero =>
   rw[mU,show x.length+2 - 1 - 0=x.length+1 by omega,sJ,aP hd]
   exact⟨by omega,rfl⟩
  | succ j=>exact wrap_pair.mpr (h1 j (by omega))
theorem Da{x:List Nat}{d:Nat}(hd:bX d):¬ Ends (d::x++[con d]) 0:=fun h=>h.2 (by
 rw[mU,show x.length+2 - 1 - 0=x.length+1 by omega,sJ,aP hd]
 exact⟨by omega,rfl⟩)
theorem yG{x:List Nat}{d e m:Nat}:tD (d::x++[e]) (m+1)=(x.drop m).take (x.length - 2 * m)∨x.length<2 * m:=by
 by_cases c:x.length<2 * m
 ·exact .inr c
 ·left
  unfold tD
  rw[mU]
  show List.take (x.length+2 - 2 * (m+1)) (List.drop (m+1) (d::(x++[e])))=_
  rw[List.drop_succ_cons,List.drop_append_of_le_length (by omega),List.take_append_of_le_length (by rw[y4];omega)]
  congr 1
  omega
theorem sQ{x r:List Nat}{d:Nat}(hd:bX d):hV (d::x++[con d]) r↔hV x r:=by
 constructor
 ·rintro⟨m,b,h1,h2,h3⟩
  cases m with
  | zero=>exact absurd h1 (Da hd)
  | succ m =>
   have he:=(uH hd).mp h1
   have hm:tD (d::x++[con d]) (m+1)=tD x m:=by
    rcases yG (x:=x) (d:=d) (e:=con d) (m:=m) with h | h
    ·exact h
    ·have:=he.le;omega
   rw[hm] at h2 h3
   exact⟨m,b,he,h2,h3⟩
 ·rintro⟨m,b,h1,h2,h3⟩
  have hm:tD (d::x++[con d]) (m+1)=tD x m:=by
   rcases yG (x:=x) (d:=d) (e:=con d) (m:=m) with h | h
   ·exact h
   ·have:=h1.le;omega
  refine⟨m+1,b,(uH hd).mpr h1,?_,?_⟩
  ·rw[hm];exact h2
  ·rw[hm];exact h3
theorem zG{x:List Nat}{c:Nat}(hp:aW x)(h:∀ d t,x=d::t→c≠con d):aW (c::x):=by
 refine jM fun k=>?_
 rintro⟨a,b,h1,h2,e⟩
 cases k with
 | zero =>
  cases x with
  | nil=>simp at h2
  | cons d t =>
   simp at h1 h2
   subst h1 h2
   exact h d t rfl e
 | succ k=>exact uC hp (by simpa using h1) (by simpa using h2) e
theorem tK{x r:List Nat}(hx:AllL x)(hp:aW x)(he:Ends x 0)(hr:hV x r){a:Nat}(ha:a≤x.length):hV (kK x a) r:=by
 obtain⟨b,hb,e⟩:=Ez hx he hr
 rw[qV] at e
 have hl:x.length=r.length:=by rw[e,fK hb]
 by_cases h0:r.length=0
 ·have e1:r=[]:=o6.mp h0
  have e2:x=[]:=o6.mp (by omega)
  have:a=0:=by rw[e2] at ha;simpa using ha
  rw[e1,e2,this]
  exact yH
 ·by_cases hae:a<r.length
  ·by_cases hbe:b<r.length
   ·rw[e,vC hbe hae (aQ2 _ (by omega)) rfl]
    exact xX hx hp hr (aQ6 (aQ2 _ (by omega)))
   ·have:b=r.length:=by omega
    rw[e,this,vE]
    exact xX hx hp hr (by omega)
  ·have:a=x.length:=by omega
   rw[this,vE]
   exact hr
theorem C0{x r:List Nat}{c:Nat}(hx:AllL x)(hp:aW x)(hc:bX c)(hr:hV x r):hV (lay (c::x++[con c])) r:=by
 have hcc:=bQ hc
 cases x with
 | nil =>
  have e:lay (c::[]++[con c])=[]:=fM (w:=[c]) (fun d hd=>by rw[c6.mp hd];exact hc)
  rw[e];exact hr
 | cons d t =>
  obtain⟨hd,ht⟩:=AllL.cons.mp hx
  have pt:aW t:=zP hp 1
  by_cases hdc:d=con c
  ·-- the letter falls away at the begin
   have e1:lay (c::(d::t)++[con c])=lay (t++[con c]):=gZ [] (t++[con c]) AllL.nil hd (by rw[hdc,aP hc])
   rw[e1]
   by_cases hlast:∃ t',t=t'++[c]
   ·obtain⟨t',rfl⟩:=hlast
    have ht':=(AllL.app.mp ht).1
    have e2:lay (t'++[c]++[con c])=lay (t'++[]):=by
     rw[i6]
     exact gZ t' [] ht' hcc (by rw[aP hc])
    rw[e2,l4,dZ (by have:=qZ pt t'.length;rwa [aZP] at this)]
    have hr':hV (con c::t'++[con (con c)]) r:=by rw[aP hc,← hdc];exact hr
    exact(sQ hcc).mp hr'
   ·have hok:mV t (con c)=true:=by
     unfold mV
     cases hq:t.getLast? with
     | none=>rfl
     | some z =>
      simp only [aXh,decide_eq_false_iff_not]
      intro hz
      have hz':con c=con z:=by simpa using hz
      obtain⟨t',ht'⟩:=aXk.mp hq
      have hzL:bX z:=ht z (by rw[ht'];simp)
      exact hlast ⟨t',by rw[ht',vP hc hzL hz']⟩
    rw[dZ (nK ht hcc pt hok)]
    have e3:t++[con c]=kK (d::t) 1:=by unfold kK;rw[hdc];rfl
    rw[e3]
    refine tK hx hp ⟨fun j hj=>absurd hj (x6 _),?_⟩ hr (by simp)
    rintro⟨h1,h2⟩
    have hne:t≠[]:=by rintro rfl;simp at h1
    apply hlast
    refine⟨t.dropLast,?_⟩
    have hl:(d::t).getD ((d::t).length - 1 - 0) 0=t.getLast hne:=by
     rw[b8,List.getLast_eq_getElem]
     have h3:(d::t).length - 1 - 0=(t.length - 1)+1:=by
      have:=aZ2.mpr hne
      simp;omega
     rw[h3,aQK,b0 (by have:=aZ2.mpr hne;omega)]
     rfl
    rw[hl] at h2
    have h4:con c=con (t.getLast hne):=by rw[← hdc];exact h2
    have h5:=vP hc (ht _ (List.getLast_mem hne)) h4
    conv=>lhs;rw[← z9 hne,← h5]
  ·have pz:aW (c::d::t):=zG hp fun d' t' e=>by
    cases e
    intro h
    exact hdc (by rw[h,aP hd])
   by_cases hlast:∃ t',d::t=t'++[c]
   ·obtain⟨t',ht'⟩:=hlast
    have ha':AllL t':=(AllL.app.mp (by rw[← ht'];exact hx)).1
    have e2:lay (c::(d::t)++[con c])=lay (c::t'++[]):=by
     have:c::(d::t)++[con c]=(c::t')++c::con c::[]:=by rw[ht'];simp
     rw[this]
     exact gZ (c::t') [] (AllL.cons.mpr ⟨hc,ha'⟩) hcc (by rw[aP hc])
    have pz':aW (c::t'):=by
     have:c::t'=(c::d::t).take (t'.length+1):=by rw[ht'];simp
     rw[this];exact qZ pz _
    rw[e2,l4,dZ pz']
    have e3:c::t'=kK (d::t) t'.length:=by unfold kK;rw[ht',aJR,aZP];rfl
    rw[e3]
    refine tK hx hp ⟨fun j hj=>absurd hj (x6 _),?_⟩ hr (by rw[ht'];simp)
    rintro⟨h1,h2⟩
    have hl:(d::t).getD ((d::t).length - 1 - 0) 0=c:=by
     rw[ht',c5,b8,u0 (by simp)]
     simp
    rw[hl] at h2
    exact hdc h2
   ·have hok:mV (c::d::t) (con c)=true:=by
     unfold mV
     have hq:(c::d::t).getLast?=(d::t).getLast?:=by rw[List.getLast?_cons_cons]
     rw[hq]
     cases hq2:(d::t).getLast? with
     | none=>rfl
     | some z =>
      simp only [aXh,decide_eq_false_iff_not]
      intro hz
      have hz':con c=con z:=by simpa using hz
      obtain⟨t',ht'⟩:=aXk.mp hq2
      have hzL:bX z:=hx z (by rw[ht'];simp)
      exact hlast ⟨t',by rw[ht',vP hc hzL hz']⟩
    have pw:=nK (AllL.cons.mpr ⟨hc,hx⟩) hcc pz hok
    rw[dZ pw]
    exact(sQ hc).mpr hr
theorem BE{x r:List Nat}(hx:AllL x)(hp:aW x)(hr:hV x r):∀ g:List Nat,AllL g→hV (lay (g++x++back g)) r
 | [],_=>by
  have e:([]:List Nat)++x++back []=x:=by unfold back;simp
  rw[e,dZ hp];exact hr
 | c::g,h=>by
  obtain⟨hc,hg⟩:=AllL.cons.mp h
  have ih:=BE hx hp hr g hg
  have hm:AllL (g++x++back g):=AllL.app.mpr ⟨AllL.app.mpr ⟨hg,hx⟩,aL hg⟩
  have e:c::g++x++back (c::g)=[c]++(g++x++back g)++[con c]:=by
   have:back (c::g)=back g++[con c]:=by unfold back;simp
   rw[this];simp[i6]
  have h1:AllL [c]:=fun d hd=>by rw[c6.mp hd];exact hc
  have h2:AllL [con c]:=fun d hd=>by rw[c6.mp hd];exact bQ hc
  rw[e,← kO _ _ _ h1 hm h2]
  exact C0 (eM hm) (dW _) hc ih
def eO(n:Nat)(g:List Nat):List (List Nat):=(bP n).map fun c=>lay (g++[c]++back g)
theorem cU{c:Nat}(h:bX c):AllL [c]:=fun d hd=>by rw[c6.mp hd];exact h
theorem iV{n c:Nat}(h:c∈bP n):bX c:=by
 have:c∈[97,98,99,100]:=r6 h
 simp only [c7,o8,or_false] at this
 unfold bX
 omega
theorem fV{g w:List Nat}(hg:AllL g)(hw:AllL w):AllL (g++w++back g):=AllL.app.mpr ⟨AllL.app.mpr ⟨hg,hw⟩,aL hg⟩
theorem dE{n:Nat}(h4:n≤4):(bP n).length=n:=by unfold bP;rw[i7];simp;omega
theorem lX{n:Nat}{g:List Nat}(h4:n≤4)(hg:AllL g):RT (eO n g) n (2 * g.length+1):=by
 refine⟨by unfold eO;rw[b7,dE h4],fun x hx=>?_,fun x hx=>?_⟩
 ·obtain⟨c,hc,rfl⟩:=d5.mp hx
  exact eM (fV hg (cU (iV hc)))
 ·obtain⟨c,hc,rfl⟩:=d5.mp hx
  have:=gE (g++[c]++back g)
  rw[c5,c5,bY,u9] at this
  omega
theorem mP{n c:Nat}(h1:1≤n)(h4:n≤4)(h:c∈aI n):(aY c=true∧(bP n)[c - 97]?=some c)∨(aY c=false∧(bP n)[c - 65]?=some (con c)):=by
 have hL:=aO (aK h)
 rcases Aq h1 h4 with rfl | rfl | rfl | rfl <;> rcases hL with rfl | rfl | rfl | rfl | rfl | rfl | rfl | rfl <;> revert h <;> decide
theorem Bi{g:List Nat}{c:Nat}(hg:AllL g):back (g++[c]++back g)=g++[con c]++back g:=by
 rw[cS,cS,cD hg]
 have:back [c]=[con c]:=rfl
 rw[this,i6]
theorem Bd{n:Nat}{g:List Nat}(h1:1≤n)(h4:n≤4)(hg:AllL g){c:Nat}(h:c∈aI n):tell (eO n g) c=lay (g++[c]++back g):=by
 have hL:=aK h
 unfold tell eO
 rcases mP h1 h4 h with ⟨h2,h3⟩ | ⟨h2,h3⟩
 ·rw[if_pos h2,b8,c9,h3];rfl
 ·rw[if_neg (by rw[h2];decide),b8,c9,h3]
  show back (lay (g++[con c]++back g))=_
  rw[← iI (fV hg (cU (bQ hL))),Bi hg,aP hL]
theorem sI{g:List Nat}(hg:AllL g):∀ w:List Nat,AllL w→lay (w.flatMap fun c=>g++[c]++back g)=lay (g++w++back g)
 | [],_=>by
  rw[l4,fM hg];rfl
 | c::w,h=>by
  obtain⟨hc,hw⟩:=AllL.cons.mp h
  have ih:=sI hg w hw
  have ha:AllL (w.flatMap fun c=>g++[c]++back g):=fun d hd=>by
   obtain⟨e,he,hd'⟩:=aXE.mp hd
   exact fV hg (cU (hw e he)) d hd'
  have h1:=fV hg (cU hc)
  rw[x9,← cG _ _ h1 ha,ih,cG _ _ h1 (fV hg hw)]
  have e:g++[c]++back g++(g++w++back g)=(g++[c])++(back g++g)++(w++back g):=by simp[i6]
  have e2:g++c::w++back g=(g++[c])++(w++back g):=by simp[i6]
  rw[e,e2,← kO _ _ _ (AllL.app.mpr ⟨hg,cU hc⟩) (AllL.app.mpr ⟨aL hg,hg⟩) (AllL.app.mpr ⟨hw,aL hg⟩),eU hg,l4]
theorem jF{f g:Nat→List Nat}:∀ {w:List Nat},(∀ c∈w,f c=g c)→w.flatMap f=w.flatMap g
 | [],_=>rfl
 | c::w,h=>by rw[x9,x9,h c d4,jF fun d hd=>h d (c8 _ hd)]
theorem Bq{n:Nat}{g w:List Nat}(h1:1≤n)(h4:n≤4)(hg:AllL g)(hw:OfN n w):retl (eO n g) w=lay (g++w++back g):=by
 rw[← sI hg w hw.all]
 unfold retl told
 have e:w.flatMap (tell (eO n g))=w.flatMap fun c=>lay (if bX c then g++[c]++back g else []):=by
  refine jF fun c hc=>?_
  rw[Bd h1 h4 hg (hw c hc),if_pos (aK (hw c hc))]
 rw[e,pJ w fun c=>by
  by_cases q:bX c
  ·rw[if_pos q];exact fV hg (cU q)
  ·rw[if_neg q];exact AllL.nil]
 congr 1
 refine jF fun c hc=>?_
 rw[if_pos (aK (hw c hc))]
theorem eI{n c:Nat}(h1:1≤n)(h4:n≤4)(h:c∈bP n):c∈aI n:=EO h1 h4 [c] (d5.mpr ⟨c,h,rfl⟩) c (c6.mpr rfl)
theorem qR{n:Nat}{g:List Nat}(h1:1≤n)(h4:n≤4)(hg:OfN n g):∀ x∈eO n g,OfN n x:=fun x hx=>by
 obtain⟨c,hc,rfl⟩:=d5.mp hx
 refine OfN.lay (OfN.app (OfN.app hg fun d hd=>?_) (hg.back (by omega) (by omega)))
 rw[c6.mp hd]
 exact eI h1 h4 hc
theorem tV{n:Nat}{g:List Nat}(h1:1≤n)(h4:n≤4)(hg:OfN n g):bC (eO n g) (eO n (back g))=cC n:=by
 have ga:=hg.all
 have hb:=hg.back (by omega:(1:Int)≤(n:Int)) (by omega)
 unfold bC eO cC
 rw[p7]
 refine p9 fun c hc=>?_
 have hcL:=iV hc
 have h9:=fV ga (cU hcL)
 show retl (eO n (back g)) (lay (g++[c]++back g))=[c]
 rw[kC (lX h4 hb.all) h9,Bq h1 h4 hb.all (OfN.app (OfN.app hg fun d hd=>by rw[c6.mp hd];exact eI h1 h4 hc) hb),cD ga]
 have e:back g++(g++[c]++back g)++g=[]++(back g++g)++([c]++(back g++g)):=by simp[i6]
 have hbg:AllL (back g++g):=AllL.app.mpr ⟨aL ga,ga⟩
 rw[e,← kO _ _ _ AllL.nil hbg (AllL.app.mpr ⟨cU hcL,hbg⟩),eU ga]
 have e2:[]++[]++([c]++(back g++g))=[c]++(back g++g)++[]:=by simp
 rw[e2,← kO _ _ _ (cU hcL) hbg AllL.nil,eU ga]
 exact dZ trivial
inductive spTurned(vs:List V)(H:Hp)(Q:VK)(E:XK):Prop
 | mk (n:Nat) (g:List Nat) (_:vs=[.int (n:Nat),.str (S g)]) (_:1≤n) (_:n≤4) (_:AllL g) (_:g.length≤400) (_:∀ (p:Addr) (H':Hp),H p=none→Same H H'→H' p=some (.tup (bS (eO n g)))→Q (.ref p) H'):spTurned vs H Q E
theorem C3{n i:Nat}(hv:(bS (cC n))[i]?=some (.str (S [97+i]))):(bP n)[i]?=some (97+i):=by
 obtain⟨x,hx,ex⟩:=fB hv
 have ex':=xT (V.str.inj ex)
 unfold cC at hx
 rw[c9] at hx
 cases hq:(bP n)[i]? with
 | none=>rw[hq] at hx;cases hx
 | some c=>rw[hq] at hx;cases hx;simpa using ex'.symm
theorem RT.mono{rs:List (List Nat)}{n M L:Nat}(h:RT rs n M)(hl:M≤L):RT rs n L:=⟨h.len,h.all,fun x hx=>j7 (h.le x hx) hl⟩
def sV(c:Nat)(sd:List Nat)(d:Nat):List Nat:=if d=lo c then [d] else (if con d∈sd then [con c] else [])++[d]++(if d∈sd then [c] else [])
def jK(n c:Nat)(sd:List Nat):List (List Nat):=(bP n).map (sV c sd)
theorem CO(d:Nat)(sd:List Nat):Fe (.str (S [d])) (bB sd)=decide (d∈sd):=by
 unfold Fe bB
 rw[aQd,aZw,decide_eq_true_iff]
 constructor
 ·rintro⟨v,hv,he⟩
  obtain⟨e,hm,rfl⟩:=d5.mp hv
  have h2:decide (S [e]=S [d])=true:=he
  have:=xT (of_decide_eq_true h2)
  have h3:e=d:=by simpa using this
  rw[← h3];exact hm
 ·intro h
  refine⟨_,d5.mpr ⟨d,h,rfl⟩,?_⟩
  show decide (S [d]=S [d])=true
  exact decide_eq_true rfl
theorem sE(sd:List Nat):(bB sd).all gN=true:=by
 rw[aQL]
 intro v hv
 obtain⟨x,_,rfl⟩:=d5.mp hv
 rfl
def IsChg(H:Hp)(p:Addr)(c:Nat)(sd:List Nat):Prop:=∃ q,H p=some (.tup [.str (S [c]),.ref q])∧H q=some (.tup (bB sd))
theorem IsChg.same{H H':Hp}{p:Addr}{c:Nat}{sd:List Nat}(h:IsChg H p c sd)(s:Same H H'):IsChg H' p c sd:=by
 obtain⟨q,h1,h2⟩:=h
 exact⟨q,s _ _ h1,s _ _ h2⟩
theorem Ei(c:Nat)(sd:List Nat)(d:Nat):(sV c sd d).length≤3:=by
 unfold sV
 split
 ·simp
 ·rw[c5,c5]
  split <;> split <;> simp
theorem EK{c d:Nat}{sd:List Nat}(hc:bX c)(hd:bX d):AllL (sV c sd d):=by
 unfold sV
 split
 ·exact cU hd
 ·refine AllL.app.mpr ⟨AllL.app.mpr ⟨?_,cU hd⟩,?_⟩
  ·split
   ·exact cU (bQ hc)
   ·exact AllL.nil
  ·split
   ·exact cU hc
   ·exact AllL.nil
theorem ER{n c d:Nat}{sd:List Nat}(h1:1≤n)(h4:n≤4)(hc:c∈aI n)(hd:d∈aI n):OfN n (sV c sd d):=by
 have one:∀ {e:Nat},e∈aI n→OfN n [e]:=fun he z hz=>by rw[c6.mp hz];exact he
 unfold sV
 split
 ·exact one hd
 ·refine OfN.app (OfN.app ?_ (one hd)) ?_
  ·split
   ·exact one (cE (by omega) (by omega) hc)
   ·exact OfN.nil
  ·split
   ·exact one hc
   ·exact OfN.nil
theorem AD{n c:Nat}{sd:List Nat}(h4:n≤4)(hc:bX c):RT (jK n c sd) n 3:=by
 refine⟨by unfold jK;rw[b7,dE h4],fun x hx=>?_,fun x hx=>?_⟩
 ·obtain⟨d,hd,rfl⟩:=d5.mp hx
  exact EK hc (iV hd)
 ·obtain⟨d,hd,rfl⟩:=d5.mp hx
  exact Ei c sd d
theorem xH{n c:Nat}{sd:List Nat}(h1:1≤n)(h4:n≤4)(hc:c∈aI n):∀ x∈jK n c sd,OfN n x:=fun x hx=>by
 obtain⟨d,hd,rfl⟩:=d5.mp hx
 exact ER h1 h4 hc (eI h1 h4 hd)
theorem hX{n d:Nat}(h:d∈bP n):aY d=true:=by
 have:d∈[97,98,99,100]:=r6 h
 simp only [c7,o8,or_false] at this
 unfold aY
 exact decide_eq_true (by omega)
theorem Gk{c d:Nat}:decide (V.str (S [d])=V.str (S [lo c]))=decide (d=lo c):=by
 rw[fX]
 by_cases h:d=lo c
 ·rw[h,decide_eq_true rfl,decide_eq_true rfl]
 ·rw[decide_eq_false h,decide_eq_false (by simpa using h)]
theorem Fc(w:List Nat)(b:Bool):Txt.mul (S w) (if b=true then 1 else 0)=S (if b=true then w else []):=by
 cases b with
 | true =>
  show Txt.mul (S w) 1=S w
  unfold Txt.mul
  rw[if_neg (by decide),if_pos (by rfl)]
 | false =>
  show Txt.mul (S w) 0=S []
  unfold Txt.mul
  rw[if_pos (by decide)]
  rfl
theorem Ax(c:Nat)(b:Bool):MulOk (S [c]) (if b=true then 1 else 0):=by
 cases b with
 | true=>exact Fr [c] 1 (by decide) (by decide) (by simp)
 | false =>
  refine⟨by decide,fun h=>?_,fun h=>?_⟩
  ·exact absurd h (by decide)
  ·exact absurd h (by decide)
inductive spChTold(vs:List V)(H:Hp)(Q:VK)(E:XK):Prop
 | mk (n:Nat) (p:Addr) (c:Nat) (sd:List Nat) (_:vs=[.int (n:Nat),.ref p]) (_:1≤n) (_:n≤4) (_:IsChg H p c sd) (_:bX c) (_:(∀ d∈sd,bX d)) (_:∀ (t:Addr) (H':Hp),H t=none→Same H H'→H' t=some (.tup (bS (jK n c sd)))→Q (.ref t) H'):spChTold vs H Q E
end Lw
namespace L2
open PySem PySem.Spec PyProof.Rows
section
variable {prog:Program}{w:World}{A:Around}{E:Value→Shared→Prop}{s:Shared}
theorem Bl{it d:Addr}{i n ep:Nat}{o:Obj}{es:Array DictEntry}{e:DictEntry}{Q:Fin→Shared→Prop}(hit:s.heap.IsKeyIter it d i es.size ep)(hd:s.heap.get? d=some o)(dt:o.data=.dict es ep)(he:es[i]?=some e)
  (hQ:∀ g,g.IsKeyIter it d (i+1) es.size ep→Heap.SameBut it s.heap g→Q (.done (.ret e.key)) { s with heap:=g }) :
  wpAny (model prog w) A (Builtin.«dict_keyiterator.__next__» ⟨[.ref it],[]⟩) Q E s:=by
 obtain⟨oi,go,co,do'⟩:=id hit
 have hT:s.TypeIs (.ref it) "dict_keyiterator":=⟨_,go,co⟩
 show wpAny _ _ (Builtin.Dict_items.slot0 "__next__" ⟨[.ref it],[]⟩ >>= _) _ _ _
 rw[show Builtin.Dict_items.slot0 "__next__" ⟨[.ref it],[]⟩=pure (.ref it) from rfl]
 refine wpAny_bind (wpAny_pure (wpAny_bind ?_))
 show wpAny _ _ (_ >>= _) _ _ _
 refine wpAny_bind ?_
 refine wpAny_bind (wpAny_typeNameOfWhole_keyiter hT (wpAny_pure ?_))
 rw[show (if Builtin.Dict_items.ownsTuple "dict_keyiterator"=true then 2 else 0)=0 from rfl]
 refine wpAny_bind (wpAny_fieldsOf go do' ?_)
 show wpAny _ _ (if (Value.ref d == Value.none)=true then _ else _) _ _ _
 rw[if_neg (by intro c;cases c)]
 refine wpAny_bind (wpAny_pure (wpAny_bind (wpAny_dictEntries hd dt ?_)))
 dsimp only
 rw[if_neg (by simp)]
 refine wpAny_bind (wpAny_pure (wpAny_bind (wpAny_dictEpoch hd dt ?_)))
 rw[if_neg (by simp)]
 refine wpAny_pure ?_
 dsimp only
 rw[if_neg (by omega),aQZ,he]
 dsimp only
 refine wpAny_bind (wpAny_bind (wpAny_typeNameOfWhole_keyiter hT (wpAny_pure ?_)))
 rw[show (if Builtin.Dict_items.ownsTuple "dict_keyiterator"=true then 2 else 0)=0 from rfl]
 refine wpAny_bind (wpAny_isOneOf_keyiter hT ?_)
 refine wpAny_bind (wpAny_setField go do' (by simp) ?_)
 have gu:(s.heap.update it (Obj.mapFields fun x=>x.setIfInBounds (0+1) (rawInt ((i:Int)+1)))).IsKeyIter it d (i+1) es.size ep:=by
  refine⟨_,aQG _ go (aQl (y6 do' _)),(aXd ..).trans co,?_⟩
  rw[y6 do' _]
  rfl
 have sb:Heap.SameBut it s.heap (s.heap.update it (Obj.mapFields fun x=>x.setIfInBounds (0+1) (rawInt ((i:Int)+1)))):=y0 ..
 have hT2:Shared.TypeIs { s with heap:=s.heap.update it (Obj.mapFields fun x=>x.setIfInBounds (0+1) (rawInt ((i:Int)+1))) } (.ref it) "dict_keyiterator":=by
  obtain⟨o2,g2,c2,_⟩:=gu
  exact⟨_,g2,c2⟩
 refine wpAny_bind (wpAny_holding (wpAny_bind (wpAny_isOneOf_keyiter hT2 ?_)))
 refine wpAny_pure (wpAny_pure ?_)
 exact hQ _ gu sb
theorem C4{it d:Addr}{i n ep:Nat}{o:Obj}{es:Array DictEntry}{Q:Fin→Shared→Prop}(hh:A.handled=none)(hit:s.heap.IsKeyIter it d i es.size ep)(hd:s.heap.get? d=some o)(dt:o.data=.dict es ep)(he:es[i]?=none)
  (hE:∀ g e,Heap.ExtBut it s.heap g→(∃ o,g.get? e=some o∧o.cls=.type "StopIteration")→E (.ref e) { s with heap:=g }) :
  wpAny (model prog w) A (Builtin.«dict_keyiterator.__next__» ⟨[.ref it],[]⟩) Q E s:=by
 obtain⟨oi,go,co,do'⟩:=id hit
 have hT:s.TypeIs (.ref it) "dict_keyiterator":=⟨_,go,co⟩
 show wpAny _ _ (Builtin.Dict_items.slot0 "__next__" ⟨[.ref it],[]⟩ >>= _) _ _ _
 rw[show Builtin.Dict_items.slot0 "__next__" ⟨[.ref it],[]⟩=pure (.ref it) from rfl]
 refine wpAny_bind (wpAny_pure (wpAny_bind ?_))
 show wpAny _ _ (_ >>= _) _ _ _
 refine wpAny_bind ?_
 refine wpAny_bind (wpAny_typeNameOfWhole_keyiter hT (wpAny_pure ?_))
 rw[show (if Builtin.Dict_items.ownsTuple "dict_keyiterator"=true then 2 else 0)=0 from rfl]
 refine wpAny_bind (wpAny_fieldsOf go do' ?_)
 show wpAny _ _ (if (Value.ref d == Value.none)=true then _ else _) _ _ _
 rw[if_neg (by intro c;cases c)]
 refine wpAny_bind (wpAny_pure (wpAny_bind (wpAny_dictEntries hd dt ?_)))
 dsimp only
 rw[if_neg (by simp)]
 refine wpAny_bind (wpAny_pure (wpAny_bind (wpAny_dictEpoch hd dt ?_)))
 rw[if_neg (by simp)]
 refine wpAny_pure ?_
 dsimp only
 rw[if_neg (by omega),aQZ,he]
 dsimp only
 refine wpAny_bind (wpAny_bind (wpAny_typeNameOfWhole_keyiter hT (wpAny_pure ?_)))
 rw[show (if Builtin.Dict_items.ownsTuple "dict_keyiterator"=true then 2 else 0)=0 from rfl]
 refine wpAny_bind (wpAny_setField go do' (by simp) ?_)
 refine wpAny_bind ?_
 simp only [newExc,newTuple]
 refine wpAny_bind (wpAny_newObj_type ?_ (by size_fits))
 refine wpAny_bind (m:=firstArgMember _ _) (wpAny_of_eq (a:=Value.none) (by first | rfl | (simp only [firstArgMember];rfl)) ?_)
 refine wpAny_newObj_type ?_ (by size_fits)
 simp only [raiseNew]
 refine wpAny_bind (wpAny_handled ?_)
 first | rw[show A.in1.handled=none from hh] | rw[hh]
 refine wpAny_bind (wpAny_pure (wpAny_throw ?_))
 exact hE _ _ (((y0 ..).extBut.push _).push _) ⟨_,d8 _ rfl,rfl⟩
theorem zN{it d:Addr}{i n ep:Nat}{o:Obj}{es:Array DictEntry}{e:DictEntry}{Q:Option Value→Shared→Prop}(hit:s.heap.IsKeyIter it d i es.size ep)(hd:s.heap.get? d=some o)(dt:o.data=.dict es ep)(he:es[i]?=some e)
  (hQ:∀ g,g.IsKeyIter it d (i+1) es.size ep→Heap.SameBut it s.heap g→Q (some e.key) { s with heap:=g }):wpAny (model prog w) A (pyNext (.ref it)) Q E s:=by
 have hT:s.TypeIs (.ref it) "dict_keyiterator":=let ⟨_,go,co,_⟩:=hit;⟨_,go,co⟩
 unfold pyNext
 exact wpAny_bind (wpAny_attempt (wpAny_callSpecial?_slot (name:=Str.ofString "__next__") hT aQA (wpAny_call_entry aQA hT aXV (Bl (n:=0) hit hd dt he fun g b1 b2=>⟨_,rfl,wpAny_pure (hQ g b1 b2)⟩) (aXS _))))
theorem BP{it d:Addr}{i n ep:Nat}{o:Obj}{es:Array DictEntry}{Q:Option Value→Shared→Prop}(hh:A.handled=none)(hit:s.heap.IsKeyIter it d i es.size ep)(hd:s.heap.get? d=some o)(dt:o.data=.dict es ep)(he:es[i]?=none)
  (hQ:∀ g,Heap.ExtBut it s.heap g→Q none { s with heap:=g }):wpAny (model prog w) A (pyNext (.ref it)) Q E s:=by
 have hT:s.TypeIs (.ref it) "dict_keyiterator":=let ⟨_,go,co,_⟩:=hit;⟨_,go,co⟩
 unfold pyNext
 refine wpAny_bind (wpAny_attempt (wpAny_callSpecial?_slot (name:=Str.ofString "__next__") hT aQA (wpAny_call_entry aQA hT aXV (C4 (n:=0) hh hit hd dt he fun g e kp hx=>?_) (aXS _))))
 obtain⟨o,go,co⟩:=hx
 exact wpAny_bind (wpAny_isInstance (T:="StopIteration") (b:=true) ⟨o,go,co⟩ isSubtype_stop (wpAny_pure (hQ _ kp)))
end
section
variable {X:Cx}{pins:List (Addr×Obj)}{σ:St}{H:Hp}{s:Shared}
theorem Inv.swap{d:Addr}{u u':HO}(I:Inv X pins σ H s)(e:H d=some u)(nt:∀ xs,u≠.tup xs)(nf:(∀ o v,u≠.frz o v)∨∀ o v,X.H₀ d≠some (.frz o v))(nb:∀ ps,u≠.tbl ps)(no:∀ x,u≠.own x)
  (new:ObjOk X.prog X.w (upd H d u') s.heap d u'):Inv X pins σ (upd H d u') s:=by
 have ne:∀ {b:Addr},H b=none→b≠d:=fun h z=>by rw[z,e] at h;cases h
 have tp:∀ b xs,H b=some (.tup xs)→upd H d u' b=some (.tup xs):=fun b xs h=>by
  rw[aE (fun z=>by rw[z,e] at h;exact nt xs (d9 h))];exact h
 refine⟨I.ok,I.os,I.bare,⟨I.base.keep,I.base.slot,fun b o h n hx=>?_,I.base.there,fun b xs h=>tp b xs (I.base.tups b xs h),fun b o v h=>?_,fun b ps h=>?_⟩,I.loc,I.cell,?_,fun x c h=>?_,fun p hp=>?_,fun b v h=>?_,I.len⟩
 ·have:=I.base.free b o h n hx
  rw[aE (ne this)];exact this
 ·have h1:=I.base.frzs b o v h
  rw[aE]
  ·exact h1
  ·intro z
   subst z
   rcases nf with nf | nf
   ·rw[e] at h1;exact nf o v (d9 h1)
   ·exact nf o v h
 ·obtain⟨more,h1⟩:=I.base.tbls b ps h
  refine⟨more,?_⟩
  rw[aE]
  ·exact h1
  ·intro z
   subst z
   rw[e] at h1
   exact nb _ (d9 h1)
 ·rw[aE (ne I.free)];exact I.free
 ·rw[aE (ne (I.freeC x c h))];exact I.freeC x c h
 ·obtain⟨h1,h2,h3⟩:=I.pin p hp
  exact⟨h1,by rw[aE (ne h2)];exact h2,h3⟩
 ·by_cases hb:b=d
  ·subst hb
   rw[aC] at h
   cases h
   exact new
  ·rw[aE hb] at h
   refine(I.hok b v h).stay (fun _ _ _ q=>q) (fun c q=>?_) tp
   rw[aE (fun z=>by rw[z,e] at q;exact no b (d9 q))];exact q
end
theorem CI{prog:Program}{w:World}{A:Around}{E:Value→Shared→Prop}{s:Shared}{d:Addr}{o:Obj}{es:Array DictEntry}{ep:Nat}{Q:Value→Shared→Prop}(hn:(d == sysModules)=false)(hd:s.heap.get? d=some o)(ho:o.ExactDict)(dt:o.data=.dict es ep)
  (h:Q (.ref s.heap.objs.size) { s with heap:=s.heap.push { cls:=.type "dict_keyiterator",data:=.fields #[.ref d,.int 0 0,.int es.size 0,.int ep 0] } }):wpAny (model prog w) A (pyIter (.ref d)) Q E s:=by
 have hT:s.TypeIs (.ref d) "dict":=⟨_,hd,ho.1⟩
 refine wpAny_pyIter_slot hT aZx (wpAny_call_entry aZx hT F.entry_dict_iter ?_ (F.args_dict_iter_1 _))
 unfold Builtin.«dict.__iter__» Builtin.Dict.dictSlotNone Builtin.Dict.notOrdered
 rw[if_pos (by decide)]
 refine wpAny_bind (wpAny_bind (wpAny_bind (wpAny_typeOf hT ?_)))
 rw[if_neg (by decide)]
 refine wpAny_pure ?_
 rw[show slotArgs "__iter__" 0 ⟨[.ref d],[]⟩=pure (.ref d,[]) from rfl]
 refine wpAny_bind (wpAny_pure (wpAny_pure (wpAny_bind (wpAny_pure (wpAny_bind ?_)))))
 unfold Builtin.Dict.showsAll
 rw[hn]
 refine wpAny_pure (wpAny_bind (wpAny_dictEntries hd dt (wpAny_bind (wpAny_dictEpoch hd dt (wpAny_bind ?_)))))
 unfold newFields
 refine wpAny_newObj_type (wpAny_pure ⟨_,rfl,"dict_keyiterator",_,⟨_,d8 _ rfl,rfl⟩,aQA.lookup,?_⟩) (by size_fits)
 exact h
theorem oC(ns:List Int):∀ n,preSum (fun i=>(ns[i]?).getD 0) n=(ns.take n).sum
 | 0=>by simp[preSum]
 | n+1=>by
  show preSum (fun i=>(ns[i]?).getD 0) n+(ns[n]?).getD 0=_
  rw[oC ns n]
  by_cases h:n<ns.length
  ·rw[p6,b0 h,aJI]
   simp
  ·rw[aQP (by omega),u6 (by omega),u6 (by omega)]
   simp
theorem wA:∀ {ns:List Int} {us:List Value},Vals (ns.map V.int) us→us.length=ns.length∧∀ (i:Nat) (v:Value),us[i]?=some v→∃ t,v=Value.int ((ns[i]?).getD 0) t
 | [],us,r=>by
  cases r
  exact⟨rfl,fun i v h=>by simp at h⟩
 | n::ns,us,r=>by
  rw[g9] at r
  cases r with
  | cons r1 r2 =>
   obtain⟨t,rfl⟩:=r1
   obtain⟨h1,h2⟩:=wA r2
   refine⟨by rw[j0,j0,h1],fun i v h=>?_⟩
   cases i with
   | zero=>exact⟨t,by simpa using h.symm⟩
   | succ i=>simpa using h2 i v (by simpa using h)
section
variable {X:Cx}{K:b5}
inductive Rcall_sumK(K:b5)(xs:List V)(H:Hp)(Q:VK):Prop
 | mk (a:Addr) (ns:List Int) (_:xs=[.ref a]) (_:SqL K H a (ns.map V.int)) (_:Q (.int ns.sum) H):Rcall_sumK K xs H Q
theorem tY(hK:X.K=K)(hc:X.calm=true):gS X (.builtin "sum") (fun xs H Q=>Rcall_sumK K xs H Q):=by
 subst hK
 intro pins s σ H xs us Q I r h
 obtain⟨a,ns,rfl,hq,q⟩:=h
 obtain⟨u,rfl,ru⟩:=r.one
 cases ru
 obtain⟨its,rv,pl,_⟩:=I.list hq
 have hl:=pl.isList
 obtain⟨hn,hi⟩:=wA rv
 have hlt:a<s.heap.objs.size:=by obtain⟨_,e,_⟩:=hl;exact d6 e
 refine call_sum_walkG (wpAny_pyIter_list hl ?_)
 refine⟨s.heap.objs.size,[s.heap.objs.size,a],[s.heap.objs.size],its.toArray.size,_,_,fun i=>(ns[i]?).getD 0,rfl,Walks.list (A:=X.A.in1) (I.ok.hd hc) _ a (i3 hlt) its.toArray,
  ⟨⟨_,d8 _ rfl,rfl,rfl⟩,hl.push _⟩,?_,fun i v hP=>hi i v (by simpa using hP),fun h' tk t' hk=>?_⟩
 ·intro b hb
  simp only [c7,o8,or_false] at hb
  rcases hb with rfl | rfl
  ·exact d6 (d8 _ rfl)
  ·exact m4 hlt (by show _≤(s.heap.push _).objs.size;rw[y9];exact aQg _)
 ·rw[oC,d3,hn,j8]
  exact⟨.int _,H,I.kept (t':=tk) (LSm.kept_iter hk),⟨_,rfl⟩,q⟩
end
end L2
namespace Lw
open PySem PySem.Spec PyProof.Rows L2 Ma MaR
abbrev DW(K:b5)(sp:Sp)(vs:List V)(H1:Hp)(Q:VK):Prop:=∃ (l:Addr) (xs:List V) (kz:List (Int×List Int)) (Pv:Addr→Nat→List V→Hp→Prop),vs=[.ref l]∧SqL K H1 l xs∧xs.length<64∧kz.length=xs.length ∧
 (∀ (i j:Nat) (a b:Int×List Int),kz[i]?=some a→kz[j]?=some b→a.1=b.1→a.2.length=b.2.length)∧TotLt (fun i j=>nO (kz.getD i (0,[])) (kz.getD j (0,[]))) ∧
 (∀ S,H1 S=none→Pv S 0 [] (upd H1 S (.lst []))) ∧
 (∀ S i ks H,Pv S i ks H→∀ y,xs[i]?=some y→sp [y] H (fun v H2=>H2 S=some (.lst ks)∧ks.length=i∧Pv S (i+1) (ks++[v]) (upd H2 S (.lst (ks++[v])))) E0) ∧
 (∀ S ks H,Pv S xs.length ks H→H S=some (.lst ks)∧ks.length=xs.length∧(∀ (i:Nat) (v:V) (k:Int×List Int),ks[i]?=some v→kz[i]?=some k→qL H v k) ∧
  ∀ p:Array Nat,PermN xs.length p→jN (fun i j=>nO (kz.getD i (0,[])) (kz.getD j (0,[]))) p xs.length→∀ D,upd H S (.lst []) D=none→Q (.ref D) (upd (upd H S (.lst [])) D (.lst (p.toList.map fun i=>xs.getD i .non))))
theorem Dg{K:b5}{H:Hp}{Q:VK}{l:Addr}{ws:List (List Nat)}(hq:SqL K H l (bS ws))(h64:ws.length<64)(hall:∀ x∈ws,AllL x∧x.length≤900)
  (k:∀ (D:Addr) (ws':List (List Nat)) (H':Hp),H D=none→Same H H'→H' D=some (.lst (bS ws'))→ws'.Perm ws→ws'.Pairwise CL→Q (.ref D) H'):DW K spKey [.ref l] H Q:=by
 refine⟨l,bS ws,ws.map lR,fun S i ks H1=>H S=none∧Same H H1∧H1 S=some (.lst ks)∧ks.length=i∧∀ (j:Nat) (v:V) (x:List Nat),ks[j]?=some v→ws[j]?=some x→∃ p a:Addr,v=.ref p∧a≠S∧H1 p=some (.tup [.int (lR x).1,.ref a])∧H1 a=some (.lst ((lR x).2.map V.int)),rfl,hq,by rw[aS];exact h64,by rw[aS,b7],fun i j a b ha hb e=>?_,DE ws,fun S hS=>⟨hS,Same.new hS,aC,rfl,fun j v x hv=>by simp at hv⟩,?_,?_⟩
 ·rw[c9] at ha hb
  obtain⟨x,_,rfl⟩:=i9.mp ha
  obtain⟨y,_,rfl⟩:=i9.mp hb
  have h1:=jE x
  have h2:=jE y
  unfold DH at h1 h2
  omega
 ·rintro S i ks H1 ⟨hS,s1,eS,hkl,hks⟩ y hy
  obtain⟨x,hx,rfl⟩:=fB hy
  obtain⟨hxa,hxl⟩:=hall x (b6 hx)
  refine⟨x,rfl,hxa,hxl,fun p a H2 hp ha s2 ep ea=>⟨s2 _ _ eS,hkl,hS,(s1.trans s2).upd hS,aC,by rw[c5,hkl];rfl,fun j v z hv hz=>?_⟩⟩
  have hpS:p≠S:=(aJ eS hp).symm
  have haS:a≠S:=(aJ eS ha).symm
  by_cases hj:j<ks.length
  ·rw[l5 hj] at hv
   obtain⟨p',a',e0,e1,e2,e3⟩:=hks j v z hv hz
   refine⟨p',a',e0,e1,?_,?_⟩
   ·rw[aE (dI e2 eS (by intro z;cases z))];exact s2 _ _ e2
   ·rw[aE e1];exact s2 _ _ e3
  ·have ej:j=ks.length:=by
    have:=(a9.mp hv).1
    rw[c5,u9] at this
    omega
   subst ej
   rw[hkl] at hz
   rw[hx] at hz
   cases hz
   have ev:v=.ref p:=by simpa using hv.symm
   subst ev
   exact⟨p,a,rfl,haS,by rw[aE hpS];exact ep,by rw[aE haS];exact ea⟩
 ·rintro S ks H1 ⟨hS,s1,eS,hkl,hks⟩
  refine⟨eS,hkl,fun i v q hv hq2=>?_,fun p hp so D hD=>?_⟩
  ·rw[c9] at hq2
   obtain⟨x,hx,rfl⟩:=i9.mp hq2
   obtain⟨p,a,e0,_,e2,e3⟩:=hks i v x hv hx
   exact⟨p,a,e0,e2,e3⟩
  ·rw[aS] at hp so
   have hb:∀ i∈p.toList,i<ws.length:=fun i hi=>by
    have:=(aQY.mp hp).mem_iff.mp hi
    simpa using this
   rw[Cv ws p.toList hb]
   have sS:Same H (upd H1 S (.lst [])):=s1.upd hS
   exact k D _ _ (sS.free hD) (sS.upd' hD) aC (yY hp) (uW rfl hp so)
end Lw
namespace L2
open PySem PySem.Spec PyProof.Rows
section
variable {prog:Program}{w:World}{A:Around}{E:Value→Shared→Prop}{s:Shared}
theorem Ai{d:Addr}{o:Obj}{Q:Value→Shared→Prop}(hn:(d == sysModules)=false)(hd:s.heap.get? d=some o)(ho:o.ExactDict)
  (h:Q (.ref s.heap.objs.size) { s with heap:=s.heap.push { cls:=.type "dict_items",data:=.fields #[.ref d] } }):wpAny (model prog w) A (call (.builtin "dict.items") [.ref d]) Q E s:=by
 have hT:s.TypeIs (.ref d) "dict":=⟨_,hd,ho.1⟩
 refine wpAny_call_entry F.slot_dict_items hT F.entry_dict_items ?_ (F.args_dict_items_1 _)
 unfold Builtin.«dict.items» Builtin.Dict.noArgs Builtin.Dict.notOrdered
 rw[if_pos (by decide)]
 refine wpAny_bind (wpAny_bind (wpAny_bind (wpAny_typeOf hT ?_)))
 rw[if_neg (by decide)]
 refine wpAny_pure (wpAny_bind ?_)
 rw[show Builtin.Dict.nameIsSure "items" ⟨[.ref d],[]⟩ (!(⟨[.ref d],[]⟩:Args).kw.isEmpty || (⟨[.ref d],[]⟩:Args).pos.length != 1)=pure () from rfl]
 refine wpAny_pure (wpAny_bind ?_)
 rw[show selfOnly (toString "dict."++toString "items") ⟨[.ref d],[]⟩=pure (.ref d) from rfl]
 refine wpAny_pure (wpAny_pure (wpAny_bind ?_))
 unfold Builtin.Dict.showsAll
 rw[hn]
 refine wpAny_pure (wpAny_bind ?_)
 unfold newFields
 exact wpAny_newObj_type (wpAny_pure ⟨_,rfl,h⟩) (by size_fits)
end
end L2
namespace Lw
open PySem PySem.Spec PyProof.Rows L2 Ma MaR
section
variable {c:Nat}{sd:List Nat}
theorem Cz{c e:Nat}(hc:bX c)(he:bX e)(hl:aY e=true):e=lo c↔e=c∨e=con c:=by
 rcases aO hc with rfl | rfl | rfl | rfl | rfl | rfl | rfl | rfl <;> rcases aO he with rfl | rfl | rfl | rfl | rfl | rfl | rfl | rfl <;> revert hl <;> decide
end
end Lw
namespace L2
open PySem PySem.Spec PyProof.Rows
end L2
namespace Lw
open PySem PySem.Spec PyProof.Rows L2 Ma MaR
theorem mG{α:Type}(p:α→Bool)(l:List α)(i:Nat)(x:α)(h:l[i]?=some x):(l.take (i+1)).filter p=(l.take i).filter p++(if p x then [x] else []):=by
 rw[p6,h,aX8]
 congr 1
 show [x].filter p=_
 by_cases q:p x=true
 ·rw[aQx q,if_pos q];rfl
 ·rw[aQy q,if_neg q];rfl
theorem uM{n:Nat}(h1:1≤n)(h4:n≤4):letV.take (2 * n)=bB (aI n):=by
 rcases Aq h1 h4 with rfl | rfl | rfl | rfl <;> rfl
inductive spLetT(K:b5)(vs:List V)(H:Hp)(Q:VK)(E:XK):Prop
 | mk (n:Nat) (_:vs=[.int (n:Nat)]) (_:1≤n) (_:n≤4) (_:∀ (p:Addr) (H':Hp),Same H H'→SqT K H' p (bB (aI n))→Q (.ref p) H'):spLetT K vs H Q E
end Lw
namespace L2
open PySem PySem.Spec PyProof.Rows
end L2
namespace Lw
open PySem PySem.Spec PyProof.Rows L2
end Lw
namespace L2
open PySem PySem.Spec PyProof.Rows
end L2
namespace Lw
open PySem PySem.Spec PyProof.Rows L2 Ma MaR
end Lw
namespace L2
open PySem PySem.Spec PyProof.Rows
end L2
namespace Lw
open PySem PySem.Spec PyProof.Rows L2
end Lw
namespace L2
open PySem PySem.Spec PyProof.Rows
end L2
namespace Lw
open PySem PySem.Spec PyProof.Rows L2 Ma MaR
end Lw
namespace L2
open PySem PySem.Spec PyProof.Rows
end L2
namespace Lw
open PySem PySem.Spec PyProof.Rows L2 Ma MaR
end Lw
namespace L2
open PySem PySem.Spec PyProof.Rows
end L2
namespace LtL
open PySem PyProof.Rows HT
open PySem.SeqAt
open PySem.AutoSeq1 (wpAny_loadPart')
open PySem.MeetsSeq PySem.MeetsSeq2 PySem.MeetsSeq3
end LtL
namespace L2
open PySem PySem.Spec PyProof.Rows
end L2
namespace Lw
open PySem PySem.Spec PyProof.Rows L2 Ma MaR
end Lw
namespace L2
open PySem PySem.Spec PyProof.Rows
end L2
namespace Lw
open PySem PySem.Spec PyProof.Rows L2 Ma MaR
theorem pY:∀ (w:List Nat) (i:Nat),(bB w).eraseIdx i=bB (w.eraseIdx i)
 | [],_=>rfl
 | _::_,0=>rfl
 | c::w,i+1=>by
  show V.str (S [c])::(bB w).eraseIdx i=V.str (S [c])::bB (w.eraseIdx i)
  rw[pY w i]
end Lw
namespace PySem
open Sem (wp)
end PySem
namespace L2
open PySem PySem.Spec PyProof.Rows
end L2
namespace Lw
open PySem PySem.Spec PyProof.Rows L2 Ma MaR
structure Exch(n:Nat)(cs:List Nat):Prop where
 len:cs.length=n
 mem:∀ c∈cs,c∈aI n
 perm:(cs.map lo).Perm (bP n)
def bU(cs:List Nat):List (List Nat):=cs.map fun c=>[c]
inductive spExchP(vs:List V)(H:Hp)(Q:VK)(E:XK):Prop
 | mk (fl sc:Addr) (n:Nat) (_:vs=[.ref fl,.int (n:Nat)]) (_:IsFl H fl sc) (_:1≤n) (_:n≤4) (_:∀ (p:Addr) (cs:List Nat) (H':Hp),H p=none→Exch n cs→RT (bU cs) n 1→(∀ x∈bU cs,OfN n x)→H' p=some (.tup (bS (bU cs)))→IsFl H' fl sc→Kp fl H H'→Q (.ref p) H'):spExchP vs H Q E
theorem zZ{d:Nat}(hd:bX d)(h:aY d=true):lo d=d:=((Cz hd hd h).mpr (.inl rfl)).symm
theorem Hi{d:Nat}(hd:bX d)(h:aY d=true):lo (con d)=d:=((Cz (bQ hd) hd h).mpr (.inr (aP hd).symm)).symm
theorem zK{ls:List Nat}{i d:Nat}(h:ls[i]?=some d):(d::ls.eraseIdx i).Perm ls:=by
 induction ls generalizing i with
 | nil=>simp at h
 | cons a ls ih =>
  cases i with
  | zero=>simp at h;subst h;exact aJS _
  | succ i =>
   have:=ih (i:=i) (by simpa using h)
   show (d::a::ls.eraseIdx i).Perm (a::ls)
   exact(List.Perm.swap a d _).trans (this.cons a)
end Lw
namespace L2
open PySem PySem.Spec PyProof.Rows
end L2
namespace Lw
open PySem PySem.Spec PyProof.Rows L2 Ma MaR
def oO(c:Nat):Nat:=if aY c=true then c - 97 else c - 65
def gX(cs:List Nat)(c:Nat):Nat:=if aY c=true then cs.getD (oO c) 0 else con (cs.getD (oO c) 0)
theorem Fm{n c:Nat}(h1:1≤n)(h4:n≤4)(h:c∈aI n):oO c<n:=by
 have hL:=aO (aK h)
 rcases Aq h1 h4 with rfl | rfl | rfl | rfl <;> rcases hL with rfl | rfl | rfl | rfl | rfl | rfl | rfl | rfl <;> revert h <;> decide
theorem DV{c d:Nat}(hc:bX c)(hd:bX d)(h:oO c=oO d):c=d∨c=con d:=by
 rcases aO hc with rfl | rfl | rfl | rfl | rfl | rfl | rfl | rfl <;> rcases aO hd with rfl | rfl | rfl | rfl | rfl | rfl | rfl | rfl <;> revert h <;> decide
theorem gF{d:Nat}(hd:bX d):lo (con d)=lo d:=by
 rcases aO hd with rfl | rfl | rfl | rfl | rfl | rfl | rfl | rfl <;> decide
theorem rV{n:Nat}(h1:1≤n)(h4:n≤4):(bP n).Nodup:=by
 rcases Aq h1 h4 with rfl | rfl | rfl | rfl <;> decide
section
variable {n:Nat}{cs:List Nat}(h1:1≤n)(h4:n≤4)(e:Exch n cs)
include h1 h4 e
theorem Exch.at{c:Nat}(h:c∈aI n):∃ d,cs[oO c]?=some d∧d∈aI n∧gX cs c=if aY c=true then d else con d:=by
 have hi:=Fm h1 h4 h
 have hl:oO c<cs.length:=by rw[e.len];exact hi
 refine⟨cs[oO c],b0 hl,e.mem _ (aQF hl),?_⟩
 unfold gX
 rw[b8,b0 hl]
 rfl
theorem Exch.tell{c:Nat}(h:c∈aI n):tell (bU cs) c=[gX cs c]:=by
 obtain⟨d,hd,_,hg⟩:=e.at h1 h4 h
 have e0:(bU cs).getD (oO c) []=[d]:=by
  unfold bU
  rw[b8,c9,hd]
  rfl
 unfold Lw.tell
 rw[hg]
 by_cases q:aY c=true
 ·rw[if_pos q,if_pos q]
  unfold oO at e0
  rw[if_pos q] at e0
  exact e0
 ·rw[if_neg q,if_neg q]
  unfold oO at e0
  rw[if_neg q] at e0
  rw[e0]
  rfl
theorem Exch.gmem{c:Nat}(h:c∈aI n):gX cs c∈aI n:=by
 obtain⟨d,_,hm,hg⟩:=e.at h1 h4 h
 rw[hg]
 split
 ·exact hm
 ·exact cE (by omega) (by omega) hm
theorem Exch.gcon{c:Nat}(h:c∈aI n):gX cs (con c)=con (gX cs c):=by
 have hc:=aK h
 have q:(aY c=true∧aY (con c)=false∧oO (con c)=oO c)∨(aY c=false∧aY (con c)=true∧oO (con c)=oO c):=by
  rcases aO hc with rfl | rfl | rfl | rfl | rfl | rfl | rfl | rfl <;> decide
 obtain⟨d,hd,hm,hg⟩:=e.at h1 h4 h
 have e1:cs.getD (oO c) 0=d:=by rw[b8,hd];rfl
 unfold gX
 rcases q with ⟨a,b,c'⟩ | ⟨a,b,c'⟩
 ·rw[c',e1,if_neg (by rw[b];decide),if_pos a]
 ·rw[c',e1,if_pos b,if_neg (by rw[a];decide),aP (aK hm)]
theorem Exch.ginj{c d:Nat}(hc:c∈aI n)(hd:d∈aI n)(h:gX cs c=gX cs d):c=d:=by
 obtain⟨x,hx,xm,gx⟩:=e.at h1 h4 hc
 obtain⟨y,hy,ym,gy⟩:=e.at h1 h4 hd
 have lx:lo (gX cs c)=lo x:=by rw[gx];split <;> first | rfl | exact gF (aK xm)
 have ly:lo (gX cs d)=lo y:=by rw[gy];split <;> first | rfl | exact gF (aK ym)
 have nd:(cs.map lo).Nodup:=(e.perm.nodup_iff).mpr (rV h1 h4)
 have ei:oO c=oO d:=by
  have q1:(cs.map lo)[oO c]?=some (lo x):=by rw[c9,hx];rfl
  have q2:(cs.map lo)[oO d]?=some (lo x):=by rw[c9,hy,← lx,h,ly];rfl
  have l1:oO c<(cs.map lo).length:=(a9.mp q1).1
  exact(List.getElem?_inj l1 nd).mp (q1.trans q2.symm)
 rcases DV (aK hc) (aK hd) ei with z | z
 ·exact z
 ·exfalso
  rw[z,e.gcon h1 h4 hd] at h
  exact uS (aK (e.gmem h1 h4 hd)) h
theorem Exch.told{x:List Nat}(hx:OfN n x):told (bU cs) x=x.map (gX cs):=by
 induction x with
 | nil=>rfl
 | cons c x ih=>rw[dX,e.tell h1 h4 (hx c d4),ih fun d hd=>hx d (c8 _ hd)];rfl
theorem Exch.plain{x:List Nat}(hx:OfN n x)(hp:aW x):aW (x.map (gX cs)):=by
 unfold aW at *
 rw[← aXC]
 have:∀ y:List Nat,(∀ c∈y,c∈aI n)→PlainR y→PlainR (y.map (gX cs)):=by
  intro y
  induction y with
  | nil=>intro _ _;trivial
  | cons a y ih =>
   intro hm hq
   cases y with
   | nil=>trivial
   | cons b y =>
    refine⟨fun z=>hq.1 ?_,ih (fun c hc=>hm c (c8 _ hc)) hq.2⟩
    have ham:=hm a (by simp)
    rw[← e.gcon h1 h4 ham] at z
    exact e.ginj h1 h4 (hm b (by simp)) (cE (by omega) (by omega) ham) z
 exact this _ (fun c hc=>hx c (y7.mp hc)) hp
theorem Exch.retl{x:List Nat}(hx:OfN n x)(hp:aW x):retl (bU cs) x=x.map (gX cs):=by
 unfold Lw.retl
 rw[e.told h1 h4 hx,dZ (e.plain h1 h4 hx hp)]
end
def nE(c:Nat)(sd:List Nat):List Nat:=sd.map fun d=>if d=c then con c else d
structure GoodB(n c:Nat)(sd:List Nat):Prop where
 let':c∈aI n
 side:∀ d∈sd,d∈aI n
 ord:sd.Pairwise fun a b=>rk a<rk b
 has:c∈sd
 hasn:¬ con c∈sd
theorem iS{c d:Nat}{sd:List Nat}(h:c∈sd):d∈nE c sd↔d=con c∨(d∈sd∧d≠c):=by
 unfold nE
 rw[d5]
 constructor
 ·rintro⟨a,ha,e⟩
  by_cases q:a=c
  ·rw[if_pos q] at e;exact .inl e.symm
  ·rw[if_neg q] at e;subst e;exact .inr ⟨ha,q⟩
 ·rintro(rfl | ⟨a,b⟩)
  ·exact⟨c,h,if_pos rfl⟩
  ·exact⟨d,a,if_neg b⟩
theorem D3{c:Nat}{sd:List Nat}(hc:bX c)(hn:¬ con c∈sd):nE (con c) (nE c sd)=sd:=by
 unfold nE
 rw[p7]
 refine(p9 fun d hd=>?_).trans (aZI sd)
 show (if (if d=c then con c else d)=con c then con (con c) else (if d=c then con c else d))=d
 by_cases q:d=c
 ·rw[if_pos q,if_pos rfl,aP hc,q]
 ·have q2:¬ d=con c:=fun z=>hn (z ▸ hd)
  rw[if_neg q,if_neg q2]
theorem A4{c d:Nat}(hc:bX c)(hd:bX d)(h1:d≠c)(h2:d≠con c):(rk d<rk c↔rk d<rk (con c))∧(rk c<rk d↔rk (con c)<rk d):=by
 rcases aO hc with rfl | rfl | rfl | rfl | rfl | rfl | rfl | rfl <;> rcases aO hd with rfl | rfl | rfl | rfl | rfl | rfl | rfl | rfl <;> revert h1 h2 <;> decide
theorem GoodB.back{n c:Nat}{sd:List Nat}(h1:1≤n)(h4:n≤4)(g:GoodB n c sd):GoodB n (con c) (nE c sd):=by
 have hc:=aK g.let'
 have hcn:con c∈aI n:=cE (by omega) (by omega) g.let'
 refine⟨hcn,fun d hd=>?_,?_,(iS g.has).mpr (.inl rfl),fun z=>?_⟩
 ·rcases(iS g.has).mp hd with rfl | ⟨h,_⟩
  ·exact hcn
  ·exact g.side d h
 ·unfold nE
  rw[aXi]
  refine aQt (fun {a b} ha hb hab=>?_) g.ord
  have na:a≠con c:=fun z=>g.hasn (z ▸ ha)
  have nb:b≠con c:=fun z=>g.hasn (z ▸ hb)
  by_cases qa:a=c
  ·by_cases qb:b=c
   ·subst qa;subst qb;exact absurd hab (aQW _)
   ·subst qa
    rw[if_pos rfl,if_neg qb]
    exact(A4 hc (aK (g.side b hb)) qb nb).2.mp hab
  ·by_cases qb:b=c
   ·subst qb
    rw[if_neg qa,if_pos rfl]
    exact(A4 hc (aK (g.side a ha)) qa na).1.mp hab
   ·rw[if_neg qa,if_neg qb];exact hab
 ·rw[aP hc] at z
  rcases(iS g.has).mp z with z | ⟨_,z⟩
  ·exact uS hc z.symm
  ·exact z rfl
theorem mK{n c:Nat}{sd:List Nat}(h1:1≤n)(h4:n≤4){d:Nat}(hd:d∈aI n):tell (jK n c sd) d=if aY d=true then sV c sd d else back (sV c sd (con d)):=by
 unfold tell jK
 rcases mP h1 h4 hd with ⟨a,b⟩ | ⟨a,b⟩
 ·rw[if_pos a,if_pos a,b8,c9,b];rfl
 ·rw[if_neg (by rw[a];decide),if_neg (by rw[a];decide),b8,c9,b];rfl
def zR(c d:Nat)(p q:Bool):List Nat:=if d=lo c then [d] else (if p=true then [con c] else [])++[d]++(if q=true then [c] else [])
theorem Fd(c:Nat)(sd:List Nat)(d:Nat):sV c sd d=zR c d (decide (con d∈sd)) (decide (d∈sd)):=by
 unfold sV zR
 simp only [decide_eq_true_eq]
theorem uZ:∀ c∈lets,∀ d∈[97,98,99,100],∀ p q:Bool,lay ((zR c d p q).flatMap fun e=>if e=c∨e=con c then [e] else if aY e=true then zR (con c) e p q else back (zR (con c) (con e) p q))=[d]:=by decide +kernel
theorem Hg{c d e:Nat}{p q:Bool}(h:e∈zR c d p q):e=d∨e=c∨e=con c:=by
 unfold zR at h
 split at h
 ·exact .inl (c6.mp h)
 ·rcases k0.mp h with h | h
  ·rcases k0.mp h with h | h
   ·split at h
    ·exact .inr (.inr (c6.mp h))
    ·cases h
   ·exact .inl (c6.mp h)
  ·split at h
   ·exact .inr (.inl (c6.mp h))
   ·cases h
theorem kQ{c:Nat}(hc:bX c):(lo c=c∧aY c=true)∨(lo c=con c∧aY c=false):=by
 rcases aO hc with rfl | rfl | rfl | rfl | rfl | rfl | rfl | rfl <;> decide
theorem nI(c:Nat)(sd:List Nat):sV c sd (lo c)=[lo c]:=by unfold sV;rw[if_pos rfl]
theorem tU{n c:Nat}{sd:List Nat}(h1:1≤n)(h4:n≤4)(g:GoodB n c sd):bC (jK n c sd) (jK n (con c) (nE c sd))=cC n:=by
 have hc:=aK g.let'
 unfold bC jK cC
 rw[p7]
 refine p9 fun d hd=>?_
 show retl (jK n (con c) (nE c sd)) (sV c sd d)=[d]
 have hdl:d∈aI n:=eI h1 h4 hd
 have hdL:=aK hdl
 have hlow:aY d=true:=hX hd
 by_cases q:d=lo c
 ·-- the change's own letter
  subst q
  rw[nI]
  unfold retl told
  rw[x9,List.flatMap_nil,l4,mK h1 h4 hdl,if_pos hlow,← gF hc,nI,gF hc]
  rcases aO hc with rfl | rfl | rfl | rfl | rfl | rfl | rfl | rfl <;> decide
 ·have n1:d≠c:=by
   intro z;subst z
   rcases kQ hc with ⟨a,_⟩ | ⟨_,b⟩
   ·exact q a.symm
   ·rw[b] at hlow;cases hlow
  have n2:d≠con c:=by
   intro z;subst z
   exact q (by rw[← gF hc,zZ (bQ hc) hlow])
  have n3:con d≠c:=fun z=>n2 (by rw[← z,aP hdL])
  have n4:con d≠con c:=fun z=>n1 (by rw[← aP hdL,z,aP hc])
  have e1:decide (d∈nE c sd)=decide (d∈sd):=decide_eq_decide.mpr ⟨fun z=>((iS g.has).mp z).elim (fun z=>absurd z n2) (·.1),fun z=>(iS g.has).mpr (.inr ⟨z,n1⟩)⟩
  have e2:decide (con d∈nE c sd)=decide (con d∈sd):=decide_eq_decide.mpr ⟨fun z=>((iS g.has).mp z).elim (fun z=>absurd z n4) (·.1),fun z=>(iS g.has).mpr (.inr ⟨z,n3⟩)⟩
  have key:=uZ c (CH hc) d (by unfold bP at hd;exact r6 hd) (decide (con d∈sd)) (decide (d∈sd))
  unfold retl told
  rw[Fd,← key]
  congr 1
  refine jF fun e he=>?_
  rcases Hg he with rfl | z | z
  ·rw[if_neg (fun z=>z.elim n1 n2),if_pos hlow,mK h1 h4 hdl,if_pos hlow,Fd,e1,e2]
  ·subst z
   rw[if_pos (.inl rfl),mK h1 h4 g.let']
   rcases kQ hc with ⟨a,b⟩ | ⟨a,b⟩
   ·rw[if_pos b]
    have:=nI (con e) (nE e sd)
    rw[gF hc,a] at this
    exact this
   ·rw[if_neg (by rw[b];decide)]
    have:=nI (con e) (nE e sd)
    rw[gF hc,a] at this
    rw[this]
    show [con (con e)]=[e]
    rw[aP hc]
  ·subst z
   rw[if_pos (.inr rfl),mK h1 h4 (cE (by omega) (by omega) g.let')]
   rcases kQ hc with ⟨a,b⟩ | ⟨a,b⟩
   ·have b':aY (con c)=false:=by rcases aO hc with rfl | rfl | rfl | rfl | rfl | rfl | rfl | rfl <;> revert b <;> decide
    rw[if_neg (by rw[b'];decide),aP hc]
    have:=nI (con c) (nE c sd)
    rw[gF hc,a] at this
    rw[this]
    rfl
   ·have b':aY (con c)=true:=by rcases aO hc with rfl | rfl | rfl | rfl | rfl | rfl | rfl | rfl <;> revert b <;> decide
    rw[if_pos b']
    have:=nI (con c) (nE c sd)
    rw[gF hc,a] at this
    exact this
theorem yF{c:Nat}{sd:List Nat}(hs:sd.Nodup)(h:c∈sd):(nE c sd).Perm ((sd.filter fun d=>decide (d≠c))++[con c]):=by
 induction sd with
 | nil=>cases h
 | cons a sd ih =>
  obtain⟨hn,hs'⟩:=l9.mp hs
  by_cases q:a=c
  ·subst q
   have e1:nE a (a::sd)=con a::sd:=by
    show (if a=a then con a else a)::(sd.map fun d=>if d=a then con a else d)=_
    rw[if_pos rfl]
    congr 1
    refine(p9 fun d hd=>?_).trans (aZI sd)
    have q2:¬ d=a:=fun z=>hn (z ▸ hd)
    rw[if_neg q2];rfl
   have e2:((a::sd).filter fun d=>decide (d≠a))=sd:=by
    rw[aQy (by simp)]
    exact aZ3.mpr fun d hd=>decide_eq_true fun z=>hn (z ▸ hd)
   rw[e1,e2]
   exact List.perm_append_comm (l₁:=[con a])
  ·have e1:nE c (a::sd)=a::nE c sd:=by
    show (if a=c then con c else a)::_=_
    rw[if_neg q];rfl
   rw[e1,aQx (by simpa using q)]
   exact(ih hs' ((c7.mp h).resolve_left fun z=>q z.symm)).cons a
def yM(cs:List Nat)(d:Nat):Nat:=if d∈cs then 97+cs.idxOf d else 65+cs.idxOf (con d)
def xB(n:Nat)(cs:List Nat):List Nat:=(bP n).map (yM cs)
theorem gW{n i:Nat}(h1:1≤n)(h4:n≤4)(h:i<n):97+i∈aI n∧65+i∈aI n∧aY (97+i)=true∧aY (65+i)=false∧oO (97+i)=i∧oO (65+i)=i∧97+i∈bP n∧lo (97+i)=97+i∧lo (65+i)=97+i:=by
 rcases Aq h1 h4 with rfl | rfl | rfl | rfl <;> (have:i=0∨i=1∨i=2∨i=3:=by omega) <;> rcases this with rfl | rfl | rfl | rfl <;> first | omega | decide
theorem Cm{n d:Nat}(h1:1≤n)(h4:n≤4)(h:d∈bP n):(bP n)[oO d]?=some d:=by
 have hd:=eI h1 h4 h
 have hl:=hX h
 rcases mP h1 h4 hd with ⟨a,b⟩ | ⟨a,b⟩
 ·unfold oO;rw[if_pos a];exact b
 ·rw[a] at hl;cases hl
theorem xI:∀ {l m:List Nat},l.Nodup→l ⊆ m→m.length≤l.length→l.Perm m
 | [],m,_,_,h=>by
  have:m=[]:=o6.mp (Nat.le_zero.mp h)
  rw[this]
 | a::l,m,nd,sub,h=>by
  obtain⟨hn,nd'⟩:=l9.mp nd
  have ha:a∈m:=sub d4
  have hp:=List.perm_cons_erase ha
  refine((xI nd' (fun x hx=>?_) ?_).cons a).trans hp.symm
  ·have q:x≠a:=fun z=>hn (z ▸ hx)
   exact(aZW q).mpr (sub (c8 _ hx))
  ·rw[aQu ha]
   rw[j0] at h
   omega
section
variable {n:Nat}{cs:List Nat}(h1:1≤n)(h4:n≤4)(e:Exch n cs)
include h1 h4 e
theorem Exch.has{d:Nat}(h:d∈bP n):d∈cs∨con d∈cs:=by
 obtain⟨c,hc,z⟩:=d5.mp (e.perm.mem_iff.mpr h)
 have hcL:=aK (e.mem c hc)
 rcases kQ hcL with ⟨a,_⟩ | ⟨a,_⟩
 ·exact .inl (by rw[← z,a];exact hc)
 ·exact .inr (by rw[← z,a,aP hcL];exact hc)
theorem Exch.bk{d:Nat}(h:d∈bP n):yM cs d∈aI n∧gX cs (yM cs d)=d:=by
 have hd:=aK (eI h1 h4 h)
 unfold yM
 by_cases q:d∈cs
 ·rw[if_pos q]
  have hi:cs.idxOf d<cs.length:=aQn q
  obtain⟨a1,a2,a3,a4,a5,a6,a7,a8⟩:=gW h1 h4 (i:=cs.idxOf d) (by rw[← e.len];exact hi)
  refine⟨a1,?_⟩
  unfold gX
  rw[if_pos a3,a5,b8,b0 hi]
  exact aX9 hi
 ·rw[if_neg q]
  have q2:con d∈cs:=(e.has h1 h4 h).resolve_left q
  have hi:cs.idxOf (con d)<cs.length:=aQn q2
  obtain⟨a1,a2,a3,a4,a5,a6,a7,a8⟩:=gW h1 h4 (i:=cs.idxOf (con d)) (by rw[← e.len];exact hi)
  refine⟨a2,?_⟩
  unfold gX
  rw[if_neg (by rw[a4];decide),a6,b8,b0 hi]
  show con (cs[cs.idxOf (con d)])=d
  rw[aX9 hi,aP hd]
theorem Exch.xB_len:(xB n cs).length=n:=by unfold xB;rw[b7,dE h4]
theorem Exch.xB_at{d:Nat}(h:d∈bP n):gX (xB n cs) d=yM cs d:=by
 unfold gX xB
 rw[if_pos (hX h),b8,c9,Cm h1 h4 h]
 rfl
theorem Exch.back:Exch n (xB n cs):=by
 have hm:∀ c∈xB n cs,c∈aI n:=fun c hc=>by
  obtain⟨d,hd,rfl⟩:=d5.mp hc
  exact(e.bk h1 h4 hd).1
 refine⟨e.xB_len h1 h4,hm,?_⟩
 -- the lower letters of the way back are each but once
 have nd:((xB n cs).map lo).Nodup:=by
  unfold xB
  rw[p7]
  refine aKC _ (fun a b (hab:a∈bP n∧b∈bP n∧a≠b)=>?_) (aQt (fun {a b} ha hb hab=>⟨ha,hb,hab⟩) (rV h1 h4))
  obtain⟨ha,hb,hab⟩:=hab
  intro z
  obtain⟨ma,ga⟩:=e.bk h1 h4 ha
  obtain⟨mb,gb⟩:=e.bk h1 h4 hb
  have:yM cs a=yM cs b∨yM cs a=con (yM cs b):=by
   have hz:lo (yM cs a)=lo (yM cs b):=z
   have La:=aK ma
   have Lb:=aK mb
   rcases kQ La with ⟨x,_⟩ | ⟨x,_⟩ <;> rcases kQ Lb with ⟨y,_⟩ | ⟨y,_⟩ <;> rw[x,y] at hz
   ·exact .inl hz
   ·exact .inr hz
   ·exact .inr (by rw[← hz,aP La])
   ·exact .inl (by rw[← aP La,hz,aP Lb])
  rcases this with w | w
  ·exact hab (by rw[← ga,← gb,w])
  ·have h0:a=con b:=by rw[← ga,w,e.gcon h1 h4 mb,gb]
   have la:=hX ha
   have lb:=hX hb
   have Lb:=aK (eI h1 h4 hb)
   rw[h0] at la
   revert la lb
   rcases aO Lb with rfl | rfl | rfl | rfl | rfl | rfl | rfl | rfl <;> decide
 have sub:((xB n cs).map lo) ⊆ bP n:=fun x hx=>by
  obtain⟨c,hc,rfl⟩:=d5.mp hx
  have:=hm c hc
  have hL:=aK this
  revert this
  rcases Aq h1 h4 with rfl | rfl | rfl | rfl <;> rcases aO hL with rfl | rfl | rfl | rfl | rfl | rfl | rfl | rfl <;> decide
 exact xI nd sub (by rw[b7,e.xB_len h1 h4,dE h4];exact c0 _)
theorem Exch.gg{c:Nat}(h:c∈aI n):gX cs (gX (xB n cs) c)=c:=by
 have b:=e.back h1 h4
 have hL:=aK h
 rcases mP h1 h4 h with ⟨a,q⟩ | ⟨a,q⟩
 ·have hd:c∈bP n:=b6 q
  rw[e.xB_at h1 h4 hd,(e.bk h1 h4 hd).2]
 ·have hd:con c∈bP n:=b6 q
  have hk:=e.bk h1 h4 hd
  have e1:gX (xB n cs) c=con (yM cs (con c)):=by
   rw[← e.xB_at h1 h4 hd,b.gcon h1 h4 h,aP (aK (b.gmem h1 h4 h))]
  rw[e1,e.gcon h1 h4 hk.1,hk.2,aP hL]
theorem Exch.gg'{c:Nat}(h:c∈aI n):gX (xB n cs) (gX cs c)=c:=by
 have b:=e.back h1 h4
 have hm:=e.gmem h1 h4 h
 exact e.ginj h1 h4 (b.gmem h1 h4 hm) h (e.gg h1 h4 hm)
end
theorem Exch.ext{n:Nat}{cs ds:List Nat}(h1:1≤n)(h4:n≤4)(e:Exch n cs)(f:Exch n ds)(h:∀ c∈bP n,gX cs c=gX ds c):cs=ds:=by
 refine aZy (by rw[e.len,f.len]) fun i hi hj=>?_
 obtain⟨a1,a2,a3,a4,a5,a6,a7,a8⟩:=gW h1 h4 (i:=i) (by rw[← e.len];exact hi)
 have:=h _ a7
 unfold gX at this
 rw[if_pos a3,if_pos a3,a5,b8,b8,b0 hi,b0 hj] at this
 exact this
theorem Exch.xx{n:Nat}{cs:List Nat}(h1:1≤n)(h4:n≤4)(e:Exch n cs):xB n (xB n cs)=cs:=by
 have b:=e.back h1 h4
 refine(b.back h1 h4).ext h1 h4 e fun c hc=>?_
 have hcl:=eI h1 h4 hc
 have hm:=e.gmem h1 h4 hcl
 refine b.ginj h1 h4 ((b.back h1 h4).gmem h1 h4 hcl) hm ?_
 rw[b.gg h1 h4 hcl,e.gg' h1 h4 hcl]
theorem Exch.thenB{n:Nat}{cs:List Nat}(h1:1≤n)(h4:n≤4)(e:Exch n cs):bC (bU cs) (bU (xB n cs))=cC n:=by
 have b:=e.back h1 h4
 unfold bC bU cC
 rw[p7]
 refine aZy (by rw[b7,b7,e.len,dE h4]) fun i hi hj=>?_
 rw[b7] at hi
 obtain⟨a1,a2,a3,a4,a5,a6,a7,a8⟩:=gW h1 h4 (i:=i) (by rw[← e.len];exact hi)
 rw[aXF,aXF]
 show Lw.retl (bU (xB n cs)) [cs[i]]=[(bP n)[i]'(by rw[b7] at hj;exact hj)]
 have hm:=e.mem _ (aQF hi)
 rw[b.retl h1 h4 (fun c hc=>by rw[c6.mp hc];exact hm) (by unfold aW;exact trivial)]
 have g1:gX cs (97+i)=cs[i]:=by
  unfold gX
  rw[if_pos a3,a5,b8,b0 hi]
  rfl
 have g2:=e.gg' h1 h4 a1
 rw[g1] at g2
 have g3:=Cm h1 h4 a7
 rw[a5] at g3
 show [gX (xB n cs) cs[i]]=_
 rw[g2,(a9.mp g3).2]
structure IvS(n:Nat)(st bk:List (List Nat)):Prop where
 rt:RT st n 3∧∀ x∈st,OfN n x
 bt:RT bk n 3∧∀ x∈bk,OfN n x
 there:bC st bk=cC n
 back:bC bk st=cC n
theorem EN{n c:Nat}{sd:List Nat}(h1:1≤n)(h4:n≤4)(g:GoodB n c sd):IvS n (jK n c sd) (jK n (con c) (nE c sd)):=by
 have hc:=aK g.let'
 have b:=g.back h1 h4
 refine⟨⟨AD h4 hc,xH h1 h4 g.let'⟩,⟨AD h4 (bQ hc),xH h1 h4 b.let'⟩,tU h1 h4 g,?_⟩
 have:=tU h1 h4 b
 rw[aP hc,D3 hc g.hasn] at this
 exact this
theorem lM{n:Nat}{cs:List Nat}(e:Exch n cs):RT (bU cs) n 1∧∀ x∈bU cs,OfN n x:=by
 have ho:∀ x∈bU cs,OfN n x:=fun x hx=>by
  obtain⟨c,hc,rfl⟩:=d5.mp hx
  exact fun d hd=>by rw[c6.mp hd];exact e.mem c hc
 refine⟨⟨by unfold bU;rw[b7,e.len],fun x hx=>(ho x hx).all,fun x hx=>?_⟩,ho⟩
 obtain⟨c,hc,rfl⟩:=d5.mp hx
 exact c0 _
theorem Do{n:Nat}{cs:List Nat}(h1:1≤n)(h4:n≤4)(e:Exch n cs):IvS n (bU cs) (bU (xB n cs)):=by
 have b:=e.back h1 h4
 refine⟨⟨(lM e).1.mono (by decide),(lM e).2⟩,⟨(lM b).1.mono (by decide),(lM b).2⟩,e.thenB h1 h4,?_⟩
 have:=b.thenB h1 h4
 rw[e.xx h1 h4] at this
 exact this
theorem CU{n:Nat}{f:List (List Nat)}(h1:1≤n)(h4:n≤4)(ho:∀ x∈f,OfN n x)(hp:∀ x∈f,aW x):bC f (cC n)=f:=by
 unfold bC
 exact(p9 fun x hx=>tN h1 h4 (ho x hx) (hp x hx)).trans (aZI f)
theorem pM(f s:List (List Nat)):∀ x∈bC f s,aW x:=fun x hx=>by
 obtain⟨y,_,rfl⟩:=d5.mp hx
 exact dW _
theorem rC(n:Nat):∀ x∈cC n,aW x:=fun x hx=>by
 obtain⟨c,_,rfl⟩:=d5.mp hx
 exact trivial
end Lw
namespace PySem
open Sem (wp)
section
variable {prog:Program}{w:World}{K:Type}[DecidableEq K]{knd:KeyKind prog w K}{A:Around}{E:Value→Shared→Prop}{s:Shared}
theorem BW{d:Addr}{kvs:List (K×Value)}{k:K}{key dflt:Value}{Q:Value→Shared→Prop}(hkey:knd.is k key=true)(hm:s.heap.DictOf knd d kvs)(hsz:kvs.length≤sizeLine)
  (h1:∀ v,valueAt kvs k=some v→Q v { s with toks:=s.toks+1 })
  (h2:valueAt kvs k=none→∀ h',h'.DictOf knd d (stored kvs k dflt)→Heap.SameBut d s.heap h'→Q dflt { s with heap:=h',toks:=s.toks+1 }) :
  wpAny (model prog w) A (dictSetDefault d key dflt) Q E s:=by
 have hz:s.heap.DictLe d sizeLine:=by
  obtain⟨o,es,ep,ho,hc,hd,hk,hp,hn⟩:=hm
  intro o' es' ep' ho' hd'
  rw[ho] at ho'
  cases ho'
  rw[hd] at hd'
  cases hd'
  have e1:=hp.length
  have e2:es.toList.length=es.size:=by simp
  omega
 cases hv:valueAt kvs k with
 | some v=>exact wpAny_dictSetDefault_of (hz:=hz) hkey hm.mapOf (fun v' e'=>h1 v' e') fun hn=>by rw[hv] at hn;cases hn
 | none =>
  obtain⟨o,es,ep,ho,hc,hd,hk,hp,hn⟩:=id hm
  have hidx:(es.findIdx? fun e=>knd.is k e.key)=kvs.findIdx? fun kv=>decide (kv.1=k):=by
   rw[← hp.findIdx k];obtain⟨l⟩:=es;simp
  have hnot:k ∉ kvs.map (·.1):=by
   intro hk'
   obtain⟨kv,hkv,he⟩:=d5.mp hk'
   obtain⟨i,hi⟩:=o9 hkv
   have:valueAt kvs k=some kv.2:=valueAt_of_get hn (i:=i) (k:=k) (v:=kv.2) (by rw[hi,← he])
   rw[hv] at this
   cases this
  have hany:¬ (kvs.any fun kv=>decide (kv.1=k))=true:=by
   intro z
   obtain⟨kv,hkv,he⟩:=aZw.mp z
   exact hnot (d5.mpr ⟨kv,hkv,of_decide_eq_true he⟩)
  have hi:(es.findIdx? fun e=>knd.is k e.key)=none:=by
   rw[hidx,List.findIdx?_eq_none_iff]
   intro kv hkv
   exact decide_eq_false fun z=>hnot (d5.mpr ⟨kv,hkv,z⟩)
  unfold dictSetDefault
  try with_reducible refine wpAny_holding ?_
  refine wpAny_bind (knd.pyHash hkey ?_)
  refine wpAny_bind (wpAny_dictFind_of (s:={ s with toks:=s.toks+1 }) hkey ho hd hk ?_)
  rw[hi]
  refine wpAny_bind (wpAny_rule (wpAny_bind (wpAny_updateDictKeys (hz:=hz _ _ _ ho hd) (s:={ s with toks:=s.toks+1 }) ho hd (wpAny_pure (h2 hv _ ⟨_,_,ep+1,aQG _ ho (Obj.isFreed_of_dict (aZX hd _)),
   hc.mapDictKeys _,aZX hd _,hk.push hkey _,?_,?_⟩ (y0 ..))))))
  ·rw[stored,if_neg hany]
   have:=hp.append hkey (knd.hash k) dflt
   obtain⟨l⟩:=es
   simpa using this
  ·rw[stored,if_neg hany,g6]
   refine aQ1.mpr ⟨hn,by simp,fun a ha b hb=>?_⟩
   have hb':b=k:=by simpa using hb
   subst hb'
   intro e
   exact hnot (e ▸ ha)
theorem meets_sdf{k:K}{key:Value}(d:Addr)(hkey:knd.is k key=true)(hd:(d == sysModules)=false)(dflt:Value) :
  MeetsIn prog w (Builtin.«dict.setdefault» ⟨[.ref d,key,dflt],[]⟩) (fun _ R s=>∃ kvs,s.heap.DictOf knd d kvs∧kvs.length≤sizeLine ∧
   (∀ v,valueAt kvs k=some v→R (.ok (.ret v)) { s with toks:=s.toks+1 }) ∧
   (valueAt kvs k=none→∀ h',h'.DictOf knd d (stored kvs k dflt)→Heap.SameBut d s.heap h'→R (.ok (.ret dflt)) { s with heap:=h',toks:=s.toks+1 })) :=
 .of_wp fun A R s ⟨kvs,hm,hz,h1,h2⟩=>by
  unfold Builtin.«dict.setdefault»
  refine wpAny_bind ?_
  unfold Builtin.Dict.keyAndDefault
  refine wpAny_bind (wpAny_notOrdered_dict hm.typeIs ?_)
  show wpAny _ _ (pure (d,key,some dflt)) _ _ s
  refine wpAny_pure ?_
  show wpAny _ _ (if (d == sysModules)=true then _ else (dictSetDefault d key dflt >>= _)) _ _ s
  rw[if_neg (by rw[hd];exact i8)]
  exact wpAny_bind (BW hkey hm hz (fun v hv=>wpAny_pure ⟨v,rfl,h1 v hv⟩) fun hn h' hm' hs'=>wpAny_pure ⟨dflt,rfl,h2 hn h' hm' hs'⟩)
end
end PySem
namespace L2
open PySem PySem.Spec PyProof.Rows
section
variable {X:Cx}{pins:List (Addr×Obj)}{σ:St}{H:Hp}{s:Shared}{a:Addr}{kvs:List (cN×V)}{k:cN}{z:V}{u r:Value}{A:Around}{E:Value→Shared→Prop}
theorem Gb{Q:Value→Shared→Prop}(I:Inv X pins σ H s)(e:H a=some (.dK kvs))(hl:kvs.length<sizeLine)(ry:RelV (kV k) u)(rz:RelV z r)
  (h1:∀ v w' s',dB kvs k=some v→Inv X pins σ H s'→RelV v w'→Q w' s') (h2:dB kvs k=none→∀ s',Inv X pins σ (upd H a (.dK (dF kvs k z))) s'→Q r s') :
  wpAny (model X.prog X.w) A (call (.builtin "dict.setdefault") [.ref a,u,r]) Q E s:=by
 obtain⟨zl,hd,vs,rel,dd⟩:=yA I.hok e
 refine call_meetsIn aX2 dd.typeIs PySem.F.entry_dict_setdefault (PySem.F.args_dict_setdefault_3 _ _ _) (PySem.meets_sdf (knd:=bZ X.prog X.w) a (qD ry) hd r)
  ⟨vs,dd,by rw[← rel.length];exact zl,fun v hv=>?_,fun hn h' dd' hs=>?_⟩
 ·have rv:=rel.val k
  rw[hv] at rv
  cases l:dB kvs k with
  | none=>rw[l] at rv;exact absurd rv (fun z=>z)
  | some v0 =>
   rw[l] at rv
   exact h1 v0 v _ l (I.tok _) rv
 ·have l:dB kvs k=none:=by
   have rv:=rel.val k
   rw[hn] at rv
   cases l:dB kvs k with
   | none=>rfl
   | some v0=>rw[l] at rv;exact absurd rv (fun z=>z)
  have he:∃ q,h'.get? a=some q:=let ⟨q,_,_,hq,_⟩:=dd';⟨q,hq⟩
  refine h2 l _ (oY I (by rw[e];exact True.intro) hs he (zW ?_ hd (rel.put k rz) dd'))
  have:=dQ kvs k z
  omega
end
inductive tDSetdI(ty:TE)(tx:TE)(σ:St)(Q:VK)(x:V)(H1:Hp):Prop
 | mk (a:_) (_:x=.ref a) (_:J5 H1 a) (_:ty σ H1 fun y H2=>tx σ H2 fun z H3=>∃ kvs k,H3 a=some (.dK kvs)∧kvs.length<sizeLine∧y=kV k∧(∀ v,dB kvs k=some v→Q v H3)∧(dB kvs k=none→Q z (upd H3 a (.dK (dF kvs k z))))):tDSetdI ty tx σ Q x H1
def Gp(td ty tx:TE):TE:=fun σ H Q=>td σ H fun x H1=>tDSetdI ty tx σ Q x H1
section
variable {X:Cx}{o e f:Expr}{apos cpos:Pos}{td ty tx:TE}
theorem Cd(ho:PE X o td)(he:PE X e ty)(hf:PE X f tx)(m:M2 X o "setdefault" apos e f cpos):PE X (.Call (.Attribute o "setdefault" apos) [e,f] [] cpos) (Gp td ty tx):=by
 intro pins s σ H Q I h
 refine wpAny_Call_method m.base m.few m.line aQw aX2 PySem.F.type_dict_setdefault (cK (ho pins s σ H _ I h) fun u s1 ⟨x,H1,I1,rx,a,ex,d,q1⟩=>?_)
 subst ex
 obtain rfl:u=Value.ref a:=rx
 obtain⟨t1,t2,_⟩:=Dm I1 d
 refine⟨t1,t2,?_⟩
 rw[m.trees]
 refine aQN rfl (aXO (aQs (cK (he pins s1 σ H1 _ I1 q1) fun iv s2 ⟨y,H2,I2,ry,q2⟩ =>
  aQs (cK (hf pins s2 σ H2 _ I2 q2) fun fv s3 ⟨z,H3,I3,rz,kvs,k,ea,hl,ey,q3,q4⟩=>aXc ?_))))
 subst ey
 exact Gb I3 ea hl ry rz (fun v w' s4 l I4 rw'=>⟨v,H3,I4,rw',q3 v l⟩) fun l s4 I4=>⟨z,_,I4,rz,q4 l⟩
end
def kW(s:Stmt)(j:Nat):Stmt:=match s with
 | .ClassDef _ _ _ b _ _ _ _ _ _ _=>b.getD j (.Pass ⟨0,0,0,0⟩)
 | _=>.Pass ⟨0,0,0,0⟩
section
variable {X:Cx}{K:b5}{o e value:Expr}{f:Str}{pos pos':Pos}{ta tv:TE}
theorem cI(hK:X.K=K)(he:PE X e ta)(hb:attributeBase e f X.env (eval e X.env)=eval e X.env):PE X (.Attribute e f pos) (Jj K ta f):=by subst hK;exact Gq he hb
theorem oV(hK:X.K=K)(ha:PE X o ta)(hv:PE X value tv)(hs:swapsWith value (some (.Attribute o f pos')) pos.line X.env=pure false):PS X (.Assign [.Attribute o f pos'] value pos) (HM K ta tv f):=by subst hK;exact Gu ha hv hs
end
end L2
namespace Lw
open PySem PySem.Spec PyProof.Rows L2
def oP(P:Program)(w:World)(K:b5)(mg:Str→Option Value)(base:Heap)(C:Addr)(m:Str)(ps:List Str)(n:Nat)(sp:Sp):Prop :=
 ∃ f fd,FnOk P w K mg base AV n f fd ps sp∧Meth K C m f∧Binds K fd ps []
structure DfM(K:b5)(C:Addr)(m q:Str)(st:Stmt)(ps:List Str)(f:Addr)(fd:FuncData):Prop where
 F:Fun K m q st f fd
 b:Binds K fd ps []
 m:Meth K C m f
theorem DfM.cl{P:Program}{w:World}{K:b5}{mg:Str→Option Value}{base:Heap}{C:Addr}{m q:Str}{st:Stmt}{ps:List Str}{f:Addr}{fd:FuncData}{n:Nat}{sp:Sp}(D:DfM K C m q st ps f fd)(h:FnOk P w K mg base AV n f fd ps sp):oP P w K mg base C m ps n sp :=
 ⟨f,fd,h,D.m,D.b⟩
structure Own(K:b5)(C:Addr):Prop where
 cl:Cls K C
 makes:PySem.W.makesIn K C=true
 kp:PySem.W.keepIn K (.ref C)=true
theorem Own.make{K:b5}{C f:Addr}(o:Own K C)(m:Meth K C "__init__" f):Mk K C f:=⟨o.makes,m.at_,m.fn,o.kp⟩
theorem JX{K:b5}{C:Addr}{x q:Str}{st:Stmt}{ps:List Str}{f:Addr}{oc:Value}{od an:Option Addr}{osl:Array (Option Value)}{kV doc pm cdv ct:Value}(hf:PySem.W.findIn K (.ref C) x=some (some (.ref f)))(hi:PySem.W.isFn K (.ref f)=true)
  (l:K.lookup f=some ⟨oc,od,.func (PySem.W.fnOf x q (eR st) (eK st) (aG st) .none kV doc pm an cdv ct),osl⟩)
  (c:PySem.W.codeIn K cdv q=true) (k:PySem.W.keepIn K (.ref f)=true) (h:∀ (kV doc pm:Value) (an:Option Addr) (cdv ct:Value) (us:List Value),us.length=ps.length→bindArgs (PySem.W.fnOf x q (eR st) (eK st) (aG st) .none kV doc pm an cdv ct) ⟨us,[]⟩=pure (ps.zip us)) :
  DfM K C x q st ps f (PySem.W.fnOf x q (eR st) (eK st) (aG st) .none kV doc pm an cdv ct) :=
 ⟨nA l c k,(nA l c k).binds h,⟨hf,hi,k⟩⟩
end Lw
namespace Lw
open PySem PySem.Spec PyProof.Rows L2 Ma MaR
end Lw
namespace L2
open PySem PySem.Spec PyProof.Rows
section
variable {X:Cx}{pins:List (Addr×Obj)}{σ:St}{H:Hp}{s:Shared}
theorem Inv.freezeK{d:Addr}{kvs:List (cN×V)}(I:Inv X pins σ H s)(e:H d=some (.dK kvs)):∃ o,s.heap.get? d=some o∧Inv X pins σ (upd H d (.frz o (.dK kvs))) s:=by
 obtain⟨z,y,vs,r,o,es,ep,h1,h2⟩:=(show ObjOk X.prog X.w H s.heap d (.dK kvs) from I.hok d _ e)
 exact⟨o,h1,I.swap e (fun _ z=>by cases z) (.inl fun _ _ z=>by cases z) (fun _ z=>by cases z) (fun _ z=>by cases z) ⟨h1,z,y,vs,r,o,es,ep,h1,h2⟩⟩
theorem Inv.thawK{d:Addr}{o:Obj}{kvs:List (cN×V)}(I:Inv X pins σ H s)(e:H d=some (.frz o (.dK kvs)))(h0:∀ o v,X.H₀ d≠some (.frz o v)):Inv X pins σ (upd H d (.dK kvs)) s:=by
 obtain⟨_,z,y,r⟩:=(show ObjOk X.prog X.w H s.heap d (.frz o (.dK kvs)) from I.hok d _ e)
 exact I.swap e (fun _ z=>by cases z) (.inr h0) (fun _ z=>by cases z) (fun _ z=>by cases z) ⟨z,y,r⟩
def Fv(H0 H H':Hp):Prop:=H'=H∨∃ d o kvs,H d=some (.frz o (.dK kvs))∧(∀ o v,H0 d≠some (.frz o v))∧H'=upd H d (.dK kvs)
inductive tThawKI(H0:Hp)(Q:VK)(v:V)(H':Hp):Prop
 | mk (H'':_) (_:Fv H0 H' H'') (_:Q v H''):tThawKI H0 Q v H'
def GS(H0:Hp)(t:TE):TE:=fun σ H Q=>t σ H fun v H'=>tThawKI H0 Q v H'
theorem Dj{e:Expr}{t:TE}{H0:Hp}(h0:X.H₀=H0)(h:PE X e t):PE X e (GS H0 t):=by
 subst h0
 intro pins s σ H Q I q
 refine cK (h pins s σ H _ I q) fun u s1 ⟨v,H1,I1,rv,H2,th,q2⟩=>?_
 rcases th with rfl | ⟨d,o,kvs,e1,n0,rfl⟩
 ·exact⟨v,_,I1,rv,q2⟩
 ·exact⟨v,_,I1.thawK e1 n0,rv,q2⟩
end
def A7(d:Addr)(o:Obj)(kvs:List (cN×V)):It :=
 ⟨fun i H=>H d=some (.frz o (.dK kvs))∧i<kvs.length,fun i H x H'=>H'=H∧∃ k v,kvs[i]?=some (k,v)∧x=kV k,fun i H=>H d=some (.frz o (.dK kvs))∧kvs.length≤i⟩
theorem vN{X:Cx}{pins:List (Addr×Obj)}{σ:St}{H:Hp}{s:Shared}{d:Addr}{o:Obj}{kvs:List (cN×V)}(I:Inv X pins σ H s)(e:H d=some (.frz o (.dK kvs))) :
  s.heap.get? d=some o∧(d == sysModules)=false∧∃ (vs:List (cN×Value)) (es:Array DictEntry) (ep:Nat),KV kvs vs∧o.ExactDict∧o.data=.dict es ep∧Pairs (bZ X.prog X.w) es.toList vs:=by
 obtain⟨h0,z,y,vs,r,o',es,ep,h1,h2,h3,h4,h5,h6⟩:=(show ObjOk X.prog X.w H s.heap d (.frz o (.dK kvs)) from I.hok d _ e)
 rw[h0] at h1
 cases h1
 exact⟨h0,y,vs,es,ep,r,h2,h3,h5⟩
theorem E7{P:Program}{w:World}{k:cN}{u:Value}(h:(bZ P w).is k u=true):RelV (kV k) u:=by
 rcases cV h with ⟨i,t,rfl,rfl⟩ | ⟨x,t,rfl,rfl⟩
 ·exact⟨t,rfl⟩
 ·exact⟨t,rfl⟩
theorem C9{P:Program}{w:World}:∀ {es:List DictEntry} {vs:List (cN×Value)},Pairs (bZ P w) es vs→∀ {kvs:List (cN×V)},KV kvs vs→∀ {i:Nat} {kv:cN×V},kvs[i]?=some kv→∃ e,es[i]?=some e∧RelV (kV kv.1) e.key:=by
 intro es vs hp
 induction hp with
 | nil =>
  intro kvs r i kv h
  cases r
  simp at h
 | @cons e p es vs h1 h2 hp ih =>
  intro kvs r i kv h
  cases r with
  | cons ra rb =>
   cases i with
   | zero =>
    simp at h
    subst h
    exact⟨e,rfl,by rw[ra.1];exact E7 h1⟩
   | succ i =>
    obtain⟨e',he,hr⟩:=ih rb (i:=i) (kv:=kv) (by simpa using h)
    exact⟨e',by simpa using he,hr⟩
theorem BL{P:Program}{w:World}{K:b5}{tg:Expr}(d it:Addr)(o:Obj)(es:Array DictEntry)(ep:Nat)(kvs:List (cN×V))(od:o.data=.dict es ep)(hl:es.size=kvs.length) :
  Turn P w K tg (A7 d o kvs) [it] it (fun i h=>h.IsKeyIter it d i es.size ep) where
 mem:=by simp
 obj:=fun i h st b hb=>by
  have e:b=it:=by simpa using hb
  subst e
  obtain⟨o,e,c,d⟩:=st
  exact⟨o,e,fun v z=>by rw[d] at z;cases z⟩
 keep:=fun i h h' st k=>st.at fun o e=>k it (by simp) o e
 item:=by
  intro X hP hw hK hc i pins s σ H E I hf st hg
  subst hP hw hK
  obtain⟨hd,hi⟩:=hg
  obtain⟨g0,_,vs,es',ep',r,_,od',hp⟩:=vN I hd
  rw[od] at od'
  cases od'
  obtain⟨kv,hkv⟩:∃ kv,kvs[i]?=some kv:=⟨_,b0 hi⟩
  obtain⟨en,hen,hr⟩:=C9 hp r hkv
  have hes:es[i]?=some en:=by rw[← aXJ];exact hen
  obtain⟨f0,f1,f2,f3,f4,f5⟩:=hf it (by simp)
  refine zN (n:=0) st g0 od hes fun h' st' sb=>?_
  have I1:Inv X pins σ H { s with heap:=h' }:=I.turned (t':=s.toks) (fun b o hb e=>(sb.2 b hb).trans e) f0 f1 f3 f4 f5
  obtain⟨o2,e2,c2,d2⟩:=id st'
  exact⟨_,rfl,rT (s:={ s with heap:=h' }) e2 c2 d2 (by decide) ⟨kV kv.1,H,I1,hr,⟨rfl,kv.1,kv.2,hkv,rfl⟩,st',fun b hb=>(hf b hb).1⟩⟩
 done:=by
  intro X hP hw hK hc i pins s σ H E I hf st hg
  subst hP hw hK
  obtain⟨hd,hi⟩:=hg
  obtain⟨g0,_,vs,es',ep',r,_,od',hp⟩:=vN I hd
  rw[od] at od'
  cases od'
  obtain⟨f0,f1,f2,f3,f4,f5⟩:=hf it (by simp)
  exact BP (n:=0) (I.ok.hd hc) st g0 od (by rw[Array.getElem?_eq_none_iff];omega) fun h' eb=>⟨rfl,I.turned (t':=s.toks) (fun b o hb e=>eb b o hb e) f0 f1 f3 f4 f5⟩
 self:=fun _ _ _ _ _ st h=>wpAny_pyIter_keyiter st h
section
variable {X:Cx}
def Go(td:TE):TI:=fun σ H R=>td σ H fun x H1=>∃ d kvs,x=.ref d∧((H1 d=some (.dK kvs)∧∀ o,R (A7 d o kvs) (upd H1 d (.frz o (.dK kvs))))∨∃ o,H1 d=some (.frz o (.dK kvs))∧R (A7 d o kvs) H1)
theorem C1{tg e:Expr}{td:TE}(he:PE X e td):PI X tg e (Go td):=by
 intro pins s σ H R I h
 refine cK (he pins s σ H _ I h) fun u s1 ⟨x,H1,I1,rx,d,kvs,ex,hq⟩=>?_
 subst ex
 cases (show u=Value.ref d from rx)
 obtain⟨o,H2,e2,I2,q2⟩:∃ o H2,H2 d=some (.frz o (.dK kvs))∧Inv X pins σ H2 s1∧R (A7 d o kvs) H2:=by
  rcases hq with ⟨e1,q⟩ | ⟨o,e1,q⟩
  ·obtain⟨o,_,I2⟩:=I1.freezeK e1
   exact⟨o,_,aC,I2,q o⟩
  ·exact⟨o,H1,e1,I1,q⟩
 obtain⟨g0,hn,vs,es,ep,r,xo,od,hp⟩:=vN I2 e2
 have hl:es.size=kvs.length:=by rw[← u7,hp.length,← KV.length r]
 refine CI hn g0 xo od ⟨s1.heap.objs.size,[s1.heap.objs.size],_,A7 d o kvs,H2,rfl,I2.kept (t':=s1.toks) (fun b u e=>b9 _ e),BL d _ o es ep kvs od hl,⟨_,d8 _ rfl,rfl,rfl⟩,fun b hb=>?_,q2⟩
 have e:b=s1.heap.objs.size:=by simpa using hb
 subst e
 exact I2.fpOk (c0 _) (I2.hok.fresh (c0 _))
end
theorem Bm{d:Addr}{o:Obj}{kvs:List (cN×V)}{D:Addr}{Q:VK}{ti:TT}{te:TE}{c:St}{H0:Hp}(Pv:Nat→Hp→Prop)(h0:Pv 0 H0)(hl:∀ i H,i≤kvs.length→Pv i H→H d=some (.frz o (.dK kvs)))
  (hs:∀ i k v H,kvs[i]?=some (k,v)→Pv i H→ti (some (kV k)::c) H fun b H1=>if b=true then te (some (kV k)::c) H1 fun y H2=>∃ ys,H2 D=some (.lst ys)∧ys.length<sizeLine∧Pv (i+1) (upd H2 D (.lst (ys++[y]))) else Pv (i+1) H1)
  (hd:∀ H,Pv kvs.length H→Q (.ref D) H):jV (A7 d o kvs) D Q ti te c H0:=by
 refine⟨fun i m H'=>m=kvs.length - i∧i≤kvs.length∧Pv i H',⟨kvs.length,by simp,l7 _,h0⟩,?_⟩
 rintro i m H' ⟨rfl,hi,p⟩
 have q:=hl i H' hi p
 by_cases hlt:i<kvs.length
 ·refine .inr ⟨⟨q,hlt⟩,Pv (i+1),fun H'' p=>⟨kvs.length - (i+1),by omega,rfl,hlt,p⟩,fun v H2 y=>?_⟩
  obtain⟨e,k,v',hk,rfl⟩:=y
  subst e
  exact hs i k v' H2 hk p
 ·have e:i=kvs.length:=by omega
  subst e
  exact .inl ⟨⟨q,c0 _⟩,hd H' p⟩
theorem DGet.fk{H:Hp}{a:Addr}{o:Obj}{kvs:List (cN×V)}{k:cN}(e:H a=some (.frz o (.dK kvs))):DGet H a (kV k) (dB kvs k):=.inl ⟨kvs,k,.inr ⟨o,e⟩,rfl,rfl⟩
end L2
namespace PySem
open Sem (wp)
open Builtin
end PySem
namespace L2
open PySem PySem.Spec PyProof.Rows
end L2
namespace Lw
open PySem PySem.Spec PyProof.Rows L2 Ma MaR
def wf(hd tn wy al:Addr):List (Str×V):=fO "alike" (.ref al) (fO "ways" (.ref wy) (fO "turns" (.ref tn) (fO "heads" (.ref hd) [])))
theorem KI:¬ (("heads":Str)="alike"):=by decide +kernel
theorem KJ:¬ (("heads":Str)="ways"):=by decide +kernel
theorem KC:¬ (("heads":Str)="turns"):=by decide +kernel
theorem KA:¬ (("turns":Str)="alike"):=by decide +kernel
theorem KD:¬ (("turns":Str)="ways"):=by decide +kernel
theorem Kz:¬ (("ways":Str)="alike"):=by decide +kernel
section
variable (hd tn wy al:Addr)
theorem fQ:(wf hd tn wy al).lookup ("heads":Str)=some (.ref hd):=by unfold wf;rw[bK,if_neg KI,bK,if_neg KJ,bK,if_neg KC,bK,if_pos rfl]
theorem iM:(wf hd tn wy al).lookup ("turns":Str)=some (.ref tn):=by unfold wf;rw[bK,if_neg KA,bK,if_neg KD,bK,if_pos rfl]
theorem oU:(wf hd tn wy al).lookup ("ways":Str)=some (.ref wy):=by unfold wf;rw[bK,if_neg Kz,bK,if_pos rfl]
theorem pL:(wf hd tn wy al).lookup ("alike":Str)=some (.ref al):=by unfold wf;rw[bK,if_pos rfl]
theorem iA{m:Str}(h1:¬ m="alike")(h2:¬ m="ways")(h3:¬ m="turns")(h4:¬ m="heads"):(wf hd tn wy al).lookup m=none:=by
 unfold wf
 rw[bK,if_neg h1,bK,if_neg h2,bK,if_neg h3,bK,if_neg h4]
 rfl
end
def Jq:Sp:=fun _ _ _ _=>False
theorem oX{H:Hp}{p q:Addr}{o:HO}(u o':HO)(hp:H p=some o)(hq:H q=none):upd (upd H q u) p o' p=some o'∧upd (upd H q u) p o' q=some u∧∀ b x,H b=some x→b≠p→upd (upd H q u) p o' b=some x:=by
 have n:q≠p:=(aJ hp hq).symm
 refine⟨aC,by rw[aE n,aC],fun b x e hb=>?_⟩
 rw[aE hb,aE (aJ e hq)]
 exact e
theorem iZ{H:Hp}{p q:Addr}{o:HO}(u:HO)(hp:H p=some o)(hq:H q=none):upd H q u p=some o:=by rw[aE (aJ hp hq)];exact hp
end Lw
namespace L2
open PySem PySem.Spec PyProof.Rows
def D6(H:Hp)(S:Addr)(as:List Addr)(kvs:List (cN×V)):Hp:=fun b=>if b=S then some (.lst (as.map V.ref)) else match (as.zip kvs).find? (fun q=>decide (q.1=b)) with
 | some q=>some (.tup [kV q.2.1,q.2.2])
 | none=>H b
theorem yN{b:Addr}:∀ {as:List Addr} {kvs:List (cN×V)} {q:Addr×cN×V},(as.zip kvs).find? (fun q=>decide (q.1=b))=some q→q.1=b∧∃ j:Nat,as[j]?=some q.1∧kvs[j]?=some q.2:=by
 intro as kvs q h
 have h1:=aJJ h
 have h2:=aXl h
 obtain⟨j,hj⟩:=o9 h2
 rw[aXm] at hj
 exact⟨of_decide_eq_true h1,j,hj.1,hj.2⟩
section
variable {H:Hp}{S:Addr}{as:List Addr}{kvs:List (cN×V)}
theorem Fk:D6 H S as kvs S=some (.lst (as.map V.ref)):=by unfold D6;rw[if_pos rfl]
theorem pF{b:Addr}(h1:b≠S)(h2:b ∉ as):D6 H S as kvs b=H b:=by
 unfold D6
 rw[if_neg h1]
 cases e:(as.zip kvs).find? (fun q=>decide (q.1=b)) with
 | none=>rfl
 | some q =>
  obtain⟨e1,j,e2,_⟩:=yN e
  rw[e1] at e2
  exact absurd (b6 e2) h2
theorem DA{j:Nat}{a:Addr}{kv:cN×V}(hS:a≠S)(nd:as.Nodup)(ha:as[j]?=some a)(hk:kvs[j]?=some kv):D6 H S as kvs a=some (.tup [kV kv.1,kv.2]):=by
 unfold D6
 rw[if_neg hS]
 have hm:(a,kv)∈as.zip kvs:=b6 (i:=j) (by rw[aXm];exact⟨ha,hk⟩)
 cases e:(as.zip kvs).find? (fun q=>decide (q.1=a)) with
 | none =>
  have:=aZg.mp e (a,kv) hm
  simp at this
 | some q =>
  obtain⟨e1,i,e2,e3⟩:=yN e
  rw[e1] at e2
  have hij:i=j:=by
   obtain⟨l1,x1⟩:=a9.mp e2
   obtain⟨l2,x2⟩:=a9.mp ha
   exact(aQo nd).mp (x1.trans x2.symm)
  subst hij
  rw[hk] at e3
  cases e3
  rfl
end
theorem nH{α β:Type}{F:α→β→Prop}:∀ {l₁:List α} {l₂:List β},Paired F l₁ l₂→∀ {j:Nat} {y:β},l₂[j]?=some y→∃ x,l₁[j]?=some x∧F x y
 | _,_,.nil,j,y,h=>by simp at h
 | _,_,.cons (b:=b) f r,0,y,h=>by
  have e:b=y:=by simpa using h
  subst e
  exact⟨_,rfl,f⟩
 | _,_,.cons f r,j+1,y,h=>by
  obtain⟨x,hx,q⟩:=nH r (j:=j) (by simpa using h)
  exact⟨x,by simpa using hx,q⟩
section
variable {X:Cx}{pins:List (Addr×Obj)}{σ:St}{H:Hp}{s:Shared}
theorem Inv.laidItems{h':Heap}{t' c:Nat}{S:Addr}{as:List Addr}{kvs:List (cN×V)}{vs:List (cN×Value)}{acc:Array Value}(I:Inv X pins σ H s)(r:KV kvs vs)(hz:kvs.length≤sizeLine)(k:∀ b u,s.heap.get? b=some u→h'.get? b=some u)(hp:s.heap.objs.size≤S)
  (hS:h'.get? S=some { cls:=.type "list",dict:=none,data:=.seq acc c,slots:=#[] }) (hacc:acc.toList=as.map Value.ref) (hl:as.length=vs.length) (G:PySem.W.KdxG (bZ X.prog X.w) vs S h' as) :
  Inv X pins σ (D6 H S as kvs) { s with heap:=h',toks:=t' }:=by
 have hlen:=r.length
 have nd:as.Nodup:=G.rise.imp fun h=>i3 h
 have hnew:∀ b,b=S∨b∈as→s.heap.objs.size≤b:=fun b hb=>by
  rcases hb with rfl | hb
  ·exact hp
  ·exact aQ6 (m7 hp (G.above b hb))
 have hold:∀ b o,H b=some o→D6 H S as kvs b=some o:=fun b o e=>by
  have hb:=(I.hok b o e).lt
  rw[pF (fun z=>absurd (hnew b (.inl z)) (aXG hb)) (fun z=>absurd (hnew b (.inr z)) (aXG hb))]
  exact e
 have hfree:∀ b o,s.heap.get? b=some o→D6 H S as kvs b=H b:=fun b o e=>by
  have hb:=d6 e
  exact pF (fun z=>absurd (hnew b (.inl z)) (aXG hb)) (fun z=>absurd (hnew b (.inr z)) (aXG hb))
 refine I.un ⟨fun b u q _ _ _=>k b u q,fun b u q _ _ _=>⟨u.slots,k b u q⟩,fun b u q n _=>by rw[hfree b u q];exact n,fun b u q _=>⟨u,k b u q⟩,fun b xs q=>hold b _ q,fun b o u q=>hold b _ q,fun b ps q=>⟨#[],by rw[hold b _ q];simp⟩⟩ ?_
 intro b u e
 by_cases hbS:b=S
 ·subst hbS
  rw[Fk] at e
  cases e
  refine⟨by rw[b7,hl,← hlen];exact hz,as.map Value.ref,c,?_,?_⟩
  ·clear hold hfree hnew nd G hl hacc
   induction as with
   | nil=>exact .nil
   | cons a as ih=>exact .cons rfl (ih)
  ·rw[hS,← hacc,Array.toArray_toList]
 ·by_cases hba:b∈as
  ·obtain⟨j,hj⟩:=o9 hba
   obtain⟨key,kk,x,hv,hk,hg⟩:=G.pairs j b hj
   obtain⟨kv,hkv,e1,e2⟩:∃ kv,kvs[j]?=some kv∧kv.1=kk∧RelV kv.2 x:=by
    obtain⟨kv,hkv,q1,q2⟩:=nH r hv
    exact⟨kv,hkv,q1,q2⟩
   rw[DA hbS nd hj hkv] at e
   cases e
   refine⟨by show 2≤sizeLine;decide,[key,x],.cons (by rw[e1];exact E7 hk) (.cons e2 .nil),⟨_,hg,rfl,_,rfl⟩,⟨_,hg,rfl⟩⟩
  ·rw[pF hbS hba] at e
   refine(I.hok b u e).stay (fun c v _ q=>k c v q) (fun c q=>hold _ _ q) fun c xs q=>hold _ _ q
inductive tItVI(Q:VK)(x:V)(H1:Hp):Prop
 | mk (d kvs:_) (_:x=.ref d) (_:H1 d=some (.dK kvs)) (_:∀ v,H1 v=none→Q (.ref v) (upd H1 v (.ext fun h=>h.IsItemsView v d))):tItVI Q x H1
def JH(td:TE):TE:=fun σ H Q=>td σ H fun x H1=>tItVI Q x H1
theorem Be{o:Expr}{apos cpos:Pos}{td:TE}(ho:PE X o td)(hb:attributeBase o "items" X.env (eval o X.env)=eval o X.env:=by rfl)(hline:(apos.endLine == cpos.line)=true:=by rfl):PE X (.Call (.Attribute o "items" apos) [] [] cpos) (JH td):=by
 intro pins s σ H Q I h
 refine wpAny_Call_method0_late hb hline (cK (ho pins s σ H _ I h) fun u s1 ⟨x,H1,I1,rx,d,kvs,ex,e1,q⟩=>?_)
 subst ex
 cases (show u=Value.ref d from rx)
 obtain⟨z,hd,vs,rel,dd⟩:=yA I1.hok e1
 obtain⟨o,es,ep,g0,xo,od⟩:=id dd
 refine⟨"dict","dict.items",aQw,PySem.F.slot_dict_items,PySem.F.type_dict_items,⟨_,g0,xo.1⟩,fun b q=>?_,?_⟩
 ·cases q
  exact⟨o,g0,xo.2.1⟩
 refine aQN rfl (aZ0 ?_)
 refine Ai hd g0 xo ?_
 have hn:=I1.hok.fresh (c0 s1.heap.objs.size)
 have g1:(s1.heap.push { cls:=.type "dict_items",data:=.fields #[.ref d] }).get? s1.heap.objs.size=some { cls:=.type "dict_items",data:=.fields #[.ref d] }:=d8 _ rfl
 refine⟨.ref s1.heap.objs.size,_,I1.laid (t':=s1.toks) (fun b u e=>b9 _ e) (c0 _) ?_,rfl,q _ hn⟩
 exact⟨⟨_,g1,rfl,rfl⟩,⟨_,g1⟩,fun h1 h2 ⟨o,a,b,c⟩ k=>⟨o,k o a,b,c⟩⟩
theorem yS(hc:X.calm=true):gS X (.type "list") (fun xs H Q=>∃ v d kvs,xs=[.ref v]∧H v=some (.ext fun h=>h.IsItemsView v d)∧H d=some (.dK kvs) ∧
  ∀ (l:Addr) (as:List Addr) (H':Hp),H l=none→Same H H'→H' l=some (.lst (as.map V.ref))→as.length=kvs.length→(∀ (j:Nat) (a:Addr) (kv:cN×V),as[j]?=some a→kvs[j]?=some kv→H' a=some (.tup [kV kv.1,kv.2]))→Q (.ref l) H'):=by
 intro pins s σ H xs us Q I r h
 obtain⟨v,d,kvs,rfl,hv,he,q⟩:=h
 obtain⟨u,rfl,rx⟩:=mI r
 cases rx
 obtain⟨z,hd,vs,rel,dd⟩:=yA I.hok he
 obtain⟨ep,da⟩:=dd.dictAt
 obtain⟨iv,_,_⟩:=I.hok v _ hv
 refine PySem.W.kdx_call (knd:=bZ X.prog X.w) (I.ok.hd hc) iv da (by rw[← rel.length];exact z) fun h' tk acc c as kp hS hl G hacc=>?_
 have nd:as.Nodup:=G.rise.imp fun h=>i3 h
 refine⟨.ref s.heap.objs.size,_,I.laidItems (t':=tk) rel z kp (c0 _) hS hacc hl G,rfl,q _ as _ (I.hok.fresh (c0 _)) (fun b o e=>?_) Fk (by rw[hl,rel.length]) fun j a kv ha hk=>DA (aQ7 (G.above a (b6 ha))) nd ha hk⟩
 have hb:=(I.hok b o e).lt
 rw[pF (i3 hb) fun z=>absurd (G.above b z) (Nat.not_lt_of_ge (aQ6 hb))]
 exact e
end
end L2
namespace Lw
open PySem PySem.Spec PyProof.Rows L2 Ma MaR
theorem pB{u v:List Nat}(hu:AllL u)(hv:AllL v):lay (lay u++lay v)=lay (u++v):=by
 rw[eJ u _ hu,cG u v hu hv]
theorem gK{u v w:List Nat}(hu:AllL u)(hv:AllL v)(hw:AllL w):lay (u++(v++(back v++w)))=lay (u++w):=by
 have e:lay (u++(v++back v)++w)=lay (u++w):=by
  rw[← kO u (v++back v) w hu (AllL.app.mpr ⟨hv,aL hv⟩) hw,fM hv,l4]
 rw[← e]
 simp only [i6]
theorem CM{u v w:List Nat}(hu:AllL u)(hv:AllL v)(hw:AllL w):lay (u++(back v++(v++w)))=lay (u++w):=by
 have:=gK hu (aL hv) hw
 rwa [cD hv] at this
section
variable {a b c d x:List Nat}(ha:AllL a)(hb:AllL b)(hc:AllL c)(hd:AllL d)(hx:AllL x)
include ha hb hc
theorem Kr:lay (lay (back a++b)++lay (back b++c))=lay (back a++c):=by
 have q:=aL ha
 have q2:=aL hb
 rw[pB (AllL.app.mpr ⟨q,hb⟩) (AllL.app.mpr ⟨q2,hc⟩),i6]
 exact gK q hb hc
theorem IJ:lay (lay (a++b)++lay (back b++c))=lay (a++c):=by
 have q2:=aL hb
 rw[pB (AllL.app.mpr ⟨ha,hb⟩) (AllL.app.mpr ⟨q2,hc⟩),i6]
 exact gK ha hb hc
omit hc in
theorem Kh:back (lay (back a++b))=lay (back b++a):=by
 have q:=aL ha
 rw[← iI (AllL.app.mpr ⟨q,hb⟩),cS,cD ha]
include hx in
omit hc in
theorem Kj:back (lay (back a++(x++b)))=lay (back b++(back x++a)):=by
 have q:=aL ha
 rw[← iI (AllL.app.mpr ⟨q,AllL.app.mpr ⟨hx,hb⟩⟩),cS,cS,cD ha,i6]
include hx in
theorem KH:lay (back (lay (back a++(x++b)))++lay (back a++(x++c)))=lay (back b++c):=by
 have q:=aL ha
 have q2:=aL hb
 have q3:=aL hx
 rw[Kj ha hb hx,pB (AllL.app.mpr ⟨q2,AllL.app.mpr ⟨q3,ha⟩⟩) (AllL.app.mpr ⟨q,AllL.app.mpr ⟨hx,hc⟩⟩)]
 have e1:back b++(back x++a)++(back a++(x++c))=(back b++back x)++(a++(back a++(x++c))):=by simp only [i6]
 rw[e1,gK (AllL.app.mpr ⟨q2,q3⟩) ha (AllL.app.mpr ⟨hx,hc⟩),i6]
 exact CM q2 hx hc
include hx in
theorem JZ:lay (back (lay (back a++b))++lay (back a++(x++c)))=lay (back b++(x++c)):=by
 have q:=aL ha
 have q2:=aL hb
 rw[Kh ha hb,pB (AllL.app.mpr ⟨q2,ha⟩) (AllL.app.mpr ⟨q,AllL.app.mpr ⟨hx,hc⟩⟩),i6]
 exact gK q2 ha (AllL.app.mpr ⟨hx,hc⟩)
include hx in
theorem KK:lay (lay (back a++(x++b))++lay (back b++c))=lay (back a++(x++c)):=by
 have q:=aL ha
 have:=IJ (a:=back a++x) (b:=b) (c:=c) (AllL.app.mpr ⟨q,hx⟩) hb hc
 simp only [i6] at this
 exact this
omit hc in
end
structure WvS where
 hs:List Nat
 ts:List (List Nat)
 ws:List (List (Nat×Nat×List Nat))
 al:List (Nat×List Nat×Nat)
structure WI(h:Nat→List Nat)(φ:Nat→List Nat)(ρ rk:Nat→Nat)(L:Nat)(S:WvS):Prop where
 lt:S.ts.length=S.hs.length
 lw:S.ws.length=S.hs.length
 hd:∀ (i a:Nat),S.hs[i]?=some a→a<S.hs.length∧(a=i∨rk a<rk i)∧ρ a=ρ i∧(a=i→ρ i=i)
 rt:∀ i:Nat,i<S.hs.length→ρ i<S.hs.length∧S.hs[ρ i]?=some (ρ i)
 tn:∀ (i a:Nat) (t:List Nat),S.hs[i]?=some a→S.ts[i]?=some t→t=lay (back (φ i)++φ a)
 wy:∀ (i:Nat) (es:List (Nat×Nat×List Nat)),S.ws[i]?=some es→(es.map (·.1)).Nodup∧∀ e∈es,bX e.1∧e.2.1<S.hs.length∧e.2.2=lay (back (φ i)++(h e.1++φ e.2.1))
 al:∀ e∈S.al,e.1<S.hs.length∧e.2.2<S.hs.length∧e.2.1=lay (back (φ e.1)++φ e.2.2)
 fa:∀ i,AllL (φ i)∧(φ i).length≤L
 ha:∀ c,bX c→AllL (h c)∧(h c).length≤L
section
variable {h:Nat→List Nat}{φ:Nat→List Nat}{ρ rk:Nat→Nat}{L:Nat}{S:WvS}
theorem eZ{α:Type}{xs:List α}{i j:Nat}{v y:α}(h:(xs.set i v)[j]?=some y):(j=i∧y=v∧i<xs.length)∨(j≠i∧xs[j]?=some y):=by
 rw[List.getElem?_set] at h
 split at h
 ·rename_i e
  split at h
  ·cases h;exact .inl ⟨e.symm,rfl,by assumption⟩
  ·cases h
 ·rename_i e
  exact .inr ⟨fun z=>e z.symm,h⟩
theorem WI.comp(I:WI h φ ρ rk L S){i a b:Nat}{t u:List Nat}(hi:S.hs[i]?=some a)(hne:a≠i)(ha:S.hs[a]?=some b)(ht:S.ts[i]?=some t)(hu:S.ts[a]?=some u) :
  WI h φ ρ rk L { S with hs:=S.hs.set i b,ts:=S.ts.set i (lay (t++u)) }∧lay (t++u)=lay (back (φ i)++φ b)∧rk b<rk i∧ρ b=ρ i:=by
 obtain⟨a1,a2,a3,a4⟩:=I.hd i a hi
 obtain⟨b1,b2,b3,b4⟩:=I.hd a b ha
 have hlt:rk a<rk i:=a2.resolve_left hne
 have hrb:rk b<rk i:=by
  rcases b2 with e | e
  ·rw[e];exact hlt
  ·omega
 have hte:lay (t++u)=lay (back (φ i)++φ b):=by
  rw[I.tn i a t hi ht,I.tn a b u ha hu]
  exact Kr (I.fa i).1 (I.fa a).1 (I.fa b).1
 have hil:i<S.hs.length:=(a9.mp hi).1
 have hbi:b≠i:=fun z=>by rw[z] at hrb;omega
 refine⟨⟨?_,?_,?_,?_,?_,?_,?_,I.fa,I.ha⟩,hte,hrb,b3.trans a3⟩
 ·show (S.ts.set i _).length=(S.hs.set i b).length
  rw[m6,m6];exact I.lt
 ·show S.ws.length=(S.hs.set i b).length
  rw[m6];exact I.lw
 ·intro j c hj
  show c<(S.hs.set i b).length∧_
  rw[m6]
  rcases eZ hj with ⟨rfl,rfl,_⟩ | ⟨hji,hj⟩
  ·exact⟨b1,.inr hrb,b3.trans a3,fun z=>absurd z hbi⟩
  ·exact I.hd j c hj
 ·intro j hj
  have hj':j<S.hs.length:=by
   have:j<(S.hs.set i b).length:=hj
   rwa [m6] at this
  show ρ j<(S.hs.set i b).length∧(S.hs.set i b)[ρ j]?=some (ρ j)
  rw[m6]
  obtain⟨r1,r2⟩:=I.rt j hj'
  refine⟨r1,?_⟩
  rw[aQH]
  ·exact r2
  ·intro z
   rw[← z,hi] at r2
   exact hne (by simpa using r2)
 ·intro j c v hj hv
  rcases eZ hj with ⟨rfl,rfl,_⟩ | ⟨hji,hj⟩
  ·rcases eZ hv with ⟨_,rfl,_⟩ | ⟨z,_⟩
   ·exact hte
   ·exact absurd rfl z
  ·rcases eZ hv with ⟨z,_,_⟩ | ⟨_,hv⟩
   ·exact absurd z hji
   ·exact I.tn j c v hj hv
 ·intro j es hj
  obtain⟨w1,w2⟩:=I.wy j es hj
  refine⟨w1,fun e he=>?_⟩
  show _∧e.2.1<(S.hs.set i b).length∧_
  rw[m6]
  exact w2 e he
 ·intro e he
  show e.1<(S.hs.set i b).length∧e.2.2<(S.hs.set i b).length∧_
  rw[m6]
  exact I.al e he
def dC(es:List (Nat×Nat×List Nat))(c:Nat):Option (Nat×List Nat):=(es.find? fun e=>decide (e.1=c)).map (·.2)
theorem dY{es:List (Nat×Nat×List Nat)}{c:Nat}{r:Nat×List Nat}(h:dC es c=some r):(c,r)∈es:=by
 unfold dC at h
 obtain⟨e,he,rfl⟩:=i9.mp h
 have h1:=aJJ he
 have h2:=aXl he
 have:e.1=c:=of_decide_eq_true h1
 rw[← this]
 exact h2
theorem pX{es:List (Nat×Nat×List Nat)}{c:Nat}(h:dC es c=none):∀ e∈es,e.1≠c:=by
 unfold dC at h
 have:=aZg.mp (Option.map_eq_none_iff.mp h)
 intro e he z
 have:=this e he
 simp[z] at this
theorem nJ{es:List (Nat×Nat×List Nat)}{c:Nat}{r:Nat×List Nat}(nd:(es.map (·.1)).Nodup)(h:(c,r)∈es):dC es c=some r:=by
 cases e:dC es c with
 | none=>exact absurd rfl (pX e _ h)
 | some r' =>
  have h2:=dY e
  congr 1
  induction es with
  | nil=>cases h
  | cons x es ih =>
   obtain⟨n1,n2⟩:=l9.mp nd
   rcases c7.mp h with z | z <;> rcases c7.mp h2 with y | y
   ·rw[← z] at y;exact(aZq y).2
   ·exact absurd (d5.mpr ⟨_,y,by rw[← z]⟩) n1
   ·exact absurd (d5.mpr ⟨_,z,by rw[← y]⟩) n1
   ·exact ih n2 z (by
     unfold dC at e ⊢
     rw[aZJ] at e
     ·exact e
     ·simp only [decide_eq_true_eq]
      intro q
      exact n1 (d5.mpr ⟨_,z,q.symm⟩)) y
def bD(S:WvS)(i c g:Nat)(t:List Nat)(es:List (Nat×Nat×List Nat)):WvS:=match dC es c with
 | none=>{ S with ws:=S.ws.set i (es++[(c,g,t)]) }
 | some (g',t')=>if (g',t')=(g,t) then S else { S with al:=S.al++[(g,lay (back t++t'),g')] }
theorem iO(i c g:Nat)(t:List Nat)(es:List (Nat×Nat×List Nat)):(bD S i c g t es).hs=S.hs∧(bD S i c g t es).ts=S.ts:=by
 unfold bD
 split
 ·exact⟨rfl,rfl⟩
 ·split <;> exact⟨rfl,rfl⟩
theorem WI.lay(I:WI h φ ρ rk L S){i c g:Nat}{t:List Nat}{es:List (Nat×Nat×List Nat)}(hi:S.ws[i]?=some es)(hc:bX c)(hg:g<S.hs.length)(ht:t=lay (back (φ i)++(h c++φ g))):WI h φ ρ rk L (bD S i c g t es):=by
 obtain⟨w1,w2⟩:=I.wy i es hi
 unfold bD
 cases e:dC es c with
 | none =>
  have hn:=pX e
  refine⟨I.lt,by show (S.ws.set i _).length=_;rw[m6];exact I.lw,I.hd,I.rt,I.tn,?_,I.al,I.fa,I.ha⟩
  intro j es' hj
  rcases eZ hj with ⟨rfl,rfl,_⟩ | ⟨_,hj⟩
  ·refine⟨?_,fun x hx=>?_⟩
   ·rw[g6,aQ1]
    refine⟨w1,by simp,fun a ha b hb=>?_⟩
    obtain⟨x,hx,rfl⟩:=d5.mp ha
    simp at hb
    rw[hb]
    exact hn x hx
   ·rcases k0.mp hx with z | z
    ·exact w2 x z
    ·rw[c6.mp z];exact⟨hc,hg,ht⟩
  ·exact I.wy j es' hj
 | some r =>
  obtain⟨g',t'⟩:=r
  dsimp only
  split
  ·exact I
  ·have hm:=w2 _ (dY e)
   refine⟨I.lt,I.lw,I.hd,I.rt,I.tn,I.wy,?_,I.fa,I.ha⟩
   intro x hx
   rcases k0.mp hx with z | z
   ·exact I.al x z
   ·rw[c6.mp z]
    refine⟨hg,hm.2.1,?_⟩
    have ht':t'=Ma.lay (back (φ i)++(h c++φ g')):=hm.2.2
    show Ma.lay (back t++t')=Ma.lay (back (φ g)++φ g')
    rw[ht,ht']
    exact KH (I.fa i).1 (I.fa g).1 (I.fa g').1 (I.ha c hc).1
end
inductive Lnk(ρ:Nat→Nat)(al:List (Nat×List Nat×Nat)):Nat→Nat→Prop where
 | refl (x:Nat):Lnk ρ al x x
 | symm {x y:Nat} (h:Lnk ρ al x y):Lnk ρ al y x
 | trans {x y z:Nat} (h:Lnk ρ al x y) (g:Lnk ρ al y z):Lnk ρ al x z
 | root (x:Nat):Lnk ρ al x (ρ x)
 | pair {x y:Nat} {t:List Nat} (h:(x,t,y)∈al):Lnk ρ al x y
theorem Lnk.mono{ρ ρ':Nat→Nat}{al al':List (Nat×List Nat×Nat)}(hr:∀ x,Lnk ρ' al' x (ρ x))(ha:∀ x t y,(x,t,y)∈al→Lnk ρ' al' x y){x y:Nat}(h:Lnk ρ al x y):Lnk ρ' al' x y:=by
 induction h with
 | refl x=>exact .refl x
 | symm _ ih=>exact .symm ih
 | trans _ _ a b=>exact .trans a b
 | root x=>exact hr x
 | pair h=>exact ha _ _ _ h
theorem Lnk.nil{ρ:Nat→Nat}(hi:∀ x,ρ (ρ x)=ρ x){x y:Nat}(h:Lnk ρ [] x y):ρ x=ρ y:=by
 induction h with
 | refl x=>rfl
 | symm _ ih=>exact ih.symm
 | trans _ _ a b=>exact a.trans b
 | root x=>exact(hi x).symm
 | pair h=>cases h
structure EI(E:Nat→Nat→Nat→Prop)(ρ:Nat→Nat)(S:WvS):Prop where
 lt:∀ p c q,E p c q→p<S.hs.length∧q<S.hs.length
 on:∀ p c q,E p c q→∃ es g t,S.ws[ρ p]?=some es∧(c,g,t)∈es∧Lnk ρ S.al g q
 of:∀ (i:Nat) (es:List (Nat×Nat×List Nat)),S.ws[i]?=some es→∀ e∈es,∃ p q,E p e.1 q∧Lnk ρ S.al p i∧Lnk ρ S.al q e.2.1
section
variable {E:Nat→Nat→Nat→Prop}{ρ:Nat→Nat}{S:WvS}
theorem A9{i c g:Nat}{t:List Nat}{es:List (Nat×Nat×List Nat)}{x:Nat×List Nat×Nat}(h:x∈S.al):x∈(bD S i c g t es).al:=by
 unfold bD
 split
 ·exact h
 ·split
  ·exact h
  ·exact q8 _ h
theorem dA{i c g:Nat}{t:List Nat}{es:List (Nat×Nat×List Nat)}{x y:Nat}(h:Lnk ρ S.al x y):Lnk ρ (bD S i c g t es).al x y:=h.mono (fun x=>.root x) fun x t y hm=>.pair (A9 hm)
theorem sD{i c g:Nat}{t:List Nat}{es:List (Nat×Nat×List Nat)}(hi:S.ws[i]?=some es){j:Nat}{es':List (Nat×Nat×List Nat)}(hj:S.ws[j]?=some es'):∃ es'',(bD S i c g t es).ws[j]?=some es''∧(∀ e∈es',e∈es'')∧(j≠i→es''=es'):=by
 unfold bD
 split
 ·by_cases q:j=i
  ·subst q
   rw[hi] at hj
   cases hj
   refine⟨es++[(c,g,t)],?_,fun e he=>q8 _ he,fun z=>absurd rfl z⟩
   show (S.ws.set j _)[j]?=_
   rw[aQD (a9.mp hi).1]
  ·refine⟨es',?_,fun e he=>he,fun _=>rfl⟩
   show (S.ws.set i _)[j]?=_
   rw[aQH (fun z=>q z.symm)]
   exact hj
 ·split <;> exact⟨es',hj,fun e he=>he,fun _=>rfl⟩
theorem pP{i c g:Nat}{t:List Nat}{es:List (Nat×Nat×List Nat)}(hi:S.ws[i]?=some es):∃ es' g' t',(bD S i c g t es).ws[i]?=some es'∧(c,g',t')∈es'∧Lnk ρ (bD S i c g t es).al g' g:=by
 unfold bD
 cases e:dC es c with
 | none =>
  refine⟨es++[(c,g,t)],g,t,?_,by simp,.refl g⟩
  show (S.ws.set i _)[i]?=_
  rw[aQD (a9.mp hi).1]
 | some r =>
  obtain⟨g',t'⟩:=r
  dsimp only
  split
  ·rename_i q
   obtain⟨rfl,rfl⟩:=aZq q
   exact⟨es,g',t',hi,dY e,.refl g'⟩
  ·exact⟨es,g',t',hi,dY e,.symm (.pair (t:=lay (back t++t')) (by simp))⟩
theorem nF{i c g:Nat}{t:List Nat}{es:List (Nat×Nat×List Nat)}(hi:S.ws[i]?=some es){j:Nat}{es':List (Nat×Nat×List Nat)}(hj:(bD S i c g t es).ws[j]?=some es'){e:Nat×Nat×List Nat}(he:e∈es'):(∃ es0,S.ws[j]?=some es0∧e∈es0)∨(j=i∧e=(c,g,t)):=by
 unfold bD at hj
 split at hj
 ·rcases eZ hj with ⟨rfl,rfl,_⟩ | ⟨_,hj⟩
  ·rcases k0.mp he with z | z
   ·exact .inl ⟨es,hi,z⟩
   ·exact .inr ⟨rfl,c6.mp z⟩
  ·exact .inl ⟨es',hj,he⟩
 ·split at hj <;> exact .inl ⟨es',hj,he⟩
theorem EI.lay'(X:EI E ρ S){i c g:Nat}{t:List Nat}{es:List (Nat×Nat×List Nat)}(hi:S.ws[i]?=some es)(hr:ρ i=i)(h1:i<S.hs.length)(h2:g<S.hs.length):EI (fun p c' q=>E p c' q∨(p=i∧c'=c∧q=g)) ρ (bD S i c g t es):=by
 refine⟨fun p c' q hE=>?_,fun p c' q hE=>?_,fun j es' hj e he=>?_⟩
 ·rw[(iO (S:=S) i c g t es).1]
  rcases hE with hE | ⟨rfl,rfl,rfl⟩
  ·exact X.lt p c' q hE
  ·exact⟨h1,h2⟩
 ·rcases hE with hE | ⟨rfl,rfl,rfl⟩
  ·obtain⟨es0,g0,t0,a,b,d⟩:=X.on p c' q hE
   obtain⟨es1,a1,b1,_⟩:=sD (c:=c) (g:=g) (t:=t) hi a
   exact⟨es1,g0,t0,a1,b1 _ b,dA d⟩
  ·rw[hr]
   exact pP hi
 ·rcases nF hi hj he with ⟨es0,a,b⟩ | ⟨rfl,rfl⟩
  ·obtain⟨p,q,a1,a2,a3⟩:=X.of j es0 a e b
   exact⟨p,q,.inl a1,dA a2,dA a3⟩
  ·exact⟨j,g,.inr ⟨rfl,rfl,rfl⟩,.refl _,.refl _⟩
end
section
variable {h:Nat→List Nat}{φ:Nat→List Nat}{ρ rk:Nat→Nat}{L:Nat}{S:WvS}{E:Nat→Nat→Nat→Prop}
def ρU(ρ:Nat→Nat)(hd ab:Nat):Nat→Nat:=fun x=>if ρ x=hd then ab else ρ x
def Ju(ρ rk:Nat→Nat)(hd ab:Nat):Nat→Nat:=fun x=>if ρ x=hd then rk x+(rk ab+1) else rk x
def dR(S:WvS)(hd ab:Nat)(t:List Nat):WvS:={ S with hs:=S.hs.set hd ab,ts:=S.ts.set hd t }
theorem WI.under(I:WI h φ ρ rk L S){hd ab:Nat}{t:List Nat}(h1:S.hs[hd]?=some hd)(h2:S.hs[ab]?=some ab)(hne:hd≠ab)(ht:t=Ma.lay (back (φ hd)++φ ab)):WI h φ (ρU ρ hd ab) (Ju ρ rk hd ab) L (dR S hd ab t):=by
 have l1:hd<S.hs.length:=(a9.mp h1).1
 have l2:ab<S.hs.length:=(a9.mp h2).1
 have r1:ρ hd=hd:=(I.hd hd hd h1).2.2.2 rfl
 have r2:ρ ab=ab:=(I.hd ab ab h2).2.2.2 rfl
 have hlen:(S.hs.set hd ab).length=S.hs.length:=m6 ..
 refine⟨?_,?_,?_,?_,?_,?_,?_,I.fa,I.ha⟩
 ·show (S.ts.set hd t).length=(S.hs.set hd ab).length
  rw[m6,m6];exact I.lt
 ·show S.ws.length=(S.hs.set hd ab).length
  rw[hlen];exact I.lw
 ·intro i a hi
  show a<(S.hs.set hd ab).length∧_
  rw[hlen]
  rcases eZ hi with ⟨rfl,rfl,_⟩ | ⟨hn,hi⟩
  ·refine⟨l2,.inr ?_,?_,fun z=>absurd z.symm hne⟩
   ·unfold Ju
    rw[r2,r1,if_neg (fun z=>hne z.symm),if_pos rfl]
    omega
   ·unfold ρU
    rw[r1,r2,if_pos rfl,if_neg (fun z=>hne z.symm)]
  ·obtain⟨a1,a2,a3,a4⟩:=I.hd i a hi
   refine⟨a1,?_,?_,fun z=>?_⟩
   ·rcases a2 with z | z
    ·exact .inl z
    ·refine .inr ?_
     unfold Ju
     rw[a3]
     split <;> omega
   ·unfold ρU;rw[a3]
   ·have:=a4 z
    unfold ρU
    rw[this,if_neg hn]
 ·intro i hi
  have hi':i<S.hs.length:=by have:i<(S.hs.set hd ab).length:=hi;rwa [hlen] at this
  obtain⟨a1,a2⟩:=I.rt i hi'
  show ρU ρ hd ab i<(S.hs.set hd ab).length∧(S.hs.set hd ab)[ρU ρ hd ab i]?=some (ρU ρ hd ab i)
  rw[hlen]
  unfold ρU
  split
  ·refine⟨l2,?_⟩
   rw[aQH hne]
   exact h2
  ·rename_i q
   refine⟨a1,?_⟩
   rw[aQH (fun z=>q z.symm)]
   exact a2
 ·intro i a v hi hv
  rcases eZ hi with ⟨rfl,rfl,_⟩ | ⟨hn,hi⟩
  ·rcases eZ hv with ⟨_,rfl,_⟩ | ⟨z,_⟩
   ·exact ht
   ·exact absurd rfl z
  ·rcases eZ hv with ⟨z,_,_⟩ | ⟨_,hv⟩
   ·exact absurd z hn
   ·exact I.tn i a v hi hv
 ·intro i es hi
  obtain⟨w1,w2⟩:=I.wy i es hi
  refine⟨w1,fun e he=>?_⟩
  show _∧e.2.1<(S.hs.set hd ab).length∧_
  rw[hlen]
  exact w2 e he
 ·intro e he
  show e.1<(S.hs.set hd ab).length∧e.2.2<(S.hs.set hd ab).length∧_
  rw[hlen]
  exact I.al e he
def underW(ab:Nat)(t:List Nat)(T:WvS)(es:List (Nat×Nat×List Nat)):WvS:=es.foldl (fun T e=>bD T ab e.1 e.2.1 (lay (back t++e.2.2)) (T.ws.getD ab [])) T
theorem Lnk.under{al al':List (Nat×List Nat×Nat)}{hd ab:Nat}(hh:ρ hd=hd)(ha:∀ x t y,(x,t,y)∈al→Lnk (ρU ρ hd ab) al' x y){x y:Nat}(g:Lnk ρ al x y):Lnk (ρU ρ hd ab) al' x y:=by
 have e1:Lnk (ρU ρ hd ab) al' hd ab:=by
  have:=Lnk.root (ρ:=ρU ρ hd ab) (al:=al') hd
  unfold ρU at this ⊢
  rw[hh,if_pos rfl] at this
  exact this
 refine g.mono (fun x=>?_) ha
 by_cases q:ρ x=hd
 ·have:=Lnk.root (ρ:=ρU ρ hd ab) (al:=al') x
  have e2:ρU ρ hd ab x=ab:=by unfold ρU;rw[if_pos q]
  rw[e2] at this
  rw[q]
  exact this.trans e1.symm
 ·have:=Lnk.root (ρ:=ρU ρ hd ab) (al:=al') x
  have e2:ρU ρ hd ab x=ρ x:=by unfold ρU;rw[if_neg q]
  rw[e2] at this
  exact this
structure UI(E:Nat→Nat→Nat→Prop)(ρ:Nat→Nat)(hd ab N:Nat)(es:List (Nat×Nat×List Nat))(T:WvS):Prop where
 ln:T.hs.length=N
 lt:∀ p c q,E p c q→p<N∧q<N
 on:∀ p c q,E p c q→(∃ es g t,T.ws[ρU ρ hd ab p]?=some es∧(c,g,t)∈es∧Lnk (ρU ρ hd ab) T.al g q)∨(ρ p=hd∧∃ e∈es,e.1=c∧Lnk (ρU ρ hd ab) T.al e.2.1 q)
 of:∀ (i:Nat) (es:List (Nat×Nat×List Nat)),T.ws[i]?=some es→∀ e∈es,∃ p q,E p e.1 q∧Lnk (ρU ρ hd ab) T.al p i∧Lnk (ρU ρ hd ab) T.al q e.2.1
 me:∀ e∈es,∃ p q,E p e.1 q∧Lnk (ρU ρ hd ab) T.al p ab∧Lnk (ρU ρ hd ab) T.al q e.2.1
theorem rW{hd ab:Nat}{t:List Nat}{ρ1 rk1:Nat→Nat}(hρ:ρ1=ρU ρ hd ab)(ht:t=lay (back (φ hd)++φ ab)):∀ {es:List (Nat×Nat×List Nat)} {T:WvS},WI h φ ρ1 rk1 L T→ab<T.hs.length→(∀ e∈es,bX e.1∧e.2.1<T.hs.length∧e.2.2=lay (back (φ hd)++(h e.1++φ e.2.1)))→UI E ρ hd ab T.hs.length es T →
  WI h φ ρ1 rk1 L (underW ab t T es)∧EI E ρ1 (underW ab t T es)∧(underW ab t T es).hs=T.hs∧(underW ab t T es).ts=T.ts
 | [],T,I,hab,hes,U=>by
  subst hρ
  refine⟨I,⟨fun p c q hE=>U.lt p c q hE,fun p c q hE=>?_,U.of⟩,rfl,rfl⟩
  rcases U.on p c q hE with z | ⟨_,e,he,_⟩
  ·exact z
  ·cases he
 | e::es,T,I,hab,hes,U=>by
  subst hρ
  obtain⟨ea,hea⟩:∃ ea,T.ws[ab]?=some ea:=⟨_,b0 (by rw[I.lw];exact hab)⟩
  have hgd:T.ws.getD ab []=ea:=by rw[b8,hea];rfl
  obtain⟨e1,e2,e3⟩:=hes e d4
  have htd:lay (back t++e.2.2)=lay (back (φ ab)++(h e.1++φ e.2.1)):=by
   rw[ht,e3]
   exact JZ (I.fa hd).1 (I.fa ab).1 (I.fa e.2.1).1 (I.ha e.1 e1).1
  have I1:=I.lay hea e1 e2 htd
  obtain⟨hhs,hts⟩:=iO (S:=T) ab e.1 e.2.1 (lay (back t++e.2.2)) ea
  have key:underW ab t T (e::es)=underW ab t (bD T ab e.1 e.2.1 (lay (back t++e.2.2)) ea) es:=by
   unfold underW
   rw[aXQ,hgd]
  have U1:UI E ρ hd ab (bD T ab e.1 e.2.1 (lay (back t++e.2.2)) ea).hs.length es (bD T ab e.1 e.2.1 (lay (back t++e.2.2)) ea):=by
   refine⟨rfl,fun p c q hE=>by rw[hhs];exact U.lt p c q hE,fun p c q hE=>?_,fun i es' hi x hx=>?_,fun x hx=>?_⟩
   ·rcases U.on p c q hE with ⟨es0,g0,t0,a,b,d⟩ | ⟨a,x,hx,b,d⟩
    ·obtain⟨es1,a1,b1,_⟩:=sD (c:=e.1) (g:=e.2.1) (t:=lay (back t++e.2.2)) hea a
     exact .inl ⟨es1,g0,t0,a1,b1 _ b,dA d⟩
    ·rcases c7.mp hx with rfl | hx
     ·obtain⟨es',g',t',q1,q2,q3⟩:=pP (ρ:=ρU ρ hd ab) (c:=x.1) (g:=x.2.1) (t:=lay (back t++x.2.2)) hea
      refine .inl ⟨es',g',t',?_,by rw[← b];exact q2,q3.trans (dA d)⟩
      have:ρU ρ hd ab p=ab:=by unfold ρU;rw[if_pos a]
      rw[this]
      exact q1
     ·exact .inr ⟨a,x,hx,b,dA d⟩
   ·rcases nF hea hi hx with ⟨es0,a,b⟩ | ⟨rfl,rfl⟩
    ·obtain⟨p,q,a1,a2,a3⟩:=U.of i es0 a x b
     exact⟨p,q,a1,dA a2,dA a3⟩
    ·obtain⟨p,q,a1,a2,a3⟩:=U.me e d4
     exact⟨p,q,a1,dA a2,dA a3⟩
   ·obtain⟨p,q,a1,a2,a3⟩:=U.me x (c8 _ hx)
    exact⟨p,q,a1,dA a2,dA a3⟩
  rw[key]
  obtain⟨o1,o2,o3,o4⟩:=rW (es:=es) rfl ht I1 (by rw[hhs];exact hab) (fun x hx=>by rw[hhs];exact hes x (c8 _ hx)) U1
  exact⟨o1,o2,o3.trans hhs,o4.trans hts⟩
theorem FC(I:WI h φ ρ rk L S){a b:Nat}{tt:List Nat}(X:EI E ρ { S with al:=(a,tt,b)::S.al }){hd ab:Nat}{t:List Nat}(ha:a<S.hs.length)(hb:b<S.hs.length)(hra:ρ a=hd)(hrb:ρ b=ab)(hne:hd≠ab)(ht:t=lay (back (φ hd)++φ ab)){es:List (Nat×Nat×List Nat)}(hes:S.ws[hd]?=some es) :
  WI h φ (ρU ρ hd ab) (Ju ρ rk hd ab) L (underW ab t (dR S hd ab t) es)∧EI E (ρU ρ hd ab) (underW ab t (dR S hd ab t) es)∧(underW ab t (dR S hd ab t) es).hs=S.hs.set hd ab:=by
 obtain⟨l1,h1⟩:=I.rt a ha
 obtain⟨l2,h2⟩:=I.rt b hb
 rw[hra] at l1 h1
 rw[hrb] at l2 h2
 have r1:ρ hd=hd:=(I.hd hd hd h1).2.2.2 rfl
 have r2:ρ ab=ab:=(I.hd ab ab h2).2.2.2 rfl
 have I1:=I.under h1 h2 hne ht
 have hlen:(S.hs.set hd ab).length=S.hs.length:=m6 ..
 have eab:Lnk (ρU ρ hd ab) S.al a b:=by
  have q1:=Lnk.root (ρ:=ρU ρ hd ab) (al:=S.al) a
  have q2:=Lnk.root (ρ:=ρU ρ hd ab) (al:=S.al) b
  have e1:ρU ρ hd ab a=ab:=by unfold ρU;rw[if_pos hra]
  have e2:ρU ρ hd ab b=ab:=by unfold ρU;rw[hrb,if_neg (fun z=>hne z.symm)]
  rw[e1] at q1
  rw[e2] at q2
  exact q1.trans q2.symm
 have mv:∀ {x y:Nat},Lnk ρ ((a,tt,b)::S.al) x y→Lnk (ρU ρ hd ab) S.al x y:=fun g=>Lnk.under r1 (fun x t y hm=>by
  rcases c7.mp hm with z | z
  ·obtain⟨rfl,rfl,rfl⟩:x=a∧t=tt∧y=b:=by simpa using z
   exact eab
  ·exact .pair z) g
 have hdab:Lnk (ρU ρ hd ab) S.al hd ab:=by
  have:=Lnk.root (ρ:=ρU ρ hd ab) (al:=S.al) hd
  have e1:ρU ρ hd ab hd=ab:=by unfold ρU;rw[r1,if_pos rfl]
  rwa [e1] at this
 have U:UI E ρ hd ab (dR S hd ab t).hs.length es (dR S hd ab t):=by
  refine⟨rfl,fun p c q hE=>by show p<(S.hs.set hd ab).length∧q<(S.hs.set hd ab).length;rw[hlen];exact X.lt p c q hE,fun p c q hE=>?_,fun i es' hi x hx=>?_,fun x hx=>?_⟩
  ·obtain⟨es0,g0,t0,a1,b1,d1⟩:=X.on p c q hE
   by_cases q0:ρ p=hd
   ·refine .inr ⟨q0,(c,g0,t0),?_,rfl,mv d1⟩
    have a1':S.ws[ρ p]?=some es0:=a1
    rw[q0,hes] at a1'
    cases a1'
    exact b1
   ·refine .inl ⟨es0,g0,t0,?_,b1,mv d1⟩
    have:ρU ρ hd ab p=ρ p:=by unfold ρU;rw[if_neg q0]
    rw[this]
    exact a1
  ·obtain⟨p,q,a1,a2,a3⟩:=X.of i es' hi x hx
   exact⟨p,q,a1,mv a2,mv a3⟩
  ·obtain⟨p,q,a1,a2,a3⟩:=X.of hd es hes x hx
   exact⟨p,q,a1,(mv a2).trans hdab,mv a3⟩
 obtain⟨o1,o2,o3,_⟩:=rW (es:=es) rfl ht I1 (by show ab<(S.hs.set hd ab).length;rw[hlen];exact l2) (fun e he=>by
  show _∧e.2.1<(S.hs.set hd ab).length∧_
  rw[hlen]
  exact(I.wy hd es hes).2 e he) U
 exact⟨o1,o2,o3⟩
theorem EI.pop{a b:Nat}{tt:List Nat}(X:EI E ρ { S with al:=(a,tt,b)::S.al })(hab:ρ a=ρ b):EI E ρ S:=by
 have mv:∀ {x y:Nat},Lnk ρ ((a,tt,b)::S.al) x y→Lnk ρ S.al x y:=fun g=>g.mono (fun x=>.root x) fun x t y hm=>by
  rcases c7.mp hm with z | z
  ·obtain⟨rfl,rfl,rfl⟩:x=a∧t=tt∧y=b:=by simpa using z
   have q1:=Lnk.root (ρ:=ρ) (al:=S.al) x
   have q2:=Lnk.root (ρ:=ρ) (al:=S.al) y
   rw[hab] at q1
   exact q1.trans q2.symm
  ·exact .pair z
 refine⟨X.lt,fun p c q hE=>?_,fun i es hi x hx=>?_⟩
 ·obtain⟨es0,g0,t0,a1,b1,d1⟩:=X.on p c q hE
  exact⟨es0,g0,t0,a1,b1,mv d1⟩
 ·obtain⟨p,q,a1,a2,a3⟩:=X.of i es hi x hx
  exact⟨p,q,a1,mv a2,mv a3⟩
end
section
variable {h:Nat→List Nat}{φ:Nat→List Nat}{ρ rk:Nat→Nat}{L:Nat}{S:WvS}{E:Nat→Nat→Nat→Prop}
def zQ(ρ:Nat→Nat)(N:Nat):Nat:=(List.range N).countP fun i=>decide (ρ i=i)
theorem yP{p q:Nat→Bool}{a:Nat}(hp:p a=true)(hq:q a=false)(he:∀ x,x≠a→q x=p x):∀ {N:Nat},a<N→(List.range N).countP q+1=(List.range N).countP p
 | N+1,hN=>by
  rw[List.range_succ,aZh,aZh]
  by_cases e:a=N
  ·subst e
   have same:∀ M,M≤a→(List.range M).countP q=(List.range M).countP p:=fun M hM=>aZl fun x hx=>by
    rw[he x (by have:=aQ4.mp hx;omega)]
   rw[same a (c0 _)]
   simp[hp,hq]
  ·have:=yP hp hq he (N:=N) (by omega)
   have e2:List.countP q [N]=List.countP p [N]:=aZl fun x hx=>by rw[he x (by rw[c6.mp hx];exact fun z=>e z.symm)]
   omega
theorem Bv{hd ab N:Nat}(hl:hd<N)(h1:ρ hd=hd)(h2:ρ ab=ab)(hne:hd≠ab):zQ (ρU ρ hd ab) N+1=zQ ρ N:=by
 refine yP (a:=hd) (by rw[decide_eq_true_iff];exact h1) (decide_eq_false ?_) (fun x hx=>?_) hl
 ·unfold ρU;rw[if_pos h1];exact fun z=>hne z.symm
 ·unfold ρU
  split
  ·rename_i q
   rw[decide_eq_false (show ¬ ab=x from fun z=>hne (by rw[← q,← z,h2])),decide_eq_false (show ¬ ρ x=x from fun z=>hx (by rw[← z,q]))]
  ·rfl
theorem Ft(N:Nat):zQ ρ N≤N:=by
 unfold zQ
 have:=List.countP_le_length (p:=fun i=>decide (ρ i=i)) (l:=List.range N)
 rwa [aQ0] at this
theorem mH:∀ {l m:List Nat},l.Nodup→(∀ x∈l,x∈m)→l.length≤m.length
 | [],m,_,_=>l7 _
 | a::l,m,nd,sub=>by
  obtain⟨n1,n2⟩:=l9.mp nd
  have ha:=sub a d4
  have:=mH (l:=l) (m:=m.erase a) n2 fun x hx=>(aZW (fun z=>n1 (by rw[← z];exact hx))).mpr (sub x (c8 _ hx))
  rw[aQu ha] at this
  have:0<m.length:=aXA ha
  rw[j0]
  omega
theorem uT{es:List (Nat×Nat×List Nat)}(nd:(es.map (·.1)).Nodup)(hl:∀ e∈es,bX e.1):es.length≤8:=by
 have:=mH (m:=[97,98,99,100,65,66,67,68]) nd fun x hx=>by
  obtain⟨e,he,rfl⟩:=d5.mp hx
  have:=hl e he
  unfold bX at this
  simp
  omega
 rw[b7] at this
 exact this
theorem lF{i c g:Nat}{t:List Nat}{es:List (Nat×Nat×List Nat)}:(bD S i c g t es).al.length≤S.al.length+1:=by
 unfold bD
 split
 ·exact aQg _
 ·split
  ·exact aQg _
  ·show (S.al++_).length≤_;rw[c5];exact c0 _
theorem lH{ab:Nat}{t:List Nat}:∀ {es:List (Nat×Nat×List Nat)} {T:WvS},(underW ab t T es).al.length≤T.al.length+es.length
 | [],T=>c0 _
 | e::es,T=>by
  have:=lH (ab:=ab) (t:=t) (es:=es) (T:=bD T ab e.1 e.2.1 (lay (back t++e.2.2)) (T.ws.getD ab []))
  have h2:=lF (S:=T) (i:=ab) (c:=e.1) (g:=e.2.1) (t:=lay (back t++e.2.2)) (es:=T.ws.getD ab [])
  rw[j0]
  show (underW ab t (bD T ab e.1 e.2.1 (lay (back t++e.2.2)) (T.ws.getD ab [])) es).al.length≤_
  omega
def Cg(S:WvS):WvS:={ hs:=S.hs++[S.hs.length],ts:=S.ts++[[]],ws:=S.ws++[[]],al:=S.al }
def φN(φ:Nat→List Nat)(N:Nat)(v:List Nat):Nat→List Nat:=fun j=>if j=N then v else φ j
theorem eY{α:Type}{xs:List α}{v y:α}{j:Nat}(h:(xs++[v])[j]?=some y):(j<xs.length∧xs[j]?=some y)∨(j=xs.length∧y=v):=by
 rcases Nat.lt_trichotomy j xs.length with q | q | q
 ·rw[l5 q] at h;exact .inl ⟨q,h⟩
 ·subst q
  rw[u0 (c0 _)] at h
  simp at h
  exact .inr ⟨rfl,h.symm⟩
 ·rw[u0 (by omega)] at h
  have:j - xs.length=(j - xs.length - 1)+1:=by omega
  rw[this] at h
  simp at h
theorem WI.new(I:WI h φ (fun x=>x) rk L S){v:List Nat}(hv:AllL v)(hl:v.length≤L):WI h (φN φ S.hs.length v) (fun x=>x) rk L (Cg S):=by
 have hold:∀ {i:Nat},i<S.hs.length→φN φ S.hs.length v i=φ i:=fun {i} hi=>by unfold φN;rw[if_neg (by omega)]
 have hnew:φN φ S.hs.length v S.hs.length=v:=by unfold φN;rw[if_pos rfl]
 have ln:(S.hs++[S.hs.length]).length=S.hs.length+1:=by rw[c5];rfl
 refine⟨?_,?_,?_,?_,?_,?_,?_,?_,I.ha⟩
 ·show (S.ts++[[]]).length=(S.hs++[S.hs.length]).length
  rw[c5,ln,I.lt];rfl
 ·show (S.ws++[[]]).length=(S.hs++[S.hs.length]).length
  rw[c5,ln,I.lw];rfl
 ·intro i a hi
  show a<(S.hs++[S.hs.length]).length∧_
  rw[ln]
  rcases eY hi with ⟨q,hi⟩ | ⟨rfl,rfl⟩
  ·obtain⟨a1,a2,a3,a4⟩:=I.hd i a hi
   exact⟨by omega,a2,a3,a4⟩
  ·exact⟨by omega,.inl rfl,rfl,fun _=>rfl⟩
 ·intro i hi
  have hi':i<S.hs.length+1:=by rw[← ln];exact hi
  refine⟨hi,?_⟩
  show (S.hs++[S.hs.length])[i]?=some i
  by_cases q:i<S.hs.length
  ·rw[l5 q];exact(I.rt i q).2
  ·have:i=S.hs.length:=by omega
   subst this
   rw[u0 (c0 _)]
   simp
 ·intro i a t hi ht
  have ht':(S.ts++[[]])[i]?=some t:=ht
  rcases eY hi with ⟨q,hi⟩ | ⟨rfl,rfl⟩
  ·rcases eY ht' with ⟨_,ht⟩ | ⟨z,_⟩
   ·rw[hold q,hold (I.hd i a hi).1]
    exact I.tn i a t hi ht
   ·rw[I.lt] at z;omega
  ·rcases eY ht' with ⟨z,_⟩ | ⟨_,rfl⟩
   ·rw[I.lt] at z;omega
   ·rw[hnew];exact(eU hv).symm
 ·intro i es hi
  rcases eY (show (S.ws++[[]])[i]?=some es from hi) with ⟨q,hi⟩ | ⟨_,rfl⟩
  ·obtain⟨w1,w2⟩:=I.wy i es hi
   refine⟨w1,fun e he=>?_⟩
   obtain⟨a,b,c⟩:=w2 e he
   refine⟨a,by show _<(S.hs++[S.hs.length]).length;rw[ln];omega,?_⟩
   rw[hold (by rw[I.lw] at q;exact q),hold b]
   exact c
  ·exact⟨by simp,fun e he=>by cases he⟩
 ·intro e he
  obtain⟨a,b,c⟩:=I.al e he
  refine⟨by show _<(S.hs++[S.hs.length]).length;rw[ln];omega,by show _<(S.hs++[S.hs.length]).length;rw[ln];omega,?_⟩
  rw[hold a,hold b]
  exact c
 ·intro i
  unfold φN
  split
  ·exact⟨hv,hl⟩
  ·exact I.fa i
theorem EI.new(X:EI E (fun x=>x) S)(hw:S.ws.length=S.hs.length):EI E (fun x=>x) (Cg S):=by
 refine⟨fun p c q hE=>?_,fun p c q hE=>?_,fun i es hi e he=>?_⟩
 ·obtain⟨a,b⟩:=X.lt p c q hE
  show p<(S.hs++[S.hs.length]).length∧q<(S.hs++[S.hs.length]).length
  rw[c5]
  simp
  omega
 ·obtain⟨es,g,t,a,b,d⟩:=X.on p c q hE
  refine⟨es,g,t,?_,b,d⟩
  show (S.ws++[[]])[p]?=_
  rw[l5 (a9.mp a).1]
  exact a
 ·rcases eY (show (S.ws++[[]])[i]?=some es from hi) with ⟨_,hi⟩ | ⟨_,rfl⟩
  ·exact X.of i es hi e he
  ·cases he
def Jb(E:Nat→Nat→Nat→Prop):Prop:=∀ p c q,E p c q→bX c∧E q (con c) p
def Fw(E:Nat→Nat→Nat→Prop)(ρ:Nat→Nat)(z:Nat):List Nat→Nat→Prop
 | [],y=>z=y
 | c::w,y=>∃ p q,ρ p=z∧E p c q∧Fw E ρ (ρ q) w y
theorem Fw.app:∀ {w v:List Nat} {x y z:Nat},Fw E ρ x w y→Fw E ρ y v z→Fw E ρ x (w++v) z
 | [],v,x,y,z,a,b=>by cases a;exact b
 | c::w,v,x,y,z,⟨p,q,a1,a2,a3⟩,b=>⟨p,q,a1,a2,Fw.app a3 b⟩
theorem Fw.back(hs:Jb E):∀ {w:List Nat} {x y:Nat},Fw E ρ x w y→Fw E ρ y (Ma.back w) x
 | [],x,y,a=>by cases a;rfl
 | c::w,x,y,⟨p,q,a1,a2,a3⟩=>by
  have ih:=Fw.back hs a3
  have e:Ma.back (c::w)=Ma.back w++[con c]:=by rw[show c::w=[c]++w from rfl,cS];rfl
  rw[e]
  exact ih.app ⟨q,p,rfl,(hs p c q a2).2,a1⟩
theorem Fw.mono{E':Nat→Nat→Nat→Prop}(hm:∀ p c q,E p c q→E' p c q):∀ {w:List Nat} {x y:Nat},Fw E ρ x w y→Fw E' ρ x w y
 | [],x,y,a=>a
 | c::w,x,y,⟨p,q,a1,a2,a3⟩=>⟨p,q,a1,hm _ _ _ a2,Fw.mono hm a3⟩
theorem EI.det(I:WI h φ ρ rk L S)(X:EI E ρ S)(h0:S.al=[])(hid:∀ x,ρ (ρ x)=ρ x):∀ p c q p' q',E p c q→E p' c q'→ρ p=ρ p'→ρ q=ρ q':=by
 intro p c q p' q' hE hE' e
 obtain⟨es,g,t,a1,a2,a3⟩:=X.on p c q hE
 obtain⟨es',g',t',b1,b2,b3⟩:=X.on p' c q' hE'
 rw[← e,a1] at b1
 cases b1
 rw[h0] at a3 b3
 have m1:=nJ (I.wy _ es a1).1 a2
 have m2:=nJ (I.wy _ es a1).1 b2
 rw[m1] at m2
 cases m2
 exact(Lnk.nil hid a3).symm.trans (Lnk.nil hid b3)
end
abbrev vJ:=Nat×Nat×List Nat
def DcIs(H:Hp)(kvs:List (cN×V))(es:List vJ):Prop:=Paired (fun (kv:cN×V) (e:vJ)=>kv.1=.inr (S [e.1])∧∃ t,kv.2=.ref t∧H t=some (.tup [.int (e.2.1:Nat),.str (S e.2.2)])) kvs es
def eT(l:List Nat):List V:=l.map fun (i:Nat)=>V.int i
theorem fU(l:List Nat):(eT l).length=l.length:=by unfold eT;rw[b7]
theorem lT{l:List Nat}{i a:Nat}(h:l[i]?=some a):(eT l)[i]?=some (.int (a:Nat)):=by unfold eT;rw[c9,h];rfl
theorem xJ(l:List Nat)(a:Nat):eT l++[.int (a:Nat)]=eT (l++[a]):=by unfold eT;rw[g6];rfl
theorem yO(l:List Nat)(i a:Nat):(eT l).set i (.int (a:Nat))=eT (l.set i a):=by unfold eT;rw[aJn]
theorem DcIs.mono{H H':Hp}{kvs:List (cN×V)}{es:List vJ}(ht:∀ t xs,H t=some (.tup xs)→H' t=some (.tup xs))(h:DcIs H kvs es):DcIs H' kvs es :=
 Paired.mapP h fun kv e ⟨a,t,b,c⟩=>⟨a,t,b,ht _ _ c⟩
theorem AE{c d:Nat}(h:(Sum.inr (S [c]):cN)=Sum.inr (S [d])):c=d:=by
 have z2:=aZo h
 have:=congrArg (fun y:Str=>y.cps.toList) z2
 simpa [S] using this
theorem DcIs.val{H:Hp}{c:Nat}:∀ {kvs:List (cN×V)} {es:List vJ},DcIs H kvs es→match dC es c with
  | none=>dB kvs (.inr (S [c]))=none
  | some r=>∃ t,dB kvs (.inr (S [c]))=some (.ref t)∧H t=some (.tup [.int (r.1:Nat),.str (S r.2)])
 | [],[],.nil=>rfl
 | kv::kvs,e::es,.cons ⟨a,t,b,d⟩ r=>by
  have ih:=DcIs.val (c:=c) (show DcIs H kvs es from r)
  by_cases q:e.1=c
  ·have:dC (e::es) c=some e.2:=by unfold dC;rw[List.find?_cons_of_pos (by simpa using q)];rfl
   rw[this]
   refine⟨t,?_,d⟩
   rw[dN (by rw[a,q]),b]
  ·have e1:dC (e::es) c=dC es c:=by unfold dC;rw[aZJ (by simpa using q)]
   rw[e1,dM (show ¬ kv.1=Sum.inr (S [c]) from fun z=>q (AE (a.symm.trans z)))]
   exact ih
theorem DcIs.put{H:Hp}{kvs:List (cN×V)}{es:List vJ}{c g:Nat}{w:List Nat}{t:Addr}(h:DcIs H kvs es)(hn:dC es c=none)(ht:H t=some (.tup [.int (g:Nat),.str (S w)])):DcIs H (dF kvs (.inr (S [c])) (.ref t)) (es++[(c,g,w)]):=by
 have hv:=h.val (c:=c)
 rw[hn] at hv
 have hv:dB kvs (.inr (S [c]))=none:=hv
 rw[wF _ hv]
 exact aZp h ⟨rfl,t,rfl,ht⟩
structure WvC(C:Addr)(H:Hp)(p dx hd tn wy al:Addr)(ds as:List Addr)(Z:WvS):Prop where
 nd:(hd::tn::wy::al::ds).Nodup
 ob:H p=some (.ins C dx (wf hd tn wy al))
 hh:H hd=some (.lst (eT Z.hs))
 ht:H tn=some (.lst (bS Z.ts))
 hw:H wy=some (.lst (ds.map V.ref))
 ha:H al=some (.lst (as.map V.ref))
 ld:ds.length=Z.ws.length
 dc:∀ (i:Nat) (d:Addr) (es:List vJ),ds[i]?=some d→Z.ws[i]?=some es→∃ kvs,H d=some (.dK kvs)∧DcIs H kvs es
 la:as.length=Z.al.length
 at':∀ (j:Nat) (a:Addr) (e:Nat×List Nat×Nat),as[j]?=some a→Z.al[j]?=some e→H a=some (.tup [.int (e.1:Nat),.str (S e.2.1),.int (e.2.2:Nat)])
def FrW(M:List Addr)(H H':Hp):Prop:=∀ b o,H b=some o→b ∉ M→H' b=some o
def MU(H:Hp)(M M':List Addr):Prop:=∀ x∈M',x∈M∨H x=none
theorem FrW.refl(M:List Addr)(H:Hp):FrW M H H:=fun _ _ h _=>h
theorem FrW.ofSame{M:List Addr}{H H':Hp}(s:Same H H'):FrW M H H':=fun b o h _=>s b o h
theorem FrW.trans{M M1:List Addr}{H H1 H2:Hp}(a:FrW M H H1)(u:MU H M M1)(b:FrW M1 H1 H2):FrW M H H2:=fun x o h n=>b x o (a x o h n) fun z=>(u x z).elim n fun q=>by rw[h] at q;cases q
theorem FrW.upd{M:List Addr}{H H':Hp}{x:Addr}{o:HO}(a:FrW M H H')(hx:x∈M):FrW M H (L2.upd H' x o):=fun b u h n=>by rw[aE (fun z=>n (by rw[z];exact hx))];exact a b u h n
theorem MU.refl(H:Hp)(M:List Addr):MU H M M:=fun _ h=>.inl h
section
variable {C:Addr}{H H':Hp}{p dx hd tn wy al:Addr}{ds as:List Addr}{Z:WvS}
theorem WvC.same(w:WvC C H p dx hd tn wy al ds as Z)(s:Same H H'):WvC C H' p dx hd tn wy al ds as Z :=
 ⟨w.nd,s _ _ w.ob,s _ _ w.hh,s _ _ w.ht,s _ _ w.hw,s _ _ w.ha,w.ld,fun i d es h1 h2=>let ⟨kvs,a,b⟩:=w.dc i d es h1 h2;⟨kvs,s _ _ a,b.mono fun t xs q=>s _ _ q⟩,w.la,fun j a e h1 h2=>s _ _ (w.at' j a e h1 h2)⟩
theorem WvC.out(w:WvC C H p dx hd tn wy al ds as Z){b:Addr}{o:HO}(e:H b=some o)(h1:∀ xs,o≠.lst xs)(h2:∀ kvs,o≠.dK kvs):b ∉ hd::tn::wy::al::ds:=fun z=>by
 have k:∀ {o':HO},H b=some o'→o=o':=fun q=>by rw[e] at q;exact d9 q
 rcases c7.mp z with rfl | z
 ·exact h1 _ (k w.hh)
 rcases c7.mp z with rfl | z
 ·exact h1 _ (k w.ht)
 rcases c7.mp z with rfl | z
 ·exact h1 _ (k w.hw)
 rcases c7.mp z with rfl | z
 ·exact h1 _ (k w.ha)
 ·obtain⟨i,hi⟩:=o9 z
  obtain⟨es,hes⟩:∃ es,Z.ws[i]?=some es:=⟨_,b0 (by rw[← w.ld];exact(a9.mp hi).1)⟩
  obtain⟨kvs,q,_⟩:=w.dc i b es hi hes
  exact h2 _ (k q)
theorem WvC.tup(w:WvC C H p dx hd tn wy al ds as Z)(f:FrW (hd::tn::wy::al::ds) H H'){t:Addr}{xs:List V}(e:H t=some (.tup xs)):H' t=some (.tup xs):=f t _ e (w.out e (by intro xs z;cases z) (by intro kvs z;cases z))
theorem WvC.self(w:WvC C H p dx hd tn wy al ds as Z)(f:FrW (hd::tn::wy::al::ds) H H'):H' p=some (.ins C dx (wf hd tn wy al)):=f p _ w.ob (w.out w.ob (by intro xs z;cases z) (by intro kvs z;cases z))
theorem WvC.put1{x:Addr}{o:HO}(hx:x∈hd::tn::wy::al::ds):FrW (hd::tn::wy::al::ds) H (L2.upd H x o):=(FrW.refl _ H).upd hx
theorem WvC.upHd(w:WvC C H p dx hd tn wy al ds as Z)(l:List Nat):WvC C (L2.upd H hd (.lst (eT l))) p dx hd tn wy al ds as { Z with hs:=l }:=by
 have f:FrW (hd::tn::wy::al::ds) H (L2.upd H hd (.lst (eT l))):=WvC.put1 d4
 obtain⟨n1,_⟩:=l9.mp w.nd
 have ne:∀ {b:Addr},b∈tn::wy::al::ds→b≠hd:=fun hb z=>n1 (z ▸ hb)
 refine⟨w.nd,w.self f,aC,by rw[aE (ne (by simp))];exact w.ht,by rw[aE (ne (by simp))];exact w.hw,by rw[aE (ne (by simp))];exact w.ha,w.ld,fun i d es h1 h2=>?_,w.la,fun j a e h1 h2=>w.tup f (w.at' j a e h1 h2)⟩
 obtain⟨kvs,a,b⟩:=w.dc i d es h1 h2
 exact⟨kvs,by rw[aE (ne (by simp[b6 h1]))];exact a,b.mono fun t xs q=>w.tup f q⟩
theorem WvC.upTn(w:WvC C H p dx hd tn wy al ds as Z)(l:List (List Nat)):WvC C (L2.upd H tn (.lst (bS l))) p dx hd tn wy al ds as { Z with ts:=l }:=by
 have f:FrW (hd::tn::wy::al::ds) H (L2.upd H tn (.lst (bS l))):=WvC.put1 (by simp)
 obtain⟨n1,n2⟩:=l9.mp w.nd
 obtain⟨n3,_⟩:=l9.mp n2
 have ne:∀ {b:Addr},b∈wy::al::ds→b≠tn:=fun hb z=>n3 (z ▸ hb)
 have nh:hd≠tn:=fun z=>n1 (z ▸ d4)
 refine⟨w.nd,w.self f,by rw[aE nh];exact w.hh,aC,by rw[aE (ne (by simp))];exact w.hw,by rw[aE (ne (by simp))];exact w.ha,w.ld,fun i d es h1 h2=>?_,w.la,fun j a e h1 h2=>w.tup f (w.at' j a e h1 h2)⟩
 obtain⟨kvs,a,b⟩:=w.dc i d es h1 h2
 exact⟨kvs,by rw[aE (ne (by simp[b6 h1]))];exact a,b.mono fun t xs q=>w.tup f q⟩
theorem WvC.upAl(w:WvC C H p dx hd tn wy al ds as Z)(as':List Addr)(l:List (Nat×List Nat×Nat))(hl:as'.length=l.length)(ha:∀ (j:Nat) (a:Addr) (e:Nat×List Nat×Nat),as'[j]?=some a→l[j]?=some e→H a=some (.tup [.int (e.1:Nat),.str (S e.2.1),.int (e.2.2:Nat)])) :
  WvC C (L2.upd H al (.lst (as'.map V.ref))) p dx hd tn wy al ds as' { Z with al:=l }:=by
 have f:FrW (hd::tn::wy::al::ds) H (L2.upd H al (.lst (as'.map V.ref))):=WvC.put1 (by simp)
 obtain⟨n1,n2⟩:=l9.mp w.nd
 obtain⟨n3,n4⟩:=l9.mp n2
 obtain⟨n5,n6⟩:=l9.mp n4
 obtain⟨n7,_⟩:=l9.mp n6
 have nh:hd≠al:=fun z=>n1 (z ▸ by simp)
 have nt:tn≠al:=fun z=>n3 (z ▸ by simp)
 have nw:wy≠al:=fun z=>n5 (z ▸ by simp)
 refine⟨w.nd,w.self f,by rw[aE nh];exact w.hh,by rw[aE nt];exact w.ht,by rw[aE nw];exact w.hw,aC,w.ld,fun i d es h1 h2=>?_,hl,fun j a e h1 h2=>w.tup f (ha j a e h1 h2)⟩
 obtain⟨kvs,a,b⟩:=w.dc i d es h1 h2
 exact⟨kvs,by rw[aE (fun z=>n7 (by rw[← z];exact b6 h1))];exact a,b.mono fun t xs q=>w.tup f q⟩
theorem WvC.upDc(w:WvC C H p dx hd tn wy al ds as Z){i:Nat}{d:Addr}(hi:ds[i]?=some d)(kvs:List (cN×V))(es:List vJ)(hk:DcIs H kvs es):WvC C (L2.upd H d (.dK kvs)) p dx hd tn wy al ds as { Z with ws:=Z.ws.set i es }:=by
 have hm:=b6 hi
 have f:FrW (hd::tn::wy::al::ds) H (L2.upd H d (.dK kvs)):=WvC.put1 (by simp[hm])
 obtain⟨n1,n2⟩:=l9.mp w.nd
 obtain⟨n3,n4⟩:=l9.mp n2
 obtain⟨n5,n6⟩:=l9.mp n4
 obtain⟨n7,n8⟩:=l9.mp n6
 have nh:hd≠d:=fun z=>n1 (z ▸ by simp[hm])
 have nt:tn≠d:=fun z=>n3 (z ▸ by simp[hm])
 have nw:wy≠d:=fun z=>n5 (z ▸ by simp[hm])
 have na:al≠d:=fun z=>n7 (z ▸ hm)
 refine⟨w.nd,w.self f,by rw[aE nh];exact w.hh,by rw[aE nt];exact w.ht,by rw[aE nw];exact w.hw,by rw[aE na];exact w.ha,by show ds.length=(Z.ws.set i es).length;rw[m6];exact w.ld,fun j d' es' h1 h2=>?_,w.la,fun j a e h1 h2=>w.tup f (w.at' j a e h1 h2)⟩
 rcases eZ h2 with ⟨rfl,rfl,_⟩ | ⟨hn,h2⟩
 ·rw[hi] at h1
  cases h1
  exact⟨kvs,aC,hk.mono fun t xs q=>w.tup f q⟩
 ·obtain⟨kvs',a,b⟩:=w.dc j d' es' h1 h2
  have nd:d'≠d:=fun z=>by
   subst z
   obtain⟨l1,e1⟩:=a9.mp h1
   obtain⟨l2,e2⟩:=a9.mp hi
   exact hn ((aQo n8).mp (e1.trans e2.symm))
  exact⟨kvs',by rw[aE nd];exact a,b.mono fun t xs q=>w.tup f q⟩
theorem WvC.upNew(w:WvC C H p dx hd tn wy al ds as Z){d:Addr}(hd0:H d=none):WvC C (L2.upd (L2.upd H d (.dK [])) wy (.lst ((ds++[d]).map V.ref))) p dx hd tn wy al (ds++[d]) as { Z with ws:=Z.ws++[[]] }:=by
 have w1:=w.same (Same.new (o:=.dK []) hd0)
 have e1:L2.upd H d (.dK []) d=some (.dK []):=aC
 have nin:d ∉ hd::tn::wy::al::ds:=fun z=>by
  rcases c7.mp z with rfl | z
  ·rw[w.hh] at hd0;cases hd0
  rcases c7.mp z with rfl | z
  ·rw[w.ht] at hd0;cases hd0
  rcases c7.mp z with rfl | z
  ·rw[w.hw] at hd0;cases hd0
  rcases c7.mp z with rfl | z
  ·rw[w.ha] at hd0;cases hd0
  ·obtain⟨i,hi⟩:=o9 z
   obtain⟨es,hes⟩:∃ es,Z.ws[i]?=some es:=⟨_,b0 (by rw[← w.ld];exact(a9.mp hi).1)⟩
   obtain⟨kvs,q,_⟩:=w.dc i d es hi hes
   rw[q] at hd0;cases hd0
 generalize L2.upd H d (.dK [])=G at w1 e1
 have f:FrW (hd::tn::wy::al::ds) G (L2.upd G wy (.lst ((ds++[d]).map V.ref))):=WvC.put1 (by simp)
 obtain⟨n1,n2⟩:=l9.mp w.nd
 obtain⟨n3,n4⟩:=l9.mp n2
 obtain⟨n5,n6⟩:=l9.mp n4
 have nh:hd≠wy:=fun z=>n1 (z ▸ by simp)
 have nt:tn≠wy:=fun z=>n3 (z ▸ by simp)
 have na:al≠wy:=fun z=>n5 (z ▸ by simp)
 have nd':(hd::tn::wy::al::(ds++[d])).Nodup:=by
  have:hd::tn::wy::al::(ds++[d])=(hd::tn::wy::al::ds)++[d]:=rfl
  rw[this,aQ1]
  exact⟨w.nd,by simp,fun a ha b hb z=>nin (by rw[← c6.mp hb,← z];exact ha)⟩
 have nwd:d≠wy:=fun z=>nin (z ▸ by simp)
 refine⟨nd',w1.self f,by rw[aE nh];exact w1.hh,by rw[aE nt];exact w1.ht,aC,by rw[aE na];exact w1.ha,by show (ds++[d]).length=(Z.ws++[[]]).length;rw[c5,c5,w.ld];rfl,fun i d' es h1 h2=>?_,w.la,fun j a e h1 h2=>w1.tup f (w1.at' j a e h1 h2)⟩
 rcases eY h2 with ⟨q,h2⟩ | ⟨q,rfl⟩
 ·rw[l5 (by rw[w.ld];exact q)] at h1
  obtain⟨kvs,a,b⟩:=w1.dc i d' es h1 h2
  exact⟨kvs,by rw[aE (fun z=>n5 (by rw[← z];exact c8 _ (b6 h1)))];exact a,b.mono fun t xs q=>w1.tup f q⟩
 ·rcases eY h1 with ⟨q',_⟩ | ⟨_,rfl⟩
  ·rw[w.ld] at q';omega
  ·exact⟨[],by rw[aE nwd];exact e1,.nil⟩
end
def Wat(C:Addr)(H:Hp)(p:Addr)(M:List Addr)(Z:WvS):Prop:=∃ dx hd tn wy al ds as,M=hd::tn::wy::al::ds∧WvC C H p dx hd tn wy al ds as Z
theorem Wat.same{C:Addr}{H H':Hp}{p:Addr}{M:List Addr}{Z:WvS}(w:Wat C H p M Z)(s:Same H H'):Wat C H' p M Z:=by
 obtain⟨dx,hd,tn,wy,al,ds,as,e,w⟩:=w;exact⟨dx,hd,tn,wy,al,ds,as,e,w.same s⟩
end Lw
namespace Lw
open PySem PySem.Spec PyProof.Rows L2 Ma
def IK(N P:List Str)(sc:Scope):Bool:=decide (sc.kind=.function) && (decide (sc.isCoroutine=false) && (decide (sc.isGenerator=false) && (decide N.Nodup && (decide (N.take P.length=P) && (P.all (fun x=>decide (sc.names.lookup x=some .local∨sc.names.lookup x=some .cell)) && sc.names.all (fun y=>decide (y.2≠.free)))))))
theorem gM{N P:List Str}{sc:Scope}(h:IK N P sc=true):FnScope N P sc:=by
 unfold IK at h
 simp only [aQE,decide_eq_true_eq,aQL] at h
 obtain⟨a,b,c,d,e,f,g⟩:=h
 exact⟨a,b,c,d,e,f,g⟩
theorem pC{X:Cx}{x:Str}{ps:List Str}{n m:Nat}{sp:Sp}{e:Expr}{es:List Expr}{t:TA}{p pos:Pos}(c:Cl X.prog X.w X.K X.mg X.base x ps n sp)(hr:Room m X.A)(ha:PA X (e::es) t)(hg:Gl X x:=by rfl)(hle:n≤m:=by first | decide | exact c0 _)
  (hdb:(x == ("__debug__":Str))=false:=by decide) (he:starEach (e::es) X.env=(false,eval e X.env)::starEach es X.env:=by rfl) (hpl:(backTo pos (starEach es X.env)).any (·.1)=false:=by rfl) :
  PE X (.Call (.Name x p) (e::es) [] pos) (E8 sp [] E0 t):=by
 obtain⟨f,fd,F,hm,hk,hb⟩:=c
 exact DY F (hr.mono hle) hg hm hk hb .nil fW ha hdb he hpl
abbrev DI(K:b5)(x:Str)(st:Stmt):Prop:=∃ (f:Addr) (oc kV dc pm cd ct:Value) (od an:Option Addr) (sl:Array (Option Value)),PySem.W.nsIn K mainGlobals x=some (some (.ref f))∧K.lookup f=some ⟨oc,od,.func (PySem.W.fnOf x x (eR st) (eK st) (aG st) .none kV dc pm an cd ct),sl⟩∧PySem.W.codeIn K cd x=true∧PySem.W.keepIn K (.ref f)=true
theorem jL{K:b5}{h:Heap}{mg:Str→Option Value}{x:Str}{st:Stmt}{ps:List Str}(d:DI K x st)(X:K.In h)(G:h.Ns mainGlobals mg)(hb:∀ (kV doc pm:Value) (an:Option Addr) (cdv ct:Value) (us:List Value),us.length=ps.length→bindArgs (PySem.W.fnOf x x (eR st) (eK st) (aG st) .none kV doc pm an cdv ct) ⟨us,[]⟩=pure (ps.zip us)):∃ f fd,Df K mg x st ps f fd:=by
 obtain⟨f,oc,kV,dc,pm,cd,ct,od,an,sl,a,l,c,k⟩:=d
 exact⟨f,_,nA l c k,(nA l c k).binds hb,aQc X G a⟩
abbrev DJ(K:b5)(C:Addr)(x q:Str)(st:Stmt):Prop:=∃ (f:Addr) (oc kV dc pm cd ct:Value) (od an:Option Addr) (sl:Array (Option Value)),PySem.W.findIn K (.ref C) x=some (some (.ref f))∧PySem.W.isFn K (.ref f)=true∧K.lookup f=some ⟨oc,od,.func (PySem.W.fnOf x q (eR st) (eK st) (aG st) .none kV dc pm an cd ct),sl⟩∧PySem.W.codeIn K cd q=true∧PySem.W.keepIn K (.ref f)=true
theorem DK{K:b5}{C:Addr}{x q:Str}{st:Stmt}{ps:List Str}(d:DJ K C x q st)(hb:∀ (kV doc pm:Value) (an:Option Addr) (cdv ct:Value) (us:List Value),us.length=ps.length→bindArgs (PySem.W.fnOf x q (eR st) (eK st) (aG st) .none kV doc pm an cdv ct) ⟨us,[]⟩=pure (ps.zip us)):∃ f fd,DfM K C x q st ps f fd:=by
 obtain⟨f,oc,kV,dc,pm,cd,ct,od,an,sl,a,i,l,c,k⟩:=d
 exact⟨f,_,JX a i l c k hb⟩
end Lw
namespace L2
open PySem PySem.Spec PyProof.Rows
section
variable {X:Cx}{tg:Expr}
def HS(ta:TA):TI:=fun σ H R=>ta σ H fun vs H1=>∃ z:Str,vs=[.str z]∧z.length≤60000∧R (Hk z) H1
theorem D7{a:Expr}{ta:TA}{p pos:Pos}(hg:Gl X "reversed")(hm:X.mg "reversed"=none)(ha:PA X [a] ta)(hs:starEach [a] X.env=[(false,eval a X.env)]:=by rfl):PI X tg (.Call (.Name "reversed" p) [a] [] pos) (HS ta):=by
 intro pins s σ H R I h
 refine Call_ (jC I hg hm boot_reversed (t9 (cK (ha pos pins s σ H _ I h) fun us s1 ⟨vs,H1,I1,r1,q1⟩=>?_) hs rfl))
 obtain⟨z,e,hz,q⟩:=q1
 subst e
 obtain⟨u,rfl,ru⟩:=r1.one
 obtain⟨t,rfl⟩:=ru
 refine hU (by omega) fun tk=>?_
 have I2:Inv X pins σ H1 { s1 with heap:=s1.heap.push { cls:=.type "reversed",data:=.fields #[.str z t,rawInt ((z.length:Int) - 1)] },toks:=tk }:=I1.kept fun b o e=>b9 _ e
 have st:(s1.heap.push { cls:=.type "reversed",data:=.fields #[.str z t,rawInt ((z.length:Int) - 1)] }).IsRvd s1.heap.objs.size z t ((z.length:Int) - 1):=⟨_,d8 _ rfl,rfl,rfl⟩
 refine fI st ?_
 refine⟨s1.heap.objs.size,[s1.heap.objs.size],_,_,H1,rfl,I2,wL z t _ (by omega),⟨l7 _,?_⟩,fun b hb=>?_,q⟩
 ·have e0:(z.cps.size:Int) - 1 - ((0:Nat):Int)=(z.length:Int) - 1:=by show (z.cps.size:Int) - 1 - ((0:Nat):Int)=(z.cps.size:Int) - 1;omega
  rw[e0];exact st
 ·have e:b=s1.heap.objs.size:=by simpa using hb
  subst e
  exact I1.fpOk (c0 _) (I1.hok.fresh (c0 _))
end
theorem AG{z:Str}{ws:List Str}{us:List Value}(r:Vals (ws.map V.str) us){i:Nat}(hi:i<us.length):∃ w t,ws[i]?=some w∧us[i]=.str w t:=by
 have hl:us.length=ws.length:=by rw[← r.length,b7]
 have hw:ws[i]?=some ws[i]:=b0 (by omega)
 obtain⟨u,hu,ru⟩:=r.get (show (ws.map V.str)[i]?=some (.str ws[i]) by rw[c9,hw];rfl)
 obtain⟨t,rfl⟩:=ru
 rw[b0 hi] at hu
 exact⟨_,t,hw,d9 hu⟩
theorem yU{X:Cx}{K:b5}(hK:X.K=K):Bo X "list.index" (fun x xs H Q=>∃ (a:Addr) (ws:List Str) (z:Str) (j:Nat),x=.ref a∧xs=[.str z]∧SqL K H a (ws.map V.str)∧ws[j]?=some z∧(∀ m,m<j→ws[m]?≠some z)∧j<1000∧Q (.int ((j:Nat):Int)) H):=by
 subst hK
 intro pins s σ H x xs v us Q I rx rs h
 obtain⟨a,ws,z,j,rfl,rfl,hq,hj,hno,hsm,q⟩:=h
 cases rx
 obtain⟨u,rfl,ru⟩:=rs.one
 obtain⟨t,rfl⟩:=ru
 obtain⟨its,r,pl,_⟩:=I.list hq
 obtain⟨_,hall⟩:=wY z r
 obtain⟨⟨cls,dd,data,sl⟩,ho,hc,n,hd⟩:=id pl.isList
 simp only at hc hd
 subst hc hd
 have hl:its.length=ws.length:=by rw[← r.length,b7]
 have hj':j<its.length:=by rw[hl];exact(a9.mp hj).1
 refine call_meets aZA ⟨_,ho,rfl⟩ PySem.F.entry_list_index (PySem.F.args_list_index_2 _ _) (SeqAt.list_indexAt a its.toArray n dd sl (.str z t) (EF z) j (by simpa using hj') (by omega) ?_ ?_) ⟨ho,fun y hy=>?_,?_⟩
 ·obtain⟨w,tw,h1,h2⟩:=AG (z:=z) r hj'
  rw[hj] at h1
  cases h1
  show EF z its[j]=true
  rw[h2]
  exact beq_self_eq_true z
 ·intro m hm hmj
  have hm':m<its.length:=by simpa using hm
  obtain⟨w,tw,h1,h2⟩:=AG (z:=z) r hm'
  show EF z its[m]=false
  rw[h2]
  refine beq_eq_false_iff_ne.mpr fun e=>hno m hmj ?_
  rw[h1,e]
 ·obtain⟨w,tw,rfl⟩:=hall y (by simpa using hy)
  exact aZa w tw z t
 ·exact⟨.int _,H,I.tok _,⟨_,rfl⟩,q⟩
end L2
namespace PySem
namespace SeqAt
end SeqAt
end PySem
namespace L2
open PySem PySem.Spec PyProof.Rows
end L2
namespace PySem
open Sem (wp)
open PyProof.Rows
namespace F
end F
end PySem
namespace L2
open PySem PySem.Spec PyProof.Rows
end L2
namespace Lw
open PySem PySem.Spec PyProof.Rows L2 Ma MaR
theorem uD(cs:List Nat):bS (bU cs)=bB cs:=by unfold bS bU bB;rw[p7];rfl
inductive spDrawnB(vs:List V)(H:Hp)(Q:VK)(E:XK):Prop
 | mk (fl sc:Addr) (n:Nat) (_:vs=[.ref fl,.int (n:Nat)]) (_:IsFl H fl sc) (_:1≤n) (_:n≤4) (_:∀ (p:Addr) (c:Nat) (sd:List Nat) (H':Hp),H p=none→GoodB n c sd→sd.length≤8→IsChg H' p c sd→IsFl H' fl sc→Kp fl H H'→Q (.ref p) H'):spDrawnB vs H Q E
inductive spChBk(vs:List V)(H:Hp)(Q:VK)(E:XK):Prop
 | mk (n:Nat) (p:Addr) (c:Nat) (sd:List Nat) (_:vs=[.ref p]) (_:1≤n) (_:n≤4) (_:IsChg H p c sd) (_:GoodB n c sd) (_:sd.length≤8) (_:∀ (q:Addr) (H':Hp),Same H H'→IsChg H' q (con c) (nE c sd)→Q (.ref q) H'):spChBk vs H Q E
theorem KL{a b:Nat}(h:¬ rk b<rk a):CL [a] [b]:=by
 show (if ((1:Nat):Int)=((1:Nat):Int) then HT.lexLt [((rk b:Nat):Int)] [((rk a:Nat):Int)] else _)=false
 rw[if_pos rfl,HT.lexLt_cons]
 by_cases e:((rk b:Nat):Int)=((rk a:Nat):Int)
 ·rw[if_pos e];rfl
 ·rw[if_neg e];exact decide_eq_false (by omega)
theorem GoodB.nodup{n c:Nat}{sd:List Nat}(g:GoodB n c sd):sd.Nodup:=g.ord.imp fun {a b} h e=>by rw[e] at h;exact aQW _ h
theorem wI{n c:Nat}{sd:List Nat}(h1:1≤n)(h4:n≤4)(g:GoodB n c sd){ws:List (List Nat)}(hp:ws.Perm (bU ((sd.filter fun d=>decide (d≠c))++[con c])))(ho:ws.Pairwise CL):ws=bU (nE c sd):=by
 have b:=g.back h1 h4
 refine uE (fun x hx=>?_) (hp.trans ((yF g.nodup g.has).map _).symm) ho ?_
 ·obtain⟨d,hd,rfl⟩:=d5.mp (hp.mem_iff.mp hx)
  have:=(yF g.nodup g.has).mem_iff.mpr hd
  exact cU (aK (b.side d this))
 ·unfold bU
  rw[aXi]
  exact b.ord.imp fun h=>KL (by omega)
theorem B6{n:Nat}(h1:1≤n)(h4:n≤4):(aI (n:Nat)).Pairwise fun a b=>rk a<rk b:=by
 rcases Aq h1 h4 with rfl | rfl | rfl | rfl <;> decide
theorem AB{w:List Nat}{i:Nat}{v:V}(h:(bB w)[i]?=some v):∃ c,w[i]?=some c∧v=.str (S [c]):=by
 unfold bB at h
 rw[c9] at h
 cases hq:w[i]? with
 | none=>rw[hq] at h;cases h
 | some o=>rw[hq] at h;exact⟨o,rfl,(d9 h).symm⟩
end Lw
namespace PySem
open Sem (wp)
set_option maxHeartbeats 1000000 in
theorem kD(l:Addr)(items:Array Value) :
  Meets (Builtin.«enumerate.__new__» ⟨[.type "enumerate",.ref l],[]⟩) (fun _ R s=>s.heap.IsTuple l items ∧
   R (.ok (.ret (.ref (s.heap.push { cls:=.type "tuple_iterator",data:=.fields #[.ref l,.int 0 0] }).objs.size)))
    { s with heap:=(s.heap.push { cls:=.type "tuple_iterator",data:=.fields #[.ref l,.int 0 0] }).push { cls:=.type "enumerate",data:=.fields #[.none,.bool false,.ref s.heap.objs.size,rawInt 0,.none,.none] } }) :=
 .of_wp fun prog w A R s h=>by
  obtain⟨hp,g,d,tk,os⟩:=s
  obtain⟨hT,h⟩:=h
  have hsub:=sub_enumerate
  wp_walk
  refine wpAny_stack_any fun st=>wpAny_pure ?_
  split
  ·rename_i c _ _ _ _ _
   cases (c == Value.type "enumerate")
   ·wp_walk using wpAny_pyIter_tuple hT
    exact⟨_,rfl,h⟩
   ·wp_walk using wpAny_pyIter_tuple hT
    exact⟨_,rfl,h⟩
  ·wp_walk using wpAny_pyIter_tuple hT
   exact⟨_,rfl,h⟩
section
variable {prog:Program}{w:World}{A:Around}{E:Value→Shared→Prop}{s:Shared}
theorem lK{l:Addr}{items:Array Value}{Q:Value→Shared→Prop}(hL:s.heap.IsTuple l items)
  (h:∀ h',IsEnum h' (s.heap.objs.size+1) s.heap.objs.size 0 .none→h'.IsTupleIter s.heap.objs.size l 0→h'.objs.size=s.heap.objs.size+2 →
   (∀ b o,s.heap.get? b=some o→h'.get? b=some o)→Q (.ref (s.heap.objs.size+1)) { s with heap:=h' }) :
  wpAny (model prog w) A (call (.type "enumerate") [.ref l]) Q E s:=by
 refine callType_new F.called_enumerate (by decide) (F.typeCall_enumerate_1 _) (F.newCall_enumerate_1 _) (fun obj=>aZU obj _) F.entry_enumerate_new
  (kD l items) ⟨hL,?_⟩
 have hz:(s.heap.push { cls:=.type "tuple_iterator",data:=.fields #[.ref l,.int 0 0] }).objs.size=s.heap.objs.size+1:=y9 ..
 show _∧_
 rw[hz]
 have he:IsEnum ((s.heap.push { cls:=.type "tuple_iterator",data:=.fields #[.ref l,.int 0 0] }).push
   { cls:=.type "enumerate",data:=.fields #[.none,.bool false,.ref s.heap.objs.size,rawInt 0,.none,.none] }) (s.heap.objs.size+1) s.heap.objs.size 0 .none:=by
  have:=d8 (s.heap.push { cls:=.type "tuple_iterator",data:=.fields #[.ref l,.int 0 0] })
   (o:={ cls:=.type "enumerate",data:=.fields #[.none,.bool false,.ref s.heap.objs.size,rawInt 0,.none,.none] }) rfl
  rw[hz] at this;exact this
 refine⟨⟨_,he,rfl⟩,h _ he ⟨_,b9 _ (d8 _ rfl),rfl,rfl⟩ (by rw[y9,hz]) fun b o x=>b9 _ (b9 _ x)⟩
end
end PySem
namespace L2
open PySem PySem.Spec PyProof.Rows
theorem nY{prog:Program}{w:World}{A:Around}(hh:A.handled=none)(it l:Addr)(hne:l≠it)(items:Array Value) :
  Draws prog w A it [it,l] items.size (fun i v=>items[i]?=some v) (fun i h=>h.IsTupleIter it l i∧h.IsTuple l items) where
 live:=fun _ _ st=>let ⟨o,ho,_⟩:=st.1;⟨o,ho⟩
 frame:=fun _ _ _ st hk=>⟨st.1.at fun o e=>hk it (by simp) o e,by obtain⟨o,e,r⟩:=st.2;exact⟨o,hk l (by simp) o e,r⟩⟩
 item:=fun i s Q E hi st hQ=>by
  refine iT st.1 st.2 (x:=items[i]) (by simp[hi]) fun h' hit' hs'=>?_
  exact hQ _ h' s.toks (by simp[hi]) ⟨hit',st.2.extBut hs'.extBut hne⟩ hs'
 done:=fun s Q E st hE=>mW hh st.1 st.2 (by simp) hE
def CV(K:b5)(a:Addr):It :=
 ⟨fun i H=>∃ xs x,SqT K H a xs∧xs[i]?=some x,fun i H v H'=>∃ p,v=.ref p∧H p=none∧∀ xs,SqT K H a xs→∃ x,xs[i]?=some x∧H'=upd H p (.tup [.int (i:Nat),x]),fun i H=>∃ xs,SqT K H a xs∧xs.length=i⟩
theorem Ae{P:Program}{w:World}{K:b5}{es:List Expr}{x1}{pos:Pos}(a e it:Addr)(hne:e≠it) :
  Turn P w K (.Tuple es x1 pos) (CV K a) [e,it] e (fun i h=>(∃ old,IsEnum h e it ((i:Nat):Int) old)∧h.IsTupleIter it a i) where
 mem:=by simp
 obj:=fun i h st b hb=>by
  obtain⟨⟨old,he⟩,o,g,c,d⟩:=st
  simp only [c7,o8,or_false] at hb
  rcases hb with rfl | rfl
  ·exact⟨_,he,fun v z=>by cases z⟩
  ·exact⟨o,g,fun v z=>by rw[d] at z;cases z⟩
 keep:=fun i h h' st k=>by
  obtain⟨⟨old,he⟩,o,g,r⟩:=st
  exact⟨⟨old,k e (by simp) _ he⟩,o,k it (by simp) o g,r⟩
 item:=by
  intro X hP hw hK hc i pins s σ H E I hf st hg
  subst hP hw hK
  obtain⟨⟨old,he⟩,hs⟩:=st
  obtain⟨xs,y,hq,hx⟩:=hg
  obtain⟨its,rv,p,hz⟩:=I.tuple hq
  obtain⟨u,hu,ru⟩:=rv.get hx
  have hl:=rv.length
  have hai:a≠it:=fun c=>by
   obtain⟨o,g,c1,_⟩:=hs
   obtain⟨o2,g2,c2,_⟩:=id p
   subst c
   rw[g2] at g
   cases g
   rw[c1] at c2
   exact absurd (aZS c2) (by decide)
  have hea:e≠a:=fun c=>by
   obtain⟨o2,g2,c2,_⟩:=id p
   subst c
   have he':s.heap.get? e=some _:=he
   rw[g2] at he'
   cases he'
   exact absurd (aZS c2) (by decide)
  have hei:e ∉ [it,a]:=by simp[hne,hea]
  have DD:=nY (prog:=X.prog) (w:=X.w) (A:=X.A.in1) (I.ok.hd hc) it a hai its.toArray
  have hil:i<xs.length:=(a9.mp hx).1
  refine wpAny_pyNext_enum_itemD DD he ⟨hs,(show s.heap.IsTuple a its.toArray from p)⟩ (by simp;omega) hne hei fun v h1 tk hv ho hs1 hT1 hz1 kp=>⟨_,rfl,?_⟩
  have ev:v=u:=by
   have h3:its[i]?=some v:=by simpa using hv
   rw[hu] at h3
   exact(d9 h3).symm
  subst ev
  refine wpAny_letOwnedTupleGo_enum ho fun h2 he2 e2=>?_
  have ne:s.heap.objs.size≠e:=aQ7 (d6 he)
  have hT2:h2.get? s.heap.objs.size=some { cls:=.type "tuple",data:=.seq #[.int i tk,v] }:=(e2.2 _ ne).trans hT1
  have hHn:H s.heap.objs.size=none:=I.hok.fresh (c0 _)
  have kpn:∀ b o,b ∉ [e,it]→s.heap.get? b=some o→h2.get? b=some o:=fun b o hn q=>(e2.2 b fun z=>hn (by simp[z])).trans (kp b o (fun z=>hn (by simp[z])) (fun z=>hn (by simp[z])) q)
  refine⟨.ref s.heap.objs.size,upd H s.heap.objs.size (.tup [.int (i:Nat),y]),?_,rfl,⟨_,rfl,hHn,fun ys hy=>⟨y,by rw[I.tuple_inj hy hq];exact hx,rfl⟩⟩,⟨⟨_,by simpa using he2⟩,?_⟩,fun b hb=>?_⟩
  ·exact I.turnedN (t':=tk+1) (h':=h2) kpn hf (c0 _) ⟨by show 2≤sizeLine;decide,[.int i tk,v],.cons ⟨_,rfl⟩ (.cons ru .nil),⟨_,hT2,rfl,0,rfl⟩,⟨_,hT2,rfl⟩⟩
  ·obtain⟨⟨o,g,r⟩,_⟩:=hs1
   exact⟨o,(e2.2 it hne.symm).trans g,r⟩
  ·have hce:b≠s.heap.objs.size:=by
    obtain⟨o1,g1,_⟩:=hs
    simp only [c7,o8,or_false] at hb
    rcases hb with rfl | rfl
    ·exact i3 (d6 he)
    ·exact i3 (d6 g1)
   rw[aE hce]
   exact(hf b hb).1
 done:=by
  intro X hP hw hK hc i pins s σ H E I hf st hg
  subst hP hw hK
  obtain⟨⟨old,he⟩,hs⟩:=st
  obtain⟨xs,hq,hx⟩:=hg
  obtain⟨its,rv,p,hz⟩:=I.tuple hq
  have hl:=rv.length
  have hai:a≠it:=fun c=>by
   obtain⟨o,g,c1,_⟩:=hs
   obtain⟨o2,g2,c2,_⟩:=id p
   subst c
   rw[g2] at g
   cases g
   rw[c1] at c2
   exact absurd (aZS c2) (by decide)
  have hi:i=its.toArray.size:=by simp;omega
  subst hi
  have DD:=nY (prog:=X.prog) (w:=X.w) (A:=X.A.in1) (I.ok.hd hc) it a hai its.toArray
  refine wpAny_pyNext_enum_endD DD he ⟨hs,(show s.heap.IsTuple a its.toArray from p)⟩ fun h1 e1=>⟨rfl,?_⟩
  exact I.turnedM (t':=s.toks) (ch:=[e,it]) (fun b o hn q=>e1 b o (fun z=>hn (by simp[z])) q) hf
 self:=fun A i s Q E st h=>by
  obtain⟨⟨old,he⟩,_⟩:=st
  exact wpAny_pyIter_enum he h
section
variable {X:Cx}
def GP(K:b5)(ta:TA):TI:=fun σ H R=>ta σ H fun vs H1=>∃ a,vs=[.ref a]∧(∃ xs,SqT K H1 a xs)∧R (CV K a) H1
theorem Cj{es:List Expr}{x1}{tpos:Pos}{a:Expr}{ta:TA}{p pos:Pos}{K:b5}(hK:X.K=K)(hg:Gl X "enumerate")(hm:X.mg "enumerate"=none)(ha:PA X [a] ta)(hs:starEach [a] X.env=[(false,eval a X.env)]:=by rfl) :
  PI X (.Tuple es x1 tpos) (.Call (.Name "enumerate" p) [a] [] pos) (GP K ta):=by
 subst hK
 intro pins s σ H R I h
 refine Call_ (jC I hg hm boot_enumerate (t9 (cK (ha pos pins s σ H _ I h) fun us s1 ⟨vs,H1,I1,r1,q1⟩=>?_) hs rfl))
 obtain⟨l,e,⟨xs,hq⟩,q⟩:=q1
 subst e
 obtain⟨u,rfl,ru⟩:=r1.one
 obtain rfl:u=.ref l:=ru
 obtain⟨its,rv,pl,hz⟩:=I1.tuple hq
 refine lK (show s1.heap.IsTuple l its.toArray from pl) fun h' he hit hz kp=>?_
 have I2:Inv X pins σ H1 { s1 with heap:=h' }:=I1.kept (t':=s1.toks) kp
 have hne:s1.heap.objs.size+1≠s1.heap.objs.size:=by omega
 refine wpAny_pyIter_enum he ⟨s1.heap.objs.size+1,[s1.heap.objs.size+1,s1.heap.objs.size],_,_,H1,rfl,I2,Ae l _ _ hne,⟨⟨_,he⟩,hit⟩,fun b hb=>?_,q⟩
 have hle:s1.heap.objs.size≤b:=by
  simp only [c7,o8,or_false] at hb
  rcases hb with h | h <;> rw[h]
  ·exact aQ9 _ _
  ·exact c0 _
 exact I1.fpOk hle (I1.hok.fresh hle)
end
theorem BD{K:b5}{a:Addr}{xs:List V}{g:TG}{tb:TS}{D:Ends}{σ:St}{H:Hp}(Pv:Nat→St→Hp→Prop)(h0:Pv 0 σ H)(hl:∀ i σ H,i≤xs.length→Pv i σ H→SqT K H a xs)
  (hs:∀ i x p σ H,xs[i]?=some x→H p=none→Pv i σ H→g (.ref p) σ (upd H p (.tup [.int (i:Nat),x])) fun σ2 H2=>tb { D with nx:=Pv (i+1),ct:=Pv (i+1),bk:=D.nx } σ2 H2) (hd:∀ σ H,Pv xs.length σ H→D.nx σ H) :
  ∃ W:Nat→Nat→St→Hp→Prop,(∃ m,W 0 m σ H)∧∀ i m σ H,W i m σ H →
   ((CV K a).stop i H∧D.nx σ H)∨((CV K a).go i H∧∃ N:St→Hp→Prop,(∀ σ' H',N σ' H'→∃ m',m' < m∧W (i+1) m' σ' H')∧∀ x H',(CV K a).yld i H x H'→g x σ H' fun σ2 H2=>tb { D with nx:=N,ct:=N,bk:=D.nx } σ2 H2):=by
 refine⟨fun i m σ H=>m=xs.length - i∧i≤xs.length∧Pv i σ H,⟨xs.length,by simp,l7 _,h0⟩,?_⟩
 rintro i m σ H ⟨rfl,hi,p⟩
 have q:=hl i σ H hi p
 by_cases hlt:i<xs.length
 ·refine .inr ⟨⟨xs,_,q,b0 hlt⟩,Pv (i+1),fun σ' H' p'=>⟨xs.length - (i+1),by omega,rfl,hlt,p'⟩,fun x H' y=>?_⟩
  obtain⟨pp,rfl,hn,hy⟩:=y
  obtain⟨x,hx,rfl⟩:=hy xs q
  exact hs i x pp σ H hx hn p
 ·have e:i=xs.length:=by omega
  subst e
  exact .inl ⟨⟨xs,q,rfl⟩,hd σ H p⟩
end L2
namespace Lw
open PySem PySem.Spec PyProof.Rows L2 Ma MaR
theorem xF(a b:Nat)(u v:List Nat):gU [.int (a:Nat),.str (S u)] [.int (b:Nat),.str (S v)]=decide ((a,u)=(b,v)):=by
 have e1:gU [.int (a:Nat),.str (S u)] [.int (b:Nat),.str (S v)]=(decide (((a:Nat):Int)=((b:Nat):Int)) && decide (u=v)):=by
  have:=qA [((a:Nat):Int)] [((b:Nat):Int)]
  have e2:=yD [S u] [S v]
  show (pU (.int (a:Nat)) (.int (b:Nat)) && (pU (.str (S u)) (.str (S v)) && true))=_
  have q1:pU (.int (a:Nat)) (.int (b:Nat))=decide (((a:Nat):Int)=((b:Nat):Int)):=by
   have q:(pU (.int (a:Nat)) (.int (b:Nat)) && true)=decide ([((a:Nat):Int)]=[((b:Nat):Int)]):=this
   rw[aZY] at q
   rw[q]
   exact decide_eq_decide.mpr ⟨fun z=>by simpa using z,fun z=>by rw[z]⟩
  have q2:pU (.str (S u)) (.str (S v))=decide (u=v):=by
   have q:(pU (.str (S u)) (.str (S v)) && true)=decide ([S u]=[S v]):=e2
   rw[aZY] at q
   rw[q]
   refine decide_eq_decide.mpr ⟨fun z=>?_,fun z=>by rw[z]⟩
   have z':S u=S v:=by simpa using z
   have:=congrArg (fun y:Str=>y.cps.toList) z'
   simpa [S] using this
  rw[q1,q2,aZY]
 rw[e1]
 by_cases h1:a=b
 ·by_cases h2:u=v
  ·subst h1 h2;simp
  ·simp[h2]
 ·have:¬ ((a:Nat):Int)=((b:Nat):Int):=by omega
  simp[h1,this]
theorem vH{n:Nat}{i:Int}(h0:0≤i)(h1:i<(n:Nat)):Cc n i=some i.toNat:=by
 unfold Cc
 rw[if_pos h0,if_pos h1]
theorem AR(ws:List (List Nat))(j:Nat)(w:List Nat):(bS ws).set j (.str (S w))=bS (ws.set j w):=by
 unfold bS
 rw[aJn]
section
variable {h:Nat→List Nat}{φ:Nat→List Nat}{ρ rk:Nat→Nat}{L:Nat}{Z:WvS}
theorem jD(I:WI h φ ρ rk L Z)(i j:Nat):AllL (lay (back (φ i)++φ j))∧(lay (back (φ i)++φ j)).length≤2 * L:=by
 obtain⟨a1,a2⟩:=I.fa i
 obtain⟨b1,b2⟩:=I.fa j
 refine⟨eM (AllL.app.mpr ⟨aL a1,b1⟩),?_⟩
 have:=gE (back (φ i)++φ j)
 rw[c5,bY] at this
 omega
theorem pE(I:WI h φ ρ rk L Z){c:Nat}(hc:bX c)(i j:Nat):AllL (lay (back (φ i)++(h c++φ j)))∧(lay (back (φ i)++(h c++φ j))).length≤3 * L:=by
 obtain⟨a1,a2⟩:=I.fa i
 obtain⟨b1,b2⟩:=I.fa j
 obtain⟨c1,c2⟩:=I.ha c hc
 refine⟨eM (AllL.app.mpr ⟨aL a1,AllL.app.mpr ⟨c1,b1⟩⟩),?_⟩
 have:=gE (back (φ i)++(h c++φ j))
 rw[c5,c5,bY] at this
 omega
theorem uB{hd ab:Nat}{t:List Nat}(ht:t=lay (back (φ hd)++φ ab)):∀ {es:List vJ} {T:WvS},WI h φ ρ rk L T→ab<T.hs.length→(∀ e∈es,bX e.1∧e.2.1<T.hs.length∧e.2.2=lay (back (φ hd)++(h e.1++φ e.2.1)))→WI h φ ρ rk L (underW ab t T es)∧(underW ab t T es).hs=T.hs
 | [],T,I,_,_=>⟨I,rfl⟩
 | e::es,T,I,hab,hes=>by
  obtain⟨ea,hea⟩:∃ ea,T.ws[ab]?=some ea:=⟨_,b0 (by rw[I.lw];exact hab)⟩
  have hgd:T.ws.getD ab []=ea:=by rw[b8,hea];rfl
  obtain⟨e1,e2,e3⟩:=hes e d4
  have htd:lay (back t++e.2.2)=lay (back (φ ab)++(h e.1++φ e.2.1)):=by
   rw[ht,e3]
   exact JZ (I.fa hd).1 (I.fa ab).1 (I.fa e.2.1).1 (I.ha e.1 e1).1
  have I1:=I.lay hea e1 e2 htd
  obtain⟨hhs,_⟩:=iO (S:=T) ab e.1 e.2.1 (lay (back t++e.2.2)) ea
  have key:underW ab t T (e::es)=underW ab t (bD T ab e.1 e.2.1 (lay (back t++e.2.2)) ea) es:=by
   unfold underW
   rw[aXQ,hgd]
  rw[key]
  obtain⟨o1,o2⟩:=uB ht (es:=es) I1 (by rw[hhs];exact hab) (fun x hx=>by rw[hhs];exact hes x (c8 _ hx))
  exact⟨o1,o2.trans hhs⟩
theorem wU{ab:Nat}{t:List Nat}{T:WvS}{es:List vJ}{e:vJ}:underW ab t T (es++[e])=bD (underW ab t T es) ab e.1 e.2.1 (lay (back t++e.2.2)) ((underW ab t T es).ws.getD ab []):=by
 unfold underW
 rw[aXf]
 rfl
end
theorem EI.move{E:Nat→Nat→Nat→Prop}{ρ:Nat→Nat}{Z Z':WvS}(X:EI E ρ Z)(hw:Z'.ws=Z.ws)(ha:Z'.al=Z.al)(hl:Z'.hs.length=Z.hs.length):EI E ρ Z' :=
 ⟨fun p c q h=>by rw[hl];exact X.lt p c q h,fun p c q h=>by rw[hw,ha];exact X.on p c q h,fun i es h e he=>by rw[ha];exact X.of i es (by rw[← hw];exact h) e he⟩
theorem WI.alDrop{h φ:Nat→List Nat}{ρ rk:Nat→Nat}{L:Nat}{Z:WvS}(I:WI h φ ρ rk L Z){l:List (Nat×List Nat×Nat)}(hl:∀ e∈l,e∈Z.al):WI h φ ρ rk L { Z with al:=l } :=
 ⟨I.lt,I.lw,I.hd,I.rt,I.tn,I.wy,fun e he=>I.al e (hl e he),I.fa,I.ha⟩
theorem BA{ρ:Nat→Nat}{hd ab:Nat}(hi:∀ x,ρ (ρ x)=ρ x)(hb:ρ ab=ab)(hne:hd≠ab):∀ x,ρU ρ hd ab (ρU ρ hd ab x)=ρU ρ hd ab x:=fun x=>by
 unfold ρU
 by_cases q:ρ x=hd
 ·rw[if_pos q,hb,if_neg (fun z=>hne z.symm)]
 ·rw[if_neg q,hi x,if_neg q]
inductive spBackB(vs:List V)(H:Hp)(Q:VK)(E:XK):Prop
 | mk (w:List Nat) (_:vs=[.str (S w)]) (_:AllL w) (_:w.length≤60000) (_:∀ H',Same H H'→Q (.str (S (back w))) H'):spBackB vs H Q E
inductive spJoinB(vs:List V)(H:Hp)(Q:VK)(E:XK):Prop
 | mk (u w:List Nat) (_:vs=[.str (S u),.str (S w)]) (_:AllL u) (_:AllL w) (_:u.length+w.length≤60000) (_:∀ H',Same H H'→Q (.str (S (lay (u++w)))) H'):spJoinB vs H Q E
def HY:WvS:={ hs:=[0],ts:=[[]],ws:=[[]],al:=[] }
inductive spWInitA(C:Addr)(vs:List V)(H:Hp)(Q:VK)(E:XK):Prop
 | mk (p dx:Addr) (_:vs=[.ref p]) (_:H p=some (.ins C dx [])) (_:∀ (M:List Addr) (H':Hp),(∀ x∈M,H x=none)→Wat C H' p M HY→(∀ b o,H b=some o→b≠p→H' b=some o)→Q .non H'):spWInitA C vs H Q E
structure Kept(C:Addr)(h φ:Nat→List Nat)(ρ rk:Nat→Nat)(L:Nat)(p:Addr)(M:List Addr)(H H':Hp)(Z Z':WvS):Prop where
 at':Wat C H' p M Z'
 wi:WI h φ ρ rk L Z'
 ws:Z'.ws=Z.ws
 al:Z'.al=Z.al
 ln:Z'.hs.length=Z.hs.length
 fr:FrW M H H'
inductive spEndA(C:Addr)(vs:List V)(H:Hp)(Q:VK)(E:XK):Prop
 | mk (h φ:Nat→List Nat) (ρ rk:Nat→Nat) (L:Nat) (p:Addr) (M:List Addr) (Z:WvS) (i:Nat) (x:List Nat) (_:vs=[.ref p,.int (i:Nat),.str (S x)]) (_:Wat C H p M Z) (_:WI h φ ρ rk L Z) (_:L≤8000) (_:i<Z.hs.length) (_:AllL x) (_:lay x=x) (_:x.length≤3 * L) (_:∀ (t:Addr) (H':Hp) (Z':WvS),Kept C h φ ρ rk L p M H H' Z Z'→H' t=some (.tup [.int (ρ i:Nat),.str (S (lay (x++(back (φ i)++φ (ρ i)))))])→Q (.ref t) H'):spEndA C vs H Q E
inductive spHeadA(C:Addr)(vs:List V)(H:Hp)(Q:VK)(E:XK):Prop
 | mk (h φ:Nat→List Nat) (ρ rk:Nat→Nat) (L:Nat) (p:Addr) (M:List Addr) (Z:WvS) (i:Nat) (_:vs=[.ref p,.int (i:Nat)]) (_:Wat C H p M Z) (_:WI h φ ρ rk L Z) (_:L≤8000) (_:i<Z.hs.length) (_:∀ (H':Hp) (Z':WvS),Kept C h φ ρ rk L p M H H' Z Z'→Q (.int (ρ i:Nat)) H'):spHeadA C vs H Q E
inductive spGoalA(C:Addr)(vs:List V)(H:Hp)(Q:VK)(E:XK):Prop
 | mk (h φ:Nat→List Nat) (ρ rk:Nat→Nat) (L:Nat) (p:Addr) (M:List Addr) (Z:WvS) (i c:Nat) (es:List vJ) (_:vs=[.ref p,.int (i:Nat),.str (S [c])]) (_:Wat C H p M Z) (_:WI h φ ρ rk L Z) (_:L≤8000) (_:Z.ws[i]?=some es) (_:∀ (H':Hp) (Z':WvS),Kept C h φ ρ rk L p M H H' Z Z'→Q (match dC es c with | none=>.non | some r=>.int (ρ r.1:Nat)) H'):spGoalA C vs H Q E
inductive spNewA(C:Addr)(vs:List V)(H:Hp)(Q:VK)(E:XK):Prop
 | mk (p:Addr) (M:List Addr) (Z:WvS) (_:vs=[.ref p]) (_:Wat C H p M Z) (_:Z.hs.length≤900) (_:Z.ts.length≤900) (_:Z.ws.length≤900) (_:∀ (d:Addr) (H':Hp),Wat C H' p (M++[d]) (Cg Z)→H d=none→FrW M H H'→Q (.int (Z.hs.length:Nat)) H'):spNewA C vs H Q E
inductive spLayA(C:Addr)(vs:List V)(H:Hp)(Q:VK)(E:XK):Prop
 | mk (h φ:Nat→List Nat) (ρ rk:Nat→Nat) (L:Nat) (p:Addr) (M:List Addr) (Z:WvS) (i c g:Nat) (t:List Nat) (es:List vJ) (_:vs=[.ref p,.int (i:Nat),.str (S [c]),.int (g:Nat),.str (S t)]) (_:Wat C H p M Z) (_:WI h φ ρ rk L Z) (_:L≤8000) (_:Z.ws[i]?=some es) (_:bX c) (_:g<Z.hs.length) (_:t=lay (back (φ i)++(h c++φ g))) (_:Z.al.length≤50000) (_:∀ H',Wat C H' p M (bD Z i c g t es)→FrW M H H'→Q .non H'):spLayA C vs H Q E
inductive spPutA(C:Addr)(vs:List V)(H:Hp)(Q:VK)(E:XK):Prop
 | mk (h φ:Nat→List Nat) (ρ rk ρ1 rk1:Nat→Nat) (L:Nat) (p:Addr) (M:List Addr) (Z:WvS) (hd ab:Nat) (t:List Nat) (es:List vJ) (_:vs=[.ref p,.int (hd:Nat),.int (ab:Nat),.str (S t)]) (_:Wat C H p M Z) (_:WI h φ ρ rk L Z) (_:WI h φ ρ1 rk1 L (dR Z hd ab t)) (_:L≤8000) (_:Z.ws[hd]?=some es) (_:hd<Z.hs.length) (_:ab<Z.hs.length) (_:hd≠ab) (_:t=lay (back (φ hd)++φ ab)) (_:Z.al.length≤40000) (_:∀ H',Wat C H' p M (underW ab t (dR Z hd ab t) es)→FrW M H H'→Q .non H'):spPutA C vs H Q E
def Hw(h:Nat→List Nat)(w:List Nat):List Nat:=w.flatMap h
theorem Ak{h:Nat→List Nat}(ha:∀ c,bX c→AllL (h c)):∀ {w:List Nat},AllL w→AllL (Hw h w)
 | [],_=>AllL.nil
 | c::w,hw=>by
  obtain⟨a,b⟩:=AllL.cons.mp hw
  show AllL (h c++Hw h w)
  exact AllL.app.mpr ⟨ha c a,Ak ha b⟩
theorem AC{h:Nat→List Nat}(w:List Nat)(c:Nat):Hw h (w++[c])=Hw h w++h c:=by
 unfold Hw
 rw[aZ1]
 simp
theorem AK{x:List Nat}(hx:AllL x):back (lay (back x))=lay x:=by
 rw[← iI (aL hx),cD hx]
theorem BS{h:Nat→List Nat}{u:List Nat}{c:Nat}(hu:AllL (Hw h u))(hc:AllL (h c)):lay (back (lay (back (Hw h u)))++(h c++[]))=lay (Hw h (u++[c])):=by
 rw[AK hu,l4,eJ _ _ hu,AC]
theorem Co{h:Nat→List Nat}{u:List Nat}{c:Nat}(hu:AllL (Hw h u))(hc:AllL (h c)):lay (back (lay (back (Hw h u)))++(h c++lay (back (Hw h (u++[c])))))=[]:=by
 have q:=aL hu
 have q2:=aL hc
 rw[AK hu,eJ _ _ hu,AC,cS,← i6,cG _ _ (AllL.app.mpr ⟨hu,hc⟩) (AllL.app.mpr ⟨q2,q⟩)]
 have e1:Hw h u++h c++(back (h c)++back (Hw h u))=Hw h u++(h c++(back (h c)++back (Hw h u))):=by simp only [i6]
 rw[e1,gK hu hc q]
 exact fM hu
theorem Wat.dom{C:Addr}{H:Hp}{p:Addr}{M:List Addr}{Z:WvS}(w:Wat C H p M Z){x:Addr}(hx:x∈M):∃ o,H x=some o:=by
 obtain⟨dx,hd,tn,wy,al,ds,as,hM,w⟩:=w
 rw[hM] at hx
 rcases c7.mp hx with rfl | hx
 ·exact⟨_,w.hh⟩
 rcases c7.mp hx with rfl | hx
 ·exact⟨_,w.ht⟩
 rcases c7.mp hx with rfl | hx
 ·exact⟨_,w.hw⟩
 rcases c7.mp hx with rfl | hx
 ·exact⟨_,w.ha⟩
 ·obtain⟨i,hi⟩:=o9 hx
  obtain⟨es,hes⟩:∃ es,Z.ws[i]?=some es:=⟨_,b0 (by rw[← w.ld];exact(a9.mp hi).1)⟩
  obtain⟨kvs,q,_⟩:=w.dc i x es hi hes
  exact⟨_,q⟩
theorem Wat.new{C:Addr}{H:Hp}{p:Addr}{M:List Addr}{Z:WvS}(w:Wat C H p M Z){x:Addr}(hx:H x=none):x ∉ M:=fun z=>by
 obtain⟨o,e⟩:=w.dom z
 rw[hx] at e;cases e
theorem Wat.out{C:Addr}{H:Hp}{p:Addr}{M:List Addr}{Z:WvS}(w:Wat C H p M Z){b:Addr}{o:HO}(e:H b=some o)(h1:∀ xs,o≠.lst xs)(h2:∀ kvs,o≠.dK kvs):b ∉ M:=by
 obtain⟨dx,hd,tn,wy,al,ds,as,hM,w⟩:=w
 rw[hM]
 exact w.out e h1 h2
theorem Wat.self{C:Addr}{H:Hp}{p:Addr}{M:List Addr}{Z:WvS}(w:Wat C H p M Z):∃ dx hd tn wy al,H p=some (.ins C dx (wf hd tn wy al)):=by
 obtain⟨dx,hd,tn,wy,al,ds,as,hM,w⟩:=w
 exact⟨dx,hd,tn,wy,al,w.ob⟩
theorem GC{K:b5}{C:Addr}{H H':Hp}{p:Addr}{M:List Addr}{Z:WvS}(w:Wat C H p M Z)(f:FrW M H H'){t:Addr}{xs:List V}(h:SqT K H t xs):SqT K H' t xs:=by
 rcases h with (h | ⟨o,h⟩) | h
 ·exact .inl (.inl (f _ _ h (w.out h (by intro xs z;cases z) (by intro kvs z;cases z))))
 ·exact .inl (.inr ⟨o,f _ _ h (w.out h (by intro xs z;cases z) (by intro kvs z;cases z))⟩)
 ·exact .inr h
theorem GA{K:b5}{H:Hp}{d:Addr}{ys:List V}{o:HO}(e:H d=some (.lst ys)){t:Addr}{xs:List V}(h:SqT K H t xs):SqT K (upd H d o) t xs:=by
 rcases h with (h | ⟨q,h⟩) | h
 ·exact .inl (.inl (by rw[aE (dI h e (by intro z;cases z))];exact h))
 ·exact .inl (.inr ⟨q,by rw[aE (dI h e (by intro z;cases z))];exact h⟩)
 ·exact .inr h
section
variable {C:Addr}{h φ:Nat→List Nat}{ρ rk:Nat→Nat}{L:Nat}{p:Addr}{M:List Addr}{H H1 H2:Hp}{Z Z1 Z2:WvS}
theorem Kept.refl(w:Wat C H p M Z)(I:WI h φ ρ rk L Z):Kept C h φ ρ rk L p M H H Z Z:=⟨w,I,rfl,rfl,rfl,FrW.refl _ _⟩
theorem Kept.trans(a:Kept C h φ ρ rk L p M H H1 Z Z1)(b:Kept C h φ ρ rk L p M H1 H2 Z1 Z2):Kept C h φ ρ rk L p M H H2 Z Z2:=⟨b.at',b.wi,b.ws.trans a.ws,b.al.trans a.al,b.ln.trans a.ln,fun x o e n=>b.fr _ _ (a.fr x o e n) n⟩
theorem Kept.same(a:Kept C h φ ρ rk L p M H H1 Z Z1)(s:Same H1 H2):Kept C h φ ρ rk L p M H H2 Z Z1:=⟨a.at'.same s,a.wi,a.ws,a.al,a.ln,fun x o e n=>s _ _ (a.fr x o e n)⟩
theorem Wat.set(w:Wat C H p M Z){d:Addr}{o:HO}(hd:d ∉ M)(hx:∃ xs,H d=some (.lst xs)):Wat C (L2.upd H d o) p M Z:=by
 obtain⟨xs,ex⟩:=hx
 obtain⟨dx,hd',tn,wy,al,ds,as,hM,w⟩:=w
 rw[hM] at hd
 have nt:∀ {t:Addr} {ys:List V},H t=some (.tup ys)→L2.upd H d o t=some (.tup ys):=fun q=>by rw[aE (dI q ex (by intro z;cases z))];exact q
 have nm:∀ {b:Addr} {u:HO},b∈hd'::tn::wy::al::ds→H b=some u→L2.upd H d o b=some u:=fun hb q=>by rw[aE (fun z=>hd (by rw[← z];exact hb))];exact q
 refine⟨dx,hd',tn,wy,al,ds,as,hM,w.nd,?_,nm (by simp) w.hh,nm (by simp) w.ht,nm (by simp) w.hw,nm (by simp) w.ha,w.ld,fun i d' es h1 h2=>?_,w.la,fun j a e h1 h2=>nt (w.at' j a e h1 h2)⟩
 ·rw[aE (dI w.ob ex (by intro z;cases z))];exact w.ob
 ·obtain⟨kvs,a,b⟩:=w.dc i d' es h1 h2
  exact⟨kvs,nm (by simp[b6 h1]) a,b.mono fun t xs q=>nt q⟩
theorem Wat.setD(w:Wat C H p M Z){d:Addr}{o:HO}(hd:d ∉ M)(hx:∃ xs,H d=some (.dK xs)):Wat C (L2.upd H d o) p M Z:=by
 obtain⟨xs,ex⟩:=hx
 obtain⟨dx,hd',tn,wy,al,ds,as,hM,w⟩:=w
 rw[hM] at hd
 have nt:∀ {t:Addr} {ys:List V},H t=some (.tup ys)→L2.upd H d o t=some (.tup ys):=fun q=>by rw[aE (dI q ex (by intro z;cases z))];exact q
 have nm:∀ {b:Addr} {u:HO},b∈hd'::tn::wy::al::ds→H b=some u→L2.upd H d o b=some u:=fun hb q=>by rw[aE (fun z=>hd (by rw[← z];exact hb))];exact q
 refine⟨dx,hd',tn,wy,al,ds,as,hM,w.nd,?_,nm (by simp) w.hh,nm (by simp) w.ht,nm (by simp) w.hw,nm (by simp) w.ha,w.ld,fun i d' es h1 h2=>?_,w.la,fun j a e h1 h2=>nt (w.at' j a e h1 h2)⟩
 ·rw[aE (dI w.ob ex (by intro z;cases z))];exact w.ob
 ·obtain⟨kvs,a,b⟩:=w.dc i d' es h1 h2
  exact⟨kvs,nm (by simp[b6 h1]) a,b.mono fun t xs q=>nt q⟩
theorem Kept.set(a:Kept C h φ ρ rk L p M H H1 Z Z1){d:Addr}{o:HO}{xs:List V}(hM:d ∉ M)(hd:H d=none)(hx:H1 d=some (.lst xs)):Kept C h φ ρ rk L p M H (L2.upd H1 d o) Z Z1 :=
 ⟨a.at'.set hM ⟨xs,hx⟩,a.wi,a.ws,a.al,a.ln,fun x u e n=>by rw[aE (aJ e hd)];exact a.fr x u e n⟩
theorem Kept.setD(a:Kept C h φ ρ rk L p M H H1 Z Z1){d:Addr}{o:HO}{xs:List (cN×V)}(hM:d ∉ M)(hd:H d=none)(hx:H1 d=some (.dK xs)):Kept C h φ ρ rk L p M H (L2.upd H1 d o) Z Z1 :=
 ⟨a.at'.setD hM ⟨xs,hx⟩,a.wi,a.ws,a.al,a.ln,fun x u e n=>by rw[aE (aJ e hd)];exact a.fr x u e n⟩
theorem Kept.free(a:Kept C h φ ρ rk L p M H H1 Z Z1){d:Addr}(hM:d ∉ M)(hd:H1 d=none):H d=none:=by
 cases e:H d with
 | none=>rfl
 | some o=>rw[a.fr d o e hM] at hd;cases hd
end
theorem WI.init{h:Nat→List Nat}{L:Nat}(hh:∀ c,bX c→AllL (h c)∧(h c).length≤L):WI h (fun _=>[]) (fun x=>x) (fun _=>0) L HY:=by
 have one:∀ {α:Type} {v y:α} {i:Nat},[v][i]?=some y→i=0∧y=v:=fun {α v y i} e=>by
  cases i with
  | zero=>exact⟨rfl,by simpa using e.symm⟩
  | succ i=>simp at e
 refine⟨rfl,rfl,fun i a e=>?_,fun i hi=>?_,fun i a t e1 e2=>?_,fun i es e=>?_,(fun e he=>by cases he),fun i=>⟨AllL.nil,l7 _⟩,hh⟩
 ·obtain⟨rfl,rfl⟩:=one e
  exact⟨by decide,.inl rfl,rfl,fun _=>rfl⟩
 ·have:i<1:=hi
  have:i=0:=by omega
  subst this
  exact⟨by decide,rfl⟩
 ·obtain⟨rfl,rfl⟩:=one e2
  rfl
 ·obtain⟨rfl,rfl⟩:=one e
  exact⟨by simp,fun e he=>by cases he⟩
theorem EI.init:EI (fun _ _ _=>False) (fun x=>x) HY:=by
 refine⟨fun _ _ _ z=>z.elim,fun _ _ _ z=>z.elim,fun i es e x hx=>?_⟩
 cases i with
 | zero =>
  have:es=[]:=by
   have e':some ([]:List vJ)=some es:=e
   exact(d9 e').symm
  subst this
  cases hx
 | succ i=>cases e
structure IvG(n:Nat)(rs bk:List (List Nat))(A B:Nat):Prop where
 rt:RT rs n A
 ro:∀ x∈rs,OfN n x∧lay x=x
 bt:RT bk n B
 bo:∀ x∈bk,OfN n x∧lay x=x
 there:bC rs bk=cC n
 back:bC bk rs=cC n
theorem IvG.symm{n A B:Nat}{rs bk:List (List Nat)}(h:IvG n rs bk A B):IvG n bk rs B A:=⟨h.bt,h.bo,h.rt,h.ro,h.back,h.there⟩
end Lw
namespace L2
open PySem PySem.Spec PyProof.Rows
section
variable {X:Cx}{K:b5}
inductive Rcall_maxG(K:b5)(xs:List V)(H:Hp)(Q:VK):Prop
 | mk (a:Addr) (ns:List Int) (_:xs=[.ref a]) (_:SqL K H a (ns.map V.int)) (_:0<ns.length) (_:∀ m:Int,(∀ x∈ns,x≤m)→Q (.int m) H):Rcall_maxG K xs H Q
theorem tM(hK:X.K=K)(hc:X.calm=true):gS X (.builtin "max") (fun xs H Q=>Rcall_maxG K xs H Q):=by
 subst hK
 intro pins s σ H xs us Q I r h
 obtain⟨a,ns,rfl,hq,hn0,q⟩:=h
 obtain⟨u,rfl,ru⟩:=r.one
 cases ru
 obtain⟨its,rv,pl,_⟩:=I.list hq
 have hl:=pl.isList
 obtain⟨hn,hi⟩:=wA rv
 obtain⟨ps,hps⟩:=AllInts.items (vs:=its.toArray) (fun v hv=>by
  obtain⟨i,hi',rfl⟩:=List.getElem_of_mem (List.mem_toArray.mp hv)
  obtain⟨t,e⟩:=hi i _ (b0 hi')
  exact⟨_,t,e⟩)
 rw[hps] at hl
 have hsz0:ps.size=ns.length:=by
  have:=congrArg Array.size hps
  simp[intItems] at this
  omega
 have hnum:∀ i,i<ns.length→numAt ps i=(ns[i]?).getD 0:=fun i hi'=>by
  obtain⟨v,hv⟩:∃ v,its[i]?=some v:=⟨_,b0 (by omega)⟩
  obtain⟨t,e⟩:=hi i v hv
  have h2:(intItems ps)[i]?=some v:=by rw[← hps];simpa using hv
  obtain⟨t2,e2⟩:=intItems_at h2
  rw[e] at e2
  exact(Value.int.inj e2).1.symm
 refine max_intList (I.ok.hd hc) hl (by omega) fun v h' tk hv hk=>?_
 obtain⟨t,rfl⟩:=intItems_at hv
 refine⟨.int _,H,I.kept (t':=tk) hk,⟨_,rfl⟩,q _ fun x hx=>?_⟩
 obtain⟨j,hj⟩:=o9 hx
 have hjl:j<ns.length:=(a9.mp hj).1
 have:=(argBest_gt (numAt ps) (ps.size - 1)).2 j (by omega)
 rw[hnum j hjl,hj] at this
 exact this
end
end L2
namespace Lw
open PySem PySem.Spec PyProof.Rows L2 Ma MaR
section
variable {n:Nat}(h1:1≤n)(h4:n≤4)
include h1 h4
theorem As{f fb s sb:List (List Nat)}{A B C D:Nat}(hf:RT f n A∧∀ x∈f,OfN n x)(hfb:RT fb n B∧∀ x∈fb,OfN n x)(hs:RT s n C∧∀ x∈s,OfN n x)(hsb:RT sb n D∧∀ x∈sb,OfN n x)(e1:bC f fb=cC n)(e2:bC s sb=cC n):bC (bC f s) (bC sb fb)=cC n:=by
 rw[nV hf.1 hs.1 (vZ hsb.1 hfb.1),← nV hs.1 hsb.1 hfb.1,e2]
 have:bC f (bC (cC n) fb)=bC (bC f (cC n)) fb:=(nV hf.1 (lP h1 h4) hfb.1).symm
 rw[this]
 refine Eq.trans ?_ e1
 unfold bC
 rw[p7]
 refine p9 fun x hx=>?_
 show retl fb (lay (told (cC n) x))=retl fb x
 rw[uK h1 h4 (hf.2 x hx)]
 exact kC hfb.1 (hf.1.all x hx)
theorem IvG.comp{f fb s sb:List (List Nat)}{A B C D:Nat}(hf:IvG n f fb A B)(hs:RT s n C∧∀ x∈s,OfN n x)(hsb:RT sb n D∧∀ x∈sb,OfN n x)(e1:bC s sb=cC n)(e2:bC sb s=cC n):IvG n (bC f s) (bC sb fb) (A * C) (D * B):=by
 have a:RT f n A∧∀ x∈f,OfN n x:=⟨hf.rt,fun x hx=>(hf.ro x hx).1⟩
 have b:RT fb n B∧∀ x∈fb,OfN n x:=⟨hf.bt,fun x hx=>(hf.bo x hx).1⟩
 refine⟨vZ hf.rt hs.1,fun x hx=>⟨xM h1 h4 hs.2 x hx,dZ (pM _ _ x hx)⟩,vZ hsb.1 hf.bt,fun x hx=>⟨xM h1 h4 b.2 x hx,dZ (pM _ _ x hx)⟩,As h1 h4 a b hs hsb hf.there e1,As h1 h4 hsb hs b a e2 hf.back⟩
theorem IvG.low(A B:Nat)(hA:1≤A)(hB:1≤B):IvG n (cC n) (cC n) A B:=by
 have r:=lP h1 h4
 have o:∀ x∈cC n,OfN n x∧lay x=x:=fun x hx=>by
  refine⟨?_,dZ (rC n x hx)⟩
  obtain⟨c,hc,rfl⟩:=d5.mp hx
  intro d hd
  rw[c6.mp hd]
  exact eI h1 h4 hc
 have e:bC (cC n) (cC n)=cC n:=CU h1 h4 (fun x hx=>(o x hx).1) (rC n)
 exact⟨⟨r.len,r.all,fun x hx=>j7 (r.le x hx) hA⟩,o,⟨r.len,r.all,fun x hx=>j7 (r.le x hx) hB⟩,o,e,e⟩
omit h1 h4 in
theorem IvG.le{f fb:List (List Nat)}{A B C D:Nat}(hf:IvG n f fb A B)(h1:∀ x∈f,x.length≤C)(h2:∀ x∈fb,x.length≤D):IvG n f fb C D:=⟨⟨hf.rt.len,hf.rt.all,h1⟩,hf.ro,⟨hf.bt.len,hf.bt.all,h2⟩,hf.bo,hf.there,hf.back⟩
theorem IvG.turn{f fb:List (List Nat)}{A B:Nat}(hf:IvG n f fb A B){g:List Nat}(hg:OfN n g):IvG n (bC f (eO n g)) (bC (eO n (Ma.back g)) fb) (A * (2 * g.length+1)) ((2 * g.length+1) * B):=by
 have gA:=hg.all
 have bo:OfN n (Ma.back g):=fun c hc=>by
  unfold Ma.back at hc
  obtain⟨d,hd,rfl⟩:=d5.mp (y7.mp hc)
  exact cE (by omega) (by omega) (hg d hd)
 have r2:=lX (n:=n) (g:=Ma.back g) h4 (aL gA)
 rw[bY] at r2
 refine hf.comp h1 h4 ⟨lX h4 gA,qR h1 h4 hg⟩ ⟨r2,qR h1 h4 bo⟩ (tV h1 h4 hg) ?_
 have:=tV h1 h4 bo
 rwa [cD gA] at this
end
def oK(H:Hp)(a:Addr)(f:List (List Nat)):Prop:=H a=some (.tup (bS f))
inductive spAlph(vs:List V)(H:Hp)(Q:VK)(E:XK):Prop
 | mk (fl sc:Addr) (n mo:Nat) (st:Int) (_:vs=[.ref fl,.int (n:Nat),.int st,.int (mo:Nat)]) (_:IsFl H fl sc) (_:1≤n) (_:n≤4) (_:1≤mo) (_:mo≤8) (_:0≤st) (_:st≤100) (_:∀ (p a b:Addr) (f fb:List (List Nat)) (H':Hp),H' p=some (.tup [.ref a,.ref b])→oK H' a f→oK H' b fb→IvG n f fb mo mo→IsFl H' fl sc→Kp fl H H'→Q (.ref p) H'):spAlph vs H Q E
inductive spOthA(vs:List V)(H:Hp)(Q:VK)(E:XK):Prop
 | mk (fl sc:Addr) (n mo:Nat) (st:Int) (_:vs=[.ref fl,.int (n:Nat),.int st,.int (mo:Nat)]) (_:IsFl H fl sc) (_:1≤n) (_:n≤4) (_:1≤mo) (_:mo≤8) (_:0≤st) (_:st≤100) (_:∀ (p a b:Addr) (f fb:List (List Nat)) (H':Hp),H' p=some (.tup [.ref a,.ref b])→oK H' a f→oK H' b fb→IvG n f fb mo (5 * mo)→IsFl H' fl sc→Kp fl H H'→Q (.ref p) H'):spOthA vs H Q E
inductive spExBkA(vs:List V)(H:Hp)(Q:VK)(E:XK):Prop
 | mk (n:Nat) (a:Addr) (cs:List Nat) (_:vs=[.ref a]) (_:1≤n) (_:n≤4) (_:Exch n cs) (_:H a=some (.tup (bB cs))) (_:∀ (q:Addr) (H':Hp),H q=none→Same H H'→H' q=some (.tup (bB (xB n cs)))→Q (.ref q) H'):spExBkA vs H Q E
theorem oG{H H':Hp}{fl sc a:Addr}{f:List (List Nat)}(i:IsFl H fl sc)(k:Kp fl H H')(h:oK H a f):oK H' a f:=vL i k h
theorem DF{f fb:List (List Nat)}{m:Nat}{ns:List Int}{mx:Int}(hns:ns=(f++fb).map fun x=>((x.length:Nat):Int))(h:∀ x∈ns,x≤mx)(hm:mx≤(m:Nat)):(∀ x∈f,x.length≤m)∧∀ x∈fb,x.length≤m:=by
 have key:∀ x∈f++fb,x.length≤m:=fun x hx=>by
  have:=h ((x.length:Nat):Int) (by rw[hns];exact d5.mpr ⟨x,hx,rfl⟩)
  omega
 exact⟨fun x hx=>key x (q8 _ hx),fun x hx=>key x (j6 _ hx)⟩
theorem Eg{n:Nat}(h1:1≤n)(h4:n≤4){cs:List Nat}(ex:Exch n cs){d:Nat}(hd:d∈bP n):∃ j e,j<n∧cs[j]?=some e∧bX e∧(cs.map lo)[j]?=some d∧(∀ m,m<j→(cs.map lo)[m]?≠some d)∧(aY e=true→yM cs d=97+j)∧(aY e=false→yM cs d=65+j):=by
 have nd0:(bP n).Nodup:=by
  have:n=1∨n=2∨n=3∨n=4:=by omega
  rcases this with rfl | rfl | rfl | rfl <;> decide
 have nd:(cs.map lo).Nodup:=(ex.perm.nodup_iff).mpr nd0
 have hdL:=iV hd
 have hdl:=hX hd
 have un:∀ {j:Nat},(cs.map lo)[j]?=some d→∀ m,m<j→(cs.map lo)[m]?≠some d:=fun {j} hj m hm z=>by
  obtain⟨l1,e1⟩:=a9.mp z
  obtain⟨l2,e2⟩:=a9.mp hj
  have:=(aQo nd).mp (e1.trans e2.symm)
  omega
 have at':∀ {e:Nat},e∈cs→cs[cs.idxOf e]?=some e∧cs.idxOf e<n:=fun {e} he=>by
  have hj:cs.idxOf e<cs.length:=aQn he
  exact⟨by rw[b0 hj,aX9 hj],by rw[← ex.len];exact hj⟩
 by_cases hin:d∈cs
 ·obtain⟨a,b⟩:=at' hin
  have hl:(cs.map lo)[cs.idxOf d]?=some d:=by rw[c9,a,u5,zZ hdL hdl]
  exact⟨_,d,b,a,hdL,hl,un hl,fun _=>by unfold yM;rw[if_pos hin],fun z=>by rw[hdl] at z;cases z⟩
 ·have hin2:con d∈cs:=(ex.has h1 h4 hd).resolve_left hin
  obtain⟨a,b⟩:=at' hin2
  have hcl:aY (con d)=false∧lo (con d)=d:=by
   have hb:97≤d∧d≤100:=by
    have:n=1∨n=2∨n=3∨n=4:=by omega
    have key:∀ d∈bP n,97≤d∧d≤100:=by rcases this with rfl | rfl | rfl | rfl <;> decide
    exact key d hd
   have:d=97∨d=98∨d=99∨d=100:=by omega
   rcases this with rfl | rfl | rfl | rfl <;> decide
  have hl:(cs.map lo)[cs.idxOf (con d)]?=some d:=by rw[c9,a,u5,hcl.2]
  exact⟨_,con d,b,a,bQ hdL,hl,un hl,(fun z=>by rw[hcl.1] at z;cases z),fun _=>by unfold yM;rw[if_neg hin]⟩
inductive Rel(E:Nat→Nat→Nat→Prop):Nat→Nat→Prop where
 | refl (x:Nat):Rel E x x
 | symm {x y:Nat} (h:Rel E x y):Rel E y x
 | trans {x y z:Nat} (h:Rel E x y) (g:Rel E y z):Rel E x z
 | go {p p' c q q':Nat} (h:Rel E p p') (a:E p c q) (b:E p' c q'):Rel E q q'
theorem Rel.mono{E E':Nat→Nat→Nat→Prop}(hm:∀ p c q,E p c q→E' p c q){x y:Nat}(h:Rel E x y):Rel E' x y:=by
 induction h with
 | refl x=>exact .refl x
 | symm _ ih=>exact .symm ih
 | trans _ _ a b=>exact .trans a b
 | go _ a b ih=>exact .go ih (hm _ _ _ a) (hm _ _ _ b)
structure LI(E:Nat→Nat→Nat→Prop)(ρ:Nat→Nat)(Z:WvS):Prop where
 ro:∀ x,Rel E x (ρ x)
 al:∀ x t y,(x,t,y)∈Z.al→Rel E x y
section
variable {E:Nat→Nat→Nat→Prop}{ρ:Nat→Nat}{Z:WvS}
theorem LI.lnk(l:LI E ρ Z){x y:Nat}(h:Lnk ρ Z.al x y):Rel E x y:=by
 induction h with
 | refl x=>exact .refl x
 | symm _ ih=>exact .symm ih
 | trans _ _ a b=>exact .trans a b
 | root x=>exact l.ro x
 | pair h=>exact l.al _ _ _ h
theorem LI.move{Z':WvS}(l:LI E ρ Z)(ha:∀ e∈Z'.al,e∈Z.al):LI E ρ Z':=⟨l.ro,fun x t y h=>l.al x t y (ha _ h)⟩
theorem LI.mono{E':Nat→Nat→Nat→Prop}(l:LI E ρ Z)(hm:∀ p c q,E p c q→E' p c q):LI E' ρ Z:=⟨fun x=>(l.ro x).mono hm,fun x t y h=>(l.al x t y h).mono hm⟩
theorem LI.under{hd ab:Nat}(l:LI E ρ Z){a b:Nat}(hab:Rel E a b)(hra:ρ a=hd)(hrb:ρ b=ab)(t:List Nat):LI E (ρU ρ hd ab) (dR Z hd ab t):=by
 have h1:Rel E hd ab:=by
  have r1:=l.ro a
  have r2:=l.ro b
  rw[hra] at r1
  rw[hrb] at r2
  exact(r1.symm.trans hab).trans r2
 refine⟨fun x=>?_,l.al⟩
 unfold ρU
 split
 ·rename_i q
  have:=l.ro x
  rw[q] at this
  exact this.trans h1
 ·exact l.ro x
theorem LI.underW{hd ab:Nat}{t:List Nat}:∀ {es:List vJ} {T:WvS},LI E (ρU ρ hd ab) T→(∀ (i:Nat) (fs:List vJ),T.ws[i]?=some fs→∀ e∈fs,∃ p q,E p e.1 q∧Rel E p i∧Rel E q e.2.1)→(∀ e∈es,∃ p q,E p e.1 q∧Rel E p ab∧Rel E q e.2.1)→ab<T.ws.length→LI E (ρU ρ hd ab) (Lw.underW ab t T es)
 | [],T,l,_,_,_=>l
 | e::es,T,l,hof,hme,hl=>by
  obtain⟨ea,hea⟩:∃ ea,T.ws[ab]?=some ea:=⟨_,b0 hl⟩
  have hgd:T.ws.getD ab []=ea:=by rw[b8,hea];rfl
  have key:Lw.underW ab t T (e::es)=Lw.underW ab t (bD T ab e.1 e.2.1 (Ma.lay (back t++e.2.2)) ea) es:=by
   unfold Lw.underW
   rw[aXQ,hgd]
  rw[key]
  obtain⟨p,q,a1,a2,a3⟩:=hme e d4
  have lal:LI E (ρU ρ hd ab) (bD T ab e.1 e.2.1 (Ma.lay (back t++e.2.2)) ea):=by
   refine⟨l.ro,fun x u y hm=>?_⟩
   unfold bD at hm
   cases ew:dC ea e.1 with
   | none=>rw[ew] at hm;exact l.al x u y hm
   | some r =>
    obtain⟨g',t'⟩:=r
    rw[ew] at hm
    dsimp only at hm
    split at hm
    ·exact l.al x u y hm
    ·rcases k0.mp hm with z | z
     ·exact l.al x u y z
     ·obtain⟨rfl,rfl,rfl⟩:x=e.2.1∧u=Ma.lay (back (Ma.lay (back t++e.2.2))++t')∧y=g':=by simpa using z
      obtain⟨p',q',b1,b2,b3⟩:=hof ab ea hea (e.1,y,t') (dY ew)
      exact(a3.symm.trans (.go (a2.trans b2.symm) a1 b1)).trans b3
  refine LI.underW lal (fun i fs hi x hx=>?_) (fun x hx=>hme x (c8 _ hx)) ?_
  ·rcases nF hea hi hx with ⟨es0,u1,u2⟩ | ⟨rfl,rfl⟩
   ·exact hof i es0 u1 x u2
   ·exact⟨p,q,a1,a2,a3⟩
  ·unfold bD
   split
   ·show ab<(T.ws.set ab _).length;rw[m6];exact hl
   ·split <;> exact hl
theorem DB{h φ:Nat→List Nat}{rk:Nat→Nat}{L:Nat}(I:WI h φ ρ rk L Z)(X:EI E ρ Z)(l:LI E ρ Z)(h0:Z.al=[])(hid:∀ x,ρ (ρ x)=ρ x)(x y:Nat):ρ x=ρ y↔Rel E x y:=by
 constructor
 ·intro e
  have:=l.ro y
  rw[← e] at this
  exact(l.ro x).trans this.symm
 ·intro r
  induction r with
  | refl x=>rfl
  | symm _ ih=>exact ih.symm
  | trans _ _ a b=>exact a.trans b
  | go _ a b ih=>exact EI.det I X h0 hid _ _ _ _ _ a b ih
end
def bW(δ:Nat→Option Nat)(ls:List Nat)(ord:List Nat):List Nat:=ls.foldl (fun o c=>match δ c with | some g=>if g∈o then o else o++[g] | none=>o) ord
def cB(δ:Nat→Nat→Option Nat)(ls:List Nat):Nat→Nat→List Nat→List Nat
 | 0,_,ord=>ord
 | f+1,at',ord=>match ord[at']? with
  | some s=>cB δ ls f (at' + 1) (bW (δ s) ls ord)
  | none=>ord
def jU(δ:Nat→Nat→Option Nat)(ls:List Nat)(ord:List Nat)(s:Nat):List (Option Nat):=ls.map fun c=>(δ s c).map fun g=>ord.idxOf g
def dO(δ:Nat→Nat→Option Nat)(n s0 N:Nat):List (List (Option Nat)):=let ord:=cB δ (aI (n:Nat)) N 0 [s0];ord.map (jU δ (bP n) ord)
section
variable {δ δ':Nat→Nat→Option Nat}{f:Nat→Nat}{P:Nat→Prop}
theorem sX(hf:∀ x y,P x→P y→f x=f y→x=y){s:Nat}(hd:∀ c,δ' (f s) c=(δ s c).map f)(hp:∀ c g,δ s c=some g→P g):∀ (ls:List Nat) (ord:List Nat),(∀ x∈ord,P x)→bW (δ' (f s)) ls (ord.map f)=(bW (δ s) ls ord).map f∧∀ x∈bW (δ s) ls ord,P x
 | [],ord,ho=>⟨rfl,ho⟩
 | c::ls,ord,ho=>by
  have ih:=sX hf hd hp ls
  show bW (δ' (f s)) ls (match δ' (f s) c with | some g=>if g∈ord.map f then ord.map f else ord.map f++[g] | none=>ord.map f)=(bW (δ s) ls (match δ s c with | some g=>if g∈ord then ord else ord++[g] | none=>ord)).map f∧∀ x∈bW (δ s) ls (match δ s c with | some g=>if g∈ord then ord else ord++[g] | none=>ord),P x
  rw[hd c]
  cases e:δ s c with
  | none=>exact ih ord ho
  | some g =>
   have hg:=hp c g e
   show bW (δ' (f s)) ls (if f g∈ord.map f then ord.map f else ord.map f++[f g])=_∧_
   have hiff:f g∈ord.map f↔g∈ord:=by
    constructor
    ·intro h
     obtain⟨x,hx,e⟩:=d5.mp h
     rw[← hf x g (ho x hx) hg e]
     exact hx
    ·exact fun h=>d5.mpr ⟨g,h,rfl⟩
   by_cases q:g∈ord
   ·rw[if_pos (hiff.mpr q)]
    show _=(bW (δ s) ls (if g∈ord then ord else ord++[g])).map f∧∀ x∈bW (δ s) ls (if g∈ord then ord else ord++[g]),P x
    rw[if_pos q]
    exact ih ord ho
   ·rw[if_neg (fun z=>q (hiff.mp z))]
    show _=(bW (δ s) ls (if g∈ord then ord else ord++[g])).map f∧∀ x∈bW (δ s) ls (if g∈ord then ord else ord++[g]),P x
    rw[if_neg q]
    have:=ih (ord++[g]) (fun x hx=>(k0.mp hx).elim (ho x) fun z=>by rw[c6.mp z];exact hg)
    rw[g6] at this
    exact this
theorem nS(hf:∀ x y,P x→P y→f x=f y→x=y)(hd:∀ s,P s→∀ c,δ' (f s) c=(δ s c).map f)(hp:∀ s,P s→∀ c g,δ s c=some g→P g)(ls:List Nat):∀ (N at':Nat) (ord:List Nat),(∀ x∈ord,P x)→cB δ' ls N at' (ord.map f)=(cB δ ls N at' ord).map f∧∀ x∈cB δ ls N at' ord,P x
 | 0,at',ord,ho=>⟨rfl,ho⟩
 | N+1,at',ord,ho=>by
  unfold cB
  rw[c9]
  cases e:ord[at']? with
  | none=>exact⟨rfl,ho⟩
  | some s =>
   have hs:=ho s (b6 e)
   obtain⟨h1,h2⟩:=sX hf (hd s hs) (hp s hs) ls ord ho
   show cB δ' ls N (at' + 1) (bW (δ' (f s)) ls (ord.map f))=_∧_
   rw[h1]
   exact nS hf hd hp ls N (at' + 1) _ h2
theorem D4(hf:∀ x y,P x→P y→f x=f y→x=y)(hd:∀ s,P s→∀ c,δ' (f s) c=(δ s c).map f)(hp:∀ s,P s→∀ c g,δ s c=some g→P g){n s0 N:Nat}(h0:P s0):dO δ' n (f s0) N=dO δ n s0 N:=by
 obtain⟨h1,h2⟩:=nS hf hd hp (aI (n:Nat)) N 0 [s0] (fun x hx=>by rw[c6.mp hx];exact h0)
 unfold dO
 have h1':cB δ' (aI (n:Nat)) N 0 [f s0]=(cB δ (aI (n:Nat)) N 0 [s0]).map f:=h1
 dsimp only
 rw[h1',p7]
 refine p9 fun s hs=>?_
 show jU δ' (bP n) _ (f s)=jU δ (bP n) _ s
 unfold jU
 refine p9 fun c hc=>?_
 rw[hd s (h2 s hs) c]
 cases e:δ s c with
 | none=>rfl
 | some g =>
  show some _=some _
  congr 1
  dsimp only
  have hg:=hp s (h2 s hs) c g e
  generalize cB δ (aI (n:Nat)) N 0 [s0]=ord at h2 hs
  clear hs h1 h1'
  induction ord with
  | nil=>rfl
  | cons x ord ih =>
   rw[g9,aXT,aXT]
   have hx:=h2 x d4
   by_cases q:x=g
   ·subst q;simp
   ·have q2:¬ f x=f g:=fun z=>q (hf x g hx hg z)
    have i1:(f x == f g)=false:=by simpa using q2
    have i2:(x == g)=false:=by simpa using q
    rw[i1,i2]
    simp only [cond_false]
    rw[ih fun y hy=>h2 y (c8 _ hy)]
end
end Lw
namespace L2
open PySem PySem.Spec PyProof.Rows
def Ki(w1 w2:TI):TI:=fun σ H R=>w1 σ H R∨w2 σ H R
theorem Ij{X:Cx}{tg l:Expr}{w1 w2:TI}(h1:PI X tg l w1)(h2:PI X tg l w2):PI X tg l (Ki w1 w2):=fun pins s σ H R I h=>h.elim (h1 pins s σ H R I) (h2 pins s σ H R I)
def Kk(K:b5)(H:Hp)(a:Addr)(xs:List V):Prop:=SqT K H a xs∨SqL K H a xs
theorem Gs{K:b5}{a:Addr}{xs:List V}{j:Nat}{g:TG}{tb:TS}{D:Ends}{σ:St}{H H0:Hp}(Pv:Nat→St→Hp→Prop)(hv:∀ Q:VK,Q (.ref a) H→vT j σ H Q)(hq:Kk K H0 a xs)(h0:Pv 0 σ H)(hl:∀ i σ H',i≤xs.length→Pv i σ H'→Same H0 H')
  (hs:∀ i x σ H,xs[i]?=some x→Pv i σ H→g x σ H fun σ2 H2=>tb { D with nx:=Pv (i+1),ct:=Pv (i+1),bk:=D.nx } σ2 H2) (hd:∀ σ H,Pv xs.length σ H→D.nx σ H):IC (Ki (Dq K (vT j)) (Gc K (vT j))) g tb D σ H:=by
 have s0:=hl 0 σ H (l7 _) h0
 rcases hq with hq | hq
 ·exact .inr (hv _ ⟨a,rfl,⟨_,L2.SqT.same s0 hq⟩,At (K:=K) (a:=a) (xs:=xs) Pv h0 (fun i σ H' hi p=>L2.SqT.same (hl i σ H' hi p) hq) hs hd⟩)
 ·exact .inl (hv _ ⟨a,rfl,⟨_,L2.SqL_same s0 hq⟩,pQ (K:=K) (a:=a) (xs:=xs) Pv h0 (fun i σ H' hi p=>L2.SqL_same (hl i σ H' hi p) hq) hs hd⟩)
end L2
namespace Lw
open PySem PySem.Spec PyProof.Rows L2 Ma MaR
def OfE(E:Nat→Nat→Nat→Prop)(Z:WvS):Prop:=∀ (i:Nat) (fs:List vJ),Z.ws[i]?=some fs→∀ e∈fs,∃ p q,E p e.1 q∧Rel E p i∧Rel E q e.2.1
theorem EI.ofE{E:Nat→Nat→Nat→Prop}{ρ:Nat→Nat}{Z:WvS}(X:EI E ρ Z)(l:LI E ρ Z):OfE E Z:=fun i fs hi e he=>by
 obtain⟨p,q,a,b,c⟩:=X.of i fs hi e he
 exact⟨p,q,a,l.lnk b,l.lnk c⟩
theorem OfE.mono{E E':Nat→Nat→Nat→Prop}{Z:WvS}(h:OfE E Z)(hm:∀ p c q,E p c q→E' p c q):OfE E' Z:=fun i fs hi e he=>by
 obtain⟨p,q,a,b,c⟩:=h i fs hi e he
 exact⟨p,q,hm _ _ _ a,b.mono hm,c.mono hm⟩
theorem LI.lay'{E:Nat→Nat→Nat→Prop}{ρ:Nat→Nat}{Z:WvS}(l:LI E ρ Z)(hof:OfE E Z){i c g:Nat}{t:List Nat}{es:List vJ}(hi:Z.ws[i]?=some es)(hk:E i c g):LI E ρ (bD Z i c g t es):=by
 refine⟨l.ro,fun x u y hm=>?_⟩
 unfold bD at hm
 cases e:dC es c with
 | none=>rw[e] at hm;exact l.al x u y hm
 | some r =>
  obtain⟨g',t'⟩:=r
  rw[e] at hm
  dsimp only at hm
  split at hm
  ·exact l.al x u y hm
  ·rcases k0.mp hm with z | z
   ·exact l.al x u y z
   ·obtain⟨rfl,rfl,rfl⟩:x=g∧u=Ma.lay (back t++t')∧y=g':=by simpa using z
    obtain⟨p',q',b1,b2,b3⟩:=hof i es hi (c,y,t') (dY e)
    exact(Rel.go b2.symm hk b1).trans b3
def dU(N m j:Nat):Nat:=if j=0∨j=m then 0 else N+j - 1
def FlE(N:Nat)(w:List Nat)(i:Nat):Nat→Nat→Nat→Prop:=fun p c q=>∃ j,j<i∧∃ d,w[j]?=some d∧((c=d∧p=dU N w.length j∧q=dU N w.length (j+1))∨(c=con d∧p=dU N w.length (j+1)∧q=dU N w.length j))
theorem FlE.succ{N i:Nat}{w:List Nat}{d:Nat}(hd:w[i]?=some d){p c q:Nat}:FlE N w (i+1) p c q↔FlE N w i p c q∨(c=d∧p=dU N w.length i∧q=dU N w.length (i+1))∨(c=con d∧p=dU N w.length (i+1)∧q=dU N w.length i):=by
 constructor
 ·rintro⟨j,hj,e,he,h⟩
  by_cases q:j=i
  ·subst q
   rw[hd] at he
   cases he
   exact .inr h
  ·exact .inl ⟨j,by omega,e,he,h⟩
 ·rintro(⟨j,hj,h⟩ | h)
  ·exact⟨j,by omega,h⟩
  ·exact⟨i,by omega,d,hd,h⟩
inductive spWordB(C:Addr)(vs:List V)(H:Hp)(Q:VK)(E_:XK):Prop
 | mk (h φ:Nat→List Nat) (rk:Nat→Nat) (L:Nat) (p:Addr) (M:List Addr) (Z:WvS) (E:Nat→Nat→Nat→Prop) (w t:List Nat) (_:vs=[.ref p,.str (S w),.str (S t)]) (_:Wat C H p M Z) (_:WI h φ (fun x=>x) rk L Z) (_:EI E (fun x=>x) Z) (_:LI E (fun x=>x) Z) (_:Jb E) (_:L≤8000) (_:φ 0=[]) (_:0<Z.hs.length) (_:Z.hs.length+w.length≤900) (_:Z.al.length+2 * w.length≤9000) (_:AllL w) (_:(∀ c,bX c→h (con c)=back (h c))) (_:(w≠[]→t=lay (Hw h w))) (_:(∀ i,i≤w.length→(lay (back (Hw h (w.take i)))).length≤L)) (_:∀ (M':List Addr) (H':Hp) (Z':WvS) (φ':Nat→List Nat) (E':Nat→Nat→Nat→Prop),Wat C H' p M' Z'→MU H M M'→FrW M H H'→WI h φ' (fun x=>x) rk L Z'→EI E' (fun x=>x) Z'→LI E' (fun x=>x) Z'→Jb E'→(∀ p c q,E' p c q↔E p c q∨FlE Z.hs.length w w.length p c q)→φ' 0=[]→Fw E' (fun x=>x) 0 w 0→Z'.hs.length=Z.hs.length+(w.length - 1)→Z'.al.length≤Z.al.length+2 * w.length→Q .non H'):spWordB C vs H Q E_
inductive spFoldB(C:Addr)(vs:List V)(H:Hp)(Q:VK)(E_:XK):Prop
 | mk (h φ:Nat→List Nat) (rk:Nat→Nat) (L:Nat) (p:Addr) (M:List Addr) (Z:WvS) (E:Nat→Nat→Nat→Prop) (_:vs=[.ref p]) (_:Wat C H p M Z) (_:WI h φ (fun x=>x) rk L Z) (_:EI E (fun x=>x) Z) (_:LI E (fun x=>x) Z) (_:L≤8000) (_:Z.hs.length≤900) (_:Z.al.length≤10000) (_:∀ (ρ rk':Nat→Nat) (H':Hp) (Z':WvS),Wat C H' p M Z'→WI h φ ρ rk' L Z'→EI E ρ Z'→LI E ρ Z'→Z'.al=[]→(∀ x,ρ (ρ x)=ρ x)→Z'.hs.length=Z.hs.length→FrW M H H'→Q .non H'):spFoldB C vs H Q E_
def fZ(ρ:Nat→Nat)(Z:WvS)(s c:Nat):Option Nat:=(dC (Z.ws.getD s []) c).map fun r=>ρ r.1
def eV(ord:List Nat):List (cN×V):=ord.zipIdx.map fun gk=>(.inl (gk.1:Nat),.int (gk.2:Nat))
theorem Bj(ord:List Nat)(g:Nat):eV (ord++[g])=eV ord++[(.inl (g:Nat),.int (ord.length:Nat))]:=by
 unfold eV
 rw[List.zipIdx_append,g6]
 simp
theorem wQ(g:Nat):∀ (ord:List Nat) (k:Nat),dB ((ord.zipIdx k).map fun gk=>((.inl (gk.1:Nat):cN),V.int (gk.2:Nat))) (.inl (g:Nat))=if g∈ord then some (.int ((k+ord.idxOf g:Nat))) else none
 | [],k=>by rw[if_neg (by simp)];rfl
 | x::ord,k=>by
  rw[aXs,g9]
  by_cases q:x=g
  ·subst q
   rw[dN rfl,if_pos d4,List.idxOf_cons_self]
   rfl
  ·rw[dM (show ¬ (Sum.inl ((x:Nat):Int):cN)=Sum.inl ((g:Nat):Int) from fun z=>q (by have:=aZn z;omega)),wQ g ord (k+1)]
   by_cases q2:g∈ord
   ·have e0:(x == g)=false:=by simpa using q
    have e:(x::ord).idxOf g=ord.idxOf g+1:=by rw[aXT,e0];rfl
    rw[if_pos q2,if_pos (c8 _ q2),e]
    congr 2
    omega
   ·rw[if_neg q2,if_neg (by simp[q2];exact fun z=>q z.symm)]
theorem uQ(g:Nat)(ord:List Nat):dB (eV ord) (.inl (g:Nat))=if g∈ord then some (.int (ord.idxOf g:Nat)) else none:=by
 have:=wQ g ord 0
 rw[Nat.zero_add] at this
 exact this
theorem wV(ord:List Nat):(eV ord).length=ord.length:=by unfold eV;rw[b7,List.length_zipIdx]
inductive spNumsB(C:Addr)(vs:List V)(H:Hp)(Q:VK)(E:XK):Prop
 | mk (h φ:Nat→List Nat) (ρ rk:Nat→Nat) (L:Nat) (n:Nat) (p:Addr) (M:List Addr) (Z:WvS) (_:vs=[.int (n:Nat),.ref p]) (_:1≤n) (_:n≤4) (_:Wat C H p M Z) (_:WI h φ ρ rk L Z) (_:L≤8000) (_:0<Z.hs.length) (_:Z.hs.length≤900) (_:∀ (t:Addr) (H':Hp) (Z':WvS),Kept C h φ ρ rk L p M H H' Z Z'→H t=none→H' t=some (.dK (eV (cB (fZ ρ Z) (aI (n:Nat)) 1000 0 [ρ 0])))→(cB (fZ ρ Z) (aI (n:Nat)) 1000 0 [ρ 0]).length≤900→(∀ x∈cB (fZ ρ Z) (aI (n:Nat)) 1000 0 [ρ 0],x<Z.hs.length)→Q (.ref t) H'):spNumsB C vs H Q E
def Kw(H:Hp)(t:Addr)(ord:List Nat):Prop:=∃ o,H t=some (.frz o (.dK (eV ord)))
def lQ:Option Nat→V
 | none=>.non
 | some k=>.int (k:Nat)
inductive spPlaceB(C:Addr)(vs:List V)(H:Hp)(Q:VK)(E:XK):Prop
 | mk (h φ:Nat→List Nat) (ρ rk:Nat→Nat) (L:Nat) (n:Nat) (p:Addr) (M:List Addr) (Z:WvS) (t:Addr) (s:Nat) (ord:List Nat) (_:vs=[.int (n:Nat),.ref p,.ref t,.int (s:Nat)]) (_:1≤n) (_:n≤4) (_:Wat C H p M Z) (_:WI h φ ρ rk L Z) (_:L≤8000) (_:s<Z.hs.length) (_:Kw H t ord) (_:(∀ c∈aI (n:Nat),∀ g,fZ ρ Z s c=some g→g∈ord)) (_:∀ (q:Addr) (H':Hp) (Z':WvS),Kept C h φ ρ rk L p M H H' Z Z'→H q=none→H' q=some (.tup ((jU (fZ ρ Z) (bP n) ord s).map lQ))→Q (.ref q) H'):spPlaceB C vs H Q E
theorem zY(δ:Nat→Option Nat)(ls:List Nat)(c:Nat)(ord:List Nat):bW δ (ls++[c]) ord=match δ c with | some g=>if g∈bW δ ls ord then bW δ ls ord else bW δ ls ord++[g] | none=>bW δ ls ord:=by
 unfold bW
 rw[aXf]
 rfl
theorem fJ(δ:Nat→Option Nat):∀ (ls:List Nat) (ord:List Nat),∃ r,bW δ ls ord=ord++r
 | [],ord=>⟨[],(l4 _).symm⟩
 | c::ls,ord=>by
  show ∃ r,bW δ ls (match δ c with | some g=>if g∈ord then ord else ord++[g] | none=>ord)=ord++r
  cases δ c with
  | none=>exact fJ δ ls ord
  | some g =>
   dsimp only
   split
   ·exact fJ δ ls ord
   ·obtain⟨r,e⟩:=fJ δ ls (ord++[g])
    exact⟨[g]++r,by rw[e,i6]⟩
def OrdOk(N:Nat)(ord:List Nat):Prop:=ord.Nodup∧∀ x∈ord,x<N
theorem OrdOk.len{N:Nat}{ord:List Nat}(h:OrdOk N ord):ord.length≤N:=by
 have:=mH (m:=List.range N) h.1 fun x hx=>aQ4.mpr (h.2 x hx)
 rwa [aQ0] at this
theorem OrdOk.snoc{N g:Nat}{ord:List Nat}(h:OrdOk N ord)(hg:g<N)(hn:g ∉ ord):OrdOk N (ord++[g]):=by
 refine⟨?_,fun x hx=>(k0.mp hx).elim (h.2 x) fun z=>by rw[c6.mp z];exact hg⟩
 rw[aQ1]
 exact⟨h.1,by simp,fun a ha b hb z=>hn (by rw[← c6.mp hb,← z];exact ha)⟩
theorem tS(δ:Nat→Nat→Option Nat)(ls:List Nat)(f at':Nat)(ord:List Nat)(h:ord.length≤at'):cB δ ls f at' ord=ord:=by
 cases f with
 | zero=>rfl
 | succ f =>
  unfold cB
  rw[aQP h]
theorem rB(δ:Nat→Nat→Option Nat)(ls:List Nat)(f at':Nat)(ord:List Nat){s:Nat}(h:ord[at']?=some s):cB δ ls (f+1) at' ord=cB δ ls f (at' + 1) (bW (δ s) ls ord):=by
 show (match ord[at']? with | some s=>cB δ ls f (at' + 1) (bW (δ s) ls ord) | none=>ord)=_
 rw[h]
theorem Di{ord:List Nat}{g:Nat}(h:g ∉ ord):dF (eV ord) (.inl (g:Nat)) (.int (ord.length:Nat))=eV (ord++[g]):=by
 rw[wF _ (by rw[uQ,if_neg h]),Bj]
theorem yI{C:Addr}{h φ:Nat→List Nat}{ρ rk:Nat→Nat}{L:Nat}{p:Addr}{M:List Addr}{H H1:Hp}{Z Z1:WvS}(a:Kept C h φ ρ rk L p M H H1 Z Z1):fZ ρ Z1=fZ ρ Z:=by
 funext s c
 unfold fZ
 rw[a.ws]
def HC:Nat→List (List Nat)→Nat
 | N,[]=>N
 | N,w::r=>HC (N+(w.length - 1)) r
def cT:Nat→List (List Nat)→Nat→Nat→Nat→Prop
 | _,[],_,_,_=>False
 | N,w::r,p,c,q=>FlE N w w.length p c q∨cT (N+(w.length - 1)) r p c q
theorem qB(w:List Nat){p c q:Nat}:∀ (N:Nat) (rs:List (List Nat)),cT N (rs++[w]) p c q↔cT N rs p c q∨FlE (HC N rs) w w.length p c q
 | N,[]=>by
  show (FlE N w w.length p c q∨False)↔(False∨FlE N w w.length p c q)
  rw[or_false,false_or]
 | N,x::rs=>by
  show (FlE N x x.length p c q∨cT (N+(x.length - 1)) (rs++[w]) p c q)↔_
  rw[qB w (N+(x.length - 1)) rs,← or_assoc]
  rfl
theorem xN(w:List Nat):∀ (N:Nat) (rs:List (List Nat)),HC N (rs++[w])=HC N rs+(w.length - 1)
 | N,[]=>rfl
 | N,x::rs=>xN w (N+(x.length - 1)) rs
structure Aut(rs:List (List Nat))(ρ:Nat→Nat)(δ:Nat→Nat→Option Nat)(N:Nat):Prop where
 rel:∀ x y,ρ x=ρ y↔Rel (cT 1 rs) x y
 to:∀ p c q,cT 1 rs p c q→δ (ρ p) c=some (ρ q)
 of:∀ s c g,δ s c=some g→∃ p q,cT 1 rs p c q∧ρ p=s∧ρ q=g
theorem G0{h φ:Nat→List Nat}{ρ rk:Nat→Nat}{L:Nat}{Z:WvS}{E:Nat→Nat→Nat→Prop}{rs:List (List Nat)}(I:WI h φ ρ rk L Z)(X:EI E ρ Z)(l:LI E ρ Z)(h0:Z.al=[])(hid:∀ x,ρ (ρ x)=ρ x)(hE:∀ p c q,E p c q↔cT 1 rs p c q)(N:Nat):Aut rs ρ (fun s c=>if ρ s=s then fZ ρ Z s c else none) N:=by
 have m1:∀ p c q,E p c q→cT 1 rs p c q:=fun p c q=>(hE p c q).mp
 have m2:∀ p c q,cT 1 rs p c q→E p c q:=fun p c q=>(hE p c q).mpr
 refine⟨fun x y=>(DB I X l h0 hid x y).trans ⟨fun r=>r.mono m1,fun r=>r.mono m2⟩,fun p c q hf=>?_,fun s c g hs=>?_⟩
 ·obtain⟨es,g,t,b1,b2,b3⟩:=X.on p c q (m2 p c q hf)
  rw[h0] at b3
  rw[if_pos (hid p)]
  unfold fZ
  rw[b8,b1]
  show (dC es c).map _=_
  rw[nJ (I.wy _ es b1).1 b2,u5,Lnk.nil hid b3]
 ·split at hs
  ·rename_i hss
   unfold fZ at hs
   obtain⟨r,hr,rfl⟩:=i9.mp hs
   rw[b8] at hr
   cases e:Z.ws[s]? with
   | none=>rw[e] at hr;cases hr
   | some es =>
    rw[e] at hr
    obtain⟨p,q,a1,a2,a3⟩:=X.of s es e _ (dY hr)
    rw[h0] at a2 a3
    exact⟨p,q,m1 _ _ _ a1,(Lnk.nil hid a2).trans hss,Lnk.nil hid a3⟩
  ·cases hs
theorem rZ{δ:Nat→Option Nat}:∀ {ls:List Nat} {ord:List Nat} {c g:Nat},c∈ls→δ c=some g→g∈bW δ ls ord
 | d::ls,ord,c,g,hc,hg=>by
  show g∈bW δ ls (match δ d with | some g=>if g∈ord then ord else ord++[g] | none=>ord)
  rcases c7.mp hc with rfl | hc
  ·rw[hg]
   dsimp only
   have:g∈(if g∈ord then ord else ord++[g]):=by
    split
    ·assumption
    ·simp
   obtain⟨r,e⟩:=fJ δ ls (if g∈ord then ord else ord++[g])
   rw[e]
   exact q8 _ this
  ·exact rZ hc hg
theorem jG{δ:Nat→Nat→Option Nat}{ls:List Nat}:∀ (f at':Nat) (ord:List Nat),(∀ (i s:Nat),i<at'→ord[i]?=some s→∀ c∈ls,∀ g,δ s c=some g→g∈ord)→(cB δ ls f at' ord).length≤at' + f→∀ s∈cB δ ls f at' ord,∀ c∈ls,∀ g,δ s c=some g→g∈cB δ ls f at' ord
 | 0,at',ord,h,hl,s,hs,c,hc,g,hg=>by
  obtain⟨i,hi⟩:=o9 (show s∈ord from hs)
  have hl':ord.length≤at':=hl
  exact h i s (by have:=(a9.mp hi).1;omega) hi c hc g hg
 | f+1,at',ord,h,hl,s,hs,c,hc,g,hg=>by
  cases e:ord[at']? with
  | none =>
   have hge:ord.length≤at':=aXj.mp e
   rw[tS _ _ _ _ _ hge] at hs ⊢
   obtain⟨i,hi⟩:=o9 hs
   exact h i s (by have:=(a9.mp hi).1;omega) hi c hc g hg
  | some s0 =>
   rw[rB _ _ _ _ _ e] at hs hl ⊢
   obtain⟨r,er⟩:=fJ (δ s0) ls ord
   refine jG f (at' + 1) _ (fun i x hi hx c' hc' g' hg'=>?_) (by omega) s hs c hc g hg
   have hil:i<ord.length:=by
    have:=(a9.mp e).1
    omega
   rw[er,l5 hil] at hx
   by_cases q:i=at'
   ·subst q
    rw[e] at hx
    cases hx
    exact rZ hc' hg'
   ·rw[er]
    exact q8 _ (h i x (by omega) hx c' hc' g' hg')
def IsWebV(H:Hp)(r:Addr)(W:List (List (Option Nat))):Prop:=∃ qs:List Addr,H r=some (.tup (qs.map V.ref))∧qs.length=W.length∧∀ (i:Nat) (q:Addr) (row:List (Option Nat)),qs[i]?=some q→W[i]?=some row→H q=some (.tup (row.map lQ))
inductive spWebB(K:b5)(vs:List V)(H:Hp)(Q:VK)(E:XK):Prop
 | mk (n:Nat) (a:Addr) (rs:List (List Nat)) (_:vs=[.int (n:Nat),.ref a]) (_:1≤n) (_:n≤4) (_:Kk K H a (bS rs)) (_:rs.length≤10) (_:(∀ x∈rs,AllL x∧x.length≤80)) (_:∀ (r:Addr) (H':Hp) (ρ:Nat→Nat) (δ:Nat→Nat→Option Nat),Same H H'→Aut rs ρ δ 0→(∀ x,ρ (ρ x)=ρ x)→IsWebV H' r (dO δ n (ρ 0) 1000)→(dO δ n (ρ 0) 1000).length≤900→Q (.ref r) H'):spWebB K vs H Q E
theorem B9{ρ:Nat→Nat}{Z:WvS}(hid:∀ x,ρ (ρ x)=ρ x){n:Nat}:dO (fZ ρ Z) n (ρ 0) 1000=dO (fun s c=>if ρ s=s then fZ ρ Z s c else none) n (ρ 0) 1000:=by
 refine D4 (δ:=fun s c=>if ρ s=s then fZ ρ Z s c else none) (δ':=fZ ρ Z) (f:=id) (P:=fun x=>ρ x=x) (fun x y _ _ e=>e) (fun s hs c=>?_) (fun s hs c g e=>?_) (hid 0)
 ·show fZ ρ Z s c=Option.map id (if ρ s=s then fZ ρ Z s c else none)
  rw[if_pos hs,Option.map_id]
  rfl
 ·rw[if_pos hs] at e
  unfold fZ at e
  obtain⟨r,_,rfl⟩:=i9.mp e
  exact hid _
end Lw
namespace PySem
end PySem
namespace L2
open PySem PySem.Spec PyProof.Rows
end L2
namespace PySem
end PySem
namespace L2
open PySem PySem.Spec PyProof.Rows
end L2
namespace Lw
open PySem PySem.Spec PyProof.Rows L2 Ma MaR
def kA(p c:Nat):List cN:=[.inl (p:Nat),.inr (S [c])]
theorem Dx{p c p' c':Nat}(h:kA p c=kA p' c'):p=p'∧c=c':=by
 unfold kA at h
 injection h with h1 h2
 injection h2 with h2 _
 exact⟨by have:=aZn h1;omega,AE h2⟩
def TabW(kvs:List (List cN×V))(g:Nat→Nat→Option Nat):Prop:=∀ p c,dB kvs (kA p c)=(g p c).map fun (q:Nat)=>V.int q
theorem TabW.nil:TabW [] fun _ _=>none:=fun _ _=>rfl
theorem TabW.put{kvs:List (List cN×V)}{g:Nat→Nat→Option Nat}(h:TabW kvs g)(p c q:Nat):TabW (dF kvs (kA p c) (.int (q:Nat))) fun p' c'=>if p'=p∧c'=c then some q else g p' c':=fun p' c'=>by
 show _=((if p'=p∧c'=c then some q else g p' c').map fun (q:Nat)=>V.int q)
 rw[kE]
 by_cases z:p'=p∧c'=c
 ·obtain⟨rfl,rfl⟩:=z
  rw[if_pos rfl,if_pos ⟨rfl,rfl⟩]
  rfl
 ·rw[if_neg (fun e=>z (Dx e)),if_neg z]
  exact h p' c'
end Lw
namespace L2
open PySem PySem.Spec PyProof.Rows
end L2
namespace Lw
open PySem PySem.Spec PyProof.Rows L2 Ma MaR
theorem nR{g:Nat}:∀ {l:List Nat},g∈l→l[l.idxOf g]?=some g∧∀ m,m<l.idxOf g→l[m]?≠some g
 | x::l,h=>by
  rw[aXT]
  by_cases z:x=g
  ·have:(x == g)=true:=by simpa using z
   rw[this]
   simp[z]
  ·have e:(x == g)=false:=by simpa using z
   rw[e]
   simp only [cond_false]
   have hg:g∈l:=(c7.mp h).elim (fun e=>absurd e.symm z) id
   obtain⟨a,b⟩:=nR hg
   refine⟨by rw[aQK];exact a,fun m hm=>?_⟩
   cases m with
   | zero=>rw[aZB];exact fun e=>z (d9 e)
   | succ m=>rw[aQK];exact b m (by omega)
theorem wH:∀ {rs:List (List Nat)} {N:Nat},1≤N→∀ {p c q:Nat},cT N rs p c q→(p=0∨N≤p)∧(q=0∨N≤q)
 | [],N,hN,p,c,q,h=>h.elim
 | w::r,N,hN,p,c,q,h=>by
  rcases h with h | h
  ·obtain⟨j,hj,d,hd,⟨rfl,rfl,rfl⟩ | ⟨rfl,rfl,rfl⟩⟩:=h
   ·unfold dU;constructor <;> split <;> omega
   ·unfold dU;constructor <;> split <;> omega
  ·have:=wH (rs:=r) (by omega) h
   omega
theorem pS{b:Bool}{A B:Prop}(e:b=false)(h:B):if b=true then A else B:=by rw[e];exact jO h
theorem Ht{b:Bool}{A B:Prop}(e:b=true)(h:A):if b=true then A else B:=by rw[e];exact lW h
def Ej(rs:List (List Nat))(w:List Nat):Prop:=∃ us:List (List Nat),(∀ u∈us,∃ v∈rs,u=v∨u=back v)∧w=lay us.flatten
inductive spJoi(vs:List V)(H:Hp)(Q:VK)(E:XK):Prop
 | mk (fl sc a:Addr) (rs:List (List Nat)) (n m M:Nat) (_:vs=[.ref fl,.ref a,.int (m:Nat)]) (_:IsFl H fl sc) (_:H a=some (.lst (bS rs))) (_:a≠fl) (_:1≤n) (_:n≤4) (_:rs.length≤100) (_:(∀ x∈rs,OfN n x∧x.length≤M)) (_:m≤5) (_:M≤100) (_:∀ (w:List Nat) (H':Hp),OfN n w→aW w→w.length≤m * M→Ej rs w→IsFl H' fl sc→Kp fl H H'→Q (.str (S w)) H'):spJoi vs H Q E
structure SmW(n most lt:Nat)(rs:List (List Nat)):Prop where
 len:rs.length≤most
 sum:(rs.map List.length).sum≤lt
 ofn:∀ x∈rs,OfN n x∧aW x
inductive spSomeW(vs:List V)(H:Hp)(Q:VK)(E:XK):Prop
 | mk (fl sc:Addr) (n most lt:Nat) (_:vs=[.ref fl,.int (n:Nat),.int (most:Nat),.int (lt:Nat)]) (_:IsFl H fl sc) (_:1≤n) (_:n≤4) (_:∀ (l:Addr) (rs:List (List Nat)) (H':Hp),H l=none→H' l=some (.lst (bS rs))→SmW n most lt rs→IsFl H' fl sc→Kp fl H H'→Q (.ref l) H'):spSomeW vs H Q E
theorem SmW.one{n most lt:Nat}{rs:List (List Nat)}(h:SmW n most lt rs){x:List Nat}(hx:x∈rs):x.length≤lt:=by
 have key:∀ {zs:List (List Nat)} {z:List Nat},z∈zs→z.length≤(zs.map List.length).sum:=fun {zs z} hz=>by
  induction zs with
  | nil=>cases hz
  | cons y zs ih =>
   rw[g9,u8]
   rcases c7.mp hz with rfl | hz
   ·omega
   ·have:=ih hz;omega
 have:=key hx
 have:=h.sum
 omega
theorem sZ:∀ (rs:List (List Nat)) (i:Nat),(bS rs).eraseIdx i=bS (rs.eraseIdx i)
 | [],_=>rfl
 | _::_,0=>rfl
 | c::w,i+1=>by
  show V.str (S c)::(bS w).eraseIdx i=V.str (S c)::bS (w.eraseIdx i)
  rw[sZ w i]
theorem uP{rs:List (List Nat)}{M:Nat}(h:∀ x∈rs,x.length≤M):∀ {us:List (List Nat)},(∀ u∈us,∃ v∈rs,u=v∨u=back v)→us.flatten.length≤us.length * M
 | [],_=>l7 _
 | u::us,hu=>by
  have h1:=uP h (us:=us) fun x hx=>hu x (c8 _ hx)
  obtain⟨v,hv,e⟩:=hu u d4
  have h2:u.length≤M:=by
   have:=h v hv
   rcases e with rfl | rfl
   ·exact this
   ·rw[bY];exact this
  rw[x8,c5,j0,aJm]
  omega
theorem EE{n:Int}{rs:List (List Nat)}(h1:1≤n)(h4:n≤4)(h:∀ x∈rs,OfN n x){us:List (List Nat)}(hu:∀ u∈us,∃ v∈rs,u=v∨u=back v):OfN n us.flatten:=fun c hc=>by
 obtain⟨u,hm,hc⟩:=aZz.mp hc
 obtain⟨v,hv,e⟩:=hu u hm
 rcases e with rfl | rfl
 ·exact h _ hv c hc
 ·exact(h v hv).back h1 h4 c hc
theorem uN(rs:List (List Nat))(x:List Nat):bS rs++[.str (S x)]=bS (rs++[x]):=by unfold bS;rw[g6];rfl
theorem yE:∀ fs:List (List Nat),(fs.map fun x=>((x.length:Nat):Int)).sum=(((fs.map List.length).sum:Nat):Int)
 | []=>rfl
 | x::fs=>by
  rw[g9,u8,yE fs,g9,u8]
  omega
theorem IsWebV.same{H H':Hp}{r:Addr}{W:List (List (Option Nat))}(h:IsWebV H r W)(s:Same H H'):IsWebV H' r W:=by
 obtain⟨qs,a,b,c⟩:=h
 exact⟨qs,s _ _ a,b,fun i q row h1 h2=>s _ _ (c i q row h1 h2)⟩
theorem IsWebV.kp{H H':Hp}{fl sc r:Addr}{W:List (List (Option Nat))}(h:IsWebV H r W)(f:IsFl H fl sc)(k:Kp fl H H'):IsWebV H' r W:=by
 obtain⟨qs,a,b,c⟩:=h
 exact⟨qs,vL f k a,b,fun i q row h1 h2=>vL f k (c i q row h1 h2)⟩
def dP(g:Nat→Nat→Option Nat):Nat→List Nat→Option Nat
 | p,[]=>some p
 | p,c::w=>(g p c).bind fun q=>dP g q w
theorem eQ(g:Nat→Nat→Option Nat):∀ (u v:List Nat) (p:Nat),dP g p (u++v)=(dP g p u).bind fun q=>dP g q v
 | [],v,p=>rfl
 | c::u,v,p=>by
  show (g p c).bind (fun q=>dP g q (u++v))=((g p c).bind fun q=>dP g q u).bind _
  cases e:g p c with
  | none=>rfl
  | some q=>exact eQ g u v q
theorem iQ(g:Nat→Nat→Option Nat)(p c:Nat):dP g p [c]=g p c:=by
 show (g p c).bind (fun q=>some q)=_
 cases g p c <;> rfl
theorem fR(g:Nat→Nat→Option Nat)(u:List Nat)(c p:Nat):dP g p (u++[c])=(dP g p u).bind fun q=>g q c:=by
 rw[eQ]
 congr 1
 funext q
 exact iQ g q c
def SymG(g:Nat→Nat→Option Nat):Prop:=∀ p c q,bX c→g p c=some q→g q (con c)=some p
theorem SymG.back{g:Nat→Nat→Option Nat}(h:SymG g):∀ {w:List Nat} {p q:Nat},AllL w→dP g p w=some q→dP g q (Ma.back w)=some p
 | [],p,q,_,e=>by
  have:p=q:=d9 e
  rw[this];rfl
 | c::w,p,q,hw,e=>by
  have e':(g p c).bind (fun q=>dP g q w)=some q:=e
  obtain⟨m,h1,h2⟩:=p5.mp e'
  obtain⟨hc,hw'⟩:=AllL.cons.mp hw
  have e1:Ma.back (c::w)=Ma.back w++[con c]:=by unfold Ma.back;simp
  rw[e1,fR,h.back hw' h2]
  exact h p c m hc h1
theorem SymG.act{g:Nat→Nat→Option Nat}(h:SymG g):∀ {w k:List Nat} {p m q:Nat},AllL w→AllL k→dP g p k.reverse=some m→dP g m w=some q→dP g p (Ma.act k w).reverse=some q
 | [],k,p,m,q,_,_,e1,e2=>by
  have:m=q:=d9 e2
  rw[← this];exact e1
 | c::w,k,p,m,q,hw,hk,e1,e2=>by
  have e':(g m c).bind (fun q=>dP g q w)=some q:=e2
  obtain⟨m',h1,h2⟩:=p5.mp e'
  obtain⟨hc,hw'⟩:=AllL.cons.mp hw
  rw[jS]
  refine h.act hw' (xK hk hc) ?_ h2
  have fresh:dP g p (c::k).reverse=some m':=by
   rw[p0,fR,e1]
   exact h1
  cases k with
  | nil=>exact fresh
  | cons x r =>
   unfold push
   dsimp only
   split
   ·rename_i hx
    rw[p0,fR] at e1
    obtain⟨m0,a1,a2⟩:=p5.mp e1
    have a2':g m0 x=some m:=a2
    have:=h m0 x m (AllL.cons.mp hk).1 a2'
    rw[hx,aP hc,h1] at this
    rw[a1,← d9 this]
   ·exact fresh
theorem SymG.lay{g:Nat→Nat→Option Nat}(h:SymG g){w:List Nat}{p q:Nat}(hw:AllL w)(e:dP g p w=some q):dP g p (Ma.lay w)=some q:=h.act hw AllL.nil rfl e
theorem SymG.joi{g:Nat→Nat→Option Nat}(h:SymG g){rs:List (List Nat)}(ha:∀ x∈rs,AllL x)(hr:∀ x∈rs,dP g 0 x=some 0){w:List Nat}(hw:Ej rs w):dP g 0 w=some 0:=by
 obtain⟨us,hu,rfl⟩:=hw
 have key:∀ us:List (List Nat),(∀ u∈us,∃ v∈rs,u=v∨u=Ma.back v)→dP g 0 us.flatten=some 0∧AllL us.flatten:=fun us=>by
  induction us with
  | nil=>exact fun _=>⟨rfl,AllL.nil⟩
  | cons u us ih =>
   intro hu
   obtain⟨i1,i2⟩:=ih fun x hx=>hu x (c8 _ hx)
   obtain⟨v,hv,e⟩:=hu u d4
   rw[x8,eQ]
   rcases e with rfl | rfl
   ·rw[hr _ hv]
    exact⟨i1,AllL.app.mpr ⟨ha _ hv,i2⟩⟩
   ·rw[h.back (ha v hv) (hr v hv)]
    exact⟨i1,AllL.app.mpr ⟨aL (ha v hv),i2⟩⟩
 obtain⟨k1,k2⟩:=key us hu
 exact h.lay k2 k1
structure WebOk(n:Nat)(W:List (List (Option Nat)))(g:Nat→Nat→Option Nat):Prop where
 len:∀ row∈W,row.length=n
 few:W.length≤900
 pos:0<W.length
 lo:∀ (p i:Nat) (row:List (Option Nat)) (o:Option Nat),W[p]?=some row→row[i]?=some o→g p (97+i)=o
 sy:SymG g
 bd:∀ p c q,g p c=some q→p<W.length∧q<W.length∧c∈aI (n:Nat)
theorem Ea{N:Nat}{w:List Nat}(hw:AllL w){p c q:Nat}(h:FlE N w w.length p c q):FlE N w w.length q (con c) p:=by
 obtain⟨j,hj,d,hd,⟨rfl,h1,h2⟩ | ⟨rfl,h1,h2⟩⟩:=h
 ·exact⟨j,hj,c,hd,.inr ⟨rfl,h2,h1⟩⟩
 ·exact⟨j,hj,d,hd,.inl ⟨aP (hw _ (b6 hd)),h2,h1⟩⟩
theorem nC:∀ {rs:List (List Nat)} {N:Nat},(∀ x∈rs,AllL x)→∀ {p c q:Nat},cT N rs p c q→cT N rs q (con c) p
 | [],N,_,p,c,q,h=>h.elim
 | w::r,N,ha,p,c,q,h=>by
  rcases h with h | h
  ·exact .inl (Ea (ha w d4) h)
  ·exact .inr (nC (fun x hx=>ha x (c8 _ hx)) h)
theorem qK:∀ {rs:List (List Nat)} {N:Nat} {x:List Nat},x∈rs→∃ M,∀ {p c q:Nat},FlE M x x.length p c q→cT N rs p c q
 | w::r,N,x,h=>by
  rcases c7.mp h with rfl | h
  ·exact⟨N,fun h=>.inl h⟩
  ·obtain⟨M,hM⟩:=qK (N:=N+(w.length - 1)) h
   exact⟨M,fun h=>.inr (hM h)⟩
theorem tO{n:Int}(h1:1≤n)(h4:n≤4):∀ {rs:List (List Nat)} {N:Nat},(∀ x∈rs,OfN n x)→∀ {p c q:Nat},cT N rs p c q→c∈aI n
 | [],N,_,p,c,q,h=>h.elim
 | w::r,N,ha,p,c,q,h=>by
  rcases h with ⟨j,hj,d,hd,⟨rfl,_⟩ | ⟨rfl,_⟩⟩ | h
  ·exact ha w d4 _ (b6 hd)
  ·exact cE h1 h4 (ha w d4 _ (b6 hd))
  ·exact tO h1 h4 (fun x hx=>ha x (c8 _ hx)) h
theorem mE(δ:Nat→Option Nat):∀ (ls ord:List Nat),ord.Nodup→(bW δ ls ord).Nodup
 | [],ord,h=>h
 | c::ls,ord,h=>by
  show (bW δ ls (match δ c with | some g=>if g∈ord then ord else ord++[g] | none=>ord)).Nodup
  cases δ c with
  | none=>exact mE δ ls ord h
  | some g =>
   dsimp only
   split
   ·exact mE δ ls ord h
   ·rename_i hg
    refine mE δ ls _ ?_
    rw[aQ1]
    exact⟨h,by simp,fun a ha b hb z=>hg (by rw[← c6.mp hb,← z];exact ha)⟩
theorem qH(δ:Nat→Nat→Option Nat)(ls:List Nat):∀ (f a:Nat) (ord:List Nat),ord.Nodup→(cB δ ls f a ord).Nodup
 | 0,_,ord,h=>h
 | f+1,a,ord,h=>by
  unfold cB
  cases ord[a]? with
  | none=>exact h
  | some s=>exact qH δ ls f (a+1) _ (mE _ ls ord h)
theorem tW(δ:Nat→Nat→Option Nat)(ls:List Nat):∀ (f a:Nat) (ord:List Nat),∃ r,cB δ ls f a ord=ord++r
 | 0,_,ord=>⟨[],(l4 _).symm⟩
 | f+1,a,ord=>by
  unfold cB
  cases ord[a]? with
  | none=>exact⟨[],(l4 _).symm⟩
  | some s =>
   obtain⟨r,e⟩:=fJ (δ s) ls ord
   obtain⟨r',e'⟩:=tW δ ls f (a+1) (bW (δ s) ls ord)
   exact⟨r++r',by show cB δ ls f (a+1) (bW (δ s) ls ord)=_;rw[e',e,i6]⟩
theorem vR{l:List Nat}(h:l.Nodup){i s:Nat}(e:l[i]?=some s):l.idxOf s=i:=by
 have hm:=b6 e
 obtain⟨a,b⟩:=nR hm
 by_cases q:i<l.idxOf s
 ·exact absurd e (b i q)
 ·by_cases q2:l.idxOf s=i
  ·exact q2
  ·exfalso
   obtain⟨h1,e1⟩:=a9.mp a
   obtain⟨h2,e2⟩:=a9.mp e
   exact q2 ((aQo h).mp (e1.trans e2.symm))
theorem Al{n i:Nat}(h4:n≤4)(hi:i<n):(bP n)[i]?=some (97+i):=by
 unfold bP
 rw[aQI hi]
 have:i=0∨i=1∨i=2∨i=3:=by omega
 rcases this with rfl | rfl | rfl | rfl <;> rfl
theorem iR{rs:List (List Nat)}{ρ:Nat→Nat}{δ:Nat→Nat→Option Nat}{n:Nat}(n1:1≤n)(n4:n≤4)(a:Aut rs ρ δ 0)(ho:∀ x∈rs,OfN n x)(hl:(dO δ n (ρ 0) 1000).length≤900):∃ g,WebOk n (dO δ n (ρ 0) 1000) g∧(∀ x∈rs,dP g 0 x=some 0)∧(∀ x,dP g 0 x=some 0↔dP δ (ρ 0) x=some (ρ 0))∧∀ p,p<(dO δ n (ρ 0) 1000).length→∃ w,dP g 0 w=some p:=by
 have ha:∀ x∈rs,AllL x:=fun x hx=>(ho x hx).all
 have sy:∀ s c t,δ s c=some t→δ t (con c)=some s:=fun s c t h=>by
  obtain⟨p,q,e1,e2,e3⟩:=a.of s c t h
  have:=a.to _ _ _ (nC ha e1)
  rw[e2,e3] at this
  exact this
 have lt:∀ s c t,δ s c=some t→c∈aI (n:Nat):=fun s c t h=>by
  obtain⟨p,q,e1,e2,e3⟩:=a.of s c t h
  exact tO (by omega) (by omega) ho e1
 unfold dO at hl ⊢
 dsimp only at hl ⊢
 rw[b7] at hl
 have hcl:=jG (δ:=δ) (ls:=aI (n:Nat)) 1000 0 [ρ 0] (fun i s hi=>absurd hi (x6 _)) (by omega)
 have hnd:=qH δ (aI (n:Nat)) 1000 0 [ρ 0] (by simp)
 obtain⟨r,hr⟩:=tW δ (aI (n:Nat)) 1000 0 [ρ 0]
 have hrc:=(nS (δ:=δ) (δ':=δ) (f:=fun x=>x) (P:=fun s=>∃ w,dP δ (ρ 0) w=some s) (fun _ _ _ _ e=>e) (fun s _ c=>by simp) (fun s ⟨w,hw⟩ c t e=>⟨w++[c],by rw[fR,hw];exact e⟩) (aI (n:Nat)) 1000 0 [ρ 0] (fun x hx=>by rw[c6.mp hx];exact⟨[],rfl⟩)).2
 generalize cB δ (aI (n:Nat)) 1000 0 [ρ 0]=ord at hl hcl hnd hr hrc
 have h0:ord[0]?=some (ρ 0):=by rw[hr];rfl
 have i0:ord.idxOf (ρ 0)=0:=vR hnd h0
 have key:∀ (w:List Nat) (s:Nat),s∈ord→dP (fun p c=>(ord[p]?).bind fun s=>(δ s c).map fun t=>ord.idxOf t) (ord.idxOf s) w=(dP δ s w).map fun t=>ord.idxOf t:=fun w=>by
  induction w with
  | nil=>exact fun s hs=>rfl
  | cons c w ih =>
   intro s hs
   show ((ord[ord.idxOf s]?).bind fun s=>(δ s c).map fun t=>ord.idxOf t).bind _=((δ s c).bind fun q=>dP δ q w).map _
   rw[(nR hs).1]
   show ((δ s c).map fun t=>ord.idxOf t).bind _=_
   cases e:δ s c with
   | none=>rfl
   | some t=>exact ih t (hcl s hs c (lt s c t e) t e)
 refine⟨fun p c=>(ord[p]?).bind fun s=>(δ s c).map fun t=>ord.idxOf t,⟨fun row hr=>?_,?_,?_,fun p i row o h1 h2=>?_,fun p c q hc e=>?_,fun p c q e=>?_⟩,fun x hx=>?_,fun x=>?_,fun p hp=>?_⟩
 ·obtain⟨s,_,rfl⟩:=d5.mp hr
  unfold jU
  rw[b7,dE n4]
 ·rw[b7];exact hl
 ·rw[b7];exact(a9.mp h0).1
 ·rw[c9] at h1
  obtain⟨s,hs,rfl⟩:=i9.mp h1
  unfold jU at h2
  rw[c9] at h2
  obtain⟨c,hc,rfl⟩:=i9.mp h2
  have hi:i<n:=by have:=(a9.mp hc).1;rw[dE n4] at this;exact this
  rw[Al n4 hi] at hc
  cases hc
  rw[hs]
  rfl
 ·obtain⟨s,hs,e⟩:=p5.mp e
  obtain⟨t,ht,rfl⟩:=i9.mp e
  have hm:=hcl s (b6 hs) c (lt s c t ht) t ht
  rw[(nR hm).1]
  show (δ t (con c)).map (fun t=>ord.idxOf t)=some p
  rw[sy s c t ht,u5,vR hnd hs]
 ·obtain⟨s,hs,e⟩:=p5.mp e
  obtain⟨t,ht,rfl⟩:=i9.mp e
  have hm:=hcl s (b6 hs) c (lt s c t ht) t ht
  rw[b7]
  exact⟨(a9.mp hs).1,(a9.mp (nR hm).1).1,lt s c t ht⟩
 ·have pd:dP δ (ρ 0) x=some (ρ 0):=by
   obtain⟨M,hM⟩:=qK (N:=1) hx
   have key:∀ k j,j+k=x.length→dP δ (ρ (dU M x.length j)) (x.drop j)=some (ρ (dU M x.length x.length)):=fun k=>by
    induction k with
    | zero =>
     intro j hj
     have:j=x.length:=by omega
     subst this
     rw[aJA]
     rfl
    | succ k ih =>
     intro j hj
     have hjl:j<x.length:=by omega
     rw[y2 hjl]
     have e:=a.to _ _ _ (hM ⟨j,hjl,x[j],b0 hjl,.inl ⟨rfl,rfl,rfl⟩⟩)
     show (δ (ρ (dU M x.length j)) x[j]).bind (fun q=>dP δ q (x.drop (j+1)))=_
     rw[e]
     exact ih (j+1) (by omega)
   have:=key x.length 0 (by omega)
   have z1:dU M x.length 0=0:=by unfold dU;rw[if_pos (.inl rfl)]
   have z2:dU M x.length x.length=0:=by unfold dU;rw[if_pos (.inr rfl)]
   rw[z1,z2,aZO] at this
   exact this
  have:=key x (ρ 0) (b6 h0)
  rw[i0,pd,u5,i0] at this
  exact this
 ·have:=key x (ρ 0) (b6 h0)
  rw[i0] at this
  rw[this]
  constructor
  ·intro e
   obtain⟨t,ht,e⟩:=i9.mp e
   have hm:∀ (w:List Nat) (s t:Nat),s∈ord→dP δ s w=some t→t∈ord:=fun w=>by
    induction w with
    | nil=>exact fun s t hs e=>by rw[← d9 e];exact hs
    | cons c w ih =>
     intro s t hs e
     obtain⟨m,h1,h2⟩:=p5.mp (show (δ s c).bind (fun q=>dP δ q w)=some t from e)
     exact ih m t (hcl s hs c (lt s c m h1) m h1) h2
   have:=(nR (hm x _ t (b6 h0) ht)).1
   rw[e,h0] at this
   rw[ht,← d9 this]
  ·intro e
   rw[e,u5,i0]
 ·rw[b7] at hp
  obtain⟨w,hw⟩:=hrc ord[p] (aQF hp)
  have:=key w (ρ 0) (b6 h0)
  rw[i0,hw,u5,vR hnd (b0 hp)] at this
  exact⟨w,this⟩
def HK(g g':Nat→Nat→Option Nat):Prop:=∀ p c q,g p c=some q→g' p c=some q
theorem jW{n c:Nat}(h1:1≤n)(h4:n≤4)(h:c∈aI (n:Nat))(hl:aY c=true):∃ j,j<n∧c=97+j:=by
 rcases Aq h1 h4 with rfl | rfl | rfl | rfl <;> rcases aO (aK h) with rfl | rfl | rfl | rfl | rfl | rfl | rfl | rfl <;> revert h hl <;> decide
theorem iL{c:Nat}(h:bX c):aY (con c)=!aY c:=by
 rcases aO h with rfl | rfl | rfl | rfl | rfl | rfl | rfl | rfl <;> decide
inductive spWaysB(vs:List V)(H:Hp)(Q:VK)(E:XK):Prop
 | mk (r:Addr) (n:Nat) (W:List (List (Option Nat))) (g:Nat→Nat→Option Nat) (_:vs=[.ref r]) (_:1≤n) (_:n≤4) (_:IsWebV H r W) (_:WebOk n W g) (_:∀ (d:Addr) (kvs:List (List cN×V)) (H':Hp),H d=none→H' d=some (.dT kvs)→TabW kvs g→Same H H'→Q (.ref d) H'):spWaysB vs H Q E
inductive spReadW(vs:List V)(H:Hp)(Q:VK)(E:XK):Prop
 | mk (r:Addr) (n:Nat) (W:List (List (Option Nat))) (g:Nat→Nat→Option Nat) (w:List Nat) (_:vs=[.ref r,.str (S w)]) (_:1≤n) (_:n≤4) (_:IsWebV H r W) (_:WebOk n W g) (_:OfN n w) (_:w.length≤900) (_:∀ (H':Hp),Same H H'→Q (.bl (decide (dP g 0 w=some 0))) H'):spReadW vs H Q E
theorem vG{rs:List (List Nat)}{ρ:Nat→Nat}{δ:Nat→Nat→Option Nat}(a:Aut rs ρ δ 0)(ha:∀ x∈rs,AllL x):SymG δ:=fun s c t _ h=>by
 obtain⟨p,q,e1,e2,e3⟩:=a.of s c t h
 have:=a.to _ _ _ (nC ha e1)
 rw[e2,e3] at this
 exact this
def Gen(rs:List (List Nat))(x:List Nat):Prop:=∀ (g:Nat→Nat→Option Nat) (s0:Nat),SymG g→(∀ y∈rs,dP g s0 y=some s0)→dP g s0 x=some s0
theorem Gen.mem{rs:List (List Nat)}{x:List Nat}(h:x∈rs):Gen rs x:=fun _ _ _ hr=>hr x h
theorem Gen.nil{rs:List (List Nat)}:Gen rs []:=fun _ _ _ _=>rfl
theorem Gen.back{rs:List (List Nat)}{x:List Nat}(hx:AllL x)(h:Gen rs x):Gen rs (Ma.back x):=fun g s0 sy hr=>sy.back hx (h g s0 sy hr)
theorem Gen.lay{rs:List (List Nat)}{x:List Nat}(hx:AllL x)(h:Gen rs x):Gen rs (Ma.lay x):=fun g s0 sy hr=>sy.lay hx (h g s0 sy hr)
theorem Gen.app{rs:List (List Nat)}{x y:List Nat}(h:Gen rs x)(k:Gen rs y):Gen rs (x++y):=fun g s0 sy hr=>by
 rw[eQ,h g s0 sy hr]
 exact k g s0 sy hr
theorem Gen.trans{rs rs':List (List Nat)}{x:List Nat}(h:Gen rs x)(k:∀ y∈rs,Gen rs' y):Gen rs' x:=fun g s0 sy hr=>h g s0 sy fun y hy=>k y hy g s0 sy hr
theorem Gen.joi{rs:List (List Nat)}(ha:∀ x∈rs,AllL x){w:List Nat}(h:Ej rs w):Gen rs w:=fun g s0 sy hr=>by
 obtain⟨us,hu,rfl⟩:=h
 have key:∀ us:List (List Nat),(∀ u∈us,∃ v∈rs,u=v∨u=Ma.back v)→dP g s0 us.flatten=some s0∧AllL us.flatten:=fun us=>by
  induction us with
  | nil=>exact fun _=>⟨rfl,AllL.nil⟩
  | cons u us ih =>
   intro hu
   obtain⟨i1,i2⟩:=ih fun x hx=>hu x (c8 _ hx)
   obtain⟨v,hv,e⟩:=hu u d4
   rw[x8,eQ]
   rcases e with rfl | rfl
   ·rw[hr _ hv]
    exact⟨i1,AllL.app.mpr ⟨ha _ hv,i2⟩⟩
   ·rw[sy.back (ha v hv) (hr v hv)]
    exact⟨i1,AllL.app.mpr ⟨aL (ha v hv),i2⟩⟩
 obtain⟨k1,k2⟩:=key us hu
 exact sy.lay k2 k1
theorem qS{rs:List (List Nat)}{ρ:Nat→Nat}{δ:Nat→Nat→Option Nat}(a:Aut rs ρ δ 0){x:List Nat}(hx:x∈rs):dP δ (ρ 0) x=some (ρ 0):=by
 obtain⟨M,hM⟩:=qK (N:=1) hx
 have key:∀ k j,j+k=x.length→dP δ (ρ (dU M x.length j)) (x.drop j)=some (ρ (dU M x.length x.length)):=fun k=>by
  induction k with
  | zero =>
   intro j hj
   have:j=x.length:=by omega
   subst this
   rw[aJA]
   rfl
  | succ k ih =>
   intro j hj
   have hjl:j<x.length:=by omega
   rw[y2 hjl]
   have e:=a.to _ _ _ (hM ⟨j,hjl,x[j],b0 hjl,.inl ⟨rfl,rfl,rfl⟩⟩)
   show (δ (ρ (dU M x.length j)) x[j]).bind (fun q=>dP δ q (x.drop (j+1)))=_
   rw[e]
   exact ih (j+1) (by omega)
 have:=key x.length 0 (by omega)
 have z1:dU M x.length 0=0:=by unfold dU;rw[if_pos (.inl rfl)]
 have z2:dU M x.length x.length=0:=by unfold dU;rw[if_pos (.inr rfl)]
 rw[z1,z2,aZO] at this
 exact this
end Lw
namespace L2
open PySem PySem.Spec PyProof.Rows
end L2
namespace Lw
open PySem PySem.Spec PyProof.Rows L2 Ma MaR
theorem wW{n:Nat}{g:Nat→Nat→Option Nat}{cw:Nat→List Nat}{over:List (List Nat)}(h1:1≤n)(h4:n≤4)(sy:SymG g)(hc:∀ p,AllL (cw p))(hc0:cw 0=[])(ho:∀ p i q,i<n→g p (97+i)=some q→lay (cw p++([97+i]++back (cw q)))=[]∨lay (cw p++([97+i]++back (cw q)))∈over):∀ (w:List Nat) (p q:Nat),OfN n w→dP g p w=some q→Gen over (lay (cw p++(w++back (cw q))))
 | [],p,q,_,h=>by
  rw[d9 h,aJK,dS _ _ rfl (hc q)]
  exact .nil
 | c::w,p,q,hw,h=>by
  obtain⟨m,e1,e2⟩:=p5.mp (show (g p c).bind (fun q=>dP g q w)=some q from h)
  have hcn:=hw c d4
  have hcL:=aK hcn
  have hw':OfN n w:=fun d hd=>hw d (c8 _ hd)
  have ih:=wW h1 h4 sy hc hc0 ho w m q hw' e2
  have one:∀ {d:Nat},bX d→AllL [d]:=fun hd x hx=>by rw[c6.mp hx];exact hd
  have low:∀ {p m d:Nat},d∈aI (n:Nat)→aY d=true→g p d=some m→Gen over (lay (cw p++([d]++back (cw m)))):=fun {p m d} hd hl e=>by
   obtain⟨i,hi,rfl⟩:=jW h1 h4 hd hl
   rcases ho p i m hi e with z | z
   ·rw[z];exact .nil
   ·exact .mem z
  have ed:Gen over (lay (cw p++([c]++back (cw m)))):=by
   by_cases lw:aY c=true
   ·exact low hcn lw e1
   ·have hcc:=cE (n:=(n:Nat)) (by omega) (by omega) hcn
    have g0:=low hcc (by rw[iL hcL];simpa using lw) (sy p c m hcL e1)
    have hA:AllL (cw m++([con c]++back (cw p))):=AllL.app.mpr ⟨hc m,AllL.app.mpr ⟨one (bQ hcL),aL (hc p)⟩⟩
    have g1:=Gen.back (eM hA) g0
    rw[← iI hA,cS,cS,cD (hc p),i6] at g1
    have e3:back [con c]=[c]:=by unfold back;simp[aP hcL]
    rw[e3] at g1
    exact g1
  have hx:=one hcL
  have e4:=KK (a:=back (cw p)) (x:=[c]) (b:=back (cw m)) (c:=w++back (cw q)) (aL (hc p)) (aL (hc m)) (AllL.app.mpr ⟨hw'.all,aL (hc q)⟩) hx
  rw[cD (hc p),cD (hc m)] at e4
  have g2:=Gen.lay (AllL.app.mpr ⟨eM (AllL.app.mpr ⟨hc p,AllL.app.mpr ⟨hx,aL (hc m)⟩⟩),eM (AllL.app.mpr ⟨hc m,AllL.app.mpr ⟨hw'.all,aL (hc q)⟩⟩)⟩) (ed.app ih)
  rw[e4] at g2
  exact g2
def JE(rs:List (List Nat))(u v:List Nat):Prop:=∃ us:List (List Nat),(∀ x∈us,∃ y∈rs,x=y∨x=back y)∧lay u=lay (us.flatten++v)
theorem iN{rs us:List (List Nat)}(ha:∀ x∈rs,AllL x)(h:∀ x∈us,∃ y∈rs,x=y∨x=back y):AllL us.flatten:=fun c hc=>by
 obtain⟨x,hx,hcx⟩:=aZz.mp hc
 obtain⟨y,hy,rfl | rfl⟩:=h x hx
 ·exact ha _ hy c hcx
 ·exact aL (ha _ hy) c hcx
section
variable {rs:List (List Nat)}(ha:∀ x∈rs,AllL x)
theorem JE.refl(u:List Nat):JE rs u u:=⟨[],(fun x h=>nomatch h),rfl⟩
theorem JE.of_lay{u v:List Nat}(h:lay u=lay v):JE rs u v:=⟨[],(fun x h=>nomatch h),h⟩
include ha
theorem JE.trans{u v w:List Nat}(hv:AllL v)(hw:AllL w)(h:JE rs u v)(k:JE rs v w):JE rs u w:=by
 obtain⟨us,h1,h2⟩:=h
 obtain⟨vs,k1,k2⟩:=k
 refine⟨us++vs,fun x hx=>?_,?_⟩
 ·rcases k0.mp hx with z | z
  ·exact h1 x z
  ·exact k1 x z
 ·have f1:=iN ha h1
  have f2:=iN ha k1
  rw[h2,← cG _ v f1 hv,k2,cG _ _ f1 (AllL.app.mpr ⟨f2,hw⟩),aX0,i6]
omit ha in
theorem uL:∀ us:List (List Nat),(us.reverse.map back).flatten=back us.flatten
 | []=>rfl
 | x::us=>by rw[p0,g6,aX0,uL us,x8,cS];simp
theorem JE.symm{u v:List Nat}(hu:AllL u)(hv:AllL v)(h:JE rs u v):JE rs v u:=by
 obtain⟨us,h1,h2⟩:=h
 have f1:=iN ha h1
 refine⟨us.reverse.map back,fun x hx=>?_,?_⟩
 ·obtain⟨z,hz,rfl⟩:=d5.mp hx
  obtain⟨y,hy,e⟩:=h1 z (y7.mp hz)
  rcases e with rfl | rfl
  ·exact⟨_,hy,.inr rfl⟩
  ·exact⟨y,hy,.inl (cD (ha y hy))⟩
 ·have b1:=aL f1
  rw[uL us,← cG _ u b1 hu,h2,cG _ _ b1 (AllL.app.mpr ⟨f1,hv⟩),← i6,← eJ _ v (AllL.app.mpr ⟨b1,f1⟩)]
  have:=dS _ (back us.flatten) rfl b1
  rw[cD f1] at this
  rw[this]
  rfl
theorem JE.mul{u v x:List Nat}(hu:AllL u)(hv:AllL v)(h:JE rs u v):JE rs (u++x) (v++x):=by
 obtain⟨us,h1,h2⟩:=h
 refine⟨us,h1,?_⟩
 rw[← eJ u x hu,h2,eJ _ x (AllL.app.mpr ⟨iN ha h1,hv⟩),i6]
omit ha in
theorem nU:∀ {qs:List (List Nat)} {N:Nat},(∀ x∈qs,AllL x)→∀ {p c q:Nat},cT N qs p c q→bX c
 | [],_,_,_,_,_,h=>h.elim
 | w::r,N,hq,p,c,q,h=>by
  rcases h with ⟨j,hj,d,hd,h⟩ | h
  ·have hdL:=hq w d4 d (b6 hd)
   rcases h with ⟨rfl,_⟩ | ⟨rfl,_⟩
   ·exact hdL
   ·exact bQ hdL
  ·exact nU (fun x hx=>hq x (c8 _ hx)) h
def rQ:Nat→List (List Nat)→Nat→List Nat
 | _,[],_=>[]
 | N,w::r,x=>if x<N+(w.length - 1) then (if N≤x then w.take (x - N+1) else []) else rQ (N+(w.length - 1)) r x
omit ha in
theorem mB:∀ (rs:List (List Nat)) (N:Nat),1≤N→rQ N rs 0=[]
 | [],_,_=>rfl
 | w::r,N,hN=>by
  unfold rQ
  rw[if_pos (by omega),if_neg (by omega)]
omit ha in
theorem kI:∀ {rs:List (List Nat)} (N x:Nat),(∀ y∈rs,AllL y)→AllL (rQ N rs x)
 | [],_,_,_=>AllL.nil
 | w::r,N,x,h=>by
  unfold rQ
  split
  ·split
   ·exact fun c hc=>h w d4 c (r6 hc)
   ·exact AllL.nil
  ·exact kI _ _ fun y hy=>h y (c8 _ hy)
omit ha in
theorem AZ{w:List Nat}{r:List (List Nat)}{N:Nat}(hN:1≤N){j:Nat}(hj:j≤w.length):rQ N (w::r) (dU N w.length j)=w.take j∨(j=w.length∧rQ N (w::r) (dU N w.length j)=[]):=by
 unfold dU
 by_cases q:j=0∨j=w.length
 ·rw[if_pos q,mB _ _ hN]
  rcases q with rfl | rfl
  ·exact .inl rfl
  ·exact .inr ⟨rfl,rfl⟩
 ·rw[if_neg q]
  unfold rQ
  rw[if_pos (by omega),if_pos (by omega),show N+j - 1 - N+1=j by omega]
  exact .inl rfl
theorem uY:∀ {qs:List (List Nat)} {N:Nat},1≤N→(∀ x∈qs,x∈rs)→∀ {p c q:Nat},cT N qs p c q→JE rs (rQ N qs p++[c]) (rQ N qs q)
 | [],_,_,_,_,_,_,h=>h.elim
 | w::r,N,hN,hq,p,c,q,h=>by
  have hwr:=hq w d4
  have hwA:=ha w hwr
  have hall:∀ y∈w::r,AllL y:=fun y hy=>ha y (hq y hy)
  rcases h with h | h
  ·obtain⟨j,hj,d,hd,h⟩:=h
   have hdL:=hwA d (b6 hd)
   have wj:JE rs w []:=⟨[w],fun x hx=>⟨w,hwr,.inl (c6.mp hx)⟩,by simp⟩
   have st:JE rs (rQ N (w::r) (dU N w.length j)++[d]) (rQ N (w::r) (dU N w.length (j+1))):=by
    have e1:rQ N (w::r) (dU N w.length j)=w.take j:=by
     rcases AZ (w:=w) (r:=r) hN (j:=j) (by omega) with e | ⟨e,_⟩
     ·exact e
     ·omega
    rw[e1,← bI hd]
    rcases AZ (w:=w) (r:=r) hN (j:=j+1) (by omega) with e | ⟨e,e2⟩
    ·rw[e];exact JE.refl _
    ·rw[e2,e,j8];exact wj
   rcases h with ⟨rfl,rfl,rfl⟩ | ⟨rfl,rfl,rfl⟩
   ·exact st
   ·have p1:=kI N (dU N w.length j) hall
    have p2:=kI N (dU N w.length (j+1)) hall
    have d1:AllL [d]:=fun c hc=>by rw[c6.mp hc];exact hdL
    have m:=JE.mul ha (x:=[con d]) (AllL.app.mpr ⟨p1,d1⟩) p2 st
    have c1:AllL [con d]:=fun c hc=>by rw[c6.mp hc];exact bQ hdL
    refine JE.symm ha p1 (AllL.app.mpr ⟨p2,c1⟩) (JE.trans ha (AllL.app.mpr ⟨AllL.app.mpr ⟨p1,d1⟩,c1⟩) (AllL.app.mpr ⟨p2,c1⟩) (JE.of_lay ?_) m)
    have:=gZ (rQ N (w::r) (dU N w.length j)) [] (a:=d) (b:=con d) p1 (bQ hdL) (aP hdL).symm
    rw[l4] at this
    rw[i6]
    exact this.symm
  ·have ih:=uY (qs:=r) (N:=N+(w.length - 1)) (by omega) (fun x hx=>hq x (c8 _ hx)) h
   obtain⟨a,b⟩:=wH (by omega) h
   have on:∀ y,(y=0∨N+(w.length - 1)≤y)→rQ N (w::r) y=rQ (N+(w.length - 1)) r y:=fun y hy=>by
    rcases hy with rfl | hy
    ·rw[mB _ _ hN,mB _ _ (by omega)]
    ·show (if y<N+(w.length - 1) then _ else rQ (N+(w.length - 1)) r y)=_
     rw[if_neg (by omega)]
   rw[on p a,on q b]
   exact ih
theorem AH{x y:Nat}(h:Rel (cT 1 rs) x y):JE rs (rQ 1 rs x) (rQ 1 rs y):=by
 have pa:=fun z=>kI 1 z ha
 have one:∀ {p c q:Nat},cT 1 rs p c q→AllL [c]:=fun {p c q} h=>fun e he=>by
  rw[c6.mp he]
  exact nU ha h
 induction h with
 | refl x=>exact JE.refl _
 | symm _ ih=>exact JE.symm ha (pa _) (pa _) ih
 | trans _ _ i1 i2=>exact JE.trans ha (pa _) (pa _) i1 i2
 | @go p p' c q q' _ a b ih =>
  have c1:=one a
  have e1:=uY ha (c0 1) (fun x hx=>hx) a
  have e2:=uY ha (c0 1) (fun x hx=>hx) b
  have m:=JE.mul ha (x:=[c]) (pa _) (pa _) ih
  have q1:=AllL.app.mpr ⟨pa p,c1⟩
  have q2:=AllL.app.mpr ⟨pa p',c1⟩
  exact JE.trans ha q1 (pa _) (JE.symm ha q1 (pa _) e1) (JE.trans ha q2 (pa _) m e2)
theorem A2{ρ:Nat→Nat}{δ:Nat→Nat→Option Nat}(a:Aut rs ρ δ 0):∀ {w:List Nat} {p t:Nat},dP δ (ρ p) w=some t→∃ q,ρ q=t∧AllL w∧JE rs (rQ 1 rs p++w) (rQ 1 rs q)
 | [],p,t,h=>by
  refine⟨p,d9 h,AllL.nil,?_⟩
  rw[l4]
  exact JE.refl _
 | c::w,p,t,h=>by
  have pa:=fun z=>kI 1 z ha
  show ∃ q,_
  have h':(δ (ρ p) c).bind (fun q=>dP δ q w)=some t:=h
  obtain⟨s,hs,hw⟩:=p5.mp h'
  obtain⟨p',q',hf,e1,e2⟩:=a.of _ _ _ hs
  rw[← e2] at hw
  obtain⟨q,hq,hwA,hJ⟩:=A2 a hw
  have cL:=nU ha hf
  have c1:AllL [c]:=fun e he=>by rw[c6.mp he];exact cL
  have r1:=AH ha ((a.rel p p').mp e1.symm)
  have m1:=JE.mul ha (x:=c::w) (pa p) (pa p') r1
  have ed:=JE.mul ha (x:=w) (AllL.app.mpr ⟨pa p',c1⟩) (pa q') (uY ha (c0 1) (fun x hx=>hx) hf)
  rw[i6] at ed
  have cw:AllL (c::w):=AllL.cons.mpr ⟨cL,hwA⟩
  refine⟨q,hq,cw,JE.trans ha (AllL.app.mpr ⟨pa p',cw⟩) (pa q) m1 (JE.trans ha (AllL.app.mpr ⟨pa q',hwA⟩) (pa q) ed hJ)⟩
theorem jY{ρ:Nat→Nat}{δ:Nat→Nat→Option Nat}(a:Aut rs ρ δ 0){w:List Nat}(h:dP δ (ρ 0) w=some (ρ 0)):Ej rs (lay w):=by
 obtain⟨q,hq,hwA,hJ⟩:=A2 ha a h
 have pa:=fun z=>kI 1 z ha
 have r1:=AH ha ((a.rel q 0).mp hq)
 have:=JE.trans ha (pa q) (pa 0) hJ r1
 rw[mB _ _ (c0 1)] at this
 obtain⟨us,h1,h2⟩:=this
 exact⟨us,h1,by rw[l4] at h2;exact h2⟩
end
theorem pZ{f rs:List (List Nat)}{n M:Nat}(r:RT f n M)(ha:∀ x∈rs,AllL x){w:List Nat}(h:Ej rs w):Ej (rs.map (retl f)) (retl f w):=by
 obtain⟨us,h1,rfl⟩:=h
 have fa:=iN ha h1
 rw[kC r fa]
 clear fa
 induction us with
 | nil=>exact⟨[],(fun x hx=>nomatch hx),rfl⟩
 | cons u us ih =>
  obtain⟨vs,v1,v2⟩:=ih fun x hx=>h1 x (c8 _ hx)
  obtain⟨y,hy,e⟩:=h1 u d4
  have hv:∀ x∈vs,∃ y∈rs.map (retl f),x=y∨x=back y:=v1
  have ra:∀ x∈rs.map (retl f),AllL x:=fun x hx=>by
   obtain⟨z,_,rfl⟩:=d5.mp hx
   exact iK r z
  refine⟨retl f u::vs,fun x hx=>?_,?_⟩
  ·rcases c7.mp hx with rfl | hx
   ·refine⟨retl f y,d5.mpr ⟨y,hy,rfl⟩,?_⟩
    rcases e with rfl | rfl
    ·exact .inl rfl
    ·exact .inr (rX r (ha y hy))
   ·exact v1 x hx
  ·rw[x8,Cb r,v2,cG _ _ (iK r u) (iN ra hv),x8]
theorem zX(f:Nat→Nat)(u:Nat):∀ l:List Nat,(l.map f).sum=l.count u * f u+(l.map fun i=>if i=u then 0 else f i).sum
 | []=>by simp
 | j::l=>by
  have ih:=zX f u l
  rw[g9,u8,ih,g9,u8,aJL]
  by_cases e:j=u
  ·subst e
   rw[if_pos rfl,if_pos (by simp),aJs]
   omega
  ·rw[if_neg e,if_neg (by simpa using e),aXr]
   omega
theorem xD:∀ (U:List Nat) (f:Nat→Nat) (l:List Nat),(∀ i,i ∉ U→f i=0)→(∀ i∈U,l.count i % 2=0)→(l.map f).sum % 2=0
 | [],f,l,h,_=>by
  have:∀ l:List Nat,(l.map f).sum=0:=fun l=>by
   induction l with
   | nil=>rfl
   | cons j l ih=>rw[g9,u8,ih,h j (fun z=>nomatch z)]
  rw[this]
 | u::U,f,l,h,hc=>by
  rw[zX f u l]
  have ih:=xD U (fun i=>if i=u then 0 else f i) l (fun i hi=>by
   by_cases e:i=u
   ·rw[if_pos e]
   ·rw[if_neg e];exact h i (fun z=>(c7.mp z).elim e hi)) (fun i hi=>hc i (c8 _ hi))
  have h0:=hc u d4
  have:(l.count u * f u) % 2=0:=by rw[aJt,h0,Nat.zero_mul]
  omega
def Et(i0:Nat)(l m:List Nat):List Nat:=m.flatMap fun j=>if j=i0 then l else [j]
theorem A0{f:Nat→Nat}{i0:Nat}{l:List Nat}(h0:f i0=0):∀ m:List Nat,((Et i0 l m).map f).sum=m.count i0 * (l.map f).sum+(m.map f).sum
 | []=>by simp[Et]
 | j::m=>by
  have ih:=A0 h0 m (l:=l)
  unfold Et at ih ⊢
  rw[x9,g6,aJI,ih,aJL,g9,u8]
  by_cases e:j=i0
  ·subst e
   rw[if_pos rfl,if_pos (by simp),aJs,h0]
   omega
  ·rw[if_neg e,if_neg (by simpa using e)]
   simp
   omega
theorem Kc:∀ (k:Nat) (cs:List (List Nat)) (U:List Nat),cs.length=k→U.Nodup→cs.length<U.length→∃ f:Nat→Nat,(∀ i,f i≤1)∧(∀ i,i ∉ U→f i=0)∧(∃ i∈U,f i=1)∧∀ l∈cs,(l.map f).sum % 2=0
 | _,[],U,_,_,h=>by
  cases U with
  | nil=>simp at h
  | cons u U=>exact⟨fun i=>if i=u then 1 else 0,fun i=>by dsimp only;split <;> omega,fun i hi=>if_neg (fun e=>hi (by rw[e];exact d4)),⟨u,d4,if_pos rfl⟩,fun l hl=>nomatch hl⟩
 | 0,l::cs,U,hk,nd,h=>by simp at hk
 | k+1,l::cs,U,hk,nd,h=>by
  have hk:cs.length=k:=by simpa using hk
  by_cases q:∃ i0∈U,l.count i0 % 2=1
  ·obtain⟨i0,hi,hc⟩:=q
   have hl:(U.erase i0).length=U.length - 1:=by rw[aQu hi]
   obtain⟨f,f1,f0,⟨i,hiU,hi1⟩,fc⟩:=Kc k (cs.map (Et i0 l)) (U.erase i0) (by rw[b7,hk]) (nd.erase _) (by rw[b7,hl];rw[j0] at h;omega)
   have z0:f i0=0:=f0 i0 (fun z=>(nd.mem_erase_iff.mp z).1 rfl)
   have fe:∀ b,(fun i=>if i=i0 then 0 else if i=i0 then b else f i)=f:=fun b=>by
    funext i
    by_cases e:i=i0
    ·rw[if_pos e,e,z0]
    ·rw[if_neg e,if_neg e]
   have key:∀ m:List Nat,(m.map fun i=>if i=i0 then (l.map f).sum % 2 else f i).sum=m.count i0 * ((l.map f).sum % 2)+(m.map f).sum:=fun m=>by
    rw[zX _ i0 m,if_pos rfl,fe]
   refine⟨fun i=>if i=i0 then (l.map f).sum % 2 else f i,fun j=>?_,fun j hj=>?_,⟨i,aZT hiU,?_⟩,fun m hm=>?_⟩
   ·dsimp only
    split
    ·omega
    ·exact f1 j
   ·exact(if_neg (fun e=>hj (by rw[e];exact hi))).trans (f0 j (fun z=>hj (aZT z)))
   ·exact(if_neg (fun e=>(nd.mem_erase_iff.mp hiU).1 e)).trans hi1
   ·rw[key m]
    rcases c7.mp hm with rfl | hm
    ·have hb:(m.map f).sum % 2=0∨(m.map f).sum % 2=1:=by omega
     rcases hb with e | e
     ·rw[e,aJl];omega
     ·rw[e,aJu];omega
    ·have:=fc _ (d5.mpr ⟨m,hm,rfl⟩)
     rw[A0 z0 m] at this
     rw[aJq,aJt] at this ⊢
     rw[aJr]
     exact this
  ·obtain⟨f,f1,f0,fn,fc⟩:=Kc k cs U hk nd (by rw[j0] at h;omega)
   refine⟨f,f1,f0,fn,fun m hm=>?_⟩
   rcases c7.mp hm with rfl | hm
   ·exact xD U f m f0 fun i hi=>by
     have:¬ m.count i % 2=1:=fun z=>q ⟨i,hi,z⟩
     omega
   ·exact fc m hm
def rS:Nat→List (Option Nat)→List Nat
 | _,[]=>[]
 | b,o::r=>if o.isSome=true then b::rS (b+1) r else rS (b+1) r
def fC:Nat→List (List (Option Nat))→List Nat
 | _,[]=>[]
 | p,row::W=>rS (4 * p) row++fC (p+1) W
theorem pR:∀ (r:List (Option Nat)) (b:Nat),(rS b r).length=(r.filter Option.isSome).length
 | [],_=>rfl
 | o::r,b=>by
  unfold rS
  rw[aXu]
  split
  ·rw[j0,j0,pR r]
  ·exact pR r _
theorem rF:∀ (W:List (List (Option Nat))) (p:Nat),(fC p W).length=(W.map fun row=>(row.filter Option.isSome).length).sum
 | [],_=>rfl
 | row::W,p=>by
  unfold fC
  rw[c5,pR,rF W,g9,u8]
theorem mem_rowE:∀ {r:List (Option Nat)} {b x:Nat},x∈rS b r↔∃ i q,r[i]?=some (some q)∧x=b+i
 | [],b,x=>by simp[rS]
 | o::r,b,x=>by
  have ih:=mem_rowE (r:=r) (b:=b+1) (x:=x)
  have step:(∃ i q,r[i]?=some (some q)∧x=b+1+i)↔∃ i q,(o::r)[i+1]?=some (some q)∧x=b+(i+1):=by
   constructor
   ·rintro⟨i,q,h,rfl⟩;exact⟨i,q,by simpa using h,by omega⟩
   ·rintro⟨i,q,h,rfl⟩;exact⟨i,q,by simpa using h,by omega⟩
  unfold rS
  cases o with
  | none =>
   rw[if_neg (by simp),ih,step]
   constructor
   ·rintro⟨i,q,h⟩;exact⟨i+1,q,h⟩
   ·rintro⟨i,q,h1,h2⟩
    cases i with
    | zero=>simp at h1
    | succ i=>exact⟨i,q,h1,h2⟩
  | some q0 =>
   rw[if_pos (by simp),c7,ih,step]
   constructor
   ·rintro(rfl | ⟨i,q,h⟩)
    ·exact⟨0,q0,rfl,rfl⟩
    ·exact⟨i+1,q,h⟩
   ·rintro⟨i,q,h1,h2⟩
    cases i with
    | zero=>exact .inl h2
    | succ i=>exact .inr ⟨i,q,h1,h2⟩
theorem mem_webE:∀ {W:List (List (Option Nat))} {p x:Nat},x∈fC p W↔∃ j row i q,W[j]?=some row∧row[i]?=some (some q)∧x=4 * (p+j)+i
 | [],p,x=>by simp[fC]
 | row::W,p,x=>by
  unfold fC
  rw[k0,mem_rowE,mem_webE (W:=W)]
  constructor
  ·rintro(⟨i,q,h,rfl⟩ | ⟨j,row',i,q,h1,h2,rfl⟩)
   ·exact⟨0,row,i,q,rfl,h,rfl⟩
   ·exact⟨j+1,row',i,q,by simpa using h1,h2,by omega⟩
  ·rintro⟨j,row',i,q,h1,h2,rfl⟩
   cases j with
   | zero=>cases h1;exact .inl ⟨i,q,h2,rfl⟩
   | succ j=>exact .inr ⟨j,row',i,q,by simpa using h1,h2,by omega⟩
theorem vQ:∀ (r:List (Option Nat)) (b:Nat),(rS b r).Nodup
 | [],_=>aZR
 | o::r,b=>by
  unfold rS
  split
  ·refine l9.mpr ⟨fun z=>?_,vQ r _⟩
   obtain⟨i,_,_,e⟩:=mem_rowE.mp z
   omega
  ·exact vQ r _
theorem AF:∀ (W:List (List (Option Nat))) (p:Nat),(∀ row∈W,row.length≤4)→(fC p W).Nodup
 | [],_,_=>aZR
 | row::W,p,h=>by
  unfold fC
  refine aQ1.mpr ⟨vQ _ _,AF W _ fun r hr=>h r (c8 _ hr),fun a ha b hb e=>?_⟩
  obtain⟨i,q,h1,rfl⟩:=mem_rowE.mp ha
  obtain⟨j,row',i',q',_,h2,h3⟩:=mem_webE.mp hb
  have hi:=(a9.mp h1).1
  have:=h row d4
  omega
def cdE(g:Nat→Nat→Option Nat)(p c:Nat):Nat:=if aY c=true then 4 * p+(c - 97) else match g p c with | some q=>4 * q+(c - 65) | none=>0
theorem kJ{c:Nat}(h:bX c):(aY c=true∧aY (con c)=false∧c - 97=con c - 65∧con c - 65<4)∨(aY c=false∧aY (con c)=true∧c - 65=con c - 97∧c - 65<4):=by
 rcases aO h with rfl | rfl | rfl | rfl | rfl | rfl | rfl | rfl <;> decide
theorem DN{g:Nat→Nat→Option Nat}(sy:SymG g){p c q:Nat}(hc:bX c)(h:g p c=some q):cdE g q (con c)=cdE g p c:=by
 have h2:=sy p c q hc h
 unfold cdE
 rw[h,h2]
 rcases kJ hc with ⟨a,b,e,_⟩ | ⟨a,b,e,_⟩
 ·rw[a,b,if_neg i8,if_pos rfl,e]
 ·rw[a,b,if_pos rfl,if_neg i8,e]
def stp(g:Nat→Nat→Option Nat):Nat→List Nat→List Nat
 | _,[]=>[]
 | p,c::w=>cdE g p c::match g p c with | some q=>stp g q w | none=>[]
def g2(g:Nat→Nat→Option Nat)(f:Nat→Nat)(x c:Nat):Option Nat:=if bX c then (g (x / 2) c).map fun q=>2 * q+(x % 2+f (cdE g (x / 2) c)) % 2 else none
theorem Hc{g:Nat→Nat→Option Nat}(sy:SymG g)(f:Nat→Nat):SymG (g2 g f):=fun x c y hc h=>by
 unfold g2 at h ⊢
 rw[if_pos hc] at h
 obtain⟨q,hq,rfl⟩:=i9.mp h
 rw[if_pos (bQ hc),show (2 * q+(x % 2+f (cdE g (x / 2) c)) % 2) / 2=q by omega,sy _ _ _ hc hq,DN sy hc hq]
 show some (2 * (x / 2)+((2 * q+(x % 2+f (cdE g (x / 2) c)) % 2) % 2+f (cdE g (x / 2) c)) % 2)=some x
 congr 1
 omega
theorem vX{g:Nat→Nat→Option Nat}(f:Nat→Nat):∀ {w:List Nat} {p q b:Nat},AllL w→b≤1→dP g p w=some q→dP (g2 g f) (2 * p+b) w=some (2 * q+(b+((stp g p w).map f).sum) % 2)
 | [],p,q,b,_,hb,h=>by
  cases h
  show some _=some _
  congr 1
  show 2 * p+b=2 * p+(b+0) % 2
  omega
 | c::w,p,q,b,hw,hb,h=>by
  obtain⟨hc,hw⟩:=AllL.cons.mp hw
  have h':(g p c).bind (fun q=>dP g q w)=some q:=h
  obtain⟨m,hm,hq⟩:=p5.mp h'
  have ih:=vX f (b:=(b+f (cdE g p c)) % 2) hw (by omega) hq
  show (g2 g f (2 * p+b) c).bind (fun q=>dP (g2 g f) q w)=_
  have e1:(2 * p+b) / 2=p:=by omega
  have e2:(2 * p+b) % 2=b:=by omega
  unfold g2
  rw[if_pos hc,e1,e2,hm]
  show dP (g2 g f) (2 * m+(b+f (cdE g p c)) % 2) w=_
  rw[ih]
  show some _=some _
  congr 2
  show _=(b+((cdE g p c::match g p c with | some q=>stp g q w | none=>[]).map f).sum) % 2
  rw[hm,g9,u8]
  show _=(b+(f (cdE g p c)+((stp g m w).map f).sum)) % 2
  omega
def JV(n:Nat)(W:List (List (Option Nat)))(g:Nat→Nat→Option Nat):Prop:=∀ v,0<v→v<W.length→∃ u c,u<v∧c∈aI (n:Nat)∧g u c=some v
section
variable {n:Nat}{W:List (List (Option Nat))}{g:Nat→Nat→Option Nat}(h1:1≤n)(h4:n≤4)(ok:WebOk n W g)
include h1 h4 ok
theorem A5{p c q:Nat}(hc:bX c)(h:g p c=some q):cdE g p c∈fC 0 W:=by
 have key:∀ {p c q:Nat},bX c→aY c=true→g p c=some q→4 * p+(c - 97)∈fC 0 W:=fun {p c q} hc hl h=>by
  obtain⟨hp,_,hcn⟩:=ok.bd p c q h
  obtain⟨j,hj,rfl⟩:=jW h1 h4 hcn hl
  have hr:=ok.len _ (aQF hp)
  have:=ok.lo p j _ _ (b0 hp) (b0 (by rw[hr];exact hj))
  rw[h] at this
  refine mem_webE.mpr ⟨p,_,j,q,b0 hp,?_,by omega⟩
  rw[b0 (by rw[hr];exact hj),← this]
 unfold cdE
 rcases kJ hc with ⟨a,b,e,_⟩ | ⟨a,b,e,_⟩
 ·rw[if_pos a]
  exact key hc a h
 ·rw[if_neg (by rw[a];exact i8),h]
  show 4 * q+(c - 65)∈_
  rw[e]
  exact key (bQ hc) b (ok.sy p c q hc h)
theorem zI{x:Nat}(h:x∈fC 0 W):∃ p i q,i<n∧p<W.length∧g p (97+i)=some q∧x=4 * p+i∧cdE g p (97+i)=x:=by
 obtain⟨p,row,i,q,e1,e2,rfl⟩:=mem_webE.mp h
 have hp:=(a9.mp e1).1
 have hr:=ok.len row (b6 e1)
 have hi:=(a9.mp e2).1
 refine⟨p,i,q,by omega,hp,ok.lo p i row _ e1 e2,by omega,?_⟩
 unfold cdE
 rw[if_pos (gW h1 h4 (by omega)).2.2.1]
 omega
theorem Au(pr:JV n W g){rs:List (List Nat)}(hr:∀ r∈rs,AllL r∧dP g 0 r=some 0)(hG:∀ x,AllL x→dP g 0 x=some 0→Gen rs (lay x)):(fC 0 W).length+1≤rs.length+W.length:=by
 refine aXn fun hlt=>?_
 have hpos:=ok.pos
 obtain⟨pu,hpu⟩:∃ pu:Nat→Nat×Nat,∀ v,0<v→v<W.length→(pu v).1<v∧(pu v).2∈aI (n:Nat)∧g (pu v).1 (pu v).2=some v:=by
  have pick:∀ v,∃ uc:Nat×Nat,0<v→v<W.length→uc.1<v∧uc.2∈aI (n:Nat)∧g uc.1 uc.2=some v:=fun v=>by
   by_cases h:0<v∧v<W.length
   ·obtain⟨u,c,e⟩:=pr v h.1 h.2
    exact⟨(u,c),fun _ _=>e⟩
   ·exact⟨(0,0),fun a b=>absurd ⟨a,b⟩ h⟩
  exact⟨fun v=>Classical.choose (pick v),fun v=>aQQ (pick v)⟩
 have nd:=AF W 0 fun row hrow=>by rw[ok.len row hrow];exact h4
 obtain⟨f,f1,f0,⟨x,hx,hx1⟩,fc⟩:=Kc _ (rs.map (stp g 0)++(List.range (W.length - 1)).map fun v=>[cdE g (pu (v+1)).1 (pu (v+1)).2]) (fC 0 W) rfl nd (by rw[c5,b7,b7,aQ0];omega)
 have sy2:=Hc ok.sy f
 have loops:∀ y∈rs,dP (g2 g f) 0 y=some 0:=fun y hy=>by
  obtain⟨a,b⟩:=hr y hy
  have:=vX f (b:=0) a (by omega) b
  have e:=fc (stp g 0 y) (q8 _ (d5.mpr ⟨y,hy,rfl⟩))
  rw[show (0+((stp g 0 y).map f).sum) % 2=0 by omega] at this
  exact this
 have tree:∀ v,0<v→v<W.length→f (cdE g (pu v).1 (pu v).2)=0:=fun v a b=>by
  have e:=fc [cdE g (pu v).1 (pu v).2] (j6 _ (d5.mpr ⟨v - 1,aQ4.mpr (by omega),by rw[show v - 1+1=v by omega]⟩))
  have l1:=f1 (cdE g (pu v).1 (pu v).2)
  simp at e
  omega
 have paths:∀ k v,v≤k→v<W.length→∃ w,AllL w∧dP g 0 w=some v∧dP (g2 g f) 0 w=some (2 * v):=fun k=>by
  induction k with
  | zero =>
   intro v hv _
   obtain rfl:v=0:=by omega
   exact⟨[],AllL.nil,rfl,rfl⟩
  | succ k ih =>
   intro v hv hvl
   by_cases hv0:v=0
   ·subst hv0;exact⟨[],AllL.nil,rfl,rfl⟩
   ·obtain⟨a,b,c⟩:=hpu v (by omega) hvl
    obtain⟨w,w1,w2,w3⟩:=ih (pu v).1 (by omega) (by omega)
    have cL:=aK b
    refine⟨w++[(pu v).2],AllL.app.mpr ⟨w1,fun d hd=>by rw[c6.mp hd];exact cL⟩,by rw[fR,w2];exact c,?_⟩
    rw[fR,w3]
    show g2 g f (2 * (pu v).1) (pu v).2=_
    unfold g2
    rw[if_pos cL,show 2 * (pu v).1 / 2=(pu v).1 by omega,c,tree v (by omega) hvl]
    show some (2 * v+(2 * (pu v).1 % 2+0) % 2)=some (2 * v)
    congr 1
    omega
 obtain⟨p,i,q,hi,hp,hg,_,hcd⟩:=zI h1 h4 ok hx
 obtain⟨_,hq,hcn⟩:=ok.bd _ _ _ hg
 have cL:=aK hcn
 have c1:AllL [97+i]:=fun d hd=>by rw[c6.mp hd];exact cL
 obtain⟨w,w1,w2,w3⟩:=paths p p (c0 _) hp
 obtain⟨u,u1,u2,u3⟩:=paths q q (c0 _) hq
 have lp:dP g 0 (w++([97+i]++back u))=some 0:=by
  rw[eQ,w2]
  show dP g p ([97+i]++back u)=some 0
  rw[eQ,iQ,hg]
  exact ok.sy.back u1 u2
 have lA:AllL (w++([97+i]++back u)):=AllL.app.mpr ⟨w1,AllL.app.mpr ⟨c1,aL u1⟩⟩
 have hgen:=hG _ lA lp (g2 g f) 0 sy2 loops
 have st:g2 g f (2 * p) (97+i)=some (2 * q+1):=by
  unfold g2
  rw[if_pos cL,show 2 * p / 2=p by omega,hg,hcd,hx1]
  show some (2 * q+(2 * p % 2+1) % 2)=some (2 * q+1)
  congr 1
  omega
 have u4:dP (g2 g f) 1 u=some (2 * q+1):=by
  have a0:=vX f (b:=0) u1 (by omega) u2
  have a1:=vX f (b:=1) u1 (by omega) u2
  rw[u3] at a0
  have e:=d9 a0
  rw[show 2 * q+(1+((stp g 0 u).map f).sum) % 2=2 * q+1 by omega] at a1
  exact a1
 have whole:dP (g2 g f) 0 (w++([97+i]++back u))=some 1:=by
  rw[eQ,w3]
  show dP (g2 g f) (2 * p) ([97+i]++back u)=some 1
  rw[eQ,iQ,st]
  exact sy2.back u1 u4
 have:=sy2.lay lA whole
 rw[hgen] at this
 cases this
omit h1 h4 ok in
theorem rK(P:Nat→Bool):∀ l:List Nat,(l.filter P).length+(l.filter fun x=>!P x).length=l.length
 | []=>rfl
 | a::l=>by
  have ih:=rK P l
  rw[aXu,aXu]
  cases P a with
  | true=>simp;omega
  | false=>simp;omega
def oN(pu:Nat→Nat×Nat):Nat→Nat→List Nat
 | 0,_=>[]
 | f+1,v=>if v=0 then [] else oN pu f (pu v).1++[(pu v).2]
omit h1 h4 ok in
theorem mM(pu:Nat→Nat×Nat):∀ f,oN pu f 0=[]
 | 0=>rfl
 | f+1=>if_pos rfl
omit h1 h4 ok in
theorem xQ{pu:Nat→Nat×Nat}(hp:∀ v,0<v→(pu v).1<v):∀ (f v f':Nat),v≤f→v≤f'→oN pu f v=oN pu f' v
 | 0,v,f',h,h'=>by
  obtain rfl:v=0:=by omega
  rw[mM,mM]
 | f+1,v,f',h,h'=>by
  by_cases e:v=0
  ·subst e;rw[mM,mM]
  ·cases f' with
   | zero=>omega
   | succ f' =>
    have:=hp v (by omega)
    unfold oN
    rw[if_neg e,if_neg e,xQ hp f (pu v).1 f' (by omega) (by omega)]
omit h1 h4 ok in
theorem AM{pu:Nat→Nat×Nat}(hc:∀ v,bX (pu v).2):∀ (f v:Nat),AllL (oN pu f v)
 | 0,_=>AllL.nil
 | f+1,v=>by
  unfold oN
  split
  ·exact AllL.nil
  ·exact AllL.app.mpr ⟨AM hc f _,fun d hd=>by rw[c6.mp hd];exact hc v⟩
theorem D9(pr:JV n W g):∃ bs:List (List Nat),bs.length+W.length≤(fC 0 W).length+1∧(∀ b∈bs,AllL b∧dP g 0 b=some 0)∧∀ x,OfN n x→dP g 0 x=some 0→Gen bs (lay x):=by
 have hpos:=ok.pos
 obtain⟨pu,hlt,hlet,hpu⟩:∃ pu:Nat→Nat×Nat,(∀ v,0<v→(pu v).1<v)∧(∀ v,(pu v).2∈aI (n:Nat))∧∀ v,0<v→v<W.length→g (pu v).1 (pu v).2=some v:=by
  have pick:∀ v,∃ uc:Nat×Nat,(0<v→uc.1<v)∧uc.2∈aI (n:Nat)∧(0<v→v<W.length→g uc.1 uc.2=some v):=fun v=>by
   by_cases h:0<v∧v<W.length
   ·obtain⟨u,c,e1,e2,e3⟩:=pr v h.1 h.2
    exact⟨(u,c),fun _=>e1,e2,fun _ _=>e3⟩
   ·exact⟨(0,97),fun a=>a,(gW h1 h4 h1).1,fun a b=>absurd ⟨a,b⟩ h⟩
  exact⟨fun v=>Classical.choose (pick v),fun v=>(aQQ (pick v)).1,fun v=>(aQQ (pick v)).2.1,fun v=>(aQQ (pick v)).2.2⟩
 have hL:∀ v,bX (pu v).2:=fun v=>aK (hlet v)
 have cA:∀ v,AllL (oN pu v v):=fun v=>AM hL v v
 have step:∀ v,0<v→oN pu v v=oN pu (pu v).1 (pu v).1++[(pu v).2]:=fun v hv=>by
  obtain⟨k,rfl⟩:∃ k,v=k+1:=⟨v - 1,by omega⟩
  have:=hlt (k+1) hv
  show (if k+1=0 then [] else oN pu k (pu (k+1)).1++[(pu (k+1)).2])=_
  rw[if_neg (by omega),xQ hlt k (pu (k+1)).1 (pu (k+1)).1 (by omega) (c0 _)]
 have cP:∀ k v,v≤k→v<W.length→dP g 0 (oN pu v v)=some v:=fun k=>by
  induction k with
  | zero =>
   intro v hv _
   obtain rfl:v=0:=by omega
   rfl
  | succ k ih =>
   intro v hv hvl
   by_cases h0:v=0
   ·subst h0;rfl
   ·have a:=hlt v (by omega)
    rw[step v (by omega),fR,ih _ (by omega) (by omega)]
    exact hpu v (by omega) hvl
 have cZ:oN pu 0 0=[]:=rfl
 -- the ways by which places are first come to
 have tEq:∀ v,0<v→v<W.length→∀ p i q,i<n→g p (97+i)=some q→4 * p+i=cdE g (pu v).1 (pu v).2→(p=(pu v).1∧97+i=(pu v).2∧q=v)∨(p=v∧97+i=con (pu v).2∧q=(pu v).1):=fun v v0 vl p i q hi hg e=>by
  have hv:=hpu v v0 vl
  unfold cdE at e
  rcases kJ (hL v) with ⟨a,b,e1,e2⟩ | ⟨a,b,e1,e2⟩
  ·rw[if_pos a] at e
   have l97:97≤(pu v).2:=by
    have:=aO (hL v)
    rcases this with z | z | z | z | z | z | z | z <;> rw[z] at a ⊢ <;> revert a <;> decide
   obtain rfl:p=(pu v).1:=by omega
   have ec:97+i=(pu v).2:=by omega
   rw[ec,hv] at hg
   exact .inl ⟨rfl,ec,(d9 hg).symm⟩
  ·rw[if_neg (by rw[a];exact i8),hv] at e
   have e:4 * p+i=4 * v+((pu v).2 - 65):=e
   have l97:97≤con (pu v).2:=by
    have:=aO (hL v)
    rcases this with z | z | z | z | z | z | z | z <;> rw[z] at a ⊢ <;> revert a <;> decide
   obtain rfl:p=v:=by omega
   have ec:97+i=con (pu p).2:=by omega
   rw[ec,ok.sy _ _ _ (hL p) hv] at hg
   exact .inr ⟨rfl,ec,(d9 hg).symm⟩
 obtain⟨T,hT⟩:∃ T:List Nat,T=(List.range (W.length - 1)).map fun v=>cdE g (pu (v+1)).1 (pu (v+1)).2:=⟨_,rfl⟩
 have tIn:∀ v,0<v→v<W.length→cdE g (pu v).1 (pu v).2∈fC 0 W:=fun v a b=>A5 h1 h4 ok (hL v) (hpu v a b)
 have tMem:∀ x∈T,∃ v,0<v∧v<W.length∧x=cdE g (pu v).1 (pu v).2:=fun x hx=>by
  rw[hT] at hx
  obtain⟨v,hv,rfl⟩:=d5.mp hx
  have:=aQ4.mp hv
  exact⟨v+1,by omega,by omega,rfl⟩
 have tInj:∀ v v',0<v→v<W.length→0<v'→v' < W.length→cdE g (pu v).1 (pu v).2=cdE g (pu v').1 (pu v').2→v=v':=fun v v' a b a' b' e=>by
  obtain⟨p,i,q,hi,hp,hg,ex,_⟩:=zI h1 h4 ok (tIn v a b)
  have l1:=hlt v a
  have l2:=hlt v' a'
  rcases tEq v a b p i q hi hg ex.symm with ⟨z1,_,z3⟩ | ⟨z1,_,z3⟩ <;> rcases tEq v' a' b' p i q hi hg (ex.symm.trans e) with ⟨y1,_,y3⟩ | ⟨y1,_,y3⟩ <;> omega
 have tNd:T.Nodup:=by
  rw[hT]
  refine aXi.mpr (aQt (fun {a b} ha hb hne e=>hne ?_) List.nodup_range)
  have r1:=aQ4.mp ha
  have r2:=aQ4.mp hb
  have:=tInj (a+1) (b+1) (by omega) (by omega) (by omega) (by omega) e
  omega
 have tLen:T.length=W.length - 1:=by rw[hT,b7,aQ0]
 have hle:T.length≤((fC 0 W).filter fun x=>decide (x∈T)).length:=mH tNd fun x hx=>aQB.mpr ⟨by
  obtain⟨v,a,b,rfl⟩:=tMem x hx
  exact tIn v a b,decide_eq_true hx⟩
 have two:=rK (fun x=>decide (x∈T)) (fC 0 W)
 refine⟨((fC 0 W).filter fun x=>!decide (x∈T)).map fun x=>lay (oN pu (x / 4) (x / 4)++([97+x % 4]++back (oN pu ((g (x / 4) (97+x % 4)).getD 0) ((g (x / 4) (97+x % 4)).getD 0)))),by rw[b7];omega,fun b hb=>?_,fun x hx hp=>?_⟩
 ·obtain⟨x,hx,rfl⟩:=d5.mp hb
  obtain⟨p,i,q,hi,hpl,hg,rfl,_⟩:=zI h1 h4 ok (aQB.mp hx).1
  rw[show (4 * p+i) / 4=p by omega,show (4 * p+i) % 4=i by omega,hg]
  show AllL (lay (oN pu p p++([97+i]++back (oN pu q q))))∧_
  have ql:=(ok.bd _ _ _ hg).2.1
  have A:AllL (oN pu p p++([97+i]++back (oN pu q q))):=AllL.app.mpr ⟨cA p,AllL.app.mpr ⟨(fun d hd=>by rw[c6.mp hd];exact aK (ok.bd _ _ _ hg).2.2),aL (cA q)⟩⟩
  refine⟨eM A,ok.sy.lay A ?_⟩
  rw[eQ,cP p p (c0 _) hpl]
  show dP g p ([97+i]++back (oN pu q q))=some 0
  rw[eQ,iQ,hg]
  exact ok.sy.back (cA q) (cP q q (c0 _) ql)
 ·have:=wW (cw:=fun v=>oN pu v v) (over:=((fC 0 W).filter fun x=>!decide (x∈T)).map fun x=>lay (oN pu (x / 4) (x / 4)++([97+x % 4]++back (oN pu ((g (x / 4) (97+x % 4)).getD 0) ((g (x / 4) (97+x % 4)).getD 0))))) h1 h4 ok.sy cA cZ (fun p i q hi hg=>?_) x 0 0 hx hp
  ·rw[cZ] at this
   rw[aJK,show back ([]:List Nat)=[] from rfl,l4] at this
   exact this
  ·have i4:i<4:=by omega
   have hin:=A5 h1 h4 ok (aK (ok.bd _ _ _ hg).2.2) hg
   have ecd:cdE g p (97+i)=4 * p+i:=by
    unfold cdE
    rw[if_pos (gW h1 h4 hi).2.2.1]
    omega
   rw[ecd] at hin
   by_cases ht:4 * p+i∈T
   ·left
    obtain⟨v,v0,vl,e⟩:=tMem _ ht
    rcases tEq v v0 vl p i q hi hg e with ⟨rfl,e2,rfl⟩ | ⟨rfl,e2,rfl⟩
    ·rw[e2,← i6,← step q v0]
     exact dS _ _ rfl (cA q)
    ·rw[e2,step p v0,i6]
     show lay (oN pu (pu p).1 (pu p).1++((pu p).2::con (pu p).2::back (oN pu (pu p).1 (pu p).1)))=[]
     rw[gZ _ _ (cA _) (bQ (hL p)) (aP (hL p)).symm]
     exact dS _ _ rfl (cA _)
   ·right
    refine d5.mpr ⟨4 * p+i,aQB.mpr ⟨hin,by rw[decide_eq_false ht];rfl⟩,?_⟩
    rw[show (4 * p+i) / 4=p by omega,show (4 * p+i) % 4=i by omega,hg]
    rfl
end
def Hn(δ:Nat→Nat→Option Nat)(ls ord:List Nat):Prop:=∀ v,0<v→v<ord.length→∃ u c s t,u<v∧c∈ls∧ord[u]?=some s∧ord[v]?=some t∧δ s c=some t
theorem kH{δ:Nat→Nat→Option Nat}{ls:List Nat}{a s:Nat}:∀ (m ord:List Nat),(∀ c∈m,c∈ls)→ord[a]?=some s→Hn δ ls ord→Hn δ ls (bW (δ s) m ord)∧(bW (δ s) m ord)[a]?=some s
 | [],ord,_,ha,h=>⟨h,ha⟩
 | c::m,ord,hm,ha,h=>by
  have hm':∀ c∈m,c∈ls:=fun d hd=>hm d (c8 _ hd)
  show Hn δ ls (bW (δ s) m (match δ s c with | some g=>if g∈ord then ord else ord++[g] | none=>ord))∧(bW (δ s) m (match δ s c with | some g=>if g∈ord then ord else ord++[g] | none=>ord))[a]?=some s
  cases e:δ s c with
  | none=>exact kH m ord hm' ha h
  | some g =>
   show Hn δ ls (bW (δ s) m (if g∈ord then ord else ord++[g]))∧(bW (δ s) m (if g∈ord then ord else ord++[g]))[a]?=some s
   by_cases hg:g∈ord
   ·rw[if_pos hg]
    exact kH m ord hm' ha h
   ·rw[if_neg hg]
    have al:=(a9.mp ha).1
    refine kH m (ord++[g]) hm' (by rw[l5 al];exact ha) fun v v0 vl=>?_
    rw[c5,u9] at vl
    by_cases hv:v<ord.length
    ·obtain⟨u,d,s',t,h1,h2,h3,h4,h5⟩:=h v v0 hv
     exact⟨u,d,s',t,h1,h2,by rw[l5 (by omega)];exact h3,by rw[l5 hv];exact h4,h5⟩
    ·obtain rfl:v=ord.length:=by omega
     exact⟨a,c,s,g,al,hm c d4,by rw[l5 al];exact ha,by simp,e⟩
theorem sC{δ:Nat→Nat→Option Nat}{ls:List Nat}:∀ (f a:Nat) (ord:List Nat),Hn δ ls ord→Hn δ ls (cB δ ls f a ord)
 | 0,_,_,h=>h
 | f+1,a,ord,h=>by
  unfold cB
  cases e:ord[a]? with
  | none=>exact h
  | some s=>exact sC f (a+1) _ (kH ls ord (fun _ h=>h) e h).1
theorem vW{rs:List (List Nat)}{ρ:Nat→Nat}{δ:Nat→Nat→Option Nat}{n:Nat}(n1:1≤n)(n4:n≤4)(a:Aut rs ρ δ 0)(ha:∀ x∈rs,AllL x){g:Nat→Nat→Option Nat}(ok:WebOk n (dO δ n (ρ 0) 1000) g):JV n (dO δ n (ρ 0) 1000) g:=fun v v0 vl=>by
 have sy:=vG a ha
 have pr:=sC (δ:=δ) (ls:=aI (n:Nat)) 1000 0 [ρ 0] (fun v a b=>by simp at b;omega)
 have nd:=qH δ (aI (n:Nat)) 1000 0 [ρ 0] (by simp)
 unfold dO at vl ok
 dsimp only at vl ok
 rw[b7] at vl
 generalize cB δ (aI (n:Nat)) 1000 0 [ρ 0]=ord at pr nd vl ok
 obtain⟨u,c,s,t,h1,h2,h3,h4,h5⟩:=pr v v0 vl
 have cL:=aK h2
 have low:∀ {u v s t c:Nat},c∈aI (n:Nat)→aY c=true→ord[u]?=some s→ord[v]?=some t→δ s c=some t→g u c=some v:=fun {u v s t c} hc hl hu hv e=>by
  obtain⟨i,hi,rfl⟩:=jW n1 n4 hc hl
  refine ok.lo u i _ _ (by rw[c9,hu];rfl) ?_
  unfold jU
  rw[c9,Al n4 hi]
  show some ((δ s (97+i)).map fun g=>ord.idxOf g)=_
  rw[e]
  show some (some (ord.idxOf t))=_
  rw[vR nd hv]
 refine⟨u,c,h1,h2,?_⟩
 by_cases hl:aY c=true
 ·exact low h2 hl h3 h4 h5
 ·have:=low (cE (n:=(n:Nat)) (by omega) (by omega) h2) (by rw[iL cL];simpa using hl) h4 h3 (sy s c t cL h5)
  have:=ok.sy _ _ _ (bQ cL) this
  rw[aP cL] at this
  exact this
theorem FE(rs:List (List Nat)):∃ (ρ:Nat→Nat) (δ:Nat→Nat→Option Nat),Aut rs ρ δ 0:=by
 have rep:∃ ρ:Nat→Nat,∀ x y,ρ x=ρ y↔Rel (cT 1 rs) x y:=by
  have ex:∀ x,Rel (cT 1 rs) x (Classical.epsilon fun y=>Rel (cT 1 rs) x y):=fun x=>Classical.epsilon_spec (p:=fun y=>Rel (cT 1 rs) x y) ⟨x,.refl x⟩
  refine⟨fun x=>Classical.epsilon fun y=>Rel (cT 1 rs) x y,fun x y=>⟨fun e=>?_,fun h=>?_⟩⟩
  ·have e:(Classical.epsilon fun z=>Rel (cT 1 rs) x z)=Classical.epsilon fun z=>Rel (cT 1 rs) y z:=e
   have h1:=ex x
   rw[e] at h1
   exact h1.trans (ex y).symm
  ·have:(fun z=>Rel (cT 1 rs) x z)=fun z=>Rel (cT 1 rs) y z:=funext fun z=>propext ⟨fun k=>h.symm.trans k,fun k=>h.trans k⟩
   show (Classical.epsilon fun z=>Rel (cT 1 rs) x z)=_
   rw[this]
 obtain⟨ρ,hρ⟩:=rep
 have dl:∃ δ:Nat→Nat→Option Nat,∀ s c t,δ s c=some t↔∃ p q,cT 1 rs p c q∧ρ p=s∧ρ q=t:=by
  have pick:∀ s c,∃ o:Option Nat,∀ t,o=some t↔∃ p q,cT 1 rs p c q∧ρ p=s∧ρ q=t:=fun s c=>by
   by_cases h:∃ p q,cT 1 rs p c q∧ρ p=s
   ·obtain⟨p,q,h1,h2⟩:=h
    refine⟨some (ρ q),fun t=>⟨fun e=>⟨p,q,h1,h2,d9 e⟩,fun ⟨p',q',k1,k2,k3⟩=>?_⟩⟩
    rw[← k3,(hρ q q').mpr (.go ((hρ p p').mp (h2.trans k2.symm)) h1 k1)]
   ·exact⟨none,fun t=>⟨(fun e=>by cases e),fun ⟨p,q,k1,k2,_⟩=>absurd ⟨p,q,k1,k2⟩ h⟩⟩
  exact⟨fun s c=>Classical.choose (pick s c),fun s c=>aQQ (pick s c)⟩
 obtain⟨δ,hδ⟩:=dl
 exact⟨ρ,δ,hρ,fun p c q h=>(hδ _ _ _).mpr ⟨p,q,h,rfl,rfl⟩,fun s c t h=>(hδ s c t).mp h⟩
theorem Ed{rs:List (List Nat)}(ha:∀ x∈rs,AllL x){w:List Nat}(h:Gen rs w):Ej rs (lay w):=by
 obtain⟨ρ,δ,a⟩:=FE rs
 exact jY ha a (h δ (ρ 0) (vG a ha) fun y hy=>qS a hy)
section
variable {n:Nat}(n1:1≤n)(n4:n≤4)
include n1 n4
theorem oT{W:List (List (Option Nat))}{g:Nat→Nat→Option Nat}(ok:WebOk n W g):∀ {w:List Nat} {p q:Nat},dP g p w=some q→OfN n w
 | [],_,_,_=>fun c hc=>nomatch hc
 | c::w,p,q,h=>by
  obtain⟨m,e1,e2⟩:=p5.mp (show (g p c).bind (fun q=>dP g q w)=some q from h)
  intro d hd
  rcases c7.mp hd with rfl | hd
  ·exact(ok.bd _ _ _ e1).2.2
  ·exact oT ok e2 d hd
theorem sU{f rs:List (List Nat)}{M:Nat}(rf:RT f n M)(hof:∀ x∈f,OfN n x)
  {ρ ρ':Nat→Nat} {δ δ':Nat→Nat→Option Nat} (a:Aut rs ρ δ 0) (b:Aut (rs.map (retl f)) ρ' δ' 0) (ho:∀ x∈rs,OfN n x∧aW x) (l1:(dO δ n (ρ 0) 1000).length≤900) (l2:(dO δ' n (ρ' 0) 1000).length≤900) :
  (fC 0 (dO δ' n (ρ' 0) 1000)).length+(dO δ n (ρ 0) 1000).length≤(fC 0 (dO δ n (ρ 0) 1000)).length+(dO δ' n (ρ' 0) 1000).length:=by
 have ha:∀ x∈rs,AllL x:=fun x hx=>(ho x hx).1.all
 have hb:∀ x∈rs.map (retl f),OfN n x:=fun x hx=>by
  obtain⟨y,hy,rfl⟩:=d5.mp hx
  exact fN n1 n4 hof y
 have hbA:∀ x∈rs.map (retl f),AllL x:=fun x hx=>(hb x hx).all
 obtain⟨g,ok,_,hg,_⟩:=iR n1 n4 a (fun x hx=>(ho x hx).1) l1
 obtain⟨g',ok',hg'l,hg',_⟩:=iR n1 n4 b hb l2
 obtain⟨bs,bl,bp,bg⟩:=D9 n1 n4 ok (vW n1 n4 a ha ok)
 have bJ:∀ y∈bs,Ej rs (lay y):=fun y hy=>jY ha a ((hg y).mp (bp y hy).2)
 have hlay:∀ y∈bs,OfN n y:=fun y hy=>oT n1 n4 ok (bp y hy).2
 have r:=Au n1 n4 ok' (vW n1 n4 b hbA ok') (rs:=bs.map (retl f)) (fun y hy=>?_) (fun x hx hp=>?_)
 ·rw[b7] at r
  omega
 ·obtain⟨z,hz,rfl⟩:=d5.mp hy
  refine⟨iK rf z,?_⟩
  have:=pZ rf ha (bJ z hz)
  rw[kC rf (bp z hz).1] at this
  exact ok'.sy.joi hbA hg'l this
 ·-- what the second reads comes of the retold words,so of the retold basis
  have hxn:=oT n1 n4 ok' hp
  have j1:=jY hbA b ((hg' x).mp hp)
  have bsA:∀ y∈bs,AllL y:=fun y hy=>(bp y hy).1
  have rsG:∀ y∈rs,Gen bs y:=fun y hy=>by
   have:=bg y (ho y hy).1 ((hg y).mpr (qS a hy))
   rwa [dZ (ho y hy).2] at this
  have bfA:∀ y∈bs.map (retl f),AllL y:=fun y hy=>by
   obtain⟨z,_,rfl⟩:=d5.mp hy
   exact iK rf z
  refine(Gen.joi hbA j1).trans fun y hy=>?_
  obtain⟨z,hz,rfl⟩:=d5.mp hy
  have j2:=Ed bsA (rsG z hz)
  rw[dZ (ho z hz).2] at j2
  exact Gen.joi bfA (pZ rf bsA j2)
theorem nG{f rs:List (List Nat)}{M:Nat}(rf:RT f n M)(hof:∀ x∈f,OfN n x){ρ ρ':Nat→Nat}{δ δ':Nat→Nat→Option Nat}(a:Aut rs ρ δ 0)(b:Aut (rs.map (retl f)) ρ' δ' 0)(ha:∀ x∈rs,AllL x)
  {w:List Nat} (hw:aW w) (h:dP δ (ρ 0) w=some (ρ 0)):dP δ' (ρ' 0) (retl f w)=some (ρ' 0):=by
 have j:=jY ha a h
 rw[dZ hw] at j
 have hbA:∀ x∈rs.map (retl f),AllL x:=fun x hx=>by
  obtain⟨z,_,rfl⟩:=d5.mp hx
  exact iK rf z
 exact Gen.joi hbA (pZ rf ha j) δ' (ρ' 0) (vG b hbA) fun y hy=>qS b hy
end
end Lw
namespace L2
open PySem PySem.Spec PyProof.Rows
def pI(sc0 scope:Scope)(N:List Str)(x:Str)(ix:List Nat):Bool:=kP sc0 scope N x ix && sc0.names.all (fun y=>decide (y.2≠.cell))
theorem sB{X:Cx}{scope0:Scope}{x0:Str}{ix0:List Nat}{fp:List Addr}{s:Shared}{H:Hp}{scope:Scope}{N:List Str}{x:Str}{ix:List Nat}(h:pI scope0 scope N x ix=true)(e2:(bO X scope0 x0 ix0 fp s H).N=N):CompSc (bO X scope0 x0 ix0 fp s H) scope x ix∧(oE (bO X scope0 x0 ix0 fp s H) x ix).Nodup:=by
 subst e2
 simp only [pI,kP,aQE,aQL,decide_eq_true_eq] at h
 obtain⟨⟨⟨⟨⟨⟨⟨h1,h2⟩,h3⟩,h4⟩,h5⟩,h6⟩,h7⟩,h8⟩:=h
 refine⟨⟨h1,h2,h3,h4,fun y hy hf=>?_,h6⟩,h7⟩
 have hfr:scope0.names.lookup y.1=some .free:=by
  rcases h5 y hy hf with z | z
  ·exact absurd rfl (h8 _ (p8 z))
  ·exact z
 exact iU (env:=X.env) hfr
theorem BV{X:Cx}{scope0:Scope}{x0:Str}{ix0:List Nat}{fp:List Addr}{s:Shared}{H:Hp}{scope:Scope}{N:List Str}{x:Str}{ix:List Nat}{px pos:Pos}{elt iter:Expr}{ifs:List Expr}{wi:TI}{ti:TT}{te:TE}(h:pI scope0 scope N x ix=true)(e2:(bO X scope0 x0 ix0 fp s H).N=N)(hc:X.calm=true)
  (hi:PI (bO X scope0 x0 ix0 fp s H) (.Name x px) iter wi) (hif:∀ fp' s' H',xE (bO (bO X scope0 x0 ix0 fp s H) scope x ix fp' s' H') ifs ti) (he:∀ fp' s' H',PE (bO (bO X scope0 x0 ix0 fp s H) scope x ix fp' s' H') elt te)
  (hs:∀ z,foldedSetIterable iter (bO X scope0 x0 ix0 fp s H).env z=pure z:=by intro _;rfl):PE (bO X scope0 x0 ix0 fp s H) (.ListComp elt [⟨.Name x px,iter,ifs,0⟩] scope pos) (AA wi ix ti te) :=
 Ap (sB h e2).1 (sB h e2).2 hc hi hif he hs
end L2
namespace Lw
open PySem PySem.Spec PyProof.Rows L2 Ma MaR
inductive spMoreW(vs:List V)(H:Hp)(Q:VK)(E:XK):Prop
 | mk (r:Addr) (W:List (List (Option Nat))) (n:Nat) (_:vs=[.ref r]) (_:IsWebV H r W) (_:W.length≤900) (_:∀ row∈W,row.length=n) (_:n≤4) (_:∀ H',Same H H'→Q (.int (((fC 0 W).length:Nat) - (W.length:Nat)+1)) H'):spMoreW vs H Q E
def rL(W:List (List (Option Nat))):Prop:=W.length=1∧∀ row,W[0]?=some row→none ∉ row
section
variable {n:Nat}(n1:1≤n)(n4:n≤4)
include n1 n4
theorem qG{W:List (List (Option Nat))}{g:Nat→Nat→Option Nat}(h:∀ c∈aI (n:Nat),dP g 0 [c]=some 0):∀ {w:List Nat},OfN n w→dP g 0 w=some 0
 | [],_=>rfl
 | c::w,hw=>by
  have h1:=h c (hw c d4)
  rw[iQ] at h1
  show (g 0 c).bind (fun q=>dP g q w)=some 0
  rw[h1]
  exact qG (W:=W) h fun d hd=>hw d (c8 _ hd)
theorem qX{W:List (List (Option Nat))}{g:Nat→Nat→Option Nat}(ok:WebOk n W g)(re:∀ p,p<W.length→∃ w,dP g 0 w=some p):rL W↔∀ c∈aI (n:Nat),dP g 0 [c]=some 0:=by
 constructor
 ·rintro⟨hl,hn⟩ c hc
  rw[iQ]
  obtain⟨row,hrow⟩:∃ row,W[0]?=some row:=⟨_,b0 (by omega)⟩
  have hr:=ok.len row (b6 hrow)
  have low:∀ {d:Nat},d∈aI (n:Nat)→aY d=true→g 0 d=some 0:=fun {d} hd hlo=>by
   obtain⟨i,hi,rfl⟩:=jW n1 n4 hd hlo
   obtain⟨o,ho⟩:∃ o,row[i]?=some o:=⟨_,b0 (by omega)⟩
   have e:=ok.lo 0 i row o hrow ho
   cases o with
   | none=>exact absurd (b6 ho) (hn row hrow)
   | some q =>
    have:=(ok.bd _ _ _ e).2.1
    rw[e,show q=0 by omega]
  have cL:=aK hc
  by_cases hlo:aY c=true
  ·exact low hc hlo
  ·have:=ok.sy _ _ _ (bQ cL) (low (cE (n:=(n:Nat)) (by omega) (by omega) hc) (by rw[iL cL];simpa using hlo))
   rwa [aP cL] at this
 ·intro h
  have hpos:=ok.pos
  have hl:W.length=1:=by
   refine aXn fun hne=>?_
   obtain⟨w,hw⟩:=re 1 (by omega)
   have:=qG n1 n4 (W:=W) h (oT n1 n4 ok hw)
   rw[hw] at this
   cases this
  refine⟨hl,fun row hrow hnone=>?_⟩
  obtain⟨i,hi⟩:=o9 hnone
  have hr:=ok.len row (b6 hrow)
  have hin:i<n:=by have:=(a9.mp hi).1;omega
  have e:=ok.lo 0 i row none hrow hi
  have:=h (97+i) (gW n1 n4 hin).1
  rw[iQ,e] at this
  cases this
theorem Dz{W:List (List (Option Nat))}{g:Nat→Nat→Option Nat}(ok:WebOk n W g)(h:rL W):(fC 0 W).length=n:=by
 obtain⟨hl,hn⟩:=h
 obtain⟨row,rfl⟩:∃ row,W=[row]:=aXB.mp hl
 have hr:=ok.len row (c6.mpr rfl)
 rw[rF,g9,aXN,u8,List.sum_nil,aXr,← hr]
 congr 1
 refine aZ3.mpr fun o ho=>?_
 cases o with
 | none=>exact absurd ho (hn row rfl)
 | some q=>rfl
theorem oS{f fb:List (List Nat)}{A B:Nat}(iv:IvG n f fb A B){w:List Nat}(hw:OfN n w)(hp:aW w):retl fb (retl f w)=w:=by
 rw[← rY iv.rt iv.bt,iv.there,tN n1 n4 hw hp]
theorem FQ{f fb:List (List Nat)}{A B:Nat}(iv:IvG n f fb A B){rs:List (List Nat)}(ho:∀ x∈rs,OfN n x∧aW x):(rs.map (retl f)).map (retl fb)=rs:=by
 rw[p7]
 conv=>rhs;rw[← aZI rs]
 exact p9 fun x hx=>oS n1 n4 iv (ho x hx).1 (ho x hx).2
theorem CP{f:List (List Nat)}{M:Nat}(rf:RT f n M){w:List Nat}(hw:OfN n w):Ej f (retl f w):=by
 refine⟨w.map (tell f),fun x hx=>?_,?_⟩
 ·obtain⟨c,hc,rfl⟩:=d5.mp hx
  have hcn:=hw c hc
  unfold tell
  have key:∀ i,i<n→f.getD i []∈f:=fun i hi=>by
   rw[b8,b0 (by rw[rf.len];exact hi)]
   exact aQF _
  by_cases lw:aY c=true
  ·rw[if_pos lw]
   obtain⟨j,hj,rfl⟩:=jW n1 n4 hcn lw
   exact⟨_,key _ (by omega),.inl rfl⟩
  ·rw[if_neg lw]
   have cL:=aK hcn
   obtain⟨j,hj,e⟩:=jW n1 n4 (cE (n:=(n:Nat)) (by omega) (by omega) hcn) (by rw[iL cL];simpa using lw)
   have:c - 65=j:=by
    rcases kJ cL with ⟨a,_⟩ | ⟨_,_,e2,_⟩
    ·exact absurd a lw
    ·omega
   exact⟨_,key _ (by omega),.inr rfl⟩
 ·unfold retl told
  rw[aJB]
theorem sL{f fb rs:List (List Nat)}{A B:Nat}(iv:IvG n f fb A B){ρ ρ':Nat→Nat}{δ δ':Nat→Nat→Option Nat}(a:Aut rs ρ δ 0)(b:Aut (rs.map (retl f)) ρ' δ' 0)(ho:∀ x∈rs,OfN n x∧aW x)(l1:(dO δ n (ρ 0) 1000).length≤900)(l2:(dO δ' n (ρ' 0) 1000).length≤900)
  (h:rL (dO δ n (ρ 0) 1000)):rL (dO δ' n (ρ' 0) 1000):=by
 have hb:∀ x∈rs.map (retl f),OfN n x:=fun x hx=>by
  obtain⟨y,hy,rfl⟩:=d5.mp hx
  exact fN n1 n4 (fun z hz=>(iv.ro z hz).1) y
 obtain⟨g,ok,_,hg,re⟩:=iR n1 n4 a (fun x hx=>(ho x hx).1) l1
 obtain⟨g',ok',_,hg',re'⟩:=iR n1 n4 b hb l2
 refine(qX n1 n4 ok' re').mpr fun c hc=>?_
 have hall:=(qX n1 n4 ok re).mp h
 have c1:OfN n [c]:=fun d hd=>by rw[c6.mp hd];exact hc
 have wO:=fN n1 n4 (fun z hz=>(iv.bo z hz).1) [c]
 have rd:=(hg _).mp (qG n1 n4 (W:=dO δ n (ρ 0) 1000) hall wO)
 have:=nG n1 n4 iv.rt (fun z hz=>(iv.ro z hz).1) a b (fun x hx=>(ho x hx).1.all) (w:=retl fb [c]) (dW _) rd
 rw[oS n1 n4 iv.symm c1 trivial] at this
 exact(hg' _).mpr this
theorem Bg{f fb rs:List (List Nat)}{A B:Nat}(iv:IvG n f fb A B){ρ ρ':Nat→Nat}{δ δ':Nat→Nat→Option Nat}(a:Aut rs ρ δ 0)(b:Aut (rs.map (retl f)) ρ' δ' 0)(ho:∀ x∈rs,OfN n x∧aW x)(l1:(dO δ n (ρ 0) 1000).length≤900)(l2:(dO δ' n (ρ' 0) 1000).length≤900) :
  (fC 0 (dO δ' n (ρ' 0) 1000)).length+(dO δ n (ρ 0) 1000).length=(fC 0 (dO δ n (ρ 0) 1000)).length+(dO δ' n (ρ' 0) 1000).length∧(rL (dO δ n (ρ 0) 1000)↔rL (dO δ' n (ρ' 0) 1000))∧(fC 0 (dO δ n (ρ 0) 1000)).length+1≤rs.length+(dO δ n (ρ 0) 1000).length ∧
  ∀ w,OfN n w→aW w→(dP δ (ρ 0) w=some (ρ 0)↔dP δ' (ρ' 0) (retl f w)=some (ρ' 0)):=by
 have fo:∀ x∈f,OfN n x:=fun z hz=>(iv.ro z hz).1
 have bo:∀ x∈fb,OfN n x:=fun z hz=>(iv.bo z hz).1
 have ho':∀ x∈rs.map (retl f),OfN n x∧aW x:=fun x hx=>by
  obtain⟨y,hy,rfl⟩:=d5.mp hx
  exact⟨fN n1 n4 fo y,dW _⟩
 have ha:∀ x∈rs,AllL x:=fun x hx=>(ho x hx).1.all
 have e:=FQ n1 n4 iv ho
 have a':Aut ((rs.map (retl f)).map (retl fb)) ρ δ 0:=by rw[e];exact a
 refine⟨Nat.le_antisymm (sU n1 n4 iv.rt fo a b ho l1 l2) (sU n1 n4 iv.bt bo b a' ho' l2 l1),⟨sL n1 n4 iv a b ho l1 l2,sL n1 n4 iv.symm b a' ho' l2 l1⟩,?_,fun w hw hp=>⟨nG n1 n4 iv.rt fo a b ha hp,fun h=>?_⟩⟩
 ·obtain⟨g,ok,hgl,hg,_⟩:=iR n1 n4 a (fun x hx=>(ho x hx).1) l1
  exact Au n1 n4 ok (vW n1 n4 a ha ok) (fun r hr=>⟨ha r hr,hgl r hr⟩) fun x hx hp=>Gen.joi ha (jY ha a ((hg x).mp hp))
 ·have:=nG n1 n4 iv.bt bo b a' (fun x hx=>(ho' x hx).1.all) (w:=retl f w) (dW _) h
  rw[oS n1 n4 iv hw hp] at this
  exact this
theorem tP{f fb:List (List Nat)}{A B:Nat}(iv:IvG n f fb A B){ρ:Nat→Nat}{δ:Nat→Nat→Option Nat}(a:Aut f ρ δ 0)(l1:(dO δ n (ρ 0) 1000).length≤900):(dO δ n (ρ 0) 1000).length=1∧(fC 0 (dO δ n (ρ 0) 1000)).length=n:=by
 have fo:∀ x∈f,OfN n x:=fun z hz=>(iv.ro z hz).1
 obtain⟨g,ok,hgl,hg,re⟩:=iR n1 n4 a fo l1
 have hF:=(qX n1 n4 ok re).mpr fun c hc=>by
  have c1:OfN n [c]:=fun d hd=>by rw[c6.mp hd];exact hc
  have j:=CP n1 n4 iv.rt (fN n1 n4 (fun z hz=>(iv.bo z hz).1) [c])
  rw[oS n1 n4 iv.symm c1 trivial] at j
  exact ok.sy.joi (fun x hx=>(fo x hx).all) hgl j
 exact⟨hF.1,Dz n1 n4 ok hF⟩
end
def mC(W:List (List (Option Nat))):Bool:=decide (W.length=1) && !decide (none∈W.headD [])
theorem tE(W:List (List (Option Nat))):mC W=true↔rL W:=by
 unfold mC rL
 cases W with
 | nil=>simp
 | cons row W =>
  simp only [List.headD_cons,aZB,aKD,forall_eq',aQE,decide_eq_true_eq,aXh,decide_eq_false_iff_not]
  exact⟨fun h=>⟨h.1,of_decide_eq_false h.2⟩,fun h=>⟨h.1,decide_eq_false h.2⟩⟩
theorem B3{W W':List (List (Option Nat))}(h:rL W↔rL W'):mC W=mC W':=by
 rw[aQd,tE,tE]
 exact h
theorem AY:∀ row:List (Option Nat),Fe .non (row.map lQ)=decide (none∈row)
 | []=>rfl
 | o::row=>by
  have ih:=AY row
  unfold Fe at ih ⊢
  rw[g9,aQq,ih]
  cases o with
  | none=>rw[decide_eq_true d4];rfl
  | some q =>
   rw[show pU (lQ (some q)) V.non=false from rfl,aJX]
   exact decide_eq_decide.mpr ⟨c8 _,fun h=>(c7.mp h).elim (fun e=>nomatch e) id⟩
theorem wE:∀ row:List (Option Nat),(row.map lQ).all gN=true
 | []=>rfl
 | o::row=>by
  rw[g9,aXb,wE row]
  cases o <;> rfl
theorem uG{K:b5}{H:Hp}{r:Addr}{W:List (List (Option Nat))}{i:Nat}{σ:L2.St}{Q:VK}(hσ:σ[i]?=some (some (.ref r)))(w:IsWebV H r W)(hk:Q (.bl (mC W)) H) :
  Fi (Ga Km (JJ (fun xs H Q=>Rcall_len_seq K xs H Q) (Aw (vT i) BH)) (tC (V.int 1))) (Ga (HR K true) (tC V.non) (Ga (FM K) (vT i) (tC (V.int 0)))) σ H Q:=by
 obtain⟨qs,er,hql,hrow⟩:=id w
 refine⟨.ref r,hσ,r,_,rfl,.inr (SqT.of er),rfl,_,rfl,?_⟩
 rw[b7,hql]
 by_cases h1:W.length=1
 ·refine Ht (decide_eq_true (by rw[h1];rfl)) ?_
  obtain⟨row,rfl⟩:=aXB.mp h1
  obtain⟨q,rfl⟩:=aXB.mp (hql.trans h1)
  refine⟨.ref r,hσ,r,_,0,.ref q,rfl,rfl,SqT.of er,rfl,q,row.map lQ,rfl,.inr (SqT.of (hrow 0 q row rfl rfl)),rfl,wE row,?_⟩
  rw[if_pos rfl,AY]
  have:mC [row]=!decide (none∈row):=by
   unfold mC
   rw[decide_eq_true (show [row].length=1 from rfl),Bool.true_and]
   rfl
  rw[← this]
  exact hk
 ·refine pS (decide_eq_false (fun z=>h1 (by have:=V.int.inj z;omega))) ?_
  have:mC W=false:=by unfold mC;rw[decide_eq_false h1,aJN]
  rw[← this]
  exact hk
end Lw
namespace Lw
open PySem PySem.Spec PyProof.Rows L2 Ma
def gL(i:Nat):Stmt:=PySem.Challenge.pw_newletters_k20_whole_webs_of_what_is_ret.main.body.getD i (.Pass ⟨0,0,0,0⟩)
abbrev Ig(x:Str)(st:Stmt)(kV dc pm:Value)(an:Option Addr)(cd ct:Value):FuncData:=PySem.W.fnOf x x (eR st) (eK st) (aG st) .none kV dc pm an cd ct
theorem Kt{K:b5}{mg:Str→Option Value}{x:Str}{st:Stmt}{ps:List Str}{f:Addr}{oc:Value}{od an:Option Addr}{osl:Array (Option Value)}{kV doc pm cdv ct:Value}(l:K.lookup f=some ⟨oc,od,.func (Ig x st kV doc pm an cdv ct),osl⟩)
  (c:PySem.W.codeIn K cdv x=true) (k:PySem.W.keepIn K (.ref f)=true) (m:mg x=some (.ref f)) (h:∀ (kV doc pm:Value) (an:Option Addr) (cdv ct:Value) (us:List Value),us.length=ps.length→bindArgs (Ig x st kV doc pm an cdv ct) ⟨us,[]⟩=pure (ps.zip us)):Df K mg x st ps f (Ig x st kV doc pm an cdv ct) :=
 ⟨nA l c k,(nA l c k).binds h,m⟩
abbrev CJ:Stmt:=gL 0
theorem Gn:FnScope ["k"] ["k"] (aG CJ):=gM (by decide +kernel)
abbrev FT:Stmt:=gL 4
theorem HP:FnScope ["n"] ["n"] (aG FT):=gM (by decide +kernel)
abbrev FP:Stmt:=gL 5
theorem IB:FnScope ["n"] ["n"] (aG FP):=gM (by decide +kernel)
abbrev GT:Stmt:=gL 6
theorem HJ:FnScope ["letter"] ["letter"] (aG GT):=gM (by decide +kernel)
abbrev F9:Stmt:=gL 8
theorem sc_z9:FnScope ["text","kept","letter"] ["text"] (aG F9):=gM (by decide +kernel)
abbrev EQ:Stmt:=gL 9
theorem HX:FnScope ["word"] ["word"] (aG EQ):=gM (by decide +kernel)
abbrev B8:Stmt:=gL 10
theorem Gz:FnScope ["one","other"] ["one","other"] (aG B8):=gM (by decide +kernel)
abbrev Gf:Stmt:=kW (gL 12) 0
theorem Hx:FnScope ["self"] ["self"] (aG Gf):=gM (by decide +kernel)
abbrev Fl:Stmt:=kW (gL 12) 1
theorem sc_zw:FnScope ["self","place","told","above"] ["self","place","told"] (aG Fl):=gM (by decide +kernel)
abbrev Hd:Stmt:=kW (gL 12) 2
theorem IF:FnScope ["self","place"] ["self","place"] (aG Hd):=gM (by decide +kernel)
abbrev FJ:Stmt:=kW (gL 12) 3
theorem sc_zq:FnScope ["self","head","letter","way"] ["self","head","letter"] (aG FJ):=gM (by decide +kernel)
abbrev FX:Stmt:=kW (gL 12) 4
theorem sc_zf:FnScope ["self","place"] ["self"] (aG FX):=gM (by decide +kernel)
abbrev Fu:Stmt:=kW (gL 12) 5
theorem sc_zs:FnScope ["self","place","letter","goal","told","known"] ["self","place","letter","goal","told"] (aG Fu):=gM (by decide +kernel)
abbrev G_:Stmt:=kW (gL 12) 6
theorem sc_zo:FnScope ["self","word","told","here","number","letter","is_last","goal","part"] ["self","word","told"] (aG G_):=gM (by decide +kernel)
abbrev GD:Stmt:=kW (gL 12) 7
theorem sc_zk:FnScope ["self","head","above","turn","letter","way"] ["self","head","above","turn"] (aG GD):=gM (by decide +kernel)
abbrev F_:Stmt:=kW (gL 12) 8
theorem sc_z1:FnScope ["self","pair","one","other"] ["self"] (aG F_):=gM (by decide +kernel)
abbrev FK:Stmt:=kW (gL 12) 9
theorem HV:FnScope ["self","letter"] ["self","letter"] (aG FK):=gM (by decide +kernel)
abbrev FF:Stmt:=gL 13
theorem sc_zd:FnScope ["n","weave","heads","numbers","done","letter","goal"] ["n","weave"] (aG FF):=gM (by decide +kernel)
abbrev B7:Stmt:=gL 14
theorem sc_z0:FnScope ["n","weave","numbers","head","goals"] ["n","weave","numbers","head"] (aG B7):=gM (by decide +kernel)
abbrev Am:Stmt:=gL 15
theorem sc_zi1:FnScope ["n","words","weave","word","numbers"] ["n","words"] (aG Am):=gM (by decide +kernel)
abbrev GN:Stmt:=gL 16
theorem sc_zn:FnScope ["web","ways","place","goals","letter","goal"] ["web"] (aG GN):=gM (by decide +kernel)
abbrev Cu:Stmt:=gL 17
theorem sc_ze1:FnScope ["web","word","ways","here","letter"] ["web","word"] (aG Cu):=gM (by decide +kernel)
abbrev F0:Stmt:=gL 19
theorem sc_zj:FnScope ["retelling","told","letter","word"] ["retelling"] (aG F0):=gM (by decide +kernel)
abbrev AS:Stmt:=gL 20
theorem sc_zh1:FnScope ["retelling","word","told"] ["retelling","word"] (aG AS):=gM (by decide +kernel)
abbrev Gv:Stmt:=gL 22
theorem Iw:FnScope ["_law_script"] ["_law_script"] (aG Gv):=gM (by decide +kernel)
abbrev Ha:Stmt:=gL 23
theorem sc_z6:FnScope ["_law_flow_here","_law_many","_law_cell","_law_digit"] ["_law_flow_here","_law_many"] (aG Ha):=gM (by decide +kernel)
abbrev F6:Stmt:=gL 24
theorem Jc:FnScope ["_law_n"] ["_law_n"] (aG F6):=gM (by decide +kernel)
abbrev FV:Stmt:=gL 25
theorem IE:FnScope ["_law_letter"] ["_law_letter"] (aG FV):=gM (by decide +kernel)
abbrev AT:Stmt:=gL 26
theorem Gh:FnScope ["_law_word_here"] ["_law_word_here"] (aG AT):=gM (by decide +kernel)
abbrev AW:Stmt:=gL 27
theorem Fq:FnScope ["_law_word_here"] ["_law_word_here"] (aG AW):=gM (by decide +kernel)
abbrev C5:Stmt:=gL 28
theorem sc_zd1:FnScope ["_law_text","_law_found","_law_letter"] ["_law_text"] (aG C5):=gM (by decide +kernel)
abbrev Ev:Stmt:=gL 29
theorem sc_z4:FnScope ["_law_flow_here","_law_n","_law_most","_law_found","_law_letters_here","_law_k","_law_some"] ["_law_flow_here","_law_n","_law_most"] (aG Ev):=gM (by decide +kernel)
abbrev FH:Stmt:=gL 30
theorem sc_z2:FnScope ["_law_retelling","_law_word_here","_law_found","_law_letter","_law_told"] ["_law_retelling","_law_word_here"] (aG FH):=gM (by decide +kernel)
abbrev AU:Stmt:=gL 31
theorem GV:FnScope ["_law_one","_law_other"] ["_law_one","_law_other"] (aG AU):=gM (by decide +kernel)
abbrev CT:Stmt:=gL 32
theorem FI:FnScope ["_law_n"] ["_law_n"] (aG CT):=gM (by decide +kernel)
abbrev FZ:Stmt:=gL 33
theorem sc_ze:FnScope ["_law_flow_here","_law_n","_law_letter","_law_side","_law_other"] ["_law_flow_here","_law_n"] (aG FZ):=gM (by decide +kernel)
abbrev GX:Stmt:=gL 34
theorem sc_zg:FnScope ["_law_n","_law_change","_law_letter","_law_side","_law_found","_law_other","_law_told"] ["_law_n","_law_change"] (aG GX):=gM (by decide +kernel)
abbrev EA:Stmt:=gL 35
theorem sc_zh:FnScope ["_law_change","_law_letter","_law_side","_law_other"] ["_law_change"] (aG EA):=gM (by decide +kernel)
abbrev DS:Stmt:=gL 36
theorem sc_zu:FnScope ["_law_flow_here","_law_n","_law_steps","_law_most","_law_found","_law_back_here","_law_k","_law_change","_law_further","_law_further_back"] ["_law_flow_here","_law_n","_law_steps","_law_most"] (aG DS):=gM (by decide +kernel)
abbrev F7:Stmt:=gL 37
theorem sc_zv:FnScope ["_law_flow_here","_law_n","_law_left","_law_found","_law_k","_law_letter"] ["_law_flow_here","_law_n"] (aG F7):=gM (by decide +kernel)
abbrev GY:Stmt:=gL 38
theorem sc_zi:FnScope ["_law_flow_here","_law_some","_law_many","_law_text","_law_k","_law_one"] ["_law_flow_here","_law_some","_law_many"] (aG GY):=gM (by decide +kernel)
abbrev Bh:Stmt:=gL 39
theorem sc_zm:FnScope ["_law_flow_here","_law_n","_law_most","_law_letters_here","_law_base","_law_found","_law_k","_law_g"] ["_law_flow_here","_law_n","_law_most","_law_letters_here"] (aG Bh):=gM (by decide +kernel)
abbrev D1:Stmt:=gL 40
theorem IN:FnScope ["_law_n","_law_g"] ["_law_n","_law_g"] (aG D1):=gM (by decide +kernel)
abbrev Eo:Stmt:=gL 41
theorem sc_zb:FnScope ["_law_told","_law_found","_law_letter","_law_small"] ["_law_told"] (aG Eo):=gM (by decide +kernel)
abbrev DR:Stmt:=gL 42
theorem sc_za:FnScope ["_law_flow_here","_law_n","_law_steps","_law_most","_law_found","_law_back_here","_law_told","_law_g","_law_further"] ["_law_flow_here","_law_n","_law_steps","_law_most"] (aG DR):=gM (by decide +kernel)
abbrev D5:Stmt:=gL 43
theorem Id:FnScope ["_law_web"] ["_law_web"] (aG D5):=gM (by decide +kernel)
abbrev wK:Stmt:=gL 44
theorem sc_law:FnScope ["_law_script","_law_flow_here","_law_n","_law_some","_law_alphabet_here","_law_web","_law_told","_law_k","_law_word_here"] ["_law_script"] (aG wK):=gM (by decide +kernel)
structure Txt(P:Program)(w:World)(K:b5)(mg:Str→Option Value)(KN:Addr)(KO:Addr)(KP:Addr):Prop where
 m_Weave:mg "Weave"=some (.ref KP)
 o_Weave:Own K KP
 n_Weave_heads:NoAttr K KP "heads"
 n_Weave_turns:NoAttr K KP "turns"
 n_Weave_ways:NoAttr K KP "ways"
 n_Weave_alike:NoAttr K KP "alike"
 b_enumerate:mg "enumerate"=none
 b_int:mg "int"=none
 b_len:mg "len"=none
 b_list:mg "list"=none
 b_max:mg "max"=none
 b_range:mg "range"=none
 b_reversed:mg "reversed"=none
 b_sorted:mg "sorted"=none
 b_sum:mg "sum"=none
 b_tuple:mg "tuple"=none
 b_zip:mg "zip"=none
 m_CONTRARIES:mg "CONTRARIES"=some (.ref KN)
 t_CONTRARIES:∀ h,K.In h→StrTab P w h KN B0
 m_LETTERS:mg "LETTERS"=some (.ref KO)
 t_LETTERS:∀ H,SqT K H KO letV
section
variable {P:Program}{w:World}{K:b5}{mg:Str→Option Value}{base:Heap}{KN:Addr}{KO:Addr}{KP:Addr}
theorem Io{f:Addr}{fd:FuncData}(D:Df K mg "_law_flow" Gv ["_law_script"] f fd)(T:Txt P w K mg KN KO KP):Cl P w K mg base "_law_flow" ["_law_script"] 1 (spFlow K):=by
 refine D.cl (D.F.ok Iw (fun vs H Q E h=>?_) (fun cdv A outer s H vs Q E hr h=>?_))
 ·obtain⟨a,ns,rfl,_⟩:=h
  rfl
 ·obtain⟨a,ns,rfl,hs,hl,k⟩:=h
  refine⟨_,(aH (aV (eE (aA (bN (lI (K:=K) rfl) (by rfl) T.b_list boot_list (aA (pv 0) aB)) (aA aF (aA aF (aA aF (aA aF aB)))))))),?_⟩
  refine⟨_,rfl,a,_,rfl,.inl hs,fun l hl0=>⟨aN (by simp),fun fl hf=>?_⟩⟩
  have ne:l≠fl:=(aJ (aC (H:=H) (a:=l) (o:=HO.lst (ns.map V.int))) hf)
  have hH:H fl=none:=by rw[aE ne.symm] at hf;exact hf
  refine k fl l _ hH ((Same.new hl0).upd' hf) ⟨ns,0,0,1,0,aC,?_,hl,by decide,by decide,by decide⟩
  rw[aE ne,aC]
theorem IX{f:Addr}{fd:FuncData}(D:Df K mg "_law_pick" Ha ["_law_flow_here","_law_many"] f fd)(T:Txt P w K mg KN KO KP):Cl P w K mg base "_law_pick" ["_law_flow_here","_law_many"] 1 spPick:=by
 refine D.cl (D.F.ok sc_z6 (fun vs H Q E h=>?_) (fun cdv A outer s H vs Q E hr h=>?_))
 ·obtain⟨fl,sc,m,rfl,_⟩:=h
  rfl
 ·obtain⟨fl,sc,m,rfl,hf,h0,hm,k⟩:=h
  obtain⟨ns,i,a,b,c,h1,h2,hl,hi,ha,hb⟩:=id hf
  have hne:sc≠fl:=dI h2 h1 (by intro z;cases ns with | nil=>cases z | cons n ns=>cases z)
  refine⟨_,(gG (eB (pw_and (aT iD (aX (aR (K:=K) rfl) (pv 0) aF (fun _ _=>rfl)) aF (aZ _)) (pw_and1 (aT E4 (aX (aR (K:=K) rfl) (pv 0) aF (fun _ _=>rfl)) (aU (bG (K:=K) rfl) (by rfl) T.b_len k7 (aA (aX (aR (K:=K) rfl) (pv 0) aF (fun _ _=>rfl)) aB)) (aZ _)))).pt (aD (aM (i:=2) sc_z6.nd rfl (Or.inl rfl) (aX (aR (K:=K) rfl) (aX (aR (K:=K) rfl) (pv 0) aF (fun _ _=>rfl)) (aX (aR (K:=K) rfl) (pv 0) aF (fun _ _=>rfl)) (fun _ _=>rfl)))
   (aD (fF (bM eX (aX (aR (K:=K) rfl) (pv 0) aF (fun _ _=>rfl)) aF) (iB (pv 0) aF eN))
   (aH (eB (aT Hr (pv 2) (bM GJ aF aF) (aZ _)) (aH (fF (pv 2) (iB (pv 0) aF eN))) (aH (fF (bM kZ (bM eX (bM eX (bM jT (aX (aR (K:=K) rfl) (pv 0) aF (fun _ _=>rfl)) aF) (bM kZ (pv 2) aF)) aF) aF) (iB (pv 0) aF eN))))))) cO)
   (aD (eB (aT oH (aX (aR (K:=K) rfl) (pv 0) aF (fun _ _=>rfl)) aF (aZ _)) (aD (aM (i:=3) sc_z6.nd rfl (Or.inl rfl) (bM kZ (aX (aR (K:=K) rfl) (pv 0) aF (fun _ _=>rfl)) (pv 1)))
   (aD (fF (bM wC (aX (aR (K:=K) rfl) (pv 0) aF (fun _ _=>rfl)) (pv 1)) (iB (pv 0) aF eN))
   (aH (aV (pv 3))))) cO)
   (aD (fF (bM eX (aX (aR (K:=K) rfl) (pv 0) aF (fun _ _=>rfl)) aF) (iB (pv 0) aF eN))
   (aD (fF (bM kZ (bM eX (bM eX (bM jT (aX (aR (K:=K) rfl) (pv 0) aF (fun _ _=>rfl)) aF) aF) (aX (aR (K:=K) rfl) (pv 0) aF (fun _ _=>rfl))) aF) (iB (pv 0) aF eN))
   (aH (aV (bM kZ (bM wC (bM kZ (bM jT (bM eX (bM kZ (aX (aR (K:=K) rfl) (pv 0) aF (fun _ _=>rfl)) aF) aF) (bM eX (bM wC (aX (aR (K:=K) rfl) (pv 0) aF (fun _ _=>rfl)) aF) aF)) aF) aF) (pv 1)))))))),?_⟩
  refine⟨fun σ H1=>(∃ v,σ=[some (.ref fl),some (.int m),v,none])∧IsFl H1 fl sc∧Kp fl H H1,?_,?_⟩
  ·refine⟨_,rfl,fl,_,2,_,rfl,rfl,SqL.of h1,rfl,rfl,_,rfl,gC (fun e=>?_) (fun _=>jO ⟨⟨none,rfl⟩,hf,Kp.refl _ _⟩)⟩
   refine⟨_,rfl,fl,_,1,_,rfl,rfl,SqL.of h1,rfl,_,rfl,fl,_,0,_,rfl,rfl,SqL.of h1,rfl,sc,_,rfl,.inl (SqL.of h2),_,_,rfl,rfl,_,rfl,gC (fun e2=>?_) (fun _=>⟨⟨none,rfl⟩,hf,Kp.refl _ _⟩)⟩
   have hlt:i<((ns.map V.int).length:Int):=of_decide_eq_true e2
   rw[b7] at hlt
   have hil:i.toNat<ns.length:=by omega
   have hat:wD (ns.map V.int) i=some (.int ns[i.toNat]):=by
    have q:(ns.map V.int)[i.toNat]?=some (.int ns[i.toNat]):=by rw[c9,b0 hil];rfl
    have q2:=dJ q
    rwa [aXX hi] at q2
   refine⟨_,rfl,fl,_,0,_,rfl,rfl,SqL.of h1,rfl,_,rfl,fl,_,1,_,rfl,rfl,SqL.of h1,rfl,sc,_,i,_,rfl,rfl,SqL.of h2,hat,?_⟩
   refine⟨_,rfl,fl,_,1,_,rfl,rfl,SqL.of h1,rfl,_,_,rfl,rfl,_,rfl,fl,_,1,1,rfl,rfl,h1,rfl,?_⟩
   refine⟨_,rfl,_,_,rfl,rfl,⟨by decide,by decide,by decide⟩,_,_,rfl,rfl,_,rfl,gC (fun e3=>?_) (fun _=>?_)⟩
   ·have hc:(10:Int) ^ (18:Int).toNat≤ns[i.toNat]:=of_decide_eq_true e3
    have hp:(0:Int)≤10 ^ (18:Int).toNat:=by decide
    refine⟨_,rfl,_,rfl,fl,_,2,2,rfl,rfl,aC,rfl,⟨_,rfl⟩,⟨ns,i+1,ns[i.toNat],b,c,aC,?_,hl,by omega,by omega,hb⟩,((Kp.refl fl H).self).self⟩
    rw[aE hne,aE hne];exact h2
   ·refine⟨_,rfl,fl,_,3,_,rfl,rfl,SqL.of aC,rfl,_,_,rfl,rfl,.inr ⟨by decide,by decide⟩,_,rfl,_,_,rfl,rfl,(by show (0:Int)<1000003;decide),_,_,rfl,rfl,_,_,rfl,rfl,_,_,rfl,rfl,(by show (0:Int)<2147483647;decide),_,rfl,fl,_,3,3,rfl,rfl,aC,rfl,⟨_,rfl⟩,⟨ns,i+1,a,_,c,aC,?_,hl,by omega,ha,aQr _ (by decide)⟩,((Kp.refl fl H).self).self⟩
    rw[aE hne,aE hne];exact h2
  ·rintro _ H1 ⟨⟨v,rfl⟩,⟨ns,i,a,b,c,h1,h2,hl,hi,ha,hb⟩,kp⟩
   have hne:sc≠fl:=dI h2 h1 (by intro z;cases ns with | nil=>cases z | cons n ns=>cases z)
   refine⟨_,rfl,fl,_,2,_,rfl,rfl,SqL.of h1,rfl,_,_,rfl,rfl,_,rfl,gC (fun e=>?_) (fun _=>?_)⟩
   ·refine⟨_,rfl,fl,_,2,_,rfl,rfl,SqL.of h1,rfl,_,rfl,_,_,rfl,rfl,h0,?_⟩
    refine⟨_,rfl,fl,_,2,_,rfl,rfl,SqL.of h1,rfl,_,rfl,_,_,rfl,rfl,⟨h0,hm⟩,_,rfl,fl,_,2,2,rfl,rfl,h1,rfl,?_⟩
    refine⟨_,rfl,k _ _ (aQr _ (by omega)) (aQv _ h0) ⟨ns,i,a / m,b,c,aC,?_,hl,hi,Int.ediv_nonneg ha (by omega),hb⟩ kp.self⟩
    rw[aE hne];exact h2
   ·refine⟨_,rfl,fl,_,4,_,rfl,rfl,SqL.of h1,rfl,_,_,rfl,rfl,_,rfl,fl,_,4,4,rfl,rfl,h1,rfl,?_⟩
    refine⟨_,rfl,fl,_,3,_,rfl,rfl,SqL.of aC,rfl,_,_,rfl,rfl,.inr ⟨by decide,by decide⟩,_,_,rfl,rfl,_,rfl,fl,_,4,_,rfl,rfl,SqL.of aC,rfl,_,_,rfl,rfl,_,_,rfl,rfl,(by show (0:Int)<2147483647;decide),_,rfl,fl,_,3,3,rfl,rfl,aC,rfl,?_⟩
    have hb3:∀ x:Int,0≤x % 2147483647∧x % 2147483647<2147483647:=fun x=>⟨aQr _ (by decide),aQv _ (by decide)⟩
    refine⟨_,rfl,fl,_,3,_,rfl,rfl,SqL.of aC,rfl,_,_,rfl,rfl,(by show (0:Int)<65521;decide),_,_,rfl,rfl,_,rfl,fl,_,3,_,rfl,rfl,SqL.of aC,rfl,_,_,rfl,rfl,⟨by decide,by decide⟩,_,_,rfl,rfl,_,_,rfl,rfl,.inl ⟨?_,?_⟩,_,_,rfl,rfl,(by show (0:Int)<1000003;decide),_,_,rfl,rfl,⟨by decide,by decide⟩,_,rfl,_,_,rfl,rfl,h0,?_⟩
    ·have:=aQr ((b * 48271+12820163+(c+1)) % 2147483647) (show (65521:Int)≠0 by decide);omega
    ·have:=aQv ((b * 48271+12820163+(c+1)) % 2147483647) (show (0:Int)<65521 by decide);omega
    ·refine k _ _ (aQr _ (by omega)) (aQv _ h0) ⟨ns,i,a,_,c+1,aC,?_,hl,hi,ha,(hb3 _).1⟩ kp.self.self
     rw[aE hne,aE hne];exact h2
theorem IL{f:Addr}{fd:FuncData}(D:Df K mg "_law_contrary" FV ["_law_letter"] f fd)(T:Txt P w K mg KN KO KP):Cl P w K mg base "_law_contrary" ["_law_letter"] 1 spCon:=by
 refine D.cl (D.F.ok IE (fun vs H Q E h=>?_) (fun cdv A outer s H vs Q E hr h=>?_))
 ·obtain⟨c,rfl,_⟩:=h
  rfl
 ·obtain⟨c,rfl,hc,k⟩:=h
  refine⟨_,(aD (eB (vY (fA (K:=K) rfl l8 PySem.F.slot_str_islower PySem.F.type_str_islower zL (pv 0))) (aH (aV (fA (K:=K) rfl l8 aZK aZL xS (pv 0)))) cO)
   (aH (aV (fA (K:=K) rfl l8 aQi aQj mS (pv 0))))),?_⟩
  refine⟨_,rfl,rfl,_,rfl,rfl,_,rfl,?_⟩
  dsimp only
  rw[Bz hc]
  refine gC (fun e=>?_) (fun e=>?_)
  ·refine⟨_,rfl,rfl,_,rfl,rfl,?_,?_⟩
   ·rw[pG hc e];exact Ah _
   ·rw[pG hc e];exact k H (Same.refl H)
  ·have e':aY c=false:=by simpa using e
   refine⟨_,rfl,rfl,_,rfl,rfl,?_,?_⟩
   ·rw[A1 hc e'];exact Ah _
   ·rw[A1 hc e'];exact k H (Same.refl H)
theorem HQ{f:Addr}{fd:FuncData}(D:Df K mg "_law_letters" F6 ["_law_n"] f fd)(T:Txt P w K mg KN KO KP):Cl P w K mg base "_law_letters" ["_law_n"] 1 spLetters:=by
 refine D.cl (D.F.ok Jc (fun vs H Q E h=>?_) (fun cdv A outer s H vs Q E hr h=>?_))
 ·obtain⟨n,rfl,_⟩:=h
  rfl
 ·obtain⟨n,rfl,h1,h4,k⟩:=h
  refine⟨_,(aH (aV (bN (lO rfl) (by rfl) T.b_list boot_list (aA (gR nL cQ gY (gD (bM jT aF (pv 0)))) aB)))),?_⟩
  have e:Txt.slice (Str.ofString "aAbBcCdD") none (some (2 * n))=S (aI n):=by
   rw[show Str.ofString "aAbBcCdD"=S lets by decide +kernel,iG lets (by omega) (by show (2 * n)≤(8:Int);omega)]
   rfl
  refine⟨_,rfl,_,_,rfl,rfl,.inl ⟨by decide,by decide⟩,_,rfl,_,rfl,by decide +kernel,aI n,by rw[e],?_,fun l hl=>k l _ hl (Same.new hl) aC⟩
  rw[kL h1 h4];omega
theorem Gm{f:Addr}{fd:FuncData}(D:Df K mg "_law_laid" C5 ["_law_text"] f fd)(T:Txt P w K mg KN KO KP)(c_zx:Cl P w K mg base "_law_contrary" ["_law_letter"] 1 spCon):Cl P w K mg base "_law_laid" ["_law_text"] 2 spLay:=by
 refine D.cl (D.F.ok sc_zd1 (fun vs H Q E h=>?_) (fun cdv A outer s H vs Q E hr h=>?_))
 ·obtain⟨x,rfl,_⟩:=h
  rfl
 ·obtain⟨x,rfl,hx,hlen,k⟩:=h
  refine⟨_,(aD (aM (i:=1) sc_zd1.nd rfl (Or.inl rfl) (eE aB))
   (aD (dL l6 rfl (iW (pv 0)) (bH (i:=2) sc_zd1.nd rfl (Or.inl rfl)) (aH (eB (pw_and (aT oH (aU (bG (K:=K) rfl) (by rfl) T.b_len k7 (aA (pv 1) aB)) aF (aZ _)) (pw_and1 (aT iD (aX (aR (K:=K) rfl) (pv 1) (CS Ag aF) (fun _ _=>rfl)) (pC c_zx hr (aA (pv 2) aB)) (aZ _)))).pt (aH (cJ (fA (K:=K) rfl j9 aQR aQS CC (pv 1)))) (aH (cJ (cX (K:=K) rfl j9 m9 n9 cW (pv 1) (aA (pv 2) aB)))))))
   (aH (aV (cX (K:=K) rfl l8 aQT aQU (jX (K:=K) rfl) cQ (aA (pv 1) aB)))))),?_⟩
  refine⟨aN (by simp),fun l hl=>?_⟩
  refine⟨_,rfl,S x,rfl,kR (w:=x) (fun i σ H1=>(∃ v,σ=[some (.str (S x)),some (.ref l),v])∧Same H H1∧H1 l=some (.lst (bB (act [] (x.take i)).reverse))) ⟨⟨none,rfl⟩,Same.new hl,aC⟩ ?_ ?_⟩
  ·rintro i c σ H1 hc ⟨⟨v,rfl⟩,s1,e1⟩
   have hi:i<x.length:=(a9.mp hc).1
   have hcL:bX c:=hx c (b6 hc)
   have hn:act [] (x.take (i+1))=push (act [] (x.take i)) c:=by rw[bI hc,gQ]
   have hsz:(act [] (x.take i)).length≤60000:=by
    have:=oZ (x.take i) []
    rw[i7] at this
    simp at this
    omega
   refine⟨_,rfl,l,_,rfl,.inl (SqL.of e1),_,_,rfl,rfl,_,rfl,gC (fun e=>?_) (fun e=>?_)⟩
   ·have hne:0<(act [] (x.take i)).length:=by
     have e':=of_decide_eq_true e
     rw[bA,aQC] at e'
     omega
    obtain⟨y,r,hk⟩:∃ y r,act [] (x.take i)=y::r:=by
     cases hq:act [] (x.take i) with
     | nil=>rw[hq] at hne;simp at hne
     | cons y r=>exact⟨y,r,rfl⟩
    rw[hk] at e1 hn hsz
    have e2:H1 l=some (.lst (bB r.reverse++[.str (S [y])])):=by rw[e1,p0,cF]
    refine⟨_,rfl,_,rfl,l,_,_,_,rfl,rfl,SqL.of e2,pH _ _,_,rfl,c,rfl,hcL,fun H2 s2=>⟨rfl,_,rfl,gC (fun q=>?_) (fun q=>?_)⟩⟩
    ·rw[fX] at q
     have q':y=con c:=by simpa using q
     have hp:push (y::r) c=r:=by unfold push;dsimp only;rw[if_pos q']
     rw[hp] at hn
     refine⟨_,rfl,.inl ⟨rfl,_,SqL.of (s2 _ _ e2)⟩,l,_,_,rfl,rfl,s2 _ _ e2,by simp;rfl,⟨_,rfl⟩,(s1.trans s2).upd hl,?_⟩
     rw[aC,hn]
     simp
    ·rw[fX] at q
     have q':¬ y=con c:=by simpa using q
     have hp:push (y::r) c=c::y::r:=by unfold push;dsimp only;rw[if_neg q']
     rw[hp] at hn
     refine⟨_,rfl,.inl ⟨rfl,_,SqL.of (s2 _ _ e2)⟩,_,rfl,l,_,_,rfl,rfl,s2 _ _ e2,?_,⟨_,rfl⟩,(s1.trans s2).upd hl,?_⟩
     ·rw[c5,bA,aQC]
      rw[j0] at hsz
      have h9:r.length+1≤100000:=by omega
      exact m7 h9 (by decide)
     ·rw[aC,hn,p0,p0,cF,cF]
   ·have hk:act [] (x.take i)=[]:=by
     cases hq:act [] (x.take i) with
     | nil=>rfl
     | cons y r =>
      exfalso
      apply e
      apply decide_eq_true
      rw[bA,aQC,hq]
      simp
    rw[hk] at e1 hn
    refine jO ⟨_,rfl,.inl ⟨rfl,_,SqL.of e1⟩,_,rfl,l,_,_,rfl,rfl,e1,?_,⟨_,rfl⟩,s1.upd hl,?_⟩
    ·show (0:Nat)<sizeLine;decide
    ·rw[aC,hn]
     rfl
  ·rintro σ H1 ⟨⟨v,rfl⟩,s1,e1⟩
   rw[j8] at e1
   have e2:SqL K H1 l ((lay x).map (fun c=>S [c]) |>.map V.str):=by
    rw[← mL];exact SqL.of e1
   refine⟨rfl,_,rfl,_,l,_,rfl,rfl,e2,iX _ (j7 (gE x) (by omega)),?_⟩
   rw[kM]
   exact k H1 s1
theorem Jm{f:Addr}{fd:FuncData}(D:Df K mg "_law_word" Ev ["_law_flow_here","_law_n","_law_most"] f fd)(T:Txt P w K mg KN KO KP)(c_z6:Cl P w K mg base "_law_pick" ["_law_flow_here","_law_many"] 1 spPick)(c_zy:Cl P w K mg base "_law_letters" ["_law_n"] 1 spLetters)(c_zx:Cl P w K mg base "_law_contrary" ["_law_letter"] 1 spCon):Cl P w K mg base "_law_word" ["_law_flow_here","_law_n","_law_most"] 2 spWord:=by
 refine D.cl (D.F.ok sc_z4 (fun vs H Q E h=>?_) (fun cdv A outer s H vs Q E hr h=>?_))
 ·obtain⟨fl,sc,n,most,rfl,_⟩:=h
  rfl
 ·obtain⟨fl,sc,n,most,rfl,hf,h1,h4,hm,hm2,k⟩:=h
  refine⟨_,(aD (aM (i:=3) sc_z4.nd rfl (Or.inr rfl) cQ)
   (aD (aM (i:=4) sc_z4.nd rfl (Or.inl rfl) (pC c_zy hr (aA (pv 1) aB)))
   (aD (dL l6 rfl (fH (by rfl) T.b_range (aA (pC c_z6 hr (aA (pv 0) (aA (bM eX (pv 2) aF) aB))) aB)) (bH (i:=5) sc_z4.nd rfl (Or.inl rfl)) (aD (lU (i:=6) (sc0:=aG Ev) (N:=["_law_flow_here","_law_n","_law_most","_law_found","_law_letters_here","_law_k","_law_some"]) (ix:=[3]) sc_z4.nd rfl rfl (by decide +kernel) rfl rfl rfl (fP (K:=K) rfl (pv 4)) (fun _ _ _=>pV (pw_or (aT iD (pv 1) cQ (aZ _)) (pw_or1 (aT jP (pv 0) (pC c_zx hr (aA (aX zO (pv 1) (CS Ag aF) (fun _ _=>rfl)) aB)) (aZ _)))).pt) (fun _ _ _=>(pv 0)))
   (aH (aM (i:=3) sc_z4.nd rfl (Or.inr rfl) (bM dH (pv 3) (aX (aR (K:=K) rfl) (pv 6) (pC c_z6 hr (aA (pv 0) (aA (aU (bG (K:=K) rfl) (by rfl) T.b_len k7 (aA (pv 6) aB)) aB))) (fun _ _=>rfl)))))))
   (aH (aV (pv 3)))))),?_⟩
  refine⟨_,rfl,n,rfl,h1,h4,fun l H1 hl s1 e1=>?_⟩
  have hlf:l≠fl:=hf.ne hl
  refine⟨_,rfl,_,rfl,_,_,rfl,rfl,fl,sc,most+1,rfl,hf.same s1,by omega,by omega,fun d H2 d0 d1 f2 k2=>⟨d,rfl,by omega,by omega,?_⟩⟩
  refine gJ (lo:=0) (n:=d.toNat) (fun i σ H3=>∃ (x:List Nat) (v5 v6:Option V),σ=[some (.ref fl),some (.int n),some (.int most),some (.str (S x)),some (.ref l),v5,v6]∧OfN n x∧aW x∧x.length=i∧IsFl H3 fl sc∧Kp fl H H3∧H3 l=some (.lst (bB (aI n)))) ?_ ?_ ?_
  ·refine⟨[],none,none,?_,fun c hc=>(nomatch hc),trivial,rfl,f2,(s1.kp).trans k2,k2 _ _ e1 hlf⟩
   rw[← oI];rfl
  ·rintro i _ H3 hi ⟨x,v5,v6,rfl,ho,hp,hxl,f3,k3,e3⟩
   have hxd:(x.length:Int)<most+1:=by omega
   refine⟨_,rfl,l,rfl,⟨_,SqL.of e3⟩,fun Dd hD=>fT (xs:=bB (aI n)) (fun j H4=>Same H3 H4∧H4 Dd=some (.lst (bB (((aI n).take j).filter (mV x))))) ⟨Same.new hD,aC⟩ (fun j H4 _ p=>SqL.of (p.1 _ _ e3)) ?_ ?_⟩
   ·rintro j y H4 hy ⟨s4,e4⟩
    obtain⟨c,hc,rfl⟩:∃ c,(aI n)[j]?=some c∧y=.str (S [c]):=by
     unfold bB at hy
     rw[c9] at hy
     cases hq:(aI n)[j]? with
     | none=>rw[hq] at hy;cases hy
     | some c=>rw[hq] at hy;exact⟨c,rfl,(d9 hy).symm⟩
    have hcL:bX c:=aK (b6 hc)
    have ht:((aI n).take (j+1)).filter (mV x)=((aI n).take j).filter (mV x)++(if mV x c then [c] else []):=take_succ_filter (mV x) (aI n) j c hc
    have hsz:(((aI n).take j).filter (mV x)).length≤100:=by
     have q1:=aQV (mV x) ((aI n).take j)
     have q2:((aI n).take j).length≤(aI n).length:=by rw[i7];omega
     rw[kL h1 h4] at q2
     omega
    have app:mV x c=true→∀ H5,Same H4 H5→∃ ys,H5 Dd=some (.lst ys)∧ys.length<sizeLine∧Same H3 (upd H5 Dd (.lst (ys++[.str (S [c])])))∧upd H5 Dd (.lst (ys++[.str (S [c])])) Dd=some (.lst (bB (((aI n).take (j+1)).filter (mV x)))):=fun ok H5 s5=>by
     refine⟨_,s5 _ _ e4,?_,(s4.trans s5).upd hD,?_⟩
     ·rw[bA];exact aQ (by omega)
     ·rw[aC,ht,ok]
      show some (HO.lst _)=some (HO.lst (bB (_++[c])))
      rw[cF]
    refine⟨_,rfl,rfl,_,rfl,gC (fun e=>?_) (fun e=>?_)⟩
    ·rw[oI,fX] at e
     have e':x=[]:=by simpa using e
     refine lW ⟨_,rfl,app (by rw[e'];rfl) H4 (Same.refl _)⟩
    ·rw[oI,fX] at e
     have e':x≠[]:=by simpa using e
     obtain⟨u,z,rfl⟩:∃ u z,x=u++[z]:=⟨x.dropLast,x.getLast e',(z9 e').symm⟩
     have hz:bX z:=aK (ho z (by simp))
     refine⟨_,rfl,_,rfl,_,rfl,_,_,z,rfl,rfl,by rw[bV];exact aN (by simp at hxd ⊢;omega),by rw[H_];exact pH u z,z,rfl,hz,fun H5 s5=>⟨rfl,_,rfl,?_⟩⟩
     rw[fX]
     have ok:mV (u++[z]) c=!decide ([c]=[con z]):=by
      unfold mV
      simp
     rw[← ok]
     refine gC (fun q=>⟨_,rfl,app q H5 s5⟩) (fun q=>⟨s4.trans s5,?_⟩)
     have q':mV (u++[z]) c=false:=by simpa using q
     rw[s5 _ _ e4,ht,q']
     simp
   ·rintro H4 ⟨s4,e4⟩
    rw[bA,j8] at e4
    have hpos:=Er (x:=x) h1 h4
    have hsz:((aI n).filter (mV x)).length≤8:=by
     have q1:=aQV (mV x) (aI n)
     rw[kL h1 h4] at q1
     omega
    have hDf:Dd≠fl:=f3.ne hD
    refine⟨_,rfl,_,rfl,_,rfl,_,rfl,Dd,_,rfl,.inl (SqL.of e4),fl,sc,_,rfl,f3.same s4,?_,?_,fun g H5 g0 g1 f5 k5=>?_⟩
    ·rw[bA];omega
    ·rw[bA];omega
    rw[bA] at g1
    have hg:g.toNat<((aI n).filter (mV x)).length:=by omega
    have hmem:=aQF hg
    have hat:wD (bB ((aI n).filter (mV x))) g=some (.str (S [((aI n).filter (mV x))[g.toNat]])):=Aa g0 (lS (b0 hg))
    generalize ((aI n).filter (mV x))[g.toNat]=c at hat hmem
    obtain⟨hm1,hm2⟩:=aQB.mp hmem
    refine⟨Dd,_,g,_,rfl,rfl,SqL.of (k5 _ _ e4 hDf),hat,_,_,rfl,rfl,?_,?_⟩
    ·rw[bV,bV];exact aN (by simp;omega)
    ·rw[jI]
     refine⟨x++[c],_,_,rfl,?_,nK (OfN.all ho) (aK hm1) hp hm2,?_,f5,(k3.trans s4.kp).trans k5,k5 _ _ (s4 _ _ e3) hlf⟩
     ·intro c' hc'
      rcases k0.mp hc' with q | q
      ·exact ho c' q
      ·rw[c6.mp q];exact hm1
     ·rw[c5,hxl];rfl
  ·rintro _ H3 ⟨x,v5,v6,rfl,ho,hp,hxl,f3,k3,e3⟩
   exact⟨_,rfl,k x H3 ho hp (by omega) f3 k3⟩
theorem Gg{f:Addr}{fd:FuncData}(D:Df K mg "_law_back" AW ["_law_word_here"] f fd)(T:Txt P w K mg KN KO KP)(c_zx:Cl P w K mg base "_law_contrary" ["_law_letter"] 1 spCon):Cl P w K mg base "_law_back" ["_law_word_here"] 2 spBack:=by
 refine D.cl (D.F.ok Fq (fun vs H Q E h=>?_) (fun cdv A outer s H vs Q E hr h=>?_))
 ·obtain⟨x,rfl,_⟩:=h
  rfl
 ·obtain⟨x,rfl,hx,hlen,k⟩:=h
  refine⟨_,(aH (aV (cX (K:=K) rfl l8 aQT aQU (jX (K:=K) rfl) cQ (aA (cY (sc0:=aG AW) (N:=["_law_word_here"]) (ix:=[]) (by decide +kernel) rfl rfl rfl (Hf (by rfl) T.b_reversed (aA (pv 0) aB)) (fun _ _ _=>cM) (fun _ _ _=>(pC c_zx hr (aA (pv 0) aB)))) aB)))),?_⟩
  refine⟨rfl,_,rfl,S x,rfl,by rw[bV];exact hlen,fun Dd hD=>?_⟩
  refine qO (w:=x) (fun i H1=>Same H H1∧H1 Dd=some (.lst (bB ((x.reverse.take i).map con)))) ⟨Same.new hD,aC⟩ ?_ ?_
  ·rintro i c H1 hc ⟨s1,e1⟩
   have hcL:bX c:=hx c (y7.mp (b6 hc))
   have hi:i<x.length:=by have:=(a9.mp hc).1;simpa using this
   refine⟨_,rfl,c,rfl,hcL,fun H2 s2=>⟨_,s2 _ _ e1,?_,(s1.trans s2).upd hD,?_⟩⟩
   ·rw[bA,b7,i7];exact aQ (by omega)
   ·rw[aC,bI hc,g6,← cF];rfl
  ·rintro H1 ⟨s1,e1⟩
   have eb:(x.reverse.take x.length).map con=back x:=by
    rw[u6 (by simp)]
    unfold back
    rw[aXC]
   rw[eb] at e1
   have e2:SqL K H1 Dd (((back x).map fun c=>S [c]).map V.str):=by rw[← mL];exact SqL.of e1
   refine⟨_,Dd,_,rfl,rfl,e2,iX _ (by rw[bY];omega),?_⟩
   rw[kM]
   exact k H1 s1
theorem Iq{f:Addr}{fd:FuncData}(D:Df K mg "contrary" GT ["letter"] f fd)(T:Txt P w K mg KN KO KP):Cl P w K mg base "contrary" ["letter"] 1 spCon:=by
 refine D.cl (D.F.ok HJ (fun vs H Q E h=>?_) (fun cdv A outer s H vs Q E hr h=>?_))
 ·obtain⟨c,rfl,_⟩:=h
  rfl
 ·obtain⟨c,rfl,hc,k⟩:=h
  refine⟨_,(aH (aV (aX (FL T.t_CONTRARIES) (oW (v:=.ref KN) (by rfl) T.m_CONTRARIES rfl) (pv 0) (fun _ _=>rfl)))),?_⟩
  exact⟨_,rfl,rfl,_,rfl,.inl ⟨_,wJ hc,k H (Same.refl H)⟩⟩
theorem Hq{f:Addr}{fd:FuncData}(D:Df K mg "laid_out" F9 ["text"] f fd)(T:Txt P w K mg KN KO KP)(c_z7:Cl P w K mg base "contrary" ["letter"] 1 spCon):Cl P w K mg base "laid_out" ["text"] 2 spLay:=by
 refine D.cl (D.F.ok sc_z9 (fun vs H Q E h=>?_) (fun cdv A outer s H vs Q E hr h=>?_))
 ·obtain⟨x,rfl,_⟩:=h
  rfl
 ·obtain⟨x,rfl,hx,hlen,k⟩:=h
  refine⟨_,(aD (aM (i:=1) sc_z9.nd rfl (Or.inl rfl) (eE aB))
   (aD (dL l6 rfl (iW (pv 0)) (bH (i:=2) sc_z9.nd rfl (Or.inl rfl)) (aH (eB (pw_and (aT oH (aU (bG (K:=K) rfl) (by rfl) T.b_len k7 (aA (pv 1) aB)) aF (aZ _)) (pw_and1 (aT iD (aX (aR (K:=K) rfl) (pv 1) (CS Ag aF) (fun _ _=>rfl)) (pC c_z7 hr (aA (pv 2) aB)) (aZ _)))).pt (aH (cJ (fA (K:=K) rfl j9 aQR aQS CC (pv 1)))) (aH (cJ (cX (K:=K) rfl j9 m9 n9 cW (pv 1) (aA (pv 2) aB)))))))
   (aH (aV (cX (K:=K) rfl l8 aQT aQU (jX (K:=K) rfl) cQ (aA (pv 1) aB)))))),?_⟩
  refine⟨aN (by simp),fun l hl=>?_⟩
  refine⟨_,rfl,S x,rfl,kR (w:=x) (fun i σ H1=>(∃ v,σ=[some (.str (S x)),some (.ref l),v])∧Same H H1∧H1 l=some (.lst (bB (act [] (x.take i)).reverse))) ⟨⟨none,rfl⟩,Same.new hl,aC⟩ ?_ ?_⟩
  ·rintro i c σ H1 hc ⟨⟨v,rfl⟩,s1,e1⟩
   have hi:i<x.length:=(a9.mp hc).1
   have hcL:bX c:=hx c (b6 hc)
   have hn:act [] (x.take (i+1))=push (act [] (x.take i)) c:=by rw[bI hc,gQ]
   have hsz:(act [] (x.take i)).length≤60000:=by
    have:=oZ (x.take i) []
    rw[i7] at this
    simp at this
    omega
   refine⟨_,rfl,l,_,rfl,.inl (SqL.of e1),_,_,rfl,rfl,_,rfl,gC (fun e=>?_) (fun e=>?_)⟩
   ·have hne:0<(act [] (x.take i)).length:=by
     have e':=of_decide_eq_true e
     rw[bA,aQC] at e'
     omega
    obtain⟨y,r,hk⟩:∃ y r,act [] (x.take i)=y::r:=by
     cases hq:act [] (x.take i) with
     | nil=>rw[hq] at hne;simp at hne
     | cons y r=>exact⟨y,r,rfl⟩
    rw[hk] at e1 hn hsz
    have e2:H1 l=some (.lst (bB r.reverse++[.str (S [y])])):=by rw[e1,p0,cF]
    refine⟨_,rfl,_,rfl,l,_,_,_,rfl,rfl,SqL.of e2,pH _ _,_,rfl,c,rfl,hcL,fun H2 s2=>⟨rfl,_,rfl,gC (fun q=>?_) (fun q=>?_)⟩⟩
    ·rw[fX] at q
     have q':y=con c:=by simpa using q
     have hp:push (y::r) c=r:=by unfold push;dsimp only;rw[if_pos q']
     rw[hp] at hn
     refine⟨_,rfl,.inl ⟨rfl,_,SqL.of (s2 _ _ e2)⟩,l,_,_,rfl,rfl,s2 _ _ e2,by simp;rfl,⟨_,rfl⟩,(s1.trans s2).upd hl,?_⟩
     rw[aC,hn]
     simp
    ·rw[fX] at q
     have q':¬ y=con c:=by simpa using q
     have hp:push (y::r) c=c::y::r:=by unfold push;dsimp only;rw[if_neg q']
     rw[hp] at hn
     refine⟨_,rfl,.inl ⟨rfl,_,SqL.of (s2 _ _ e2)⟩,_,rfl,l,_,_,rfl,rfl,s2 _ _ e2,?_,⟨_,rfl⟩,(s1.trans s2).upd hl,?_⟩
     ·rw[c5,bA,aQC]
      rw[j0] at hsz
      have h9:r.length+1≤100000:=by omega
      exact m7 h9 (by decide)
     ·rw[aC,hn,p0,p0,cF,cF]
   ·have hk:act [] (x.take i)=[]:=by
     cases hq:act [] (x.take i) with
     | nil=>rfl
     | cons y r =>
      exfalso
      apply e
      apply decide_eq_true
      rw[bA,aQC,hq]
      simp
    rw[hk] at e1 hn
    refine jO ⟨_,rfl,.inl ⟨rfl,_,SqL.of e1⟩,_,rfl,l,_,_,rfl,rfl,e1,?_,⟨_,rfl⟩,s1.upd hl,?_⟩
    ·show (0:Nat)<sizeLine;decide
    ·rw[aC,hn]
     rfl
  ·rintro σ H1 ⟨⟨v,rfl⟩,s1,e1⟩
   rw[j8] at e1
   have e2:SqL K H1 l ((lay x).map (fun c=>S [c]) |>.map V.str):=by
    rw[← mL];exact SqL.of e1
   refine⟨rfl,_,rfl,_,l,_,rfl,rfl,e2,iX _ (j7 (gE x) (by omega)),?_⟩
   rw[kM]
   exact k H1 s1
theorem Jg{f:Addr}{fd:FuncData}(D:Df K mg "turned_back" EQ ["word"] f fd)(T:Txt P w K mg KN KO KP)(c_z7:Cl P w K mg base "contrary" ["letter"] 1 spCon):Cl P w K mg base "turned_back" ["word"] 2 spBackB:=by
 refine D.cl (D.F.ok HX (fun vs H Q E h=>?_) (fun cdv A outer s H vs Q E hr h=>?_))
 ·obtain⟨x,rfl,_⟩:=h
  rfl
 ·obtain⟨x,rfl,hx,hlen,k⟩:=h
  refine⟨_,(aH (aV (cX (K:=K) rfl l8 aQT aQU (jX (K:=K) rfl) cQ (aA (cY (sc0:=aG EQ) (N:=["word"]) (ix:=[]) (by decide +kernel) rfl rfl rfl (D7 (by rfl) T.b_reversed (aA (pv 0) aB)) (fun _ _ _=>cM) (fun _ _ _=>(pC c_z7 hr (aA (pv 0) aB)))) aB)))),?_⟩
  refine⟨rfl,_,rfl,S x,rfl,by rw[bV];exact hlen,fun Dd hD=>?_⟩
  refine qO (w:=x) (fun i H1=>Same H H1∧H1 Dd=some (.lst (bB ((x.reverse.take i).map con)))) ⟨Same.new hD,aC⟩ ?_ ?_
  ·rintro i c H1 hc ⟨s1,e1⟩
   have hcL:bX c:=hx c (y7.mp (b6 hc))
   have hi:i<x.length:=by have:=(a9.mp hc).1;simpa using this
   refine⟨_,rfl,c,rfl,hcL,fun H2 s2=>⟨_,s2 _ _ e1,?_,(s1.trans s2).upd hD,?_⟩⟩
   ·rw[bA,b7,i7];exact m7 (show _≤60000 by omega) (by decide)
   ·rw[aC,bI hc,g6,← cF];rfl
  ·rintro H1 ⟨s1,e1⟩
   have eb:(x.reverse.take x.length).map con=back x:=by
    rw[u6 (by simp)]
    unfold back
    rw[aXC]
   rw[eb] at e1
   have e2:SqL K H1 Dd (((back x).map fun c=>S [c]).map V.str):=by rw[← mL];exact SqL.of e1
   refine⟨_,Dd,_,rfl,rfl,e2,iX _ (by rw[bY];omega),?_⟩
   rw[kM]
   exact k H1 s1
theorem Fz{f:Addr}{fd:FuncData}(D:Df K mg "joined" B8 ["one","other"] f fd)(T:Txt P w K mg KN KO KP)(c_z9:Cl P w K mg base "laid_out" ["text"] 2 spLay):Cl P w K mg base "joined" ["one","other"] 3 spJoinB:=by
 refine D.cl (D.F.ok Gz (fun vs H Q E h=>?_) (fun cdv A outer s H vs Q E hr h=>?_))
 ·obtain⟨u,x,rfl,_⟩:=h
  rfl
 ·obtain⟨u,x,rfl,hu,hx,hlen,k⟩:=h
  refine⟨_,(aH (aV (pC c_z9 hr (aA (bM dH (pv 0) (pv 1)) aB)))),?_⟩
  refine⟨_,rfl,_,rfl,_,_,rfl,rfl,by rw[bV,bV];exact aN (by omega),u++x,by rw[jI];rfl,AllL.app.mpr ⟨hu,hx⟩,by rw[c5];omega,k⟩
theorem HZ{f:Addr}{fd:FuncData}(D:Df K mg "letters_of" FT ["n"] f fd)(T:Txt P w K mg KN KO KP):Cl P w K mg base "letters_of" ["n"] 1 (spLetT K):=by
 refine D.cl (D.F.ok HP (fun vs H Q E h=>?_) (fun cdv A outer s H vs Q E hr h=>?_))
 ·obtain⟨n,rfl,_⟩:=h
  rfl
 ·obtain⟨n,rfl,h1,h4,k⟩:=h
  refine⟨_,(aH (aV (gR (DO (K:=K) rfl) (oW (v:=.ref KO) (by rfl) T.m_LETTERS rfl) gY (gD (bM jT aF (pv 0)))))),?_⟩
  refine⟨_,rfl,_,_,rfl,rfl,.inl ⟨by decide,by decide⟩,_,rfl,KO,letV,2 * n,rfl,T.t_LETTERS _,rfl,?_,?_,fun _ p hp=>?_,fun e=>?_⟩
  ·show some (2 * ((n:Nat):Int))=_;congr 1
  ·rw[wX];omega
  ·exact k p _ (Same.new hp) (by rw[← uM h1 h4];exact SqT.of aC)
  ·refine k _ _ (Same.refl H) ?_
   rw[← uM h1 h4,u6 (by omega)]
   exact T.t_LETTERS _
theorem Jk{f:Addr}{fd:FuncData}(D:Df K mg "first_letters" FP ["n"] f fd)(T:Txt P w K mg KN KO KP):Cl P w K mg base "first_letters" ["n"] 1 spFirst:=by
 refine D.cl (D.F.ok IB (fun vs H Q E h=>?_) (fun cdv A outer s H vs Q E hr h=>?_))
 ·obtain⟨n,rfl,_⟩:=h
  rfl
 ·obtain⟨n,rfl,h1,h4,k⟩:=h
  refine⟨_,(aH (aV (BO (Cq (K:=K) rfl) (oW (v:=.ref KO) (by rfl) T.m_LETTERS rfl) gY (gD (bM jT aF (pv 0))) (gD aF)))),?_⟩
  refine⟨_,rfl,_,_,rfl,rfl,.inl ⟨by decide,by decide⟩,_,rfl,_,rfl,KO,letV,2 * n,rfl,T.t_LETTERS _,rfl,?_,rfl,?_,fun p hp=>?_⟩
  ·show some (2 * ((n:Nat):Int))=_;congr 1
  ·rw[wX];omega
  ·rw[BF h1 h4]
   exact k p _ hp (Same.new hp) aC
theorem IW{f:Addr}{fd:FuncData}(D:Df K mg "words_by_letter" F0 ["retelling"] f fd)(T:Txt P w K mg KN KO KP)(c_zr:Cl P w K mg base "first_letters" ["n"] 1 spFirst)(c_z7:Cl P w K mg base "contrary" ["letter"] 1 spCon)(c_zz:Cl P w K mg base "turned_back" ["word"] 2 spBackB):Cl P w K mg base "words_by_letter" ["retelling"] 3 (spTab K):=by
 refine D.cl (D.F.ok sc_zj (fun vs H Q E h=>?_) (fun cdv A outer s H vs Q E hr h=>?_))
 ·obtain⟨a,rs,n,M,rfl,_⟩:=h
  rfl
 ·obtain⟨a,rs,n,M,rfl,hq,hr0,h1,h4,hM,k⟩:=h
  refine⟨_,(aD (aM (i:=1) sc_zj.nd rfl (Or.inl rfl) rH)
   (aD (dL l6 rfl (Ct (K:=K) rfl (by rfl) T.b_zip (aA (pC c_zr hr (aA (aU (bG (K:=K) rfl) (by rfl) T.b_len k7 (aA (pv 0) aB)) aB)) (aA (pv 0) aB))) (jZ (K:=K) rfl rfl (cR (bH (i:=2) sc_zj.nd rfl (Or.inl rfl)) (cR (bH (i:=3) sc_zj.nd rfl (Or.inl rfl)) hZ))) (aD (mT (m7 (t8 (by decide:1≤64) _) hr.units) (pv 1) (pv 2) (pv 3) (by rfl))
   (aH (mT (m7 (t8 (by decide:1≤64) _) hr.units) (pv 1) (pC c_z7 hr (aA (pv 2) aB)) (pC c_zz hr (aA (pv 3) aB)) (by rfl)))))
   (aH (aV (pv 1))))),?_⟩
  refine fun p hp=>?_
  have hq1:SqT K (upd H p (.dK [])) a (bS rs):=Lw.SqT.new hq hp
  refine⟨_,rfl,a,_,rfl,.inr hq1,n,by rw[aS,hr0.len];rfl,h1,h4,fun t H1 ht s1 et=>⟨_,rfl,t,a,rfl,⟨_,SqT.of et⟩,⟨_,L2.SqT.same s1 hq1⟩,?_⟩⟩
  have ll:(cC n).length=n:=(lP h1 h4).len
  have hpt:p≠t:=aJ (aC (H:=H) (a:=p) (o:=HO.dK [])) ht
  refine AX (K:=K) (t:=t) (u:=a) (xs:=bS (cC n)) (ys:=bS rs) (fun i σ H2=>∃ (v2 v3:Option V) (kvs:List (cN×V)),σ=[some (.ref a),some (.ref p),v2,v3]∧Same H H2∧H2 p=some (.dK kvs)∧H2 t=some (.tup (bS (cC n)))∧kvs.length≤2 * i∧Ep kvs rs i) ?_ ?_ ?_ ?_
  ·exact⟨none,none,[],rfl,(Same.new hp).trans s1,s1 _ _ aC,et,c0 _,fun j hj=>absurd hj (x6 _)⟩
  ·rintro i _ H2 _ ⟨v2,v3,kvs,rfl,s2,e2,t2,_⟩
   exact⟨SqT.of t2,L2.SqT.same s2 hq⟩
  ·rintro i x y q _ H2 hx hy hq2 ⟨v2,v3,kvs,rfl,s2,e2,t2,hl,htab⟩
   obtain⟨rfl,hi⟩:=vI h4 hx
   obtain⟨r,hri,rfl⟩:=fB hy
   have hra:=hr0.all r (b6 hri)
   have hrl:=hr0.le r (b6 hri)
   have hcL:bX (97+i):=by unfold bX;omega
   have e3:upd H2 q (.tup [.str (S [97+i]),.str (S r)]) p=some (.dK kvs):=by rw[aE (aJ e2 hq2)];exact e2
   have s3:Same H (upd H2 q (.tup [.str (S [97+i]),.str (S r)])):=s2.upd' hq2
   have t3:upd H2 q (.tup [.str (S [97+i]),.str (S r)]) t=some (.tup (bS (cC n))):=by rw[aE (aJ t2 hq2)];exact t2
   refine⟨q,_,rfl,.inr (SqT.of aC),rfl,_,_,rfl,_,_,rfl,rfl,?_⟩
   generalize upd H2 q (.tup [.str (S [97+i]),.str (S r)])=H3 at e3 s3 t3
   refine⟨_,rfl,_,rfl,_,rfl,p,_,rfl,DPut.k (k:=.inr (S [97+i])) e3 (aQ (by omega)),?_⟩
   have s4:Same H (upd H3 p (.dK (dF kvs (.inr (S [97+i])) (.str (S r))))):=s3.upd hp
   have t4:upd H3 p (.dK (dF kvs (.inr (S [97+i])) (.str (S r)))) t=some (.tup (bS (cC n))):=by rw[aE hpt.symm];exact t3
   have e4:upd H3 p (.dK (dF kvs (.inr (S [97+i])) (.str (S r)))) p=some (.dK (dF kvs (.inr (S [97+i])) (.str (S r)))):=aC
   generalize upd H3 p (.dK (dF kvs (.inr (S [97+i])) (.str (S r))))=H4 at s4 t4 e4
   have l1:=dQ kvs (.inr (S [97+i])) (.str (S r))
   have l2:=dQ (dF kvs (.inr (S [97+i])) (.str (S r))) (.inr (S [con (97+i)])) (.str (S (back r)))
   refine⟨_,rfl,r,rfl,hra,by omega,fun H5 s5=>⟨_,rfl,_,rfl,97+i,rfl,hcL,fun H6 s6=>⟨p,_,rfl,DPut.k (k:=.inr (S [con (97+i)])) (s6 _ _ (s5 _ _ e4)) (aQ (by omega)),?_⟩⟩⟩
   exact⟨_,_,_,rfl,((s4.trans s5).trans s6).upd hp,aC,by rw[aE hpt.symm];exact s6 _ _ (s5 _ _ t4),by omega,Ef hri (by omega) htab⟩
  ·rintro _ H2 ⟨v2,v3,kvs,rfl,s2,e2,t2,hl,htab⟩
   have em:min (bS (cC n)).length (bS rs).length=n:=by rw[aS,aS,ll,hr0.len,aZc]
   rw[em] at htab
   exact⟨_,rfl,k p kvs H2 hp s2 e2 (DM hr0.len h1 h4 htab)⟩
theorem Fo{f:Addr}{fd:FuncData}(D:Df K mg "retold" AS ["retelling","word"] f fd)(T:Txt P w K mg KN KO KP)(c_z9:Cl P w K mg base "laid_out" ["text"] 2 spLay)(c_zj:Cl P w K mg base "words_by_letter" ["retelling"] 3 (spTab K)):Cl P w K mg base "retold" ["retelling","word"] 4 (spRetold K):=by
 refine D.cl (D.F.ok sc_zh1 (fun vs H Q E h=>?_) (fun cdv A outer s H vs Q E hr h=>?_))
 ·obtain⟨a,rs,n,M,x,rfl,_⟩:=h
  rfl
 ·obtain⟨a,rs,n,M,x,rfl,hq,hr0,h1,h4,hM,hox,hxl,hxm,k⟩:=h
  refine⟨_,(aD (aM (i:=2) sc_zh1.nd rfl (Or.inr rfl) (pC c_zj hr (aA (pv 0) aB)))
   (aH (aV (pC c_z9 hr (aA (cX (K:=K) rfl l8 aQT aQU (jX (K:=K) rfl) cQ (aA (cY (sc0:=aG AS) (N:=["retelling","word","told"]) (ix:=[2]) (by decide +kernel) rfl rfl rfl (iW (pv 1)) (fun _ _ _=>cM) (fun _ _ _=>(AQ (m7 (t8 (by decide:1≤64) _) hr.units) (pv 1) (pv 0) (fun _ _=>rfl)))) aB)) aB))))),?_⟩
  refine⟨_,rfl,a,rs,n,M,rfl,hq,hr0,h1,h4,hM,fun p kvs H1 hp s1 e1 htab=>?_⟩
  have tl:=mR hr0 x
  have ta:=eC hr0 x
  refine⟨rfl,_,rfl,S x,rfl,fun Dd hD=>lE (w:=x) (fun i H2=>Same H1 H2∧H2 Dd=some (.lst (bS ((x.take i).map (tell rs))))) ⟨Same.new hD,aC⟩ ?_ ?_⟩
  ·rintro i c H2 hc ⟨s2,e2⟩
   have hi:i<x.length:=(a9.mp hc).1
   have hcn:c∈aI rs.length:=by rw[hr0.len];exact hox c (b6 hc)
   refine⟨_,rfl,_,rfl,p,.str (S (tell rs c)),rfl,?_,_,e2,?_,s2.upd hD,?_⟩
   ·have:=DGet.k (k:=.inr (S [c])) (s2 _ _ e1)
    rw[htab c hcn] at this
    exact this
   ·rw[aS,b7,i7];exact m4 (show _<100000 by omega) (aN (c0 _))
   ·rw[aC,bI hc,g6]
    unfold bS
    rw[g6]
    rfl
  ·rintro H2 ⟨s2,e2⟩
   rw[j8] at e2
   have e3:SqL K H2 Dd (((x.map (tell rs)).map S).map V.str):=by
    have:((x.map (tell rs)).map S).map V.str=bS (x.map (tell rs)):=by unfold bS;rw[p7];rfl
    rw[this];exact SqL.of e2
   have ef:(x.map (tell rs)).flatten=told rs x:=by unfold told;rw[aJB]
   refine⟨_,Dd,_,rfl,rfl,e3,?_,told rs x,?_,ta,by omega,fun H3 s3=>k H3 ((s1.trans s2).trans s3)⟩
   ·rw[Ay,ef,oI,bV]
    simp
    omega
   ·rw[oI,Af,ef];rfl
theorem GU{f:Addr}{fd:FuncData}(D:Df K mg "_wall" CJ ["k"] f fd)(T:Txt P w K mg KN KO KP):Cl P w K mg base "_wall" ["k"] 1 Jq:=by
 refine D.cl (D.F.ok Gn (fun vs H Q E h=>?_) (fun cdv A outer s H vs Q E hr h=>?_))
 ·exact h.elim
 ·exact h.elim
theorem Iv{f:Addr}{fd:FuncData}(D:DfM K KP "round_told" "Weave.round_told" FK ["self","letter"] f fd)(T:Txt P w K mg KN KO KP):oP P w K mg base KP "round_told" ["self","letter"] 1 Jq:=by
 refine D.cl (D.F.ok HV (fun vs H Q E h=>?_) (fun cdv A outer s H vs Q E hr h=>?_))
 ·exact h.elim
 ·exact h.elim
theorem Jl{f:Addr}{fd:FuncData}(D:DfM K KP "__init__" "Weave.__init__" Gf ["self"] f fd)(T:Txt P w K mg KN KO KP):oP P w K mg base KP "__init__" ["self"] 1 (spWInitA KP):=by
 refine D.cl (D.F.ok Hx (fun vs H Q E h=>?_) (fun cdv A outer s H vs Q E hr h=>?_))
 ·obtain⟨p,dx,rfl,_⟩:=h
  rfl
 ·obtain⟨p,dx,rfl,hp,k⟩:=h
  refine⟨_,(aD (oV (K:=K) rfl (pv 0) (eE (aA aF aB)) rfl)
   (aD (oV (K:=K) rfl (pv 0) (eE (aA cQ aB)) rfl)
   (aD (oV (K:=K) rfl (pv 0) (eE (aA rH aB)) rfl)
   (aH (oV (K:=K) rfl (pv 0) (eE aB) rfl))))),?_⟩
  refine⟨by decide,fun q1 h1=>?_⟩
  have F1:=oX (HO.lst [.int 0]) (.ins KP dx (fO "heads" (.ref q1) [])) hp h1
  refine⟨_,rfl,p,KP,dx,[],rfl,iZ _ hp h1,T.o_Weave.cl,T.n_Weave_heads,(by show 0<1000;decide),?_⟩
  refine⟨by decide,fun q2 h2=>?_⟩
  have F2:=oX (HO.lst [.str (S [])]) (.ins KP dx (fO "turns" (.ref q2) (fO "heads" (.ref q1) []))) F1.1 h2
  refine⟨_,rfl,p,KP,dx,_,rfl,iZ _ F1.1 h2,T.o_Weave.cl,T.n_Weave_turns,(by show 1<1000;decide),?_⟩
  intro d hd
  have hpd:=iZ (.dK []) F2.1 hd
  refine⟨(by show 1≤sizeLine;decide),fun q3 h3=>?_⟩
  have F3:=oX (HO.lst [.ref d]) (.ins KP dx (fO "ways" (.ref q3) (fO "turns" (.ref q2) (fO "heads" (.ref q1) [])))) hpd h3
  refine⟨_,rfl,p,KP,dx,_,rfl,iZ _ hpd h3,T.o_Weave.cl,T.n_Weave_ways,(by show 2<1000;decide),?_⟩
  refine⟨by decide,fun q4 h4=>?_⟩
  have F4:=oX (HO.lst []) (.ins KP dx (wf q1 q2 q3 q4)) F3.1 h4
  refine⟨_,rfl,p,KP,dx,_,rfl,iZ _ F3.1 h4,T.o_Weave.cl,T.n_Weave_alike,(by show 3<1000;decide),?_⟩
  have n1:q1≠p:=(aJ hp h1).symm
  have n2:q2≠p:=(aJ F1.1 h2).symm
  have n3:d≠p:=(aJ F2.1 hd).symm
  have n4:q3≠p:=(aJ hpd h3).symm
  have m1:∀ {x:Addr},x≠p→(∀ o,H x=some o→False)→H x=none:=fun {x} _ z=>by
   cases e:H x with
   | none=>rfl
   | some o=>exact(z o e).elim
  have z1:H q1=none:=h1
  have s1:∀ b o,H b=some o→b≠p→_:=fun b o e hb=>F1.2.2 b o e hb
  have s2:∀ b o,H b=some o→b≠p→_:=fun b o e hb=>F2.2.2 b o (s1 b o e hb) hb
  have s3:∀ b o,H b=some o→b≠p→_:=fun b o e hb=>iZ (.dK []) (s2 b o e hb) hd
  have s4:∀ b o,H b=some o→b≠p→_:=fun b o e hb=>F3.2.2 b o (s3 b o e hb) hb
  have kp:∀ b o,H b=some o→b≠p→_:=fun b o e hb=>F4.2.2 b o (s4 b o e hb) hb
  have e1:=F4.2.2 _ _ (F3.2.2 _ _ (iZ (.dK []) (F2.2.2 _ _ F1.2.1 n1) hd) n1) n1
  have e2:=F4.2.2 _ _ (F3.2.2 _ _ (iZ (.dK []) F2.2.1 hd) n2) n2
  have e3:=F4.2.2 _ _ F3.2.1 n4
  have ed:=F4.2.2 _ _ (F3.2.2 _ _ aC n3) n3
  refine k [q1,q2,q3,q4,d] _ (fun x hx=>?_) ⟨dx,q1,q2,q3,q4,[d],[],rfl,⟨?_,F4.1,e1,e2,e3,F4.2.1,rfl,fun i d' es h1' h2'=>?_,rfl,fun j a' e h1' h2'=>(by simp at h1')⟩⟩ kp
  ·simp only [c7,o8,or_false] at hx
   rcases hx with rfl | rfl | rfl | rfl | rfl
   ·exact h1
   ·exact m1 n2 fun o e=>by have:=h2.symm.trans (s1 _ o e n2);cases this
   ·exact m1 n4 fun o e=>by have:=h3.symm.trans (s3 _ o e n4);cases this
   ·have n5:x≠p:=(aJ F3.1 h4).symm
    exact m1 n5 fun o e=>by have:=h4.symm.trans (s4 _ o e n5);cases this
   ·exact m1 n3 fun o e=>by have:=hd.symm.trans (s2 _ o e n3);cases this
  ·have v1:(HO.lst [V.int 0])≠.lst [.str (S [])]:=by intro z;cases z
   have v2:(HO.lst [V.int 0])≠.lst [.ref d]:=by intro z;cases z
   have v3:(HO.lst [V.int 0])≠.lst []:=by intro z;cases z
   have v4:(HO.lst [V.str (S [])])≠.lst [.ref d]:=by intro z;cases z
   have v5:(HO.lst [V.str (S [])])≠.lst []:=by intro z;cases z
   have v6:(HO.lst [V.ref d])≠.lst []:=by intro z;cases z
   have w1:=dI e1 e2 v1
   have w2:=dI e1 e3 v2
   have w3:=dI e1 F4.2.1 v3
   have w4:=dI e1 ed (by intro z;cases z)
   have w5:=dI e2 e3 v4
   have w6:=dI e2 F4.2.1 v5
   have w7:=dI e2 ed (by intro z;cases z)
   have w8:=dI e3 F4.2.1 v6
   have w9:=dI e3 ed (by intro z;cases z)
   have w10:=dI F4.2.1 ed (by intro z;cases z)
   simp[w1,w2,w3,w4,w5,w6,w7,w8,w9,w10]
  ·cases i with
   | zero =>
    have q1':d=d':=by simpa using h1'
    have q2':([]:List vJ)=es:=by simpa [HY] using h2'
    subst q1' q2'
    exact⟨[],ed,.nil⟩
   | succ i=>simp at h1'
theorem Jn{f:Addr}{fd:FuncData}(D:DfM K KP "end_of" "Weave.end_of" Fl ["self","place","told"] f fd)(T:Txt P w K mg KN KO KP)(c_zg1:Cl P w K mg base "joined" ["one","other"] 3 spJoinB):oP P w K mg base KP "end_of" ["self","place","told"] 4 (spEndA KP):=by
 refine D.cl (D.F.ok sc_zw (fun vs H Q E h=>?_) (fun cdv A outer s H vs Q E hr h=>?_))
 ·obtain⟨_,_,_,_,_,p,M,Z,i,x,rfl,_⟩:=h
  rfl
 ·obtain⟨hf,φ,ρ,rk,L,p,M,Z,i,x,rfl,hW,I,hL,hi,hx,hxp,hxl,k⟩:=h
  refine⟨_,(aD (mQ l6 (aT jP (aX (aR (K:=K) rfl) (cI (K:=K) rfl (pv 0) rfl) (pv 1) (fun _ _=>rfl)) (pv 1) (aZ _)) (aD (aM (i:=3) sc_zw.nd rfl (Or.inl rfl) (aX (aR (K:=K) rfl) (cI (K:=K) rfl (pv 0) rfl) (pv 1) (fun _ _=>rfl)))
   (aD (fF (pC c_zg1 hr (aA (aX (aR (K:=K) rfl) (cI (K:=K) rfl (pv 0) rfl) (pv 1) (fun _ _=>rfl)) (aA (aX (aR (K:=K) rfl) (cI (K:=K) rfl (pv 0) rfl) (pv 3) (fun _ _=>rfl)) aB))) (iB (cI (K:=K) rfl (pv 0) rfl) (pv 1) eN))
   (aD (fF (aX (aR (K:=K) rfl) (cI (K:=K) rfl (pv 0) rfl) (pv 3) (fun _ _=>rfl)) (iB (cI (K:=K) rfl (pv 0) rfl) (pv 1) eN))
   (aD (aM (i:=2) sc_zw.nd rfl (Or.inl rfl) (pC c_zg1 hr (aA (pv 2) (aA (aX (aR (K:=K) rfl) (cI (K:=K) rfl (pv 0) rfl) (pv 1) (fun _ _=>rfl)) aB))))
   (aH (aM (i:=1) sc_zw.nd rfl (Or.inl rfl) (aX (aR (K:=K) rfl) (cI (K:=K) rfl (pv 0) rfl) (pv 1) (fun _ _=>rfl)))))))))
   (aH (aV (fY (aA (pv 1) (aA (pv 2) aB)))))),?_⟩
  refine⟨fun m σ H'=>∃ (j:Nat) (Z':WvS) (y:List Nat) (v3:Option V),m=rk j∧σ=[some (.ref p),some (.int (j:Nat)),some (.str (S y)),v3]∧Kept KP hf φ ρ rk L p M H H' Z Z'∧j<Z.hs.length∧ρ j=ρ i∧AllL y∧y=lay (x++(back (φ i)++φ j)),⟨rk i,i,Z,x,none,rfl,rfl,⟨hW,I,rfl,rfl,rfl,FrW.refl _ _⟩,hi,rfl,hx,?_⟩,?_⟩
  ·rw[← cG x _ hx (AllL.app.mpr ⟨aL (I.fa i).1,(I.fa i).1⟩),eU (I.fa i).1,l4,hxp]
  rintro m _ H1 ⟨j,Z1,y,v3,rfl,rfl,K1,hj,hρ,hy,hye⟩
  obtain⟨dx,hd,tn,wy,al,ds,as,hM,w1⟩:=id K1.at'
  have I1:=K1.wi
  have hj1:j<Z1.hs.length:=by rw[K1.ln];exact hj
  obtain⟨a,ha⟩:∃ a,Z1.hs[j]?=some a:=⟨_,b0 hj1⟩
  obtain⟨a1,a2,a3,a4⟩:=I1.hd j a ha
  refine⟨_,rfl,p,KP,dx,_,_,rfl,w1.ob,T.o_Weave.cl,T.n_Weave_heads,fQ _ _ _ _,_,rfl,hd,_,_,_,rfl,rfl,SqL.of w1.hh,dJ (lT ha),_,rfl,rfl,_,rfl,?_⟩
  by_cases hja:a=j
  ·subst hja
   rw[show decide (V.int ((a:Nat):Int)=V.int ((a:Nat):Int))=true from decide_eq_true rfl]
   refine jO ?_
   have hr:ρ i=a:=by rw[← hρ];exact a4 rfl
   refine⟨_,rfl,_,rfl,(by show 2≤sizeLine;decide),fun t ht=>?_⟩
   have s2:=Same.new (o:=HO.tup [.int ((a:Nat):Int),.str (S y)]) ht
   refine k t _ Z1 ⟨K1.at'.same s2,I1,K1.ws,K1.al,K1.ln,fun b o e n=>s2 _ _ (K1.fr b o e n)⟩ ?_
   rw[aC,hr,← hye]
  ·rw[show decide (V.int ((a:Nat):Int)=V.int ((j:Nat):Int))=false from decide_eq_false (fun z=>hja (by have:=V.int.inj z;omega))]
   refine lW ?_
   refine⟨fun σ' H'=>∃ (j':Nat) (Z':WvS) (y':List Nat) (v3:Option V),rk j' < rk j∧σ'=[some (.ref p),some (.int (j':Nat)),some (.str (S y')),v3]∧Kept KP hf φ ρ rk L p M H H' Z Z'∧j' < Z.hs.length∧ρ j'=ρ i∧AllL y'∧y'=lay (x++(back (φ i)++φ j')),fun σ' H' ⟨j',Z',y',v3,q0,q1⟩=>⟨rk j',q0,j',Z',y',v3,rfl,q1⟩,?_⟩
   have ha1:a<Z1.hs.length:=a1
   obtain⟨b,hb⟩:∃ b,Z1.hs[a]?=some b:=⟨_,b0 ha1⟩
   obtain⟨t,ht⟩:∃ t,Z1.ts[j]?=some t:=⟨_,b0 (by rw[I1.lt];exact hj1)⟩
   obtain⟨u,hu⟩:∃ u,Z1.ts[a]?=some u:=⟨_,b0 (by rw[I1.lt];exact ha1)⟩
   obtain⟨I2,et,hrb,hρb⟩:=I1.comp ha hja hb ht hu
   obtain⟨tA,tl⟩:AllL t∧t.length≤2 * L:=by rw[I1.tn j a t ha ht];exact jD I1 j a
   obtain⟨uA,ul⟩:AllL u∧u.length≤2 * L:=by rw[I1.tn a b u hb hu];exact jD I1 a b
   refine⟨_,rfl,p,KP,dx,_,_,rfl,w1.ob,T.o_Weave.cl,T.n_Weave_heads,fQ _ _ _ _,_,rfl,hd,_,_,_,rfl,rfl,SqL.of w1.hh,dJ (lT ha),?_⟩
   refine⟨_,rfl,p,KP,dx,_,_,rfl,w1.ob,T.o_Weave.cl,T.n_Weave_turns,iM _ _ _ _,_,rfl,tn,_,_,_,rfl,rfl,SqL.of w1.ht,dJ (mY ht),?_⟩
   refine⟨_,rfl,p,KP,dx,_,_,rfl,w1.ob,T.o_Weave.cl,T.n_Weave_turns,iM _ _ _ _,_,rfl,tn,_,_,_,rfl,rfl,SqL.of w1.ht,dJ (mY hu),?_⟩
   refine⟨t,u,rfl,tA,uA,by omega,fun H2 s2=>?_⟩
   have w2:=w1.same s2
   refine⟨_,rfl,p,KP,dx,_,_,rfl,w2.ob,T.o_Weave.cl,T.n_Weave_turns,iM _ _ _ _,_,rfl,tn,_,_,j,rfl,rfl,w2.ht,vH (by omega) (by rw[aS,I1.lt];omega),?_⟩
   rw[AR]
   have w3:=w2.upTn (Z1.ts.set j (lay (t++u)))
   have f3:FrW M H2 (upd H2 tn (.lst (bS (Z1.ts.set j (lay (t++u)))))):=by rw[hM];exact WvC.put1 (by simp)
   generalize upd H2 tn (.lst (bS (Z1.ts.set j (lay (t++u)))))=H3 at w3 f3
   refine⟨_,rfl,p,KP,dx,_,_,rfl,w3.ob,T.o_Weave.cl,T.n_Weave_heads,fQ _ _ _ _,_,rfl,hd,_,_,_,rfl,rfl,SqL.of w3.hh,dJ (lT hb),?_⟩
   refine⟨_,rfl,p,KP,dx,_,_,rfl,w3.ob,T.o_Weave.cl,T.n_Weave_heads,fQ _ _ _ _,_,rfl,hd,_,_,j,rfl,rfl,w3.hh,vH (by omega) (by rw[fU];show ((j:Nat):Int)<((Z1.hs.length:Nat):Int);omega),?_⟩
   rw[yO]
   have w4:=w3.upHd (Z1.hs.set j b)
   have f4:FrW M H3 (upd H3 hd (.lst (eT (Z1.hs.set j b)))):=by rw[hM];exact WvC.put1 (by simp)
   show yC _ _ _ _ (upd H3 hd (.lst (eT (Z1.hs.set j b))))
   generalize upd H3 hd (.lst (eT (Z1.hs.set j b)))=H4 at w4 f4
   have hjt:(Z1.ts.set j (lay (t++u)))[j]?=some (lay (t++u)):=aQD (by rw[I1.lt];exact hj1)
   have hjh:(Z1.hs.set j b)[j]?=some b:=aQD hj1
   refine⟨_,rfl,_,rfl,p,KP,dx,_,_,rfl,w4.ob,T.o_Weave.cl,T.n_Weave_turns,iM _ _ _ _,_,rfl,tn,_,_,_,rfl,rfl,SqL.of w4.ht,dJ (mY hjt),?_⟩
   have yl:y.length≤5 * L:=by
    rw[hye]
    have:=gE (x++(back (φ i)++φ j))
    rw[c5,c5,bY] at this
    have:=(I.fa i).2
    have:=(I.fa j).2
    omega
   obtain⟨vA,vl⟩:AllL (lay (t++u))∧(lay (t++u)).length≤2 * L:=by rw[et];exact jD I1 j b
   refine⟨y,lay (t++u),rfl,hy,vA,by omega,fun H5 s5=>?_⟩
   have w5:=w4.same s5
   refine⟨_,rfl,p,KP,dx,_,_,rfl,w5.ob,T.o_Weave.cl,T.n_Weave_heads,fQ _ _ _ _,_,rfl,hd,_,_,_,rfl,rfl,SqL.of w5.hh,dJ (lT hjh),?_⟩
   have f5:FrW M H H5:=fun b o e n=>s5 _ _ (f4 _ _ (f3 _ _ (s2 _ _ (K1.fr b o e n)) n) n)
   refine⟨b,_,lay (y++lay (t++u)),_,hrb,rfl,⟨⟨dx,hd,tn,wy,al,ds,as,hM,w5⟩,I2,K1.ws,K1.al,by show (Z1.hs.set j b).length=_;rw[m6];exact K1.ln,f5⟩,by rw[← K1.ln];exact(I1.hd a b hb).1,hρb.trans hρ,eM (AllL.app.mpr ⟨hy,vA⟩),?_⟩
   rw[et,hye]
   have:=IJ (a:=x++back (φ i)) (b:=φ j) (c:=φ b) (AllL.app.mpr ⟨hx,aL (I.fa i).1⟩) (I.fa j).1 (I.fa b).1
   simp only [i6] at this
   exact this
theorem Jo{f:Addr}{fd:FuncData}(D:DfM K KP "head_of" "Weave.head_of" Hd ["self","place"] f fd)(T:Txt P w K mg KN KO KP)(c_zw:oP P w K mg base KP "end_of" ["self","place","told"] 4 (spEndA KP)):oP P w K mg base KP "head_of" ["self","place"] 5 (spHeadA KP):=by
 obtain⟨f_zw,fd_zw,G_zw,m_zw,b_zw⟩:=c_zw
 refine D.cl (D.F.ok IF (fun vs H Q E h=>?_) (fun cdv A outer s H vs Q E hr h=>?_))
 ·obtain⟨_,_,_,_,_,p,M,Z,i,rfl,_⟩:=h
  rfl
 ·obtain⟨hf,φ,ρ,rk,L,p,M,Z,i,rfl,hW,I,hL,hi,k⟩:=h
  refine⟨_,(aH (aV (aX (cH (K:=K) rfl) (eP (pv 0) T.o_Weave.cl m_zw G_zw (hr.mono (by decide)) b_zw .nil fW (aA (pv 1) (aA cQ aB))) aF (fun _ _=>rfl)))),?_⟩
  obtain⟨dx,hd,tn,wy,al,ds,as,hM,w1⟩:=id hW
  refine⟨_,rfl,p,dx,_,rfl,w1.ob,iA _ _ _ _ (by decide +kernel) (by decide +kernel) (by decide +kernel) (by decide +kernel),_,rfl,hf,φ,ρ,rk,L,p,M,Z,i,[],rfl,hW,I,hL,hi,AllL.nil,rfl,by simp,fun t H1 Z1 K1 et=>?_⟩
  exact⟨t,_,0,.int (ρ i:Nat),rfl,rfl,SqT.of et,rfl,k H1 Z1 K1⟩
theorem IA{f:Addr}{fd:FuncData}(D:DfM K KP "goal_of" "Weave.goal_of" FJ ["self","head","letter"] f fd)(T:Txt P w K mg KN KO KP)(c_zp:oP P w K mg base KP "head_of" ["self","place"] 5 (spHeadA KP)):oP P w K mg base KP "goal_of" ["self","head","letter"] 6 (spGoalA KP):=by
 obtain⟨f_zp,fd_zp,G_zp,m_zp,b_zp⟩:=c_zp
 refine D.cl (D.F.ok sc_zq (fun vs H Q E h=>?_) (fun cdv A outer s H vs Q E hr h=>?_))
 ·obtain⟨_,_,_,_,_,p,M,Z,i,c,es,rfl,_⟩:=h
  rfl
 ·obtain⟨hf,φ,ρ,rk,L,p,M,Z,i,c,es,rfl,hW,I,hL,hes,k⟩:=h
  refine⟨_,(aD (aM (i:=3) sc_zq.nd rfl (Or.inl rfl) (wZ (m7 (t8 (by decide:1≤64) _) hr.units) (aX (aR (K:=K) rfl) (cI (K:=K) rfl (pv 0) rfl) (pv 1) (fun _ _=>rfl)) (pv 2) ⟨rfl,rfl,rfl,rfl⟩))
   (aH (aV (lL (aT zJ (pv 3) iC (aZ _)) iC (eP (pv 0) T.o_Weave.cl m_zp G_zp (hr.mono (by decide)) b_zp .nil fW (aA (aX (cH (K:=K) rfl) (pv 3) aF (fun _ _=>rfl)) aB)))))),?_⟩
  obtain⟨dx,hd,tn,wy,al,ds,as,hM,w1⟩:=id hW
  obtain⟨d,hd'⟩:∃ d,ds[i]?=some d:=⟨_,b0 (by rw[w1.ld];exact(a9.mp hes).1)⟩
  obtain⟨kvs,a6,hk⟩:=w1.dc i d es hd' hes
  refine⟨_,rfl,p,KP,dx,_,_,rfl,w1.ob,T.o_Weave.cl,T.n_Weave_ways,oU _ _ _ _,_,rfl,wy,_,_,.ref d,rfl,rfl,SqL.of w1.hw,dJ (by rw[c9,hd'];rfl),d,rfl,.inl ⟨kvs,.inl a6⟩,_,rfl,_,DGet.k (k:=.inr (S [c])) a6,?_⟩
  have hv:=hk.val (c:=c)
  refine⟨_,rfl,rfl,_,rfl,?_⟩
  cases e:dC es c with
  | none =>
   rw[e] at hv
   have hv:dB kvs (Sum.inr (S [c]))=none:=hv
   rw[hv]
   show Q .non H
   have:=k H Z ⟨hW,I,rfl,rfl,rfl,FrW.refl _ _⟩
   rw[e] at this
   exact this
  | some r =>
   rw[e] at hv
   obtain⟨t,hv,ht⟩:=(show ∃ t,dB kvs (Sum.inr (S [c]))=some (V.ref t)∧H t=some (HO.tup [V.int (r.1:Nat),V.str (S r.2)]) from hv)
   rw[hv]
   rw[e] at k
   have hg:=((I.wy i es hes).2 _ (dY e)).2.1
   refine⟨_,rfl,p,dx,_,rfl,w1.ob,iA _ _ _ _ (by decide +kernel) (by decide +kernel) (by decide +kernel) (by decide +kernel),_,rfl,t,_,0,.int (r.1:Nat),rfl,rfl,SqT.of ht,rfl,hf,φ,ρ,rk,L,p,M,Z,r.1,rfl,hW,I,hL,hg,fun H1 Z1 K1=>k H1 Z1 K1⟩
theorem Ih{f:Addr}{fd:FuncData}(D:DfM K KP "new_place" "Weave.new_place" FX ["self"] f fd)(T:Txt P w K mg KN KO KP):oP P w K mg base KP "new_place" ["self"] 1 (spNewA KP):=by
 refine D.cl (D.F.ok sc_zf (fun vs H Q E h=>?_) (fun cdv A outer s H vs Q E hr h=>?_))
 ·obtain⟨p,M,Z,rfl,_⟩:=h
  rfl
 ·obtain⟨p,M,Z,rfl,hW,l1,l2,l3,k⟩:=h
  refine⟨_,(aD (aM (i:=1) sc_zf.nd rfl (Or.inl rfl) (aU (bG (K:=K) rfl) (by rfl) T.b_len k7 (aA (cI (K:=K) rfl (pv 0) rfl) aB)))
   (aD (cJ (cX (K:=K) rfl j9 m9 n9 cW (cI (K:=K) rfl (pv 0) rfl) (aA (pv 1) aB)))
   (aD (cJ (cX (K:=K) rfl j9 m9 n9 cW (cI (K:=K) rfl (pv 0) rfl) (aA cQ aB)))
   (aD (cJ (cX (K:=K) rfl j9 m9 n9 cW (cI (K:=K) rfl (pv 0) rfl) (aA rH aB)))
   (aH (aV (pv 1))))))),?_⟩
  obtain⟨dx,hd,tn,wy,al,ds,as,hM,w1⟩:=id hW
  refine⟨_,rfl,p,KP,dx,_,_,rfl,w1.ob,T.o_Weave.cl,T.n_Weave_heads,fQ _ _ _ _,hd,_,rfl,.inl (SqL.of w1.hh),?_⟩
  have hlen:(V.int (((eT Z.hs).length:Nat):Int))=V.int ((Z.hs.length:Nat):Int):=by rw[fU]
  rw[hlen]
  refine⟨_,rfl,p,KP,dx,_,_,rfl,w1.ob,T.o_Weave.cl,T.n_Weave_heads,fQ _ _ _ _,.inl ⟨rfl,_,SqL.of w1.hh⟩,_,rfl,hd,_,_,rfl,rfl,w1.hh,by rw[fU];exact aQ (by omega),?_⟩
  rw[xJ]
  have w2:=w1.upHd (Z.hs++[Z.hs.length])
  have f2:FrW M H (upd H hd (.lst (eT (Z.hs++[Z.hs.length])))):=by rw[hM];exact WvC.put1 (by simp)
  show yC _ _ _ _ (upd H hd (.lst (eT (Z.hs++[Z.hs.length]))))
  generalize upd H hd (.lst (eT (Z.hs++[Z.hs.length])))=H2 at w2 f2
  refine⟨_,rfl,p,KP,dx,_,_,rfl,w2.ob,T.o_Weave.cl,T.n_Weave_turns,iM _ _ _ _,.inl ⟨rfl,_,SqL.of w2.ht⟩,tn,_,_,rfl,rfl,w2.ht,by rw[aS];exact aQ (by show Z.ts.length≤_;omega),?_⟩
  have et:bS Z.ts++[.str (Str.ofString "")]=bS (Z.ts++[[]]):=by unfold bS;rw[g6];rfl
  show yC _ _ _ _ (upd H2 tn (.lst (bS Z.ts++[.str (Str.ofString "")])))
  rw[et]
  have w3:=w2.upTn (Z.ts++[[]])
  have f3:FrW M H2 (upd H2 tn (.lst (bS (Z.ts++[[]])))):=by rw[hM];exact WvC.put1 (by simp)
  generalize upd H2 tn (.lst (bS (Z.ts++[[]])))=H3 at w3 f3
  refine⟨_,rfl,p,KP,dx,_,_,rfl,w3.ob,T.o_Weave.cl,T.n_Weave_ways,oU _ _ _ _,.inl ⟨rfl,_,SqL.of w3.hw⟩,fun d hd0=>?_⟩
  have hw3:upd H3 d (.dK []) wy=some (.lst (ds.map V.ref)):=iZ _ w3.hw hd0
  refine⟨wy,_,_,rfl,rfl,hw3,by rw[b7,w3.ld];exact aQ (by show Z.ws.length≤_;omega),?_⟩
  have w4:=w3.upNew hd0
  have ed:ds.map V.ref++[V.ref d]=(ds++[d]).map V.ref:=by rw[g6];rfl
  refine⟨_,rfl,?_⟩
  show Q _ (upd (upd H3 d (.dK [])) wy (.lst (ds.map V.ref++[V.ref d])))
  rw[ed]
  have hdH:H d=none:=by
   cases e:H d with
   | none=>rfl
   | some o =>
    by_cases q:d∈M
    ·exfalso
     have:d∈hd::tn::wy::al::ds:=by rw[← hM];exact q
     rcases c7.mp this with rfl | this
     ·rw[w3.hh] at hd0;cases hd0
     rcases c7.mp this with rfl | this
     ·rw[w3.ht] at hd0;cases hd0
     rcases c7.mp this with rfl | this
     ·rw[w3.hw] at hd0;cases hd0
     rcases c7.mp this with rfl | this
     ·rw[w3.ha] at hd0;cases hd0
     ·obtain⟨i,hi⟩:=o9 this
      obtain⟨es,hes⟩:∃ es,Z.ws[i]?=some es:=⟨_,b0 (by rw[← w1.ld];exact(a9.mp hi).1)⟩
      obtain⟨kvs,z,_⟩:=w3.dc i d es hi hes
      rw[z] at hd0;cases hd0
    ·rw[f3 _ _ (f2 _ _ e q) q] at hd0;cases hd0
  refine k d _ ⟨dx,hd,tn,wy,al,ds++[d],as,by rw[hM];rfl,w4⟩ hdH fun b o e n=>?_
  have n1:b≠wy:=fun z=>n (by rw[z,hM];simp)
  rw[aE n1,aE (aJ (f3 _ _ (f2 _ _ e n) n) hd0)]
  exact f3 _ _ (f2 _ _ e n) n
theorem Ir{f:Addr}{fd:FuncData}(D:DfM K KP "lay_way" "Weave.lay_way" Fu ["self","place","letter","goal","told"] f fd)(T:Txt P w K mg KN KO KP)(c_zz:Cl P w K mg base "turned_back" ["word"] 2 spBackB)(c_zg1:Cl P w K mg base "joined" ["one","other"] 3 spJoinB):oP P w K mg base KP "lay_way" ["self","place","letter","goal","told"] 4 (spLayA KP):=by
 refine D.cl (D.F.ok sc_zs (fun vs H Q E h=>?_) (fun cdv A outer s H vs Q E hr h=>?_))
 ·obtain⟨_,_,_,_,_,p,M,Z,i,c,g,t,es,rfl,_⟩:=h
  rfl
 ·obtain⟨hf,φ,ρ,rk,L,p,M,Z,i,c,g,t,es,rfl,hW,I,hL,hes,hc,hg,ht,hal,k⟩:=h
  refine⟨_,(aD (aM (i:=5) sc_zs.nd rfl (Or.inl rfl) (Cd (aX (aR (K:=K) rfl) (cI (K:=K) rfl (pv 0) rfl) (pv 1) (fun _ _=>rfl)) (pv 2) (fY (aA (pv 3) (aA (pv 4) aB))) ⟨rfl,rfl,rfl,rfl⟩))
   (aH (eB (aT (Es (K:=K) rfl hr.units0) (pv 5) (fY (aA (pv 3) (aA (pv 4) aB))) (aZ _)) (aH (cJ (cX (K:=K) rfl j9 m9 n9 cW (cI (K:=K) rfl (pv 0) rfl) (aA (fY (aA (pv 3) (aA (pC c_zg1 hr (aA (pC c_zz hr (aA (pv 4) aB)) (aA (aX (cH (K:=K) rfl) (pv 5) aF (fun _ _=>rfl)) aB))) (aA (aX (cH (K:=K) rfl) (pv 5) aF (fun _ _=>rfl)) aB)))) aB)))) cO))),?_⟩
  obtain⟨dx,hd,tn,wy,al,ds,as,hM,w1⟩:=id hW
  obtain⟨d,hd'⟩:∃ d,ds[i]?=some d:=⟨_,b0 (by rw[w1.ld];exact(a9.mp hes).1)⟩
  obtain⟨kvs,a6,hk⟩:=w1.dc i d es hd' hes
  have el:es.length≤8:=uT (I.wy i es hes).1 fun e he=>((I.wy i es hes).2 e he).1
  have kl:kvs.length≤8:=by rw[aQp hk];exact el
  refine⟨_,rfl,p,KP,dx,_,_,rfl,w1.ob,T.o_Weave.cl,T.n_Weave_ways,oU _ _ _ _,_,rfl,wy,_,_,.ref d,rfl,rfl,SqL.of w1.hw,dJ (by rw[c9,hd'];rfl),d,rfl,.inl ⟨kvs,.inl a6⟩,_,rfl,_,rfl,_,rfl,(by show 2≤sizeLine;decide),fun q hq=>?_⟩
  have s1:=Same.new (o:=HO.tup [.int ((g:Nat):Int),.str (S t)]) hq
  have e1:upd H q (.tup [.int ((g:Nat):Int),.str (S t)]) q=some (.tup [.int ((g:Nat):Int),.str (S t)]):=aC
  generalize upd H q (.tup [.int ((g:Nat):Int),.str (S t)])=H1 at s1 e1
  have w2:=w1.same s1
  have hk1:DcIs H1 kvs es:=hk.mono fun t xs z=>s1 _ _ z
  have hv:=hk1.val (c:=c)
  refine⟨kvs,.inr (S [c]),s1 _ _ a6,(by rw[sizeLine_eq];omega),rfl,?_,?_⟩
  ·intro v e
   cases ew:dC es c with
   | none =>
    rw[ew] at hv
    rw[show dB kvs (Sum.inr (S [c]))=none from hv] at e
    cases e
   | some r =>
    rw[ew] at hv
    obtain⟨q2,hv2,ht2⟩:=(show ∃ t,dB kvs (Sum.inr (S [c]))=some (V.ref t)∧H1 t=some (HO.tup [V.int (r.1:Nat),V.str (S r.2)]) from hv)
    rw[hv2] at e
    cases e
    have hr:=(I.wy i es hes).2 _ (dY ew)
    refine⟨_,rfl,_,rfl,_,rfl,(by show 2≤sizeLine;decide),fun q3 hq3=>?_⟩
    have s3:=Same.new (o:=HO.tup [.int ((g:Nat):Int),.str (S t)]) hq3
    have e3:upd H1 q3 (.tup [.int ((g:Nat):Int),.str (S t)]) q3=some (.tup [.int ((g:Nat):Int),.str (S t)]):=aC
    generalize upd H1 q3 (.tup [.int ((g:Nat):Int),.str (S t)])=H3 at s3 e3
    refine⟨q2,q3,_,_,rfl,rfl,.inr ⟨SqT.of (s3 _ _ ht2),SqT.of e3⟩,rfl,rfl,_,rfl,?_⟩
    have w3:=w2.same s3
    have s13:=s1.trans s3
    show (if (!gU [.int ((r.1:Nat):Int),.str (S r.2)] [.int ((g:Nat):Int),.str (S t)])=true then _ else _)
    rw[xF]
    by_cases hsame:(r.1,r.2)=(g,t)
    ·rw[decide_eq_true hsame]
     refine jO ?_
     have hl:bD Z i c g t es=Z:=by unfold bD;rw[ew];exact if_pos hsame
     have:=k H3 (by rw[hl];exact(hW.same s1).same s3) (FrW.ofSame s13)
     exact this
    ·rw[decide_eq_false hsame]
     refine lW ?_
     obtain⟨tA,tl⟩:AllL t∧t.length≤3 * L:=by rw[ht];exact pE I hc i g
     obtain⟨rA,rl⟩:AllL r.2∧r.2.length≤3 * L:=by rw[show r.2=_ from hr.2.2];exact pE I hc i r.1
     refine⟨_,rfl,p,KP,dx,_,_,rfl,w3.ob,T.o_Weave.cl,T.n_Weave_alike,pL _ _ _ _,.inl ⟨rfl,_,SqL.of w3.ha⟩,_,rfl,_,rfl,t,rfl,tA,by omega,fun H4 s4=>?_⟩
     have ht4:=s4 _ _ (s3 _ _ ht2)
     refine⟨_,rfl,q2,_,1,.str (S r.2),rfl,rfl,SqT.of ht4,rfl,back t,r.2,rfl,aL tA,rA,by rw[bY];omega,fun H5 s5=>?_⟩
     refine⟨_,rfl,q2,_,0,.int (r.1:Nat),rfl,rfl,SqT.of (s5 _ _ ht4),rfl,(by show 3≤sizeLine;decide),fun q4 hq4=>?_⟩
     have s6:=Same.new (o:=HO.tup [.int ((g:Nat):Int),.str (S (lay (back t++r.2))),.int ((r.1:Nat):Int)]) hq4
     have e6:upd H5 q4 (.tup [.int ((g:Nat):Int),.str (S (lay (back t++r.2))),.int ((r.1:Nat):Int)]) q4=some (.tup [.int ((g:Nat):Int),.str (S (lay (back t++r.2))),.int ((r.1:Nat):Int)]):=aC
     generalize upd H5 q4 (.tup [.int ((g:Nat):Int),.str (S (lay (back t++r.2))),.int ((r.1:Nat):Int)])=H6 at s6 e6
     have w6:=((w3.same s4).same s5).same s6
     refine⟨al,_,_,rfl,rfl,w6.ha,by rw[b7,w6.la];exact m7 hal (by decide),?_⟩
     have w7:=w6.upAl (as++[q4]) (Z.al++[(g,lay (back t++r.2),r.1)]) (by rw[c5,c5,w6.la];rfl) (fun j b e h1 h2=>by
      rcases eY h2 with ⟨z,h2⟩ | ⟨z,rfl⟩
      ·rw[l5 (by rw[w6.la];exact z)] at h1
       exact w6.at' j b e h1 h2
      ·rcases eY h1 with ⟨z',_⟩ | ⟨_,rfl⟩
       ·rw[w6.la] at z';omega
       ·exact e6)
     have ea:as.map V.ref++[V.ref q4]=(as++[q4]).map V.ref:=by rw[g6];rfl
     show Fg _ _ (upd H6 al (.lst (as.map V.ref++[V.ref q4])))
     rw[ea]
     have hl:bD Z i c g t es={ Z with al:=Z.al++[(g,lay (back t++r.2),r.1)] }:=by unfold bD;rw[ew];exact if_neg hsame
     refine k _ (by rw[hl];exact⟨dx,hd,tn,wy,al,ds,as++[q4],hM,w7⟩) fun b o e n=>?_
     rw[aE (fun z=>n (by rw[z,hM];simp))]
     exact s6 _ _ (s5 _ _ (s4 _ _ (s13 _ _ e)))
  ·intro e
   cases ew:dC es c with
   | some r =>
    rw[ew] at hv
    obtain⟨q2,hv2,ht2⟩:=(show ∃ t,dB kvs (Sum.inr (S [c]))=some (V.ref t)∧H1 t=some (HO.tup [V.int (r.1:Nat),V.str (S r.2)]) from hv)
    rw[hv2] at e
    cases e
   | none =>
    have w3:=w2.upDc hd' (dF kvs (.inr (S [c])) (.ref q)) (es++[(c,g,t)]) (hk1.put ew e1)
    have f3:FrW M H1 (upd H1 d (.dK (dF kvs (.inr (S [c])) (.ref q)))):=by rw[hM];exact WvC.put1 (by simp[b6 hd'])
    have e2:upd H1 d (.dK (dF kvs (.inr (S [c])) (.ref q))) q=some (.tup [.int ((g:Nat):Int),.str (S t)]):=by rw[aE (dI e1 (s1 _ _ a6) (by intro z;cases z))];exact e1
    generalize upd H1 d (.dK (dF kvs (.inr (S [c])) (.ref q)))=H2 at w3 f3 e2
    refine⟨_,rfl,_,rfl,_,rfl,(by show 2≤sizeLine;decide),fun q3 hq3=>?_⟩
    have s3:=Same.new (o:=HO.tup [.int ((g:Nat):Int),.str (S t)]) hq3
    have e3:upd H2 q3 (.tup [.int ((g:Nat):Int),.str (S t)]) q3=some (.tup [.int ((g:Nat):Int),.str (S t)]):=aC
    generalize upd H2 q3 (.tup [.int ((g:Nat):Int),.str (S t)])=H3 at s3 e3
    refine⟨q,q3,_,_,rfl,rfl,.inr ⟨SqT.of (s3 _ _ e2),SqT.of e3⟩,rfl,rfl,_,rfl,?_⟩
    show (if (!gU [.int ((g:Nat):Int),.str (S t)] [.int ((g:Nat):Int),.str (S t)])=true then _ else _)
    rw[xF,decide_eq_true rfl]
    refine jO ?_
    have hl:bD Z i c g t es={ Z with ws:=Z.ws.set i (es++[(c,g,t)]) }:=by unfold bD;rw[ew]
    refine k H3 (by rw[hl];exact⟨dx,hd,tn,wy,al,ds,as,hM,w3.same s3⟩) fun b o e n=>s3 _ _ (f3 _ _ (s1 _ _ e) n)
theorem Iy{f:Addr}{fd:FuncData}(D:DfM K KP "put_under" "Weave.put_under" GD ["self","head","above","turn"] f fd)(T:Txt P w K mg KN KO KP)(c_zz:Cl P w K mg base "turned_back" ["word"] 2 spBackB)(c_zg1:Cl P w K mg base "joined" ["one","other"] 3 spJoinB)(c_zs:oP P w K mg base KP "lay_way" ["self","place","letter","goal","told"] 4 (spLayA KP)):oP P w K mg base KP "put_under" ["self","head","above","turn"] 5 (spPutA KP):=by
 obtain⟨f_zs,fd_zs,G_zs,m_zs,b_zs⟩:=c_zs
 refine D.cl (D.F.ok sc_zk (fun vs H Q E h=>?_) (fun cdv A outer s H vs Q E hr h=>?_))
 ·obtain⟨_,_,_,_,_,_,_,p,M,Z,hd,ab,t,es,rfl,_⟩:=h
  rfl
 ·obtain⟨hf,φ,ρ,rk,ρ1,rk1,L,p,M,Z,ho,ab,t,es,rfl,hW,I,I1,hL,hes,hho,hab,hne,ht,hal,k⟩:=h
  refine⟨_,(aD (fF (pv 2) (iB (cI (K:=K) rfl (pv 0) rfl) (pv 1) eN))
   (aD (fF (pv 3) (iB (cI (K:=K) rfl (pv 0) rfl) (pv 1) eN))
   (aH (dL l6 rfl (fP (K:=K) rfl (bN (yS rfl) (by rfl) T.b_list boot_list (aA (Be (aX (aR (K:=K) rfl) (cI (K:=K) rfl (pv 0) rfl) (pv 1) (fun _ _=>rfl))) aB))) (jZ (K:=K) rfl rfl (cR (bH (i:=4) sc_zk.nd rfl (Or.inl rfl)) (cR (bH (i:=5) sc_zk.nd rfl (Or.inl rfl)) hZ))) (aH (cJ (eP (pv 0) T.o_Weave.cl m_zs G_zs (hr.mono (by decide)) b_zs .nil fW (aA (pv 2) (aA (pv 4) (aA (aX (cH (K:=K) rfl) (pv 5) aF (fun _ _=>rfl)) (aA (pC c_zg1 hr (aA (pC c_zz hr (aA (pv 3) aB)) (aA (aX (cH (K:=K) rfl) (pv 5) aF (fun _ _=>rfl)) aB))) aB))))))))))),?_⟩
  obtain⟨dx,hd,tn,wy,al,ds,as,hM,w1⟩:=id hW
  obtain⟨tA,tl⟩:AllL t∧t.length≤2 * L:=by rw[ht];exact jD I ho ab
  have el:es.length≤8:=uT (I.wy ho es hes).1 fun e he=>((I.wy ho es hes).2 e he).1
  refine⟨_,rfl,_,rfl,p,KP,dx,_,_,rfl,w1.ob,T.o_Weave.cl,T.n_Weave_heads,fQ _ _ _ _,_,rfl,hd,_,_,ho,rfl,rfl,w1.hh,vH (by omega) (by rw[fU];omega),?_⟩
  rw[yO]
  have w2:=w1.upHd (Z.hs.set ho ab)
  have f2:FrW M H (upd H hd (.lst (eT (Z.hs.set ho ab)))):=by rw[hM];exact WvC.put1 (by simp)
  show yC _ _ _ _ (upd H hd (.lst (eT (Z.hs.set ho ab))))
  generalize upd H hd (.lst (eT (Z.hs.set ho ab)))=H2 at w2 f2
  refine⟨_,rfl,_,rfl,p,KP,dx,_,_,rfl,w2.ob,T.o_Weave.cl,T.n_Weave_turns,iM _ _ _ _,_,rfl,tn,_,_,ho,rfl,rfl,w2.ht,vH (by omega) (by rw[aS];show ((ho:Nat):Int)<((Z.ts.length:Nat):Int);rw[I.lt];omega),?_⟩
  rw[AR]
  have w3:=w2.upTn (Z.ts.set ho t)
  have f3:FrW M H2 (upd H2 tn (.lst (bS (Z.ts.set ho t)))):=by rw[hM];exact WvC.put1 (by simp)
  dsimp only
  generalize upd H2 tn (.lst (bS (Z.ts.set ho t)))=H3 at w3 f3
  have w3:WvC KP H3 p dx hd tn wy al ds as (dR Z ho ab t):=w3
  have f13:FrW M H H3:=fun b o e n=>f3 _ _ (f2 _ _ e n) n
  obtain⟨d,hd'⟩:∃ d,ds[ho]?=some d:=⟨_,b0 (by rw[w1.ld];exact(a9.mp hes).1)⟩
  obtain⟨kvs,a6,hk⟩:=w3.dc ho d es hd' hes
  refine⟨_,rfl,p,KP,dx,_,_,rfl,w3.ob,T.o_Weave.cl,T.n_Weave_ways,oU _ _ _ _,_,rfl,wy,_,_,.ref d,rfl,rfl,SqL.of w3.hw,dJ (by rw[c9,hd'];rfl),d,kvs,rfl,a6,fun v hv=>?_⟩
  have s4:=Same.new (o:=HO.ext fun h=>h.IsItemsView v d) hv
  refine⟨v,d,kvs,rfl,aC,s4 _ _ a6,fun l ps H5 hl s5 e5 hlen hat=>?_⟩
  have s35:=s4.trans s5
  have w5:=w3.same s35
  have hlM:l ∉ M:=fun z=>by
   rw[hM] at z
   have no:∀ {o:HO},H3 l=some o→False:=fun q=>by rw[s4 _ _ q] at hl;cases hl
   rcases c7.mp z with rfl | z
   ·exact no w3.hh
   rcases c7.mp z with rfl | z
   ·exact no w3.ht
   rcases c7.mp z with rfl | z
   ·exact no w3.hw
   rcases c7.mp z with rfl | z
   ·exact no w3.ha
   ·obtain⟨i,hi⟩:=o9 z
    obtain⟨es',hes'⟩:∃ es,Z.ws[i]?=some es:=⟨_,b0 (by rw[← w1.ld];exact(a9.mp hi).1)⟩
    obtain⟨kvs',q,_⟩:=w3.dc i l es' hi hes'
    exact no q
  refine⟨l,rfl,⟨_,SqL.of e5⟩,pQ (K:=K) (a:=l) (xs:=ps.map V.ref) (fun i σ H6=>∃ v4 v5:Option V,σ=[some (.ref p),some (.int (ho:Nat)),some (.int (ab:Nat)),some (.str (S t)),v4,v5]∧Wat KP H6 p M (underW ab t (dR Z ho ab t) (es.take i))∧FrW M H5 H6) ⟨none,none,rfl,⟨dx,hd,tn,wy,al,ds,as,hM,w5⟩,FrW.refl _ _⟩ (fun i σ H6 _ ⟨_,_,_,_,f⟩=>SqL.of (f _ _ e5 hlM)) ?_ ?_⟩
  ·rintro i x _ H6 hx ⟨v4,v5,rfl,W6,f6⟩
   rw[c9] at hx
   obtain⟨q,hq,rfl⟩:=i9.mp hx
   have hi:i<es.length:=by
    have:=(a9.mp hq).1
    rw[hlen,aQp hk] at this
    exact this
   obtain⟨e,he⟩:∃ e,es[i]?=some e:=⟨_,b0 hi⟩
   obtain⟨kv,hkv,ek,wt,ew,ewt⟩:=nH hk he
   have hem:=b6 he
   obtain⟨c1,c2,c3⟩:=(I.wy ho es hes).2 e hem
   have ea:=hat i q kv hq hkv
   rw[ek,ew] at ea
   have ea:H5 q=some (.tup [.str (S [e.1]),.ref wt]):=ea
   have qM:∀ {b:Addr} {xs:List V},H5 b=some (.tup xs)→b ∉ M:=fun {b xs} z=>by rw[hM];exact w5.out z (by intro xs z;cases z) (by intro kvs z;cases z)
   have ea6:=f6 _ _ ea (qM ea)
   have ewt5:=s35 _ _ ewt
   have ewt6:=f6 _ _ ewt5 (qM ewt5)
   refine⟨q,_,rfl,.inr (SqT.of ea6),rfl,_,_,rfl,_,_,rfl,rfl,?_⟩
   obtain⟨dx',hd6,tn6,wy6,al6,ds6,as6,hM6,w6⟩:=id W6
   have hes':∀ x∈es.take i,bX x.1∧x.2.1<(dR Z ho ab t).hs.length∧x.2.2=lay (back (φ ho)++(hf x.1++φ x.2.1)):=fun x hx=>by
    obtain⟨z1,z2,z3⟩:=(I.wy ho es hes).2 x (r6 hx)
    refine⟨z1,?_,z3⟩
    show x.2.1<(Z.hs.set ho ab).length
    rw[m6];exact z2
   have lu:(dR Z ho ab t).hs.length=Z.hs.length:=by show (Z.hs.set ho ab).length=_;rw[m6]
   obtain⟨I6,h6⟩:=uB ht I1 (by rw[lu];exact hab) hes'
   obtain⟨ea',hea'⟩:∃ ea,(underW ab t (dR Z ho ab t) (es.take i)).ws[ab]?=some ea:=⟨_,b0 (by rw[I6.lw,h6,lu];exact hab)⟩
   have hgd:(underW ab t (dR Z ho ab t) (es.take i)).ws.getD ab []=ea':=by rw[b8,hea'];rfl
   obtain⟨eA,e3l⟩:AllL e.2.2∧e.2.2.length≤3 * L:=by rw[c3];exact pE I c1 ho e.2.1
   have hal6:=lH (ab:=ab) (t:=t) (es:=es.take i) (T:=dR Z ho ab t)
   have htl:(es.take i).length≤8:=by rw[i7];omega
   have hal7:(dR Z ho ab t).al.length=Z.al.length:=rfl
   refine⟨_,rfl,p,dx',_,rfl,w6.ob,iA _ _ _ _ (by decide +kernel) (by decide +kernel) (by decide +kernel) (by decide +kernel),_,rfl,_,rfl,_,rfl,wt,_,0,.int (e.2.1:Nat),rfl,rfl,SqT.of ewt6,rfl,_,rfl,t,rfl,tA,by omega,fun H7 s7=>?_⟩
   refine⟨_,rfl,wt,_,1,.str (S e.2.2),rfl,rfl,SqT.of (s7 _ _ ewt6),rfl,back t,e.2.2,rfl,aL tA,eA,by rw[bY];omega,fun H8 s8=>?_⟩
   refine⟨hf,φ,ρ1,rk1,L,p,M,_,ab,e.1,e.2.1,lay (back t++e.2.2),ea',rfl,(W6.same s7).same s8,I6,hL,hea',c1,by rw[h6,lu];exact c2,?_,by omega,fun H9 W9 f9=>?_⟩
   ·rw[ht,c3]
    exact JZ (I.fa ho).1 (I.fa ab).1 (I.fa e.2.1).1 (I.ha e.1 c1).1
   ·have tk:es.take (i+1)=es.take i++[e]:=by rw[p6,he];rfl
    refine⟨_,_,rfl,?_,fun b o z n=>f9 _ _ (s8 _ _ (s7 _ _ (f6 b o z n))) n⟩
    rw[tk,wU,hgd]
    exact W9
  ·rintro _ H6 ⟨v4,v5,rfl,W6,f6⟩
   rw[b7,hlen,aQp hk,j8] at W6
   exact k H6 W6 fun b o z n=>f6 _ _ (s35 _ _ (f13 b o z n)) n
theorem IR{f:Addr}{fd:FuncData}(D:DfM K KP "fold" "Weave.fold" F_ ["self"] f fd)(T:Txt P w K mg KN KO KP)(c_zz:Cl P w K mg base "turned_back" ["word"] 2 spBackB)(c_zg1:Cl P w K mg base "joined" ["one","other"] 3 spJoinB)(c_zw:oP P w K mg base KP "end_of" ["self","place","told"] 4 (spEndA KP))(c_zk:oP P w K mg base KP "put_under" ["self","head","above","turn"] 5 (spPutA KP)):oP P w K mg base KP "fold" ["self"] 6 (spFoldB KP):=by
 obtain⟨f_zw,fd_zw,G_zw,m_zw,b_zw⟩:=c_zw
 obtain⟨f_zk,fd_zk,G_zk,m_zk,b_zk⟩:=c_zk
 refine D.cl (D.F.ok sc_z1 (fun vs H Q E h=>?_) (fun cdv A outer s H vs Q E hr h=>?_))
 ·obtain⟨_,_,_,_,p,M,Z,E',rfl,_⟩:=h
  rfl
 ·obtain⟨hf,φ,rk,L,p,M,Z,E',rfl,hW,I,X,LI0,hL,hN,hal,k⟩:=h
  refine⟨_,(aH (mQ l6 (aT oH (aU (bG (K:=K) rfl) (by rfl) T.b_len k7 (aA (cI (K:=K) rfl (pv 0) rfl) aB)) aF (aZ _)) (aD (aM (i:=1) sc_z1.nd rfl (Or.inl rfl) (cX (K:=K) rfl j9 aQR aQS qP (cI (K:=K) rfl (pv 0) rfl) (aA aF aB)))
   (aD (aM (i:=2) sc_z1.nd rfl (Or.inl rfl) (eP (pv 0) T.o_Weave.cl m_zw G_zw (hr.mono (by decide)) b_zw .nil fW (aA (aX (cH (K:=K) rfl) (pv 1) aF (fun _ _=>rfl)) (aA cQ aB))))
   (aD (aM (i:=3) sc_z1.nd rfl (Or.inl rfl) (eP (pv 0) T.o_Weave.cl m_zw G_zw (hr.mono (by decide)) b_zw .nil fW (aA (aX (cH (K:=K) rfl) (pv 1) aF (fun _ _=>rfl)) (aA (aX (cH (K:=K) rfl) (pv 1) aF (fun _ _=>rfl)) aB))))
   (aH (eB (aT jP (aX (cH (K:=K) rfl) (pv 2) aF (fun _ _=>rfl)) (aX (cH (K:=K) rfl) (pv 3) aF (fun _ _=>rfl)) (aZ _)) (aH (cJ (eP (pv 0) T.o_Weave.cl m_zk G_zk (hr.mono (by decide)) b_zk .nil fW (aA (aX (cH (K:=K) rfl) (pv 2) aF (fun _ _=>rfl)) (aA (aX (cH (K:=K) rfl) (pv 3) aF (fun _ _=>rfl)) (aA (pC c_zg1 hr (aA (pC c_zz hr (aA (aX (cH (K:=K) rfl) (pv 2) aF (fun _ _=>rfl)) aB)) (aA (aX (cH (K:=K) rfl) (pv 3) aF (fun _ _=>rfl)) aB))) aB)))))) cO))))))),?_⟩
  refine⟨fun m σ H'=>∃ (ρ rk':Nat→Nat) (Z':WvS) (v1 v2 v3:Option V),m=9 * zQ ρ Z.hs.length+Z'.al.length∧m≤18100∧σ=[some (.ref p),v1,v2,v3]∧Wat KP H' p M Z'∧WI hf φ ρ rk' L Z'∧EI E' ρ Z'∧LI E' ρ Z'∧(∀ x,ρ (ρ x)=ρ x)∧Z'.hs.length=Z.hs.length∧FrW M H H',⟨_,(fun x=>x),rk,Z,none,none,none,rfl,?_,rfl,hW,I,X,LI0,(fun _=>rfl),rfl,FrW.refl _ _⟩,?_⟩
  ·have:=Ft (ρ:=fun x=>x) Z.hs.length
   omega
  rintro m _ H1 ⟨ρ,rk1,Z1,v1,v2,v3,hm,hm2,rfl,W1,I1,X1,LI1,hid,hl1,f1⟩
  obtain⟨dx,hd,tn,wy,al,ds,as,hM,w1⟩:=id W1
  refine⟨_,rfl,p,KP,dx,_,_,rfl,w1.ob,T.o_Weave.cl,T.n_Weave_alike,pL _ _ _ _,al,_,rfl,.inl (SqL.of w1.ha),_,_,rfl,rfl,_,rfl,?_⟩
  cases hal1:Z1.al with
  | nil =>
   have has:as=[]:=o6.mp (by rw[w1.la,hal1];rfl)
   subst has
   refine jO ?_
   exact k ρ rk1 H1 Z1 W1 I1 X1 LI1 hal1 hid hl1 f1
  | cons pr rest =>
   obtain⟨a,tt,b⟩:=pr
   obtain⟨q0,as',rfl⟩:∃ q0 as',as=q0::as':=by
    cases as with
    | nil=>have:=w1.la;rw[hal1] at this;simp at this
    | cons q0 as'=>exact⟨q0,as',rfl⟩
   refine gC (fun _=>?_) (fun z=>absurd (decide_eq_true (show (0:Int)<(((q0::as').map V.ref).length:Nat) by rw[b7,j0];omega)) z)
   have hq0:H1 q0=some (.tup [.int (a:Nat),.str (S tt),.int (b:Nat)]):=w1.at' 0 q0 (a,tt,b) rfl (by rw[hal1];rfl)
   obtain⟨p1,p2,p3⟩:=I1.al (a,tt,b) (by rw[hal1];exact d4)
   have p1:a<Z1.hs.length:=p1
   have p2:b<Z1.hs.length:=p2
   have p3:tt=lay (back (φ a)++φ b):=p3
   obtain⟨tA,tl⟩:AllL tt∧tt.length≤2 * L:=by rw[p3];exact jD I1 a b
   refine⟨fun σ' H'=>∃ (ρ' rk':Nat→Nat) (Z':WvS) (v1 v2 v3:Option V),9 * zQ ρ' Z.hs.length+Z'.al.length<m∧σ'=[some (.ref p),v1,v2,v3]∧Wat KP H' p M Z'∧WI hf φ ρ' rk' L Z'∧EI E' ρ' Z'∧LI E' ρ' Z'∧(∀ x,ρ' (ρ' x)=ρ' x)∧Z'.hs.length=Z.hs.length∧FrW M H H',fun σ' H' ⟨ρ',rk',Z',v1,v2,v3,q0,q1⟩=>⟨_,q0,ρ',rk',Z',v1,v2,v3,rfl,by omega,q1⟩,?_⟩
   refine⟨_,rfl,p,KP,dx,_,_,rfl,w1.ob,T.o_Weave.cl,T.n_Weave_alike,pL _ _ _ _,.inl ⟨rfl,_,SqL.of w1.ha⟩,al,_,0,0,.ref q0,rfl,rfl,w1.ha,by decide,by decide,aQk (by decide) (by rw[b7,j0];omega),rfl,?_⟩
   have w2:=w1.upAl as' rest (by have:=w1.la;rw[hal1] at this;simpa using this) (fun j x e h1 h2=>w1.at' (j+1) x e h1 (by rw[hal1];exact h2))
   have f2:FrW M H1 (upd H1 al (.lst (as'.map V.ref))):=by rw[hM];exact WvC.put1 (by simp)
   show yC _ _ _ _ (upd H1 al (.lst (as'.map V.ref)))
   generalize upd H1 al (.lst (as'.map V.ref))=H2 at w2 f2
   have q0M:q0 ∉ M:=by rw[hM];exact w1.out hq0 (by intro xs z;cases z) (by intro kvs z;cases z)
   have hq2:=f2 _ _ hq0 q0M
   have I2:WI hf φ ρ rk1 L { Z1 with al:=rest }:=I1.alDrop fun e he=>by rw[hal1];exact c8 _ he
   have W2:Wat KP H2 p M { Z1 with al:=rest }:=⟨dx,hd,tn,wy,al,ds,as',hM,w2⟩
   refine⟨_,rfl,p,dx,_,rfl,w2.ob,iA _ _ _ _ (by decide +kernel) (by decide +kernel) (by decide +kernel) (by decide +kernel),_,rfl,q0,_,0,.int (a:Nat),rfl,rfl,SqT.of hq2,rfl,hf,φ,ρ,rk1,L,p,M,_,a,[],rfl,W2,I2,hL,p1,AllL.nil,rfl,by simp,fun t1 H3 Z3 K3 e3=>?_⟩
   have e3:H3 t1=some (.tup [.int (ρ a:Nat),.str (S (lay (back (φ a)++φ (ρ a))))]):=e3
   obtain⟨dx3,hd3,tn3,wy3,al3,ds3,as3,hM3,w3⟩:=id K3.at'
   have hq3:=K3.fr _ _ hq2 q0M
   refine⟨_,rfl,p,dx3,_,rfl,w3.ob,iA _ _ _ _ (by decide +kernel) (by decide +kernel) (by decide +kernel) (by decide +kernel),_,rfl,q0,_,2,.int (b:Nat),rfl,rfl,SqT.of hq3,rfl,_,rfl,q0,_,1,.str (S tt),rfl,rfl,SqT.of hq3,rfl,hf,φ,ρ,rk1,L,p,M,_,b,tt,rfl,K3.at',K3.wi,hL,by rw[K3.ln];exact p2,tA,by rw[p3,EY],by omega,fun t2 H4 Z4 K4 e4=>?_⟩
   have et:lay (tt++(back (φ b)++φ (ρ b)))=lay (back (φ a)++φ (ρ b)):=by
    rw[p3,eJ _ _ (AllL.app.mpr ⟨aL (I1.fa a).1,(I1.fa b).1⟩),i6]
    exact gK (aL (I1.fa a).1) (I1.fa b).1 (I1.fa (ρ b)).1
   rw[et] at e4
   have t1M:t1 ∉ M:=by rw[hM3];exact w3.out e3 (by intro xs z;cases z) (by intro kvs z;cases z)
   have e34:=K4.fr _ _ e3 t1M
   have hln:Z4.hs.length=Z1.hs.length:=K4.ln.trans K3.ln
   have hws:Z4.ws=Z1.ws:=K4.ws.trans K3.ws
   have hal4:Z4.al=rest:=K4.al.trans K3.al
   have X4:EI E' ρ { Z4 with al:=(a,tt,b)::Z4.al }:=X1.move hws (by rw[hal1];show (a,tt,b)::Z4.al=_;rw[hal4]) hln
   have rab:Rel E' a b:=LI1.al a tt b (by rw[hal1];exact d4)
   have LI4:LI E' ρ Z4:=LI1.move fun e he=>by rw[hal4] at he;rw[hal1];exact c8 _ he
   have of4:OfE E' Z4:=fun i fs hi e he=>(X1.ofE LI1) i fs (by rw[← hws];exact hi) e he
   have f14:FrW M H H4:=fun x o e n=>K4.fr _ _ (K3.fr _ _ (f2 _ _ (f1 x o e n) n) n) n
   have hrl:m=9 * zQ ρ Z.hs.length+(rest.length+1):=by rw[hm,hal1,j0]
   refine⟨_,rfl,t1,_,0,.int (ρ a:Nat),rfl,rfl,SqT.of e34,rfl,_,rfl,t2,_,0,.int (ρ b:Nat),rfl,rfl,SqT.of e4,rfl,rfl,_,rfl,?_⟩
   by_cases hab:ρ a=ρ b
   ·rw[show decide (V.int ((ρ a:Nat):Int)=V.int ((ρ b:Nat):Int))=true from decide_eq_true (by rw[hab])]
    refine jO ?_
    exact⟨ρ,rk1,Z4,_,_,_,by rw[hal4];omega,rfl,K4.at',K4.wi,X4.pop hab,LI4,hid,hln.trans hl1,f14⟩
   ·rw[show decide (V.int ((ρ a:Nat):Int)=V.int ((ρ b:Nat):Int))=false from decide_eq_false (fun z=>hab (by have:=V.int.inj z;omega))]
    refine lW ?_
    obtain⟨dx4,hd4,tn4,wy4,al4,ds4,as4,hM4,w4⟩:=id K4.at'
    obtain⟨oA,ol⟩:=jD I1 a (ρ a)
    obtain⟨oB,ol2⟩:=jD I1 a (ρ b)
    refine⟨_,rfl,p,dx4,_,rfl,w4.ob,iA _ _ _ _ (by decide +kernel) (by decide +kernel) (by decide +kernel) (by decide +kernel),_,rfl,t1,_,0,.int (ρ a:Nat),rfl,rfl,SqT.of e34,rfl,_,rfl,t2,_,0,.int (ρ b:Nat),rfl,rfl,SqT.of e4,rfl,_,rfl,t1,_,1,.str (S (lay (back (φ a)++φ (ρ a)))),rfl,rfl,SqT.of e34,rfl,_,rfl,oA,by omega,fun H5 s5=>?_⟩
    refine⟨_,rfl,t2,_,1,.str (S (lay (back (φ a)++φ (ρ b)))),rfl,rfl,SqT.of (s5 _ _ e4),rfl,_,_,rfl,aL oA,oB,by rw[bY];omega,fun H6 s6=>?_⟩
    have ht:lay (back (lay (back (φ a)++φ (ρ a)))++lay (back (φ a)++φ (ρ b)))=lay (back (φ (ρ a))++φ (ρ b)):=by
     rw[Kh (I1.fa a).1 (I1.fa (ρ a)).1]
     exact Kr (I1.fa (ρ a)).1 (I1.fa a).1 (I1.fa (ρ b)).1
    rw[ht]
    have I4:=K4.wi
    obtain⟨ra1,ra2⟩:=I4.rt a (by rw[hln];exact p1)
    obtain⟨rb1,rb2⟩:=I4.rt b (by rw[hln];exact p2)
    obtain⟨es,hes⟩:∃ es,Z4.ws[ρ a]?=some es:=⟨_,b0 (by rw[I4.lw];exact ra1)⟩
    obtain⟨o1,o2,o3⟩:=FC I4 X4 (by rw[hln];exact p1) (by rw[hln];exact p2) rfl rfl hab rfl hes
    have hel:es.length≤8:=uT (I4.wy _ es hes).1 fun e he=>((I4.wy _ es hes).2 e he).1
    refine⟨hf,φ,ρ,rk1,_,_,L,p,M,Z4,ρ a,ρ b,_,es,rfl,(K4.at'.same s5).same s6,I4,I4.under ra2 rb2 hab rfl,hL,hes,ra1,rb1,hab,rfl,by rw[hal4];omega,fun H7 W7 f7=>?_⟩
    have rb3:ρ (ρ b)=ρ b:=hid b
    have lu:=LI4.under rab rfl rfl (lay (back (φ (ρ a))++φ (ρ b)))
    have rhd:Rel E' (ρ a) (ρ b):=((LI4.ro a).symm.trans rab).trans (LI4.ro b)
    have liu:=LI.underW (t:=lay (back (φ (ρ a))++φ (ρ b))) (es:=es) lu (fun i fs hi e he=>of4 i fs hi e he) (fun e he=>by
     obtain⟨u,v,z1,z2,z3⟩:=of4 _ es hes e he
     exact⟨u,v,z1,z2.trans rhd,z3⟩) (by show ρ b<Z4.ws.length;rw[I4.lw];exact rb1)
    have hcnt:=Bv (N:=Z.hs.length) (hd:=ρ a) (ab:=ρ b) (by rw[← hl1,← hln];exact ra1) (hid a) rb3 hab
    have hul:=lH (ab:=ρ b) (t:=lay (back (φ (ρ a))++φ (ρ b))) (es:=es) (T:=dR Z4 (ρ a) (ρ b) (lay (back (φ (ρ a))++φ (ρ b))))
    have hul2:(dR Z4 (ρ a) (ρ b) (lay (back (φ (ρ a))++φ (ρ b)))).al.length=rest.length:=by show Z4.al.length=_;rw[hal4]
    refine⟨ρU ρ (ρ a) (ρ b),_,_,_,_,_,by omega,rfl,W7,o1,o2,liu,BA hid rb3 hab,?_,fun x o e n=>f7 _ _ (s6 _ _ (s5 _ _ (f14 x o e n))) n⟩
    rw[o3,m6]
    exact hln.trans hl1
theorem Hu{f:Addr}{fd:FuncData}(D:DfM K KP "lay_word" "Weave.lay_word" G_ ["self","word","told"] f fd)(T:Txt P w K mg KN KO KP)(c_z7:Cl P w K mg base "contrary" ["letter"] 1 spCon)(c_zz:Cl P w K mg base "turned_back" ["word"] 2 spBackB)(c_zf:oP P w K mg base KP "new_place" ["self"] 1 (spNewA KP))(c_zs:oP P w K mg base KP "lay_way" ["self","place","letter","goal","told"] 4 (spLayA KP)):oP P w K mg base KP "lay_word" ["self","word","told"] 5 (spWordB KP):=by
 obtain⟨f_zf,fd_zf,G_zf,m_zf,b_zf⟩:=c_zf
 obtain⟨f_zs,fd_zs,G_zs,m_zs,b_zs⟩:=c_zs
 refine D.cl (D.F.ok sc_zo (fun vs H Q E h=>?_) (fun cdv A outer s H vs Q E hr h=>?_))
 ·obtain⟨_,_,_,_,p,M,Z,E',wd,t,rfl,_⟩:=h
  rfl
 ·obtain⟨hf,φ,rk,L,p,M,Z,E',wd,t,rfl,hW,I,X,LI0,hsy,hL,hφ,h0,hN,hal,hwA,hcon,htold,hlen,k⟩:=h
  refine⟨_,(aD (aM (i:=3) sc_zo.nd rfl (Or.inl rfl) aF)
   (aH (dL l6 rfl (EU (by rfl) T.b_enumerate (aA (pv 1) aB)) (jZ (K:=K) rfl rfl (cR (bH (i:=4) sc_zo.nd rfl (Or.inl rfl)) (cR (bH (i:=5) sc_zo.nd rfl (Or.inl rfl)) hZ))) (aD (aM (i:=6) sc_zo.nd rfl (Or.inl rfl) (gH iD (pv 4) (bM CN (aU eW (by rfl) T.b_len k7 (aA (pv 1) aB)) aF) (aZ _)))
   (gG (aM (i:=7) sc_zo.nd rfl (Or.inl rfl) (lL (vY (pv 6)) aF (wS (pv 0) T.o_Weave.cl m_zf G_zf (hr.mono (by decide)) b_zf .nil fW)))
   (gG (aM (i:=8) sc_zo.nd rfl (Or.inl rfl) (lL (vY (pv 6)) (pv 2) cQ))
   (aD (cJ (eP (pv 0) T.o_Weave.cl m_zs G_zs (hr.mono (by decide)) b_zs .nil fW (aA (pv 3) (aA (pv 5) (aA (pv 7) (aA (pv 8) aB))))))
   (aD (cJ (eP (pv 0) T.o_Weave.cl m_zs G_zs (hr.mono (by decide)) b_zs .nil fW (aA (pv 7) (aA (pC c_z7 hr (aA (pv 5) aB)) (aA (pv 3) (aA (pC c_zz hr (aA (pv 8) aB)) aB))))))
   (aH (aM (i:=3) sc_zo.nd rfl (Or.inl rfl) (pv 7))))))))))),?_⟩
  refine⟨_,rfl,S wd,rfl,B5 (w:=wd) (fun i σ H2=>∃ (v4 v5 v6 v7 v8:Option V) (hr:Nat) (M2:List Addr) (Z2:WvS) (φ2:Nat→List Nat) (E2:Nat→Nat→Nat→Prop),σ=[some (.ref p),some (.str (S wd)),some (.str (S t)),some (.int (hr:Nat)),v4,v5,v6,v7,v8]∧Wat KP H2 p M2 Z2∧MU H M M2∧FrW M H H2∧WI hf φ2 (fun x=>x) rk L Z2∧EI E2 (fun x=>x) Z2∧LI E2 (fun x=>x) Z2∧Jb E2∧(∀ p c q,E2 p c q↔E' p c q∨FlE Z.hs.length wd i p c q)∧φ2 0=[]∧Fw E2 (fun x=>x) 0 (wd.take i) hr∧hr<Z2.hs.length∧hr=dU Z.hs.length wd.length i∧Z2.hs.length=Z.hs.length+min i (wd.length - 1)∧Z2.al.length≤Z.al.length+2 * i∧(i<wd.length→φ2 hr=lay (back (Hw hf (wd.take i))))∧(i=wd.length→hr=0)) ?_ ?_ ?_⟩
  ·exact⟨_,_,_,_,_,0,M,Z,φ,E',rfl,hW,MU.refl _ _,FrW.refl _ _,I,X,LI0,hsy,fun p c q=>⟨.inl,fun z=>z.elim id fun ⟨j,hj,_⟩=>absurd hj (x6 _)⟩,hφ,rfl,h0,by unfold dU;rw[if_pos (.inl rfl)],by rw[Nat.zero_min];rfl,c0 _,fun _=>hφ,fun _=>rfl⟩
  ·rintro i c q _ H2 hc hq2 ⟨v4,v5,v6,v7,v8,hr,M2,Z2,φ2,E2,rfl,W2,u2,f2,I2,X2,LI2,sy2,mo2,φ20,fw2,hrl,hrp,ln2,al2,hφr,_⟩
   have hi:i<wd.length:=(a9.mp hc).1
   have hcL:bX c:=hwA c (b6 hc)
   have tk:wd.take (i+1)=wd.take i++[c]:=bI hc
   have huA:AllL (Hw hf (wd.take i)):=Ak (fun c hc=>(I.ha c hc).1) fun x hx=>hwA x (r6 hx)
   have hcA:=(I.ha c hcL).1
   have hφr:=hφr hi
   have s3:=Same.new (o:=HO.tup [.int ((i:Nat):Int),.str (S [c])]) hq2
   refine⟨q,_,rfl,.inr (SqT.of aC),rfl,_,_,rfl,_,_,rfl,rfl,?_⟩
   generalize upd H2 q (.tup [.int ((i:Nat):Int),.str (S [c])])=H3 at s3
   refine⟨_,rfl,_,rfl,S wd,rfl,aN (by rw[bV];omega),_,_,rfl,rfl,rfl,?_⟩
   have W3:=W2.same s3
   have f3:FrW M H H3:=fun b o e n=>s3 _ _ (f2 b o e n)
   have hb:decide (V.int ((i:Nat):Int)=V.int ((((S wd).length:Nat):Int) - 1))=decide (i+1=wd.length):=by
    rw[bV]
    refine decide_eq_decide.mpr ⟨fun z=>by have:=V.int.inj z;omega,fun z=>by congr 1;omega⟩
   dsimp only
   rw[hb]
   generalize hlast:decide (i+1=wd.length)=lastb
   refine⟨fun σ H'=>∃ (v8:Option V) (g:Nat) (M4:List Addr) (Z4:WvS) (φ4:Nat→List Nat),σ=[some (.ref p),some (.str (S wd)),some (.str (S t)),some (.int (hr:Nat)),some (.int ((i:Nat):Int)),some (.str (S [c])),some (.bl lastb),some (.int (g:Nat)),v8]∧Wat KP H' p M4 Z4∧MU H M M4∧FrW M H H'∧WI hf φ4 (fun x=>x) rk L Z4∧EI E2 (fun x=>x) Z4∧LI E2 (fun x=>x) Z4∧φ4 0=[]∧hr<Z4.hs.length∧g<Z4.hs.length∧g=dU Z.hs.length wd.length (i+1)∧Z4.hs.length=Z.hs.length+min (i+1) (wd.length - 1)∧Z4.al.length≤Z.al.length+2 * i∧φ4 hr=lay (back (Hw hf (wd.take i)))∧(lastb=true→g=0)∧(lastb=false→φ4 g=lay (back (Hw hf (wd.take (i+1))))),?_,?_⟩
   ·refine⟨_,rfl,_,rfl,?_⟩
    cases lastb with
    | true=>exact lW ⟨_,0,M2,Z2,φ2,rfl,W3,u2,f3,I2,X2,LI2,φ20,hrl,by omega,by have hl:i+1=wd.length:=of_decide_eq_true hlast;unfold dU;rw[if_pos (.inr hl)],by have hl:i+1=wd.length:=of_decide_eq_true hlast;omega,al2,hφr,fun _=>rfl,fun z=>by cases z⟩
    | false =>
     refine jO ?_
     obtain⟨dx,hd,tn,wy,al,ds,as,hM,w3⟩:=id W3
     refine⟨_,rfl,p,dx,_,rfl,w3.ob,iA _ _ _ _ (by decide +kernel) (by decide +kernel) (by decide +kernel) (by decide +kernel),p,M2,Z2,rfl,W3,by omega,by rw[I2.lt];omega,by rw[I2.lw];omega,fun d H4 W4 hd4 f4=>?_⟩
     have hold:∀ {x:Nat},x<Z2.hs.length→φN φ2 Z2.hs.length (lay (back (Hw hf (wd.take (i+1))))) x=φ2 x:=fun {x} hx=>by unfold φN;rw[if_neg (by omega)]
     have hA1:AllL (Hw hf (wd.take (i+1))):=Ak (fun c hc=>(I.ha c hc).1) fun x hx=>hwA x (r6 hx)
     have ln4:(Cg Z2).hs.length=Z2.hs.length+1:=by show (Z2.hs++[Z2.hs.length]).length=_;rw[c5];rfl
     refine⟨_,Z2.hs.length,M2++[d],Cg Z2,_,rfl,W4,fun x hx=>?_,?_,I2.new (eM (aL hA1)) (hlen (i+1) (by omega)),X2.new I2.lw,⟨LI2.ro,LI2.al⟩,?_,by omega,by omega,(by have hl:¬ i+1=wd.length:=of_decide_eq_false hlast;unfold dU;rw[if_neg (by omega)];omega),(by have hl:¬ i+1=wd.length:=of_decide_eq_false hlast;omega),al2,?_,fun z=>(by cases z),fun _=>?_⟩
     ·rcases k0.mp hx with z | z
      ·exact u2 x z
      ·rw[c6.mp z]
       by_cases hdM:d∈M
       ·exact .inl hdM
       ·refine .inr ?_
        cases e:H d with
        | none=>rfl
        | some o=>rw[f3 d o e hdM] at hd4;cases hd4
     ·exact FrW.trans f3 u2 f4
     ·rw[hold (by omega)];exact φ20
     ·rw[hold hrl];exact hφr
     ·unfold φN;rw[if_pos rfl]
   rintro _ H4 ⟨v8',g,M4,Z4,φ4,rfl,W4,u4,f4,I4,X4,LI4,φ40,hr4,hg4,hgp,l42,al4,hφ4,hg0,hgn⟩
   refine⟨fun σ H'=>∃ (pt:List Nat),σ=[some (.ref p),some (.str (S wd)),some (.str (S t)),some (.int (hr:Nat)),some (.int ((i:Nat):Int)),some (.str (S [c])),some (.bl lastb),some (.int (g:Nat)),some (.str (S pt))]∧H'=H4∧pt=lay (back (φ4 hr)++(hf c++φ4 g)),?_,?_⟩
   ·refine⟨_,rfl,_,rfl,?_⟩
    cases lastb with
    | true =>
     have hl:i+1=wd.length:=of_decide_eq_true hlast
     refine lW ⟨_,rfl,t,rfl,rfl,?_⟩
     rw[htold (by intro z;rw[z] at hi;simp at hi),hφ4,hg0 rfl,φ40,BS huA hcA,← tk,hl,j8]
    | false =>
     refine jO ⟨[],rfl,rfl,?_⟩
     rw[hφ4,hgn rfl,tk,Co huA hcA]
   rintro _ _ ⟨pt,rfl,rfl,hpt⟩
   obtain⟨pA,pl⟩:AllL pt∧pt.length≤3 * L:=by rw[hpt];exact pE I4 hcL hr g
   obtain⟨es,hes⟩:∃ es,Z4.ws[hr]?=some es:=⟨_,b0 (by rw[I4.lw];exact hr4)⟩
   obtain⟨dx,hd,tn,wy,al,ds,as,hM,w4⟩:=id W4
   refine⟨_,rfl,p,dx,_,rfl,w4.ob,iA _ _ _ _ (by decide +kernel) (by decide +kernel) (by decide +kernel) (by decide +kernel),_,rfl,_,rfl,_,rfl,_,rfl,hf,φ4,(fun x=>x),rk,L,p,M4,Z4,hr,c,g,pt,es,rfl,W4,I4,hL,hes,hcL,hg4,hpt,by omega,fun H5 W5 f5=>?_⟩
   have I5:=I4.lay hes hcL hg4 hpt
   have X5:=X4.lay' (t:=pt) (c:=c) hes rfl hr4 hg4
   obtain⟨h5,_⟩:=iO (S:=Z4) hr c g pt es
   have la5:=lF (S:=Z4) (i:=hr) (c:=c) (g:=g) (t:=pt) (es:=es)
   have m5:∀ p' c' q',E2 p' c' q'→(E2 p' c' q'∨(p'=hr∧c'=c∧q'=g)):=fun _ _ _ z=>.inl z
   have LI5:=(LI4.mono m5).lay' (t:=pt) ((X4.ofE LI4).mono m5) hes (.inr ⟨rfl,rfl,rfl⟩)
   generalize bD Z4 hr c g pt es=Z5 at W5 I5 X5 LI5 h5 la5
   obtain⟨es',hes'⟩:∃ es,Z5.ws[g]?=some es:=⟨_,b0 (by rw[I5.lw,h5];exact hg4)⟩
   obtain⟨dx5,hd5,tn5,wy5,al5,ds5,as5,hM5,w5⟩:=id W5
   refine⟨_,rfl,p,dx5,_,rfl,w5.ob,iA _ _ _ _ (by decide +kernel) (by decide +kernel) (by decide +kernel) (by decide +kernel),_,rfl,_,rfl,c,rfl,hcL,fun H6 s6=>?_⟩
   refine⟨_,rfl,_,rfl,pt,rfl,pA,by omega,fun H7 s7=>?_⟩
   have hbp:back pt=lay (back (φ4 g)++(hf (con c)++φ4 hr)):=by
    rw[hpt,hcon c hcL]
    exact Kj (I4.fa hr).1 (I4.fa g).1 hcA
   refine⟨hf,φ4,(fun x=>x),rk,L,p,M4,Z5,g,con c,hr,back pt,es',rfl,(W5.same s6).same s7,I5,hL,hes',bQ hcL,by rw[h5];exact hr4,hbp,by omega,fun H8 W8 f8=>?_⟩
   have I8:=I5.lay hes' (bQ hcL) (by rw[h5];exact hr4) hbp
   have X8:=X5.lay' (t:=back pt) (c:=con c) hes' rfl (by rw[h5];exact hg4) (by rw[h5];exact hr4)
   obtain⟨h8,_⟩:=iO (S:=Z5) g (con c) hr (back pt) es'
   have la8:=lF (S:=Z5) (i:=g) (c:=con c) (g:=hr) (t:=back pt) (es:=es')
   have m8:∀ p' c' q',(E2 p' c' q'∨(p'=hr∧c'=c∧q'=g))→((E2 p' c' q'∨(p'=hr∧c'=c∧q'=g))∨(p'=g∧c'=con c∧q'=hr)):=fun _ _ _ z=>.inl z
   have LI8:=(LI5.mono m8).lay' (t:=back pt) ((X5.ofE LI5).mono m8) hes' (.inr ⟨rfl,rfl,rfl⟩)
   generalize bD Z5 g (con c) hr (back pt) es'=Z8 at W8 I8 X8 LI8 h8 la8
   have ff:FrW M H H8:=fun b o e n=>by
    have nM:b ∉ M4:=fun z=>(u4 b z).elim n fun q=>by rw[e] at q;cases q
    exact f8 _ _ (s7 _ _ (s6 _ _ (f5 _ _ (f4 b o e n) nM))) nM
   refine⟨_,rfl,_,_,_,_,_,g,M4,Z8,φ4,_,rfl,W8,u4,ff,I8,X8,LI8,?_,?_,φ40,?_,by rw[h8,h5];exact hg4,hgp,by rw[h8,h5];exact l42,by omega,fun hlt=>?_,fun hl=>?_⟩
   ·rintro p' c' q' ((z | ⟨rfl,rfl,rfl⟩) | ⟨rfl,rfl,rfl⟩)
    ·obtain⟨a,b⟩:=sy2 _ _ _ z
     exact⟨a,.inl (.inl b)⟩
    ·exact⟨hcL,.inr ⟨rfl,rfl,rfl⟩⟩
    ·exact⟨bQ hcL,.inl (.inr ⟨rfl,aP hcL,rfl⟩)⟩
   ·intro p' c' q'
    rw[FlE.succ hc,mo2,← hrp,← hgp]
    constructor
    ·rintro((z | z) | z)
     ·exact z.elim .inl fun z=>.inr (.inl z)
     ·exact .inr (.inr (.inl ⟨z.2.1,z.1,z.2.2⟩))
     ·exact .inr (.inr (.inr ⟨z.2.1,z.1,z.2.2⟩))
    ·rintro(z | z | z | z)
     ·exact .inl (.inl (.inl z))
     ·exact .inl (.inl (.inr z))
     ·exact .inl (.inr ⟨z.2.1,z.1,z.2.2⟩)
     ·exact .inr ⟨z.2.1,z.1,z.2.2⟩
   ·rw[tk]
    exact(fw2.mono fun p c q z=>.inl (.inl z)).app ⟨hr,g,rfl,.inl (.inr ⟨rfl,rfl,rfl⟩),rfl⟩
   ·have:lastb=false:=by rw[← hlast];exact decide_eq_false (by omega)
    exact hgn this
   ·have:lastb=true:=by rw[← hlast];exact decide_eq_true hl
    exact hg0 this
  ·rintro σ H2 ⟨v4,v5,v6,v7,v8,hr,M2,Z2,φ2,E2,rfl,W2,u2,f2,I2,X2,LI2,sy2,mo2,φ20,fw2,hrl,hrp,ln2,al2,_,hr0⟩
   have hr0:=hr0 rfl
   subst hr0
   rw[j8] at fw2
   exact k M2 H2 Z2 φ2 E2 W2 u2 f2 I2 X2 LI2 sy2 mo2 φ20 fw2 (by rw[ln2,Nat.min_eq_right (by omega)]) al2
theorem Im{f:Addr}{fd:FuncData}(D:Df K mg "numbers_of_heads" FF ["n","weave"] f fd)(T:Txt P w K mg KN KO KP)(c_z3:Cl P w K mg base "letters_of" ["n"] 1 (spLetT K))(c_zp:oP P w K mg base KP "head_of" ["self","place"] 5 (spHeadA KP))(c_zq:oP P w K mg base KP "goal_of" ["self","head","letter"] 6 (spGoalA KP)):Cl P w K mg base "numbers_of_heads" ["n","weave"] 7 (spNumsB KP):=by
 obtain⟨f_zp,fd_zp,G_zp,m_zp,b_zp⟩:=c_zp
 obtain⟨f_zq,fd_zq,G_zq,m_zq,b_zq⟩:=c_zq
 refine D.cl (D.F.ok sc_zd (fun vs H Q E h=>?_) (fun cdv A outer s H vs Q E hr h=>?_))
 ·obtain⟨_,_,_,_,_,n,p,M,Z,rfl,_⟩:=h
  rfl
 ·obtain⟨hf,φ,ρ,rk,L,n,p,M,Z,rfl,h1,h4,hW,I,hL,h0,hN,k⟩:=h
  refine⟨_,(aD (aM (i:=2) sc_zd.nd rfl (Or.inl rfl) (eE (aA (eP (pv 1) T.o_Weave.cl m_zp G_zp (hr.mono (by decide)) b_zp .nil fW (aA aF aB)) aB)))
   (aD (aM (i:=3) sc_zd.nd rfl (Or.inl rfl) (EC (Dw (aX (aR (K:=K) rfl) (pv 2) aF (fun _ _=>rfl)) aF DQ) rfl rfl (by simp) (by decide)))
   (aD (aM (i:=4) sc_zd.nd rfl (Or.inl rfl) aF)
   (aD (mQ l6 (aT E4 (pv 4) (aU (bG (K:=K) rfl) (by rfl) T.b_len k7 (aA (pv 2) aB)) (aZ _)) (aD (dL l6 rfl (fL (K:=K) rfl (pC c_z3 hr (aA (pv 0) aB))) (bH (i:=5) sc_zd.nd rfl (Or.inl rfl)) (aD (aM (i:=6) sc_zd.nd rfl (Or.inl rfl) (eP (pv 1) T.o_Weave.cl m_zq G_zq (hr.mono (by decide)) b_zq .nil fW (aA (aX (aR (K:=K) rfl) (pv 2) (pv 4) (fun _ _=>rfl)) (aA (pv 5) aB))))
   (aH (eB (pw_and (aT vV (pv 6) iC (aZ _)) (pw_and1 (FN (By (m7 (t8 (by decide:1≤64) _) hr.units) (pv 6) (pv 3)) (by rfl)))).pt (aD (mT (m7 (t8 (by decide:1≤64) _) hr.units) (pv 3) (pv 6) (aU (bG (K:=K) rfl) (by rfl) T.b_len k7 (aA (pv 2) aB)) (by rfl))
   (aH (cJ (cX (K:=K) rfl j9 m9 n9 cW (pv 2) (aA (pv 6) aB))))) cO))))
   (aH (FO (i:=4) sc_zd.nd rfl (Or.inl rfl) aF Hb))))
   (aH (aV (pv 3))))))),?_⟩
  obtain⟨dx,hd,tn,wy,al,a1⟩:=hW.self
  refine⟨_,rfl,p,dx,_,rfl,a1,iA _ _ _ _ (by decide +kernel) (by decide +kernel) (by decide +kernel) (by decide +kernel),hf,φ,ρ,rk,L,p,M,Z,0,rfl,hW,I,hL,h0,fun H1 Z1 K1=>?_⟩
  refine⟨(by show 1≤sizeLine;decide),fun hs hh=>?_⟩
  have hhM:hs ∉ M:=K1.at'.new hh
  have hhH:=K1.free hhM hh
  have K2:=K1.same (Same.new (o:=HO.lst [.int ((ρ 0:Nat):Int)]) hh)
  have e2:upd H1 hs (.lst [.int ((ρ 0:Nat):Int)]) hs=some (.lst (eT [ρ 0])):=aC
  generalize upd H1 hs (.lst [.int ((ρ 0:Nat):Int)])=H2 at K2 e2
  intro q hq
  have hqM:q ∉ M:=K2.at'.new hq
  have hqH:=K2.free hqM hq
  have s3:=Same.new (o:=HO.dK []) hq
  refine⟨_,rfl,hs,_,0,.int ((ρ 0:Nat):Int),rfl,rfl,SqL.of (s3 _ _ e2),rfl,?_⟩
  refine⟨aC,[(.inl ((ρ 0:Nat):Int),.int 0)],rfl,(by show 1≤15;decide),?_⟩
  have s4:Same H2 (upd (upd H2 q (.dK [])) q (.dK [(.inl ((ρ 0:Nat):Int),.int 0)])):=fun b o e=>by
   have n:b≠q:=aJ e hq
   rw[aE n,aE n];exact e
  have e4:upd (upd H2 q (.dK [])) q (.dK [(.inl ((ρ 0:Nat):Int),.int 0)]) q=some (.dK (eV [ρ 0])):=aC
  show yC _ _ _ _ (upd (upd H2 q (.dK [])) q (.dK [(.inl ((ρ 0:Nat):Int),.int 0)]))
  have K3:=K2.same s4
  have e3:=s4 _ _ e2
  generalize upd (upd H2 q (.dK [])) q (.dK [(.inl ((ρ 0:Nat):Int),.int 0)])=H3 at e4 K3 e3
  have hr0:ρ 0<Z.hs.length:=(I.rt 0 h0).1
  refine⟨fun m0 σ H'=>∃ (v5 v6:Option V) (dn:Nat) (Z':WvS) (ord:List Nat),m0+dn=1000∧σ=[some (.int (n:Nat)),some (.ref p),some (.ref hs),some (.ref q),some (.int (dn:Nat)),v5,v6]∧Kept KP hf φ ρ rk L p M H H' Z Z'∧H' hs=some (.lst (eT ord))∧H' q=some (.dK (eV ord))∧OrdOk Z.hs.length ord∧cB (fZ ρ Z) (aI (n:Nat)) 1000 0 [ρ 0]=cB (fZ ρ Z) (aI (n:Nat)) m0 dn ord,⟨1000,none,none,0,Z1,[ρ 0],rfl,rfl,K3,e3,e4,⟨by simp,fun x hx=>by rw[c6.mp hx];exact hr0⟩,rfl⟩,?_⟩
  rintro m0 _ H4 ⟨v5,v6,dn,Z4,ord,hmd,rfl,K4,e34,e44,ok,hup⟩
  have hol:=ok.len
  refine⟨_,rfl,_,rfl,hs,_,rfl,.inl (SqL.of e34),_,_,rfl,rfl,_,rfl,?_⟩
  refine gC (fun z=>?_) (fun z=>?_)
  rotate_left
  ·have hge:ord.length≤dn:=by
    have:¬ ((dn:Nat):Int)<(((eT ord).length:Nat):Int):=fun y=>z (decide_eq_true y)
    rw[fU] at this
    omega
   rw[tS _ _ _ _ _ hge] at hup
   refine⟨_,rfl,k q H4 Z4 K4 hqH ?_ ?_ ?_⟩
   ·rw[hup];exact e44
   ·rw[hup];omega
   ·rw[hup];exact ok.2
  ·have hlt:dn<ord.length:=by
    have:((dn:Nat):Int)<(((eT ord).length:Nat):Int):=of_decide_eq_true z
    rw[fU] at this
    omega
   obtain⟨s,hs'⟩:∃ s,ord[dn]?=some s:=⟨_,b0 hlt⟩
   have hsl:s<Z.hs.length:=ok.2 s (b6 hs')
   obtain⟨m1,rfl⟩:∃ m1,m0=m1+1:=⟨m0 - 1,by omega⟩
   rw[rB _ _ _ _ _ hs'] at hup
   refine⟨fun σ' H'=>∃ (v5 v6:Option V) (Z':WvS) (ord':List Nat),σ'=[some (.int (n:Nat)),some (.ref p),some (.ref hs),some (.ref q),some (.int ((dn+1:Nat):Int)),v5,v6]∧Kept KP hf φ ρ rk L p M H H' Z Z'∧H' hs=some (.lst (eT ord'))∧H' q=some (.dK (eV ord'))∧OrdOk Z.hs.length ord'∧cB (fZ ρ Z) (aI (n:Nat)) 1000 0 [ρ 0]=cB (fZ ρ Z) (aI (n:Nat)) m1 (dn+1) ord',fun σ' H' ⟨v5,v6,Z',ord',e,s⟩=>⟨m1,by omega,v5,v6,dn+1,Z',ord',by omega,e,s⟩,?_⟩
   refine⟨_,rfl,n,rfl,h1,h4,fun t H5 s7 ht=>⟨t,rfl,⟨_,ht⟩,?_⟩⟩
   refine At (K:=K) (a:=t) (xs:=bB (aI (n:Nat))) (fun i σ H'=>∃ (v5 v6:Option V) (Z':WvS),σ=[some (.int (n:Nat)),some (.ref p),some (.ref hs),some (.ref q),some (.int ((dn:Nat):Int)),v5,v6]∧Kept KP hf φ ρ rk L p M H H' Z Z'∧H' hs=some (.lst (eT (bW (fZ ρ Z s) ((aI (n:Nat)).take i) ord)))∧H' q=some (.dK (eV (bW (fZ ρ Z s) ((aI (n:Nat)).take i) ord)))∧OrdOk Z.hs.length (bW (fZ ρ Z s) ((aI (n:Nat)).take i) ord)∧SqT K H' t (bB (aI (n:Nat)))) ⟨_,_,Z4,rfl,K4.same s7,s7 _ _ e34,s7 _ _ e44,ok,ht⟩ ?_ ?_ ?_
   ·rintro i σ H' _ ⟨_,_,_,_,_,_,_,_,s8⟩
    exact s8
   ·rintro i x _ H6 hx ⟨v5,v6,Z6,rfl,K6,e36,e46,ok6,ht6⟩
    obtain⟨c,hc,rfl⟩:∃ c,(aI (n:Nat))[i]?=some c∧x=.str (S [c]):=by
     unfold bB at hx
     rw[c9] at hx
     cases e:(aI (n:Nat))[i]? with
     | none=>rw[e] at hx;cases hx
     | some c=>rw[e] at hx;cases hx;exact⟨c,rfl,rfl⟩
    have tk:(aI (n:Nat)).take (i+1)=(aI (n:Nat)).take i++[c]:=bI hc
    rw[tk,zY]
    obtain⟨r,hr⟩:=fJ (fZ ρ Z s) ((aI (n:Nat)).take i) ord
    have hat:(bW (fZ ρ Z s) ((aI (n:Nat)).take i) ord)[dn]?=some s:=by rw[hr,l5 hlt];exact hs'
    generalize bW (fZ ρ Z s) ((aI (n:Nat)).take i) ord=oi at e36 e46 ok6 hat
    have hoi:=ok6.len
    obtain⟨es,hes⟩:∃ es,Z6.ws[s]?=some es:=⟨_,b0 (by rw[K6.wi.lw,K6.ln];exact hsl)⟩
    have hdl:fZ ρ Z s c=(dC es c).map fun r=>ρ r.1:=by
     unfold fZ
     rw[b8,← K6.ws,hes]
     rfl
    obtain⟨dx6,hd6,tn6,wy6,al6,a6⟩:=K6.at'.self
    refine⟨_,rfl,p,dx6,_,rfl,a6,iA _ _ _ _ (by decide +kernel) (by decide +kernel) (by decide +kernel) (by decide +kernel),_,rfl,_,rfl,hs,_,_,.int ((s:Nat):Int),rfl,rfl,SqL.of e36,dJ (lT hat),_,rfl,hf,φ,ρ,rk,L,p,M,Z6,s,c,es,rfl,K6.at',K6.wi,hL,hes,fun H7 Z7 K7=>?_⟩
    have e37:=K7.fr _ _ e36 hhM
    have e47:=K7.fr _ _ e46 hqM
    have K67:=K6.trans K7
    have htM:SqT K H7 t (bB (aI (n:Nat))):=GC K6.at' K7.fr ht6
    rw[hdl]
    cases ew:dC es c with
    | none =>
     refine⟨_,rfl,rfl,_,rfl,?_⟩
     show ∃ (v5 v6:Option V) (Z':WvS),_
     exact⟨_,_,Z7,rfl,K67,e37,e47,ok6,htM⟩
    | some rr =>
     have hgl:ρ rr.1<Z.hs.length:=by
      have:=((K6.wi.wy s es hes).2 _ (dY ew)).2.1
      have:=(K6.wi.rt rr.1 this).1
      rw[K6.ln] at this
      exact this
     show _
     dsimp only [u5]
     generalize ρ rr.1=g at hgl
     refine⟨_,rfl,rfl,_,rfl,?_⟩
     refine(show tB (A6 (vT 6) (vT 3)) _ H7 _ from ?_)
     refine⟨_,rfl,_,rfl,q,_,rfl,DGet.k (k:=.inl ((g:Nat):Int)) e47,_,rfl,?_⟩
     rw[uQ]
     by_cases hin:g∈oi
     ·rw[if_pos hin,if_pos hin]
      show ∃ (v5 v6:Option V) (Z':WvS),_
      exact⟨_,_,Z7,rfl,K67,e37,e47,ok6,htM⟩
     ·rw[if_neg hin,if_neg hin]
      have hl1000:oi.length<sizeLine:=aQ (by omega)
      refine⟨_,rfl,hs,_,rfl,.inl (SqL.of e37),_,rfl,_,rfl,q,_,rfl,DPut.k (k:=.inl ((g:Nat):Int)) e47 (by rw[wV];exact hl1000),?_⟩
      have hnl:V.int (((eT oi).length:Nat):Int)=V.int ((oi.length:Nat):Int):=by rw[fU]
      rw[hnl,Di hin]
      have K8:=K67.setD (o:=HO.dK (eV (oi++[g]))) hqM hqH e47
      have e48:upd H7 q (.dK (eV (oi++[g]))) q=some (.dK (eV (oi++[g]))):=aC
      have nqh:hs≠q:=dI e37 e47 (by intro z;cases z)
      have e38:upd H7 q (.dK (eV (oi++[g]))) hs=some (.lst (eT oi)):=by rw[aE nqh];exact e37
      have ht8:SqT K (upd H7 q (.dK (eV (oi++[g])))) t (bB (aI (n:Nat))):=by
       rcases htM with (z | ⟨o,z⟩) | z
       ·exact .inl (.inl (by rw[aE (dI z e47 (by intro y;cases y))];exact z))
       ·exact .inl (.inr ⟨o,by rw[aE (dI z e47 (by intro y;cases y))];exact z⟩)
       ·exact .inr z
      generalize upd H7 q (.dK (eV (oi++[g])))=H8 at K8 e48 e38 ht8
      refine⟨_,rfl,.inl ⟨rfl,_,SqL.of e38⟩,_,rfl,hs,_,_,rfl,rfl,e38,by rw[fU];exact hl1000,?_⟩
      refine⟨_,_,Z7,rfl,K8.set hhM hhH e38,?_,?_,ok6.snoc hgl hin,GA e38 ht8⟩
      ·rw[aC,xJ]
      ·rw[aE nqh.symm];exact e48
   ·rintro σ H6 ⟨v5,v6,Z6,rfl,K6,e36,e46,ok6,_⟩
    rw[bA,j8] at e36 e46 ok6
    exact⟨_,rfl,_,_,rfl,rfl,v5,v6,Z6,_,rfl,K6,e36,e46,ok6,hup⟩
theorem HI{f:Addr}{fd:FuncData}(D:Df K mg "place_told" B7 ["n","weave","numbers","head"] f fd)(T:Txt P w K mg KN KO KP)(c_zr:Cl P w K mg base "first_letters" ["n"] 1 spFirst)(c_zq:oP P w K mg base KP "goal_of" ["self","head","letter"] 6 (spGoalA KP)):Cl P w K mg base "place_told" ["n","weave","numbers","head"] 7 (spPlaceB KP):=by
 obtain⟨f_zq,fd_zq,G_zq,m_zq,b_zq⟩:=c_zq
 refine D.cl (D.F.ok sc_z0 (fun vs H Q E h=>?_) (fun cdv A outer s H vs Q E hr h=>?_))
 ·obtain⟨_,_,_,_,_,n,p,M,Z,t,s,ord,rfl,_⟩:=h
  rfl
 ·obtain⟨hf,φ,ρ,rk,L,n,p,M,Z,t,s,ord,rfl,h1,h4,hW,I,hL,hsl,hN,hmem,k⟩:=h
  refine⟨_,(aD (lU (i:=4) (sc0:=aG B7) (N:=["n","weave","numbers","head","goals"]) (ix:=[1,3]) sc_z0.nd rfl rfl (by decide +kernel) rfl rfl rfl (fL (K:=K) rfl (pC c_zr hr (aA (pv 0) aB))) (fun _ _ _=>cM) (fun _ _ _=>(eP (pv 1) T.o_Weave.cl m_zq G_zq (hr.mono (by decide)) b_zq .nil fW (aA (pv 2) (aA (pv 0) aB)))))
   (aH (aV (bN (dD (K:=K) rfl) (by rfl) T.b_tuple boot_tuple (aA (cY (sc0:=aG B7) (N:=["n","weave","numbers","head","goals"]) (ix:=[2]) (by decide +kernel) rfl rfl rfl (fP (K:=K) rfl (pv 4)) (fun _ _ _=>cM) (fun _ _ _=>(lL (aT zJ (pv 0) iC (aZ _)) iC (AQ (m7 (t8 (by decide:1≤64) _) hr.units) (pv 1) (pv 0) (fun _ _=>rfl))))) aB))))),?_⟩
  obtain⟨on,hN⟩:=hN
  have htM:t ∉ M:=hW.out hN (by intro xs z;cases z) (by intro kvs z;cases z)
  have ll:(cC n).length=n:=(lP h1 h4).len
  have lln:(bP n).length=n:=dE h4
  refine⟨_,rfl,n,rfl,h1,h4,fun tl H1 htl s1 etl=>⟨tl,rfl,⟨_,SqT.of etl⟩,fun Dd hD=>?_⟩⟩
  have K1:Kept KP hf φ ρ rk L p M H H1 Z Z:=(Kept.refl hW I).same s1
  have hDM:Dd ∉ M:=K1.at'.new hD
  have hDH:=K1.free hDM hD
  have tlM:tl ∉ M:=K1.at'.out etl (by intro xs z;cases z) (by intro kvs z;cases z)
  refine eF (xs:=bS (cC n)) (fun i H2=>∃ Z2,Kept KP hf φ ρ rk L p M H H2 Z Z2∧H2 tl=some (.tup (bS (cC n)))∧H2 Dd=some (.lst (((bP n).take i).map fun c=>lQ (fZ ρ Z s c)))) ⟨Z,K1.same (Same.new hD),by rw[aE (aJ etl hD)];exact etl,aC⟩ (fun i H2 _ ⟨_,_,h,_⟩=>SqT.of h) ?_ ?_
  ·rintro i v H2 hv ⟨Z2,K2,e2t,e2⟩
   obtain⟨rfl,hi⟩:=vI h4 hv
   have hci:=C3 hv
   obtain⟨es,hes⟩:∃ es,Z2.ws[s]?=some es:=⟨_,b0 (by rw[K2.wi.lw,K2.ln];exact hsl)⟩
   have hdl:fZ ρ Z s (97+i)=(dC es (97+i)).map fun r=>ρ r.1:=by
    unfold fZ
    rw[b8,← K2.ws,hes]
    rfl
   obtain⟨dx2,hd2,tn2,wy2,al2,a2⟩:=K2.at'.self
   refine⟨_,rfl,p,dx2,_,rfl,a2,iA _ _ _ _ (by decide +kernel) (by decide +kernel) (by decide +kernel) (by decide +kernel),_,rfl,_,rfl,hf,φ,ρ,rk,L,p,M,Z2,s,97+i,es,rfl,K2.at',K2.wi,hL,hes,fun H3 Z3 K3=>?_⟩
   have e3:=K3.fr _ _ e2 hDM
   have fin:∀ y,y=lQ (fZ ρ Z s (97+i))→∃ ys,H3 Dd=some (.lst ys)∧ys.length<sizeLine∧∃ Z2,Kept KP hf φ ρ rk L p M H (upd H3 Dd (.lst (ys++[y]))) Z Z2∧upd H3 Dd (.lst (ys++[y])) tl=some (.tup (bS (cC n)))∧upd H3 Dd (.lst (ys++[y])) Dd=some (.lst (((bP n).take (i+1)).map fun c=>lQ (fZ ρ Z s c))):=fun y hy=>by
    refine⟨_,e3,?_,Z3,(K2.trans K3).set hDM hDH e3,?_,?_⟩
    ·rw[b7,i7];exact aQ (by omega)
    ·rw[aE (dI (K3.fr _ _ e2t tlM) e3 (by intro z;cases z))];exact K3.fr _ _ e2t tlM
    ·rw[aC,p6,hci,g6,hy];rfl
   cases ew:dC es (97+i) with
   | none=>exact fin _ (by rw[hdl,ew];rfl)
   | some r=>exact fin _ (by rw[hdl,ew];rfl)
  ·rintro H2 ⟨Z2,K2,e2t,e2⟩
   rw[aS,ll,u6 (by omega)] at e2
   refine⟨_,rfl,Dd,rfl,⟨_,SqL.of e2⟩,fun Ee hE=>?_⟩
   have hEM:Ee ∉ M:=K2.at'.new hE
   have hN2:=K2.fr _ _ hN htM
   refine fT (xs:=(bP n).map fun c=>lQ (fZ ρ Z s c)) (fun i H3=>Same H2 H3∧H3 Ee=some (.lst ((jU (fZ ρ Z) ((bP n).take i) ord s).map lQ))) ⟨Same.new hE,aC⟩ (fun i H3 _ h=>SqL.of (h.1 _ _ e2)) ?_ ?_
   ·rintro i v H3 hv ⟨s3,e3⟩
    rw[c9] at hv
    obtain⟨c,hc,rfl⟩:=i9.mp hv
    have hi:i<n:=by have:=(a9.mp hc).1;omega
    have hcm:=eI h1 h4 (b6 hc)
    have fin:∀ y,y=lQ ((fZ ρ Z s c).map fun g=>ord.idxOf g)→(HO.lst ((jU (fZ ρ Z) ((bP n).take i) ord s).map lQ++[y]))=HO.lst ((jU (fZ ρ Z) ((bP n).take (i+1)) ord s).map lQ):=fun y hy=>by
     rw[bI hc,hy]
     unfold jU
     rw[g6,g6]
     rfl
    have sm:((jU (fZ ρ Z) ((bP n).take i) ord s).map lQ).length<sizeLine:=by
     unfold jU
     rw[b7,b7,i7];exact aQ (by omega)
    cases ed:fZ ρ Z s c with
    | none =>
     refine⟨_,rfl,rfl,_,rfl,?_⟩
     refine⟨_,e3,sm,s3.upd hE,?_⟩
     rw[aC,fin _ (by rw[ed];rfl)]
    | some g =>
     refine⟨_,rfl,rfl,_,rfl,?_⟩
     have hg:DGet H3 t (.int ((g:Nat):Int)) (some (.int (ord.idxOf g:Nat))):=by
      have:=DGet.fk (k:=.inl ((g:Nat):Int)) (s3 _ _ hN2)
      rw[uQ,if_pos (hmem c hcm g ed)] at this
      exact this
     refine⟨_,rfl,_,rfl,t,.int (ord.idxOf g:Nat),rfl,hg,?_⟩
     refine⟨_,e3,sm,s3.upd hE,?_⟩
     rw[aC,fin _ (by rw[ed];rfl)]
   ·rintro H3 ⟨s3,e3⟩
    rw[b7,j8] at e3
    refine⟨Ee,_,rfl,.inl ⟨SqL.of e3,fun q hq=>?_⟩⟩
    have K3:=(K2.same s3).same (Same.new (o:=HO.tup ((jU (fZ ρ Z) (bP n) ord s).map lQ)) hq)
    exact k q _ Z2 K3 ((K2.same s3).free ((K2.same s3).at'.new hq) hq) aC
theorem Gd{f:Addr}{fd:FuncData}(D:Df K mg "web_of" Am ["n","words"] f fd)(T:Txt P w K mg KN KO KP)(c_zl:oP P w K mg base KP "__init__" ["self"] 1 (spWInitA KP))(c_zo:oP P w K mg base KP "lay_word" ["self","word","told"] 5 (spWordB KP))(c_z1:oP P w K mg base KP "fold" ["self"] 6 (spFoldB KP))(c_zd:Cl P w K mg base "numbers_of_heads" ["n","weave"] 7 (spNumsB KP))(c_z0:Cl P w K mg base "place_told" ["n","weave","numbers","head"] 7 (spPlaceB KP)):Cl P w K mg base "web_of" ["n","words"] 8 (spWebB K):=by
 obtain⟨f_zl,fd_zl,G_zl,m_zl,b_zl⟩:=c_zl
 obtain⟨f_zo,fd_zo,G_zo,m_zo,b_zo⟩:=c_zo
 obtain⟨f_z1,fd_z1,G_z1,m_z1,b_z1⟩:=c_z1
 refine D.cl (D.F.ok sc_zi1 (fun vs H Q E h=>?_) (fun cdv A outer s H vs Q E hr h=>?_))
 ·obtain⟨n,a,rs,rfl,_⟩:=h
  rfl
 ·obtain⟨n,a,rs,rfl,h1,h4,ea,hlen,hall,k⟩:=h
  refine⟨_,(aD (aM (i:=2) sc_zi1.nd rfl (Or.inr rfl) (B_ (T.o_Weave.make m_zl) G_zl (hr.mono (by decide)) (by rfl) T.m_Weave b_zl .nil fW))
   (aD (dL l6 rfl (Ij (fP (K:=K) rfl (pv 1)) (fL (K:=K) rfl (pv 1))) (bH (i:=3) sc_zi1.nd rfl (Or.inl rfl)) (aH (cJ (eP (pv 2) T.o_Weave.cl m_zo G_zo (hr.mono (by decide)) b_zo .nil fW (aA (pv 3) (aA cQ aB))))))
   (aD (cJ (wS (pv 2) T.o_Weave.cl m_z1 G_z1 (hr.mono (by decide)) b_z1 .nil fW))
   (aD (aM (i:=4) sc_zi1.nd rfl (Or.inr rfl) (pC c_zd hr (aA (pv 0) (aA (pv 2) aB))))
   (aH (aV (bN (dD (K:=K) rfl) (by rfl) T.b_tuple boot_tuple (aA (Dj (H0:=H) rfl (cY (sc0:=aG Am) (N:=["n","words","weave","word","numbers"]) (ix:=[0,2,4]) (by decide +kernel) rfl rfl rfl (C1 (pv 4)) (fun _ _ _=>cM) (fun _ _ _=>(pC c_z0 hr (aA (pv 1) (aA (pv 2) (aA (pv 3) (aA (pv 0) aB)))))))) aB)))))))),?_⟩
  intro p dx hp hdx hne
  have hp0:upd (upd H dx (.own p)) p (.ins KP dx []) p=some (.ins KP dx []):=aC
  have sN:∀ b o,H b=some o→upd (upd H dx (.own p)) p (.ins KP dx []) b=some o:=fun b o e=>by rw[aE (aJ e hp),aE (aJ e hdx)];exact e
  refine⟨p,dx,rfl,hp0,fun M H1 hM1 hW1 kp1=>⟨rfl,?_⟩⟩
  have s1:Same H H1:=fun b o e=>kp1 b o (sN b o e) (aJ e hp)
  have fr1:∀ x∈M,H x=none:=fun x hx=>by
   have:=hM1 x hx
   cases e:H x with
   | none=>rfl
   | some o=>rw[sN _ _ e] at this;cases this
  refine Gs (K:=K) (a:=a) (xs:=bS rs) (fun i σ H2=>∃ (v3:Option V) (M2:List Addr) (Z2:WvS) (φ2:Nat→List Nat) (E2:Nat→Nat→Nat→Prop),σ=[some (.int (n:Nat)),some (.ref a),some (.ref p),v3,none]∧Wat KP H2 p M2 Z2∧(∀ x∈M2,H x=none)∧Same H H2∧WI (fun _=>[]) φ2 (fun x=>x) (fun _=>0) 0 Z2∧EI E2 (fun x=>x) Z2∧LI E2 (fun x=>x) Z2∧Jb E2∧φ2 0=[]∧(∀ p c q,E2 p c q↔cT 1 (rs.take i) p c q)∧0<Z2.hs.length∧Z2.hs.length=HC 1 (rs.take i)∧Z2.hs.length≤1+i * 80∧Z2.al.length≤i * 160) (fun Q q=>⟨_,rfl,q⟩) ea ?_ ?_ ?_ ?_
  ·exact⟨none,M,HY,_,_,rfl,hW1,fr1,s1,WI.init (fun c _=>⟨AllL.nil,c0 _⟩),EI.init,⟨fun x=>.refl x,fun x t y z=>by cases z⟩,fun _ _ _ z=>z.elim,rfl,fun p c q=>Iff.rfl,(by decide),rfl,(by decide),(by decide)⟩
  ·rintro i σ H2 _ ⟨_,_,_,_,_,_,_,_,s2,_⟩
   exact s2
  ·rintro i v _ H2 hv ⟨v3,M2,Z2,φ2,E2,rfl,W2,fr2,s2,I2,X2,LI2,sy2,φ20,fe2,l0,ln,l1,l2⟩
   obtain⟨x,hx,rfl⟩:=fB hv
   have hi:i<rs.length:=(a9.mp hx).1
   obtain⟨xA,xl⟩:=hall x (b6 hx)
   have tk:rs.take (i+1)=rs.take i++[x]:=by rw[p6,hx];rfl
   obtain⟨dx2,hd2,tn2,wy2,al2,a2⟩:=W2.self
   have hH:∀ w:List Nat,Hw (fun _=>[]) w=[]:=fun w=>by unfold Hw;simp
   refine⟨_,rfl,p,dx2,_,rfl,a2,iA _ _ _ _ (by decide +kernel) (by decide +kernel) (by decide +kernel) (by decide +kernel),_,rfl,(fun _=>[]),φ2,(fun _=>0),0,p,M2,Z2,E2,x,[],rfl,W2,I2,X2,LI2,sy2,by decide,φ20,l0,by omega,by omega,xA,fun c _=>rfl,fun _=>by rw[hH];rfl,fun j _=>by rw[hH];exact c0 _,fun M3 H3 Z3 φ3 E3 W3 u3 f3 I3 X3 LI3 sy3 mo3 φ30 fw3 m1 m3=>?_⟩
   have s3:Same H H3:=fun b o e=>f3 b o (s2 _ _ e) fun z=>by rw[fr2 b z] at e;cases e
   refine⟨_,M3,Z3,φ3,E3,rfl,W3,fun y hy=>?_,s3,I3,X3,LI3,sy3,φ30,fun p' c' q'=>?_,by omega,?_,by omega,by omega⟩
   ·rcases u3 y hy with z | z
    ·exact fr2 y z
    ·exact s2.free z
   ·rw[tk,qB,mo3,fe2,← ln]
   ·rw[tk,xN,m1,ln]
  ·rintro _ H2 ⟨v3,M2,Z2,φ2,E2,rfl,W2,fr2,s2,I2,X2,LI2,sy2,φ20,fe2,l0,ln,l1,l2⟩
   rw[aS,j8] at fe2
   rw[aS] at l1 l2
   obtain⟨dx2,hd2,tn2,wy2,al2,a2⟩:=W2.self
   refine⟨_,rfl,p,dx2,_,rfl,a2,iA _ _ _ _ (by decide +kernel) (by decide +kernel) (by decide +kernel) (by decide +kernel),(fun _=>[]),φ2,(fun _=>0),0,p,M2,Z2,E2,rfl,W2,I2,X2,LI2,by decide,by omega,by omega,fun ρ rk3 H3 Z3 W3 I3 X3 LI3 al3 hid3 ln3 f3=>?_⟩
   have aut:=G0 I3 X3 LI3 al3 hid3 fe2 0
   have s3:Same H H3:=fun b o e=>f3 b o (s2 _ _ e) fun z=>by rw[fr2 b z] at e;cases e
   refine⟨_,rfl,_,rfl,(fun _=>[]),φ2,ρ,rk3,0,n,p,M2,Z3,rfl,h1,h4,W3,I3,by decide,by rw[ln3];exact l0,by rw[ln3];omega,fun t H4 Z4 K4 ht et hol hox=>?_⟩
   have hcl:=jG (δ:=fZ ρ Z3) (ls:=aI (n:Nat)) 1000 0 [ρ 0] (fun i s hi=>absurd hi (x6 _)) (by omega)
   have hweb:dO (fun s c=>if ρ s=s then fZ ρ Z3 s c else none) n (ρ 0) 1000=(cB (fZ ρ Z3) (aI (n:Nat)) 1000 0 [ρ 0]).map (jU (fZ ρ Z3) (bP n) (cB (fZ ρ Z3) (aI (n:Nat)) 1000 0 [ρ 0])):=(B9 hid3).symm
   generalize cB (fZ ρ Z3) (aI (n:Nat)) 1000 0 [ρ 0]=ord at et hol hox hcl hweb
   have htM:=W3.new ht
   have ht0:H t=none:=s3.free ht
   have sK:∀ {G:Hp} {Zg:WvS},Kept KP (fun _=>[]) φ2 ρ rk3 0 p M2 H3 G Z3 Zg→Same H G:=fun K b o e=>K.fr b o (s3 _ _ e) fun z=>by rw[fr2 b z] at e;cases e
   refine⟨_,rfl,t,_,rfl,.inl ⟨et,fun o Dd hD=>?_⟩⟩
   have K5:=K4.setD (o:=HO.frz o (.dK (eV ord))) htM ht et
   have e5:upd H4 t (.frz o (.dK (eV ord))) t=some (.frz o (.dK (eV ord))):=aC
   generalize upd H4 t (.frz o (.dK (eV ord)))=H5 at K5 e5 hD
   have hDM:Dd ∉ M2:=K5.at'.new hD
   have hD3:H3 Dd=none:=K5.free hDM hD
   have htD:t≠Dd:=aJ e5 hD
   refine Bm (d:=t) (o:=o) (kvs:=eV ord) (fun i G=>∃ (Zg:WvS) (qs:List Addr),Kept KP (fun _=>[]) φ2 ρ rk3 0 p M2 H3 G Z3 Zg∧G t=some (.frz o (.dK (eV ord)))∧qs.length=i∧G Dd=some (.lst (qs.map V.ref))∧∀ (j:Nat) (q:Addr) (s:Nat),qs[j]?=some q→ord[j]?=some s→G q=some (.tup ((jU (fZ ρ Z3) (bP n) ord s).map lQ))) ⟨Z4,[],K5.same (Same.new hD),by rw[aE htD];exact e5,rfl,aC,fun j q s z=>by simp at z⟩ (fun i G _ ⟨_,_,_,h,_⟩=>h) ?_ ?_
   ·rintro i ky v G hk ⟨Zg,qs,Kg,eg,hql,eD,hqs⟩
    obtain⟨s,hs,rfl⟩:∃ s,ord[i]?=some s∧ky=.inl ((s:Nat):Int):=by
     unfold eV at hk
     rw[c9] at hk
     obtain⟨gk,hgk,e⟩:=i9.mp hk
     rw[List.getElem?_zipIdx] at hgk
     obtain⟨s,hs,rfl⟩:=i9.mp hgk
     exact⟨s,hs,(aZq e).1.symm⟩
    have hsm:=b6 hs
    have hil:i<ord.length:=(a9.mp hs).1
    refine⟨_,rfl,_,rfl,_,rfl,_,rfl,(fun _=>[]),φ2,ρ,rk3,0,n,p,M2,Zg,t,s,ord,rfl,h1,h4,Kg.at',Kg.wi,by decide,by rw[Kg.ln];exact hox s hsm,⟨o,eg⟩,fun c hc g hg=>hcl s hsm c hc g (by rw[← yI Kg];exact hg),fun q G6 Z6 K6 hq eq=>?_⟩
    rw[yI Kg] at eq
    have eD6:=K6.fr _ _ eD hDM
    have eg6:=K6.fr _ _ eg htM
    refine⟨_,eD6,by rw[b7,hql];exact aQ (by omega),Z6,qs++[q],(Kg.trans K6).set hDM hD3 eD6,by rw[aE htD];exact eg6,by rw[c5,hql];rfl,by rw[aC,g6];rfl,fun j q' s' hj hs'=>?_⟩
    rcases eY hj with ⟨z,hj⟩ | ⟨z,rfl⟩
    ·have e0:=hqs j q' s' hj hs'
     have e6:=K6.fr _ _ e0 (Kg.at'.out e0 (by intro xs z;cases z) (by intro kvs z;cases z))
     rw[aE (dI e6 eD6 (by intro z;cases z))]
     exact e6
    ·rw[z,hql,hs] at hs'
     cases hs'
     rw[aE (dI eq eD6 (by intro z;cases z))]
     exact eq
   ·rintro G ⟨Zg,qs,Kg,eg,hql,eD,hqs⟩
    refine⟨_,.inr ⟨t,o,_,eg,fun o v z=>(by rw[ht0] at z;cases z),rfl⟩,?_⟩
    have s6:Same H (upd G t (.dK (eV ord))):=(sK Kg).upd ht0
    have eD6:upd G t (.dK (eV ord)) Dd=some (.lst (qs.map V.ref)):=by rw[aE htD.symm];exact eD
    refine⟨Dd,_,rfl,.inl ⟨SqL.of eD6,fun r hr=>k r _ ρ _ (s6.upd' hr) aut hid3 ⟨qs,aC,?_,fun i q row hq hrow=>?_⟩ (by rw[hweb,b7];exact hol)⟩⟩
    ·rw[hweb,b7,hql,wV]
    ·rw[hweb,c9] at hrow
     obtain⟨s,hs,rfl⟩:=i9.mp hrow
     have e0:=hqs i q s hq hs
     have e6:upd G t (.dK (eV ord)) q=_:=(aE (dI e0 eg (by intro z;cases z))).trans e0
     rw[aE (aJ e6 hr)]
     exact e6
theorem IG{f:Addr}{fd:FuncData}(D:Df K mg "_law_retold" FH ["_law_retelling","_law_word_here"] f fd)(T:Txt P w K mg KN KO KP)(c_zc1:Cl P w K mg base "_law_back" ["_law_word_here"] 2 spBack)(c_zd1:Cl P w K mg base "_law_laid" ["_law_text"] 2 spLay):Cl P w K mg base "_law_retold" ["_law_retelling","_law_word_here"] 3 (spRetold K):=by
 refine D.cl (D.F.ok sc_z2 (fun vs H Q E h=>?_) (fun cdv A outer s H vs Q E hr h=>?_))
 ·obtain⟨a,rs,n,M,x,rfl,_⟩:=h
  rfl
 ·obtain⟨a,rs,n,M,x,rfl,hq,hr0,h1,h4,hM,hox,hxl,hxm,k⟩:=h
  refine⟨_,(aD (aM (i:=2) sc_z2.nd rfl (Or.inl rfl) cQ)
   (aD (dL l6 rfl (iW (pv 1)) (bH (i:=3) sc_z2.nd rfl (Or.inl rfl)) (aD (aM (i:=4) sc_z2.nd rfl (Or.inl rfl) (aX (cH (K:=K) rfl) (pv 0) (cX (K:=K) rfl l8 aZM aZN (xL rfl) cQ (aA (fA (K:=K) rfl l8 aQi aQj mS (pv 3)) aB)) (fun _ _=>rfl)))
   (gG (eB (vY (fA (K:=K) rfl l8 aXv aXw rJ (pv 3))) (aH (aM (i:=4) sc_z2.nd rfl (Or.inl rfl) (pC c_zc1 hr (aA (pv 4) aB)))) cO)
   (aH (aM (i:=2) sc_z2.nd rfl (Or.inl rfl) (bM dH (pv 2) (pv 4)))))))
   (aH (aV (pC c_zd1 hr (aA (pv 2) aB)))))),?_⟩
  refine⟨_,rfl,S x,rfl,kR (w:=x) (fun i σ H1=>∃ v3 v4:Option V,σ=[some (.ref a),some (.str (S x)),some (.str (S (told rs (x.take i)))),v3,v4]∧Same H H1) ⟨none,none,by rw[oI];rfl,Same.refl H⟩ ?_ ?_⟩
  ·rintro i c σ H1 hc ⟨v3,v4,rfl,s1⟩
   have hi:i<x.length:=(a9.mp hc).1
   have hcn:=hox c (b6 hc)
   have hcL:bX c:=aK hcn
   have hc1:AllL [c]:=fun d hd=>by rw[c6.mp hd];exact hcL
   have tl:=mR hr0 (x.take i)
   have tm:(x.take i).length * M≤x.length * M:=aQ3 _ (by rw[i7];omega)
   have htk:told rs (x.take (i+1))=told rs (x.take i)++tell rs c:=by rw[bI hc,iJ,dX,xZ,l4]
   have hll:=xC hr0 c
   obtain⟨r,hr9⟩:∃ r,rs[lo c - 97]?=some r:=⟨_,b0 (Ip hcn hr0.len h1 h4)⟩
   have hra:=hr0.all r (b6 hr9)
   have hrl:=hr0.le r (b6 hr9)
   refine⟨_,rfl,rfl,_,rfl,rfl,S [c],rfl,rfl,mX [c] hc1 (by simp),_,_,rfl,rfl,?_,a,bS rs,_,.str (S r),rfl,rfl,L2.SqT.same s1 hq,?_,?_⟩
   ·rw[iF hc1];exact(AI hcL).1
   ·rw[iF hc1]
    show wD (bS rs) (Txt.find (Str.ofString "abcd") (S [lo c]))=some (.str (S r))
    rw[(AI hcL).2]
    exact dJ (mY hr9)
   refine⟨fun σ H2=>σ=[some (.ref a),some (.str (S x)),some (.str (S (told rs (x.take i)))),some (.str (S [c])),some (.str (S (tell rs c)))]∧Same H H2,?_,?_⟩
   ·refine⟨_,rfl,rfl,_,rfl,rfl,_,rfl,?_⟩
    rw[sY hcL]
    have ht:tell rs c=if aY c=true then r else back r:=by
     unfold tell lo at *
     unfold aY
     by_cases q:96<c
     ·rw[if_pos q] at hr9
      rw[if_pos (decide_eq_true q),if_pos (decide_eq_true q),b8,hr9];rfl
     ·rw[if_neg q] at hr9
      rw[if_neg (by simpa using q),if_neg (by simpa using q),b8,show c - 65=c+32 - 97 by omega,hr9];rfl
    cases hlow:aY c with
    | true =>
     rw[hlow,if_pos rfl] at ht
     rw[ht]
     exact jO ⟨rfl,s1⟩
    | false =>
     rw[hlow,if_neg (by decide)] at ht
     rw[ht]
     exact lW ⟨_,rfl,r,rfl,hra,by omega,fun H2 s2=>⟨rfl,s1.trans s2⟩⟩
   rintro _ H2 ⟨rfl,s2⟩
   refine⟨_,rfl,_,rfl,_,_,rfl,rfl,by rw[bV,bV];exact aN (by omega),some (.str (S [c])),some (.str (S (tell rs c))),?_,s2⟩
   rw[htk,jI]
   rfl
  ·rintro _ H1 ⟨v3,v4,rfl,s1⟩
   rw[j8]
   have tl:=mR hr0 x
   exact⟨_,rfl,told rs x,rfl,eC hr0 x,by omega,fun H2 s2=>k H2 (s1.trans s2)⟩
theorem Fx{f:Addr}{fd:FuncData}(D:Df K mg "_law_then" AU ["_law_one","_law_other"] f fd)(T:Txt P w K mg KN KO KP)(c_z2:Cl P w K mg base "_law_retold" ["_law_retelling","_law_word_here"] 3 (spRetold K)):Cl P w K mg base "_law_then" ["_law_one","_law_other"] 4 (spThen K):=by
 refine D.cl (D.F.ok GV (fun vs H Q E h=>?_) (fun cdv A outer s H vs Q E hr h=>?_))
 ·obtain⟨a,b,f,s,n,M,L,rfl,_⟩:=h
  rfl
 ·obtain⟨a,b,f0,s0,n,M,L,rfl,ha,hb,hf0,hs0,hfo,h1,h4,hM,hL,hML,k⟩:=h
  refine⟨_,(aH (aV (bN (dD (K:=K) rfl) (by rfl) T.b_tuple boot_tuple (aA (cY (sc0:=aG AU) (N:=["_law_one","_law_other"]) (ix:=[1]) (by decide +kernel) rfl rfl rfl (fL (K:=K) rfl (pv 0)) (fun _ _ _=>cM) (fun _ _ _=>(pC c_z2 hr (aA (pv 1) (aA (pv 0) aB))))) aB)))),?_⟩
  refine⟨_,rfl,a,rfl,⟨_,ha⟩,fun Dd hD=>eF (xs:=bS f0) (fun i H1=>Same H H1∧H1 Dd=some (.lst (bS ((f0.take i).map (retl s0))))) ⟨Same.new hD,aC⟩ (fun i H1 _ h=>L2.SqT.same h.1 ha) ?_ ?_⟩
  ·rintro i v H1 hv ⟨s1,e1⟩
   obtain⟨x,hx,rfl⟩:=fB hv
   have hxm:=b6 hx
   have hi:i<f0.length:=(a9.mp hx).1
   have hxl:=hf0.le x hxm
   refine⟨_,rfl,_,rfl,b,s0,n,L,x,rfl,L2.SqT.same s1 hb,hs0,h1,h4,hL,hfo x hxm,by omega,j7 (aQ3 _ hxl) (j7 hML (by decide)),fun H2 s2=>⟨_,s2 _ _ e1,?_,(s1.trans s2).upd hD,?_⟩⟩
   ·have:=hf0.len
    rw[aS,b7,i7];exact aQ (by omega)
   ·rw[aC,p6,hx,g6]
    unfold bS
    rw[g6]
    rfl
  ·rintro H1 ⟨s1,e1⟩
   rw[aS,j8] at e1
   refine⟨Dd,_,rfl,.inl ⟨SqL.of e1,fun q hq=>k q _ (s1.free hq) (s1.upd' hq) aC⟩⟩
theorem FB{f:Addr}{fd:FuncData}(D:Df K mg "_law_same" CT ["_law_n"] f fd)(T:Txt P w K mg KN KO KP):Cl P w K mg base "_law_same" ["_law_n"] 1 spFirst:=by
 refine D.cl (D.F.ok FI (fun vs H Q E h=>?_) (fun cdv A outer s H vs Q E hr h=>?_))
 ·obtain⟨n,rfl,_⟩:=h
  rfl
 ·obtain⟨n,rfl,h1,h4,k⟩:=h
  refine⟨_,(aH (aV (bN (rO rfl) (by rfl) T.b_tuple boot_tuple (aA (gR nL cQ gY (gD (pv 0))) aB)))),?_⟩
  refine⟨_,rfl,_,rfl,_,rfl,by decide +kernel,bP n,?_,?_,fun l hl=>?_⟩
  ·show [V.str (Txt.slice (Str.ofString "abcd") none (some ((n:Nat):Int)))]=_
   rw[nQ,iG _ (by omega) (by simp;omega)]
   rfl
  ·unfold bP;rw[i7];simp;omega
  ·refine k l _ hl (Same.new hl) ?_
   rw[aC,Ey]
   rfl
theorem Je{f:Addr}{fd:FuncData}(D:Df K mg "_law_drawn_change" FZ ["_law_flow_here","_law_n"] f fd)(T:Txt P w K mg KN KO KP)(c_z6:Cl P w K mg base "_law_pick" ["_law_flow_here","_law_many"] 1 spPick)(c_zy:Cl P w K mg base "_law_letters" ["_law_n"] 1 spLetters)(c_zx:Cl P w K mg base "_law_contrary" ["_law_letter"] 1 spCon):Cl P w K mg base "_law_drawn_change" ["_law_flow_here","_law_n"] 2 spDrawnB:=by
 refine D.cl (D.F.ok sc_ze (fun vs H Q E h=>?_) (fun cdv A outer s H vs Q E hr h=>?_))
 ·obtain⟨fl,sc,n,rfl,_⟩:=h
  rfl
 ·obtain⟨fl,sc,n,rfl,hf,h1,h4,k⟩:=h
  refine⟨_,(aD (aM (i:=2) sc_ze.nd rfl (Or.inl rfl) (aX (aR (K:=K) rfl) (pC c_zy hr (aA (pv 1) aB)) (pC c_z6 hr (aA (pv 0) (aA (bM jT aF (pv 1)) aB))) (fun _ _=>rfl)))
   (aD (aM (i:=3) sc_ze.nd rfl (Or.inl rfl) (eE aB))
   (aD (dL l6 rfl (fP (K:=K) rfl (pC c_zy hr (aA (pv 1) aB))) (bH (i:=4) sc_ze.nd rfl (Or.inl rfl)) (aH (eB (pw_or (aT iD (pv 4) (pv 2) (aZ _)) (pw_or1 (pw_and (aT jP (pv 4) (pC c_zx hr (aA (pv 2) aB)) (aZ _)) (pw_and1 (aT iD (pC c_z6 hr (aA (pv 0) (aA aF aB))) aF (aZ _)))).pt)).pt (aH (cJ (cX (K:=K) rfl j9 m9 n9 cW (pv 3) (aA (pv 4) aB)))) cO)))
   (aH (aV (fY (aA (pv 2) (aA (bN (dD (K:=K) rfl) (by rfl) T.b_tuple boot_tuple (aA (pv 3) aB)) aB)))))))),?_⟩
  have i1:(1:Int)≤(n:Nat):=by omega
  have i4:((n:Nat):Int)≤4:=by omega
  refine⟨_,rfl,(n:Nat),rfl,i1,i4,fun l H1 hl s1 e1=>?_⟩
  refine⟨_,rfl,_,rfl,_,_,rfl,rfl,.inl ⟨by decide,by decide⟩,fl,sc,_,rfl,hf.same s1,by omega,by omega,fun d H2 d0 d1 f2 k2=>?_⟩
  have hln:=kL i1 i4
  obtain⟨c,hc⟩:∃ c,(aI (n:Nat))[d.toNat]?=some c:=⟨_,b0 (show d.toNat<(aI (n:Nat)).length by omega)⟩
  have hcm:c∈aI (n:Nat):=b6 hc
  have hcL:=aK hcm
  refine⟨l,_,_,.str (S [c]),rfl,rfl,SqL.of (k2 _ _ e1 (hf.ne hl)),Aa d0 (lS hc),aN (by simp),fun sd hsd=>?_⟩
  have hsf:sd≠fl:=f2.ne hsd
  have hss:sd≠sc:=f2.ne2 hsd
  have k02:Kp fl H H2:=s1.kp.trans k2
  have hsd0:H sd=none:=k02.free hsd hsf
  refine⟨_,rfl,(n:Nat),rfl,i1,i4,fun l2 H3 hl2 s3 e3=>⟨l2,rfl,⟨_,SqL.of e3⟩,?_⟩⟩
  have hl2s:sd≠l2:=aJ (aC (H:=H2) (a:=sd) (o:=HO.lst [])) hl2
  have hl2f:l2≠fl:=(f2.upd hsd).ne hl2
  refine pQ (K:=K) (a:=l2) (xs:=bB (aI (n:Nat))) (fun i σ H4=>∃ (v4:Option V) (w:List Nat),σ=[some (.ref fl),some (.int (n:Nat)),some (.str (S [c])),some (.ref sd),v4]∧IsFl H4 fl sc∧Kp fl H H4∧H4 l2=some (.lst (bB (aI (n:Nat))))∧H4 sd=some (.lst (bB w))∧(∀ d∈w,d∈aI (n:Nat)∧d≠con c)∧w.length≤i∧(c∈(aI (n:Nat)).take i→c∈w)∧w.Sublist ((aI (n:Nat)).take i)) ?_ ?_ ?_ ?_
  ·exact⟨none,[],rfl,(f2.upd hsd).same s3,(k02.upd hsd0).trans s3.kp,e3,s3 _ _ aC,fun d hd=>(nomatch hd),c0 _,(fun h=>by simp at h),aZm []⟩
  ·rintro i _ H4 _ ⟨v4,w,rfl,f4,k4,e4,_⟩
   exact SqL.of e4
  ·rintro i v _ H4 hv ⟨v4,w,rfl,f4,k4,e4,es,hw,hwl,hin,hsub⟩
   obtain⟨o,ho,rfl⟩:∃ o,(aI (n:Nat))[i]?=some o∧v=.str (S [o]):=by
    unfold bB at hv
    rw[c9] at hv
    cases hq:(aI (n:Nat))[i]? with
    | none=>rw[hq] at hv;cases hv
    | some o=>rw[hq] at hv;exact⟨o,rfl,(d9 hv).symm⟩
   have hom:=b6 ho
   have hi:i<8:=by have:=(a9.mp ho).1;omega
   have tk:c∈(aI (n:Nat)).take (i+1)→c∈(aI (n:Nat)).take i∨c=o:=fun h=>by
    rw[bI ho] at h
    rcases k0.mp h with q | q
    ·exact .inl q
    ·exact .inr (c6.mp q)
   have app:o≠con c→∀ H5,IsFl H5 fl sc→Kp fl H H5→H5 l2=some (.lst (bB (aI (n:Nat))))→H5 sd=some (.lst (bB w))→∃ (v4:Option V) (w':List Nat),[some (V.ref fl),some (.int (n:Nat)),some (.str (S [c])),some (.ref sd),some (.str (S [o]))]=[some (.ref fl),some (.int (n:Nat)),some (.str (S [c])),some (.ref sd),v4]∧IsFl (upd H5 sd (.lst (bB w++[.str (S [o])]))) fl sc∧Kp fl H (upd H5 sd (.lst (bB w++[.str (S [o])])))∧upd H5 sd (.lst (bB w++[.str (S [o])])) l2=some (.lst (bB (aI (n:Nat))))∧upd H5 sd (.lst (bB w++[.str (S [o])])) sd=some (.lst (bB w'))∧(∀ d∈w',d∈aI (n:Nat)∧d≠con c)∧w'.length≤i+1∧(c∈(aI (n:Nat)).take (i+1)→c∈w')∧w'.Sublist ((aI (n:Nat)).take (i+1)):=fun hoc H5 f5 k5 e5 es5=>by
    refine⟨_,w++[o],rfl,f5.set hsf hss,k5.upd hsd0,by rw[aE hl2s.symm];exact e5,by rw[aC,cF],fun d hd=>?_,by rw[c5,u9];omega,fun h=>?_,(by rw[bI ho];exact hsub.append (aZm _))⟩
    ·rcases k0.mp hd with q | q
     ·exact hw d q
     ·rw[c6.mp q];exact⟨hom,hoc⟩
    ·rcases tk h with q | q
     ·exact q8 _ (hin q)
     ·rw[q];simp
   refine⟨_,rfl,_,rfl,rfl,_,rfl,gC (fun z=>lW ⟨_,rfl,.inl ⟨rfl,_,SqL.of es⟩,_,rfl,sd,_,_,rfl,rfl,es,by rw[bA];exact aQ (by omega),app (by rw[fX] at z;have z':o=c:=(by simpa using z);rw[z'];exact(uS hcL).symm) H4 f4 k4 e4 es⟩) (fun z=>?_)⟩
   have hsub2:w.Sublist ((aI (n:Nat)).take (i+1)):=by rw[bI ho];exact hsub.trans (List.sublist_append_left _ _)
   have zc:¬ c=o:=fun e=>z (by rw[fX,e];simp)
   have nin:c∈(aI (n:Nat)).take (i+1)→c∈w:=fun h=>by
    rcases tk h with q | q
    ·exact hin q
    ·exact absurd q zc
   refine⟨_,rfl,_,rfl,c,rfl,hcL,fun H5 s5=>⟨rfl,_,rfl,gC (fun y=>?_) (fun y=>jO ?_)⟩⟩
   ·refine⟨_,rfl,fl,sc,2,rfl,f4.same s5,by decide,by decide,fun e H6 e0 e1 f6 k6=>⟨rfl,_,rfl,gC (fun x=>?_) (fun x=>?_)⟩⟩
    ·have es6:=k6 _ _ (s5 _ _ es) hsf
     exact⟨_,rfl,.inl ⟨rfl,_,SqL.of es6⟩,_,rfl,sd,_,_,rfl,rfl,es6,by rw[bA];exact aQ (by omega),app (fun e=>by rw[fX,e] at y;simp at y) H6 f6 ((k4.trans s5.kp).trans k6) (k6 _ _ (s5 _ _ e4) hl2f) es6⟩
    ·exact⟨_,w,rfl,f6,(k4.trans s5.kp).trans k6,k6 _ _ (s5 _ _ e4) hl2f,k6 _ _ (s5 _ _ es) hsf,hw,by omega,nin,hsub2⟩
   ·exact⟨_,w,rfl,f4.same s5,k4.trans s5.kp,s5 _ _ e4,s5 _ _ es,hw,by omega,nin,hsub2⟩
  ·rintro _ H4 ⟨v4,w,rfl,f4,k4,e4,es,hw,hwl,hin,hsub⟩
   rw[bA,j8] at hin hsub
   rw[bA,hln] at hwl
   refine⟨_,rfl,_,rfl,sd,_,rfl,.inl ⟨SqL.of es,fun q hq=>⟨aN (by simp),fun p hp=>?_⟩⟩⟩
   have hqf:q≠fl:=f4.ne hq
   have hpf:p≠fl:=(f4.upd hq).ne hp
   have hq0:H q=none:=k4.free hq hqf
   have hp0:H p=none:=(k4.upd hq0).free hp hpf
   have hpq:q≠p:=aJ (aC (H:=H4) (a:=q) (o:=HO.tup (bB w))) hp
   exact k p c w _ hp0 ⟨hcm,fun d hd=>(hw d hd).1,(B6 h1 h4).sublist hsub,hin hcm,fun z=>(hw _ z).2 rfl⟩ (by omega) ⟨q,aC,by rw[aE hpq];exact aC⟩ ((f4.upd hq).upd hp) ((k4.upd hq0).upd hp0)
theorem HW{f:Addr}{fd:FuncData}(D:Df K mg "_law_change_told" GX ["_law_n","_law_change"] f fd)(T:Txt P w K mg KN KO KP)(c_zx:Cl P w K mg base "_law_contrary" ["_law_letter"] 1 spCon):Cl P w K mg base "_law_change_told" ["_law_n","_law_change"] 2 spChTold:=by
 refine D.cl (D.F.ok sc_zg (fun vs H Q E h=>?_) (fun cdv A outer s H vs Q E hr h=>?_))
 ·obtain⟨n,p,c,sd,rfl,_⟩:=h
  rfl
 ·obtain⟨n,p,c,sd,rfl,h1,h4,⟨q,ep,eq⟩,hc,hsd,k⟩:=h
  refine⟨_,(aD (fF (pv 1) (jZ (K:=K) rfl rfl (cR (bH (i:=2) sc_zg.nd rfl (Or.inl rfl)) (cR (bH (i:=3) sc_zg.nd rfl (Or.inl rfl)) hZ))))
   (aD (aM (i:=4) sc_zg.nd rfl (Or.inl rfl) (eE aB))
   (aD (dL l6 rfl (iW (gR nL cQ gY (gD (pv 0)))) (bH (i:=5) sc_zg.nd rfl (Or.inl rfl)) (aD (aM (i:=6) sc_zg.nd rfl (Or.inl rfl) (pv 5))
   (gG (eB (aT jP (pv 5) (fA (K:=K) rfl l8 aQi aQj mS (pv 2)) (aZ _)) (aD (aM (i:=6) sc_zg.nd rfl (Or.inl rfl) (bM dH (pv 5) (bM qC (pv 2) (bN kF (by rfl) T.b_int boot_int (aA (gH (B4 (K:=K) rfl) (pv 5) (pv 3) (by rfl)) aB)))))
   (aH (aM (i:=6) sc_zg.nd rfl (Or.inl rfl) (bM dH (bM qC (pC c_zx hr (aA (pv 2) aB)) (bN kF (by rfl) T.b_int boot_int (aA (gH (B4 (K:=K) rfl) (pC c_zx hr (aA (pv 5) aB)) (pv 3) (by rfl)) aB))) (pv 6))))) cO)
   (aH (cJ (cX (K:=K) rfl j9 m9 n9 cW (pv 4) (aA (pv 6) aB)))))))
   (aH (aV (bN (dD (K:=K) rfl) (by rfl) T.b_tuple boot_tuple (aA (pv 4) aB))))))),?_⟩
  refine⟨_,rfl,p,_,rfl,.inr (SqT.of ep),rfl,_,_,rfl,_,_,rfl,rfl,?_⟩
  refine⟨aN (by simp),fun l hl=>?_⟩
  refine⟨_,rfl,_,rfl,_,rfl,by decide +kernel,S (bP n),?_,?_⟩
  ·show V.str (Txt.slice (Str.ofString "abcd") none (some ((n:Nat):Int)))=_
   rw[nQ,iG _ (by omega) (by simp;omega)]
   rfl
  refine kR (w:=bP n) (fun i σ H1=>∃ v5 v6:Option V,σ=[some (.int (n:Nat)),some (.ref p),some (.str (S [c])),some (.ref q),some (.ref l),v5,v6]∧Same H H1∧H1 l=some (.lst (bS (((bP n).take i).map (sV c sd))))) ⟨none,none,rfl,Same.new hl,aC⟩ ?_ ?_
  ·rintro i d σ H1 hd ⟨v5,v6,rfl,s1,e1⟩
   have hm:=b6 hd
   have hdL:=iV hm
   have hdl:=hX hm
   have hi:i<4:=by have:=(a9.mp hd).1;rw[dE h4] at this;omega
   have hc1:=cU hc
   refine⟨_,rfl,?_⟩
   refine⟨fun σ H2=>σ=[some (.int (n:Nat)),some (.ref p),some (.str (S [c])),some (.ref q),some (.ref l),some (.str (S [d])),some (.str (S (sV c sd d)))]∧Same H1 H2,?_,?_⟩
   ·refine⟨_,rfl,_,rfl,rfl,S [c],rfl,rfl,mX [c] hc1 (by simp),?_⟩
    rw[iF hc1]
    refine⟨rfl,_,rfl,?_⟩
    show if (!decide (V.str (S [d])=V.str (S [lo c])))=true then _ else _
    rw[Gk]
    by_cases hlo:d=lo c
    ·rw[decide_eq_true hlo]
     have e:sV c sd d=[d]:=by unfold sV;rw[if_pos hlo]
     rw[e]
     exact jO ⟨rfl,Same.refl _⟩
    ·rw[decide_eq_false hlo]
     refine lW ⟨_,rfl,_,rfl,_,rfl,_,rfl,q,bB sd,rfl,.inr (SqT.of (s1 _ _ eq)),rfl,sE sd,.inr ⟨_,rfl,?_⟩⟩
     refine⟨S [c],(if Fe (.str (S [d])) (bB sd)=true then 1 else 0),rfl,rfl,Ax _ _,?_⟩
     rw[Fc,CO]
     have hu1:(if decide (d∈sd)=true then [c] else []).length≤1:=by split <;> simp
     have hu2:(if decide (d∈sd)=true then [c] else [])=(if d∈sd then [c] else []):=by simp only [decide_eq_true_iff]
     generalize (if decide (d∈sd)=true then [c] else [])=u at hu1 hu2
     refine⟨_,_,rfl,rfl,by rw[bV,bV];exact aN (by simp;omega),?_⟩
     rw[jI]
     refine⟨_,rfl,c,rfl,hc,fun H2 s2=>⟨_,rfl,d,rfl,hdL,fun H3 s3=>⟨_,rfl,q,bB sd,rfl,.inr (SqT.of (s3 _ _ (s2 _ _ (s1 _ _ eq)))),rfl,sE sd,.inr ⟨_,rfl,S [con c],(if Fe (.str (S [con d])) (bB sd)=true then 1 else 0),rfl,rfl,Ax _ _,?_⟩⟩⟩⟩
     rw[Fc,CO]
     have hv1:(if decide (con d∈sd)=true then [con c] else []).length≤1:=by split <;> simp
     have hv2:(if decide (con d∈sd)=true then [con c] else [])=(if con d∈sd then [con c] else []):=by simp only [decide_eq_true_iff]
     generalize (if decide (con d∈sd)=true then [con c] else [])=v at hv1 hv2
     refine⟨_,rfl,_,_,rfl,rfl,by rw[bV,bV,c5];exact aN (by simp;omega),?_,s2.trans s3⟩
     rw[jI,← i6,hu2,hv2]
     have e:sV c sd d=(if con d∈sd then [con c] else [])++[d]++(if d∈sd then [c] else []):=by unfold sV;rw[if_neg hlo]
     rw[e]
     rfl
   rintro _ H2 ⟨rfl,s2⟩
   have e2:=s2 _ _ e1
   refine⟨_,rfl,.inl ⟨rfl,_,SqL.of e2⟩,_,rfl,l,_,_,rfl,rfl,e2,?_,_,_,rfl,(s1.trans s2).upd hl,?_⟩
   ·rw[aS,b7,i7];exact aQ (by omega)
   ·rw[aC,bI hd,g6]
    unfold bS
    rw[g6]
    rfl
  ·rintro _ H1 ⟨v5,v6,rfl,s1,e1⟩
   rw[j8] at e1
   exact⟨_,rfl,l,_,rfl,.inl ⟨SqL.of e1,fun t ht=>k t _ (s1.free ht) (s1.upd' ht) aC⟩⟩
theorem Hz{f:Addr}{fd:FuncData}(D:Df K mg "_law_exchange" F7 ["_law_flow_here","_law_n"] f fd)(T:Txt P w K mg KN KO KP)(c_z6:Cl P w K mg base "_law_pick" ["_law_flow_here","_law_many"] 1 spPick):Cl P w K mg base "_law_exchange" ["_law_flow_here","_law_n"] 2 spExchP:=by
 refine D.cl (D.F.ok sc_zv (fun vs H Q E h=>?_) (fun cdv A outer s H vs Q E hr h=>?_))
 ·obtain⟨fl,sc,n,rfl,_⟩:=h
  rfl
 ·obtain⟨fl,sc,n,rfl,hf,h1,h4,k⟩:=h
  refine⟨_,(aD (aM (i:=2) sc_zv.nd rfl (Or.inl rfl) (bN (lO rfl) (by rfl) T.b_list boot_list (aA (gR nL cQ gY (gD (pv 1))) aB)))
   (aD (aM (i:=3) sc_zv.nd rfl (Or.inl rfl) (eE aB))
   (aD (dL l6 rfl (fH (by rfl) T.b_range (aA (pv 1) aB)) (bH (i:=4) sc_zv.nd rfl (Or.inl rfl)) (aD (aM (i:=5) sc_zv.nd rfl (Or.inl rfl) (cX (K:=K) rfl j9 aQR aQS qP (pv 2) (aA (pC c_z6 hr (aA (pv 0) (aA (aU (bG (K:=K) rfl) (by rfl) T.b_len k7 (aA (pv 2) aB)) aB))) aB)))
   (aH (cJ (cX (K:=K) rfl j9 m9 n9 cW (pv 3) (aA (aX (aR (K:=K) rfl) (eE (aA (pv 5) (aA (fA (K:=K) rfl l8 aZK aZL xS (pv 5)) aB))) (pC c_z6 hr (aA (pv 0) (aA aF aB))) (fun _ _=>rfl)) aB))))))
   (aH (aV (bN (dD (K:=K) rfl) (by rfl) T.b_tuple boot_tuple (aA (pv 3) aB))))))),?_⟩
  refine⟨_,rfl,_,rfl,_,rfl,by decide +kernel,bP n,?_,?_,fun l hl=>?_⟩
  ·show [V.str (Txt.slice (Str.ofString "abcd") none (some ((n:Nat):Int)))]=_
   rw[nQ,iG _ (by omega) (by simp;omega)]
   rfl
  ·rw[dE h4];omega
  refine⟨aN (by simp),fun fd hfd=>?_⟩
  have hlf:l≠fl:=hf.ne hl
  have hls:l≠sc:=hf.ne2 hl
  have hff:fd≠fl:=(hf.upd hl).ne hfd
  have hfs:fd≠sc:=(hf.upd hl).ne2 hfd
  have hld:l≠fd:=aJ (aC (H:=H) (a:=l) (o:=HO.lst ((bP n).map fun c=>V.str (S [c])))) hfd
  have hfd0:H fd=none:=by rw[aE hld.symm] at hfd;exact hfd
  refine⟨_,rfl,(n:Nat),rfl,by omega,by omega,gJ (lo:=0) (n:=((n:Nat):Int).toNat) (fun i σ H1=>∃ (v4 v5:Option V) (ls cs:List Nat),σ=[some (.ref fl),some (.int (n:Nat)),some (.ref l),some (.ref fd),v4,v5]∧IsFl H1 fl sc∧Kp fl H H1∧H1 l=some (.lst (bB ls))∧H1 fd=some (.lst (bS (bU cs)))∧(∀ d∈ls,d∈bP n)∧ls.length+i=n∧cs.length=i∧(∀ c∈cs,c∈aI (n:Nat))∧(cs.map lo++ls).Perm (bP n)) ?_ ?_ ?_⟩
  ·refine⟨none,none,bP n,[],rfl,(hf.upd hl).upd hfd,((Kp.refl fl H).upd hl).upd hfd0,?_,aC,fun d hd=>hd,by rw[dE h4];rfl,rfl,(fun x hx=>nomatch hx),aJS _⟩
   rw[aE hld,aC]
   rfl
  ·rintro i _ H1 hi ⟨v4,v5,ls,cs,rfl,f1,k1,el,ef,hls',hll,hsl,hst,hpm⟩
   have hpos:0<ls.length:=by omega
   refine⟨_,rfl,.inl ⟨rfl,_,SqL.of el⟩,_,rfl,_,rfl,l,_,rfl,.inl (SqL.of el),fl,sc,_,rfl,f1,by rw[bA];omega,by rw[bA];omega,fun g H2 g0 g1 f2 k2=>?_⟩
   rw[bA] at g1
   obtain⟨d,hd⟩:∃ d,ls[g.toNat]?=some d:=⟨_,b0 (by omega)⟩
   have hdm:=hls' d (b6 hd)
   have hdL:=iV hdm
   have hdl:=hX hdm
   have hdn:=eI h1 h4 hdm
   have el2:=k2 _ _ el hlf
   refine⟨l,_,g,g.toNat,.str (S [d]),rfl,rfl,el2,by omega,by omega,?_,lS hd,?_⟩
   ·rw[bA]
    exact aQk g0 (by omega)
   rw[pY]
   have hel:(ls.eraseIdx g.toNat).length=ls.length - 1:=by rw[aXU,if_pos (by omega)]
   have hes:∀ d∈ls.eraseIdx g.toNat,d∈bP n:=fun d hd=>hls' d (aXx hd)
   have hpe:=zK hd
   generalize ls.eraseIdx g.toNat=ls2 at hel hes hpe
   have f3:IsFl (upd H2 l (.lst (bB ls2))) fl sc:=f2.set hlf hls
   have hl0:H l=none:=hl
   have k3:Kp fl H (upd H2 l (.lst (bB ls2))):=(k1.trans k2).upd hl0
   have el3:upd H2 l (.lst (bB ls2)) l=some (.lst (bB ls2)):=aC
   have ef3:upd H2 l (.lst (bB ls2)) fd=some (.lst (bS (bU cs))):=by rw[aE hld.symm];exact k2 _ _ ef hff
   generalize upd H2 l (.lst (bB ls2))=H3 at f3 k3 el3 ef3
   refine⟨_,rfl,.inl ⟨rfl,_,SqL.of ef3⟩,_,rfl,_,rfl,rfl,S [d],rfl,rfl,by rw[pG hdL hdl];exact Ah _,aN (by simp),fun q hq=>?_⟩
   rw[pG hdL hdl]
   refine⟨_,rfl,fl,sc,2,rfl,f3.upd hq,by decide,by decide,fun e H4 e0 e1 f4 k4=>?_⟩
   obtain⟨x,hx,hxn,hxl⟩:∃ x,wD [V.str (S [d]),V.str (S [con d])] e=some (.str (S [x]))∧x∈aI (n:Nat)∧lo x=d:=by
    have:e=0∨e=1:=by omega
    rcases this with rfl | rfl
    ·exact⟨d,rfl,hdn,zZ hdL hdl⟩
    ·exact⟨con d,rfl,cE (by omega) (by omega) hdn,Hi hdL hdl⟩
   have hqf:q≠fl:=f3.ne hq
   have ef4:=k4 _ _ (show upd H3 q (.lst [.str (S [d]),.str (S [con d])]) fd=some (.lst (bS (bU cs))) by rw[aE (aJ ef3 hq)];exact ef3) hff
   have el4:=k4 _ _ (show upd H3 q (.lst [.str (S [d]),.str (S [con d])]) l=some (.lst (bB ls2)) by rw[aE (aJ el3 hq)];exact el3) hlf
   have eq4:=k4 _ _ (aC (H:=H3) (a:=q) (o:=HO.lst [.str (S [d]),.str (S [con d])])) hqf
   refine⟨q,_,_,_,rfl,rfl,SqL.of eq4,hx,fd,_,_,rfl,rfl,ef4,by rw[aS];unfold bU;rw[b7];exact aQ (by omega),_,_,ls2,cs++[x],rfl,f4.set hff hfs,((k3.upd (k3.free hq hqf)).trans k4).upd hfd0,by rw[aE hld];exact el4,?_,hes,by omega,by rw[c5,hsl];rfl,fun y hy=>?_,?_⟩
   ·rw[aC];unfold bS bU;rw[g6,g6];rfl
   ·rcases k0.mp hy with z | z
    ·exact hst y z
    ·rw[c6.mp z];exact hxn
   ·rw[g6,i6]
    show (cs.map lo++(lo x::ls2)).Perm _
    rw[hxl]
    exact(hpe.append_left _).trans hpm
  ·rintro _ H1 ⟨v4,v5,ls,cs,rfl,f1,k1,el,ef,hls',hll,hsl,hst,hpm⟩
   rw[aQZ] at hsl
   have hls0:ls=[]:=o6.mp (by have:ls.length+((n:Nat):Int).toNat=n:=hll;rw[aQZ] at this;omega)
   subst hls0
   rw[l4] at hpm
   refine⟨_,rfl,fd,_,rfl,.inl ⟨SqL.of ef,fun p hp=>k p cs _ (k1.free hp (f1.ne hp)) ⟨hsl,hst,hpm⟩ ⟨by unfold bU;rw[b7];exact hsl,fun x hx=>?_,fun x hx=>?_⟩ (fun x hx=>?_) aC (f1.upd hp) (k1.upd (k1.free hp (f1.ne hp)))⟩⟩
   ·obtain⟨e,he,rfl⟩:=d5.mp hx
    exact cU (aK (hst e he))
   ·obtain⟨e,he,rfl⟩:=d5.mp hx
    exact c0 _
   ·obtain⟨e,he,rfl⟩:=d5.mp hx
    intro z hz
    rw[c6.mp hz];exact hst e he
theorem F5{f:Addr}{fd:FuncData}(D:Df K mg "_law_key" AT ["_law_word_here"] f fd)(T:Txt P w K mg KN KO KP):Cl P w K mg base "_law_key" ["_law_word_here"] 1 spKey:=by
 refine D.cl (D.F.ok Gh (fun vs H Q E h=>?_) (fun cdv A outer s H vs Q E hr h=>?_))
 ·obtain⟨x,rfl,_⟩:=h
  rfl
 ·obtain⟨x,rfl,hx,hlen,k⟩:=h
  refine⟨_,(aH (aV (fY (aA (aU eW (by rfl) T.b_len k7 (aA (pv 0) aB)) (aA (cY (sc0:=aG AT) (N:=["_law_word_here"]) (ix:=[]) (by decide +kernel) rfl rfl rfl (iW (pv 0)) (fun _ _ _=>cM) (fun _ _ _=>(cX (K:=K) rfl l8 aZM aZN (xL rfl) cQ (aA (pv 0) aB)))) aB))))),?_⟩
  refine⟨_,rfl,_,rfl,by rw[bV];exact aN (by omega),_,rfl,S x,rfl,fun Dd hD=>lE (w:=x) (fun i H1=>Same H H1∧H1 Dd=some (.lst ((rks (x.take i)).map V.int))) ⟨Same.new hD,aC⟩ ?_ ?_⟩
  ·rintro i c H1 hc ⟨s1,e1⟩
   have hi:i<x.length:=(a9.mp hc).1
   have hcL:=hx c (b6 hc)
   refine⟨rfl,_,rfl,_,_,rfl,rfl,(Ff hcL).1,?_⟩
   rw[(Ff hcL).2]
   refine⟨_,e1,?_,s1.upd hD,?_⟩
   ·rw[b7,oR,i7];exact aQ (by omega)
   ·rw[aC,bI hc];unfold rks;rw[g6,g6];rfl
  ·rintro H1 ⟨s1,e1⟩
   rw[j8] at e1
   refine⟨aN (by simp),fun p hp=>?_⟩
   rw[bV]
   exact k p Dd _ (s1.free hp) hD (s1.upd' hp) aC (by rw[aE (aJ e1 hp)];exact e1)
theorem Il{f:Addr}{fd:FuncData}(D:Df K mg "_law_change_back" EA ["_law_change"] f fd)(T:Txt P w K mg KN KO KP)(c_zx:Cl P w K mg base "_law_contrary" ["_law_letter"] 1 spCon)(c_zf1:Cl P w K mg base "_law_key" ["_law_word_here"] 1 spKey):Cl P w K mg base "_law_change_back" ["_law_change"] 4 spChBk:=by
 obtain⟨f_zf1,fd_zf1,G_zf1,m_zf1,k_zf1,b_zf1⟩:=c_zf1
 refine D.cl (D.F.ok sc_zh (fun vs H Q E h=>?_) (fun cdv A outer s H vs Q E hr h=>?_))
 ·obtain⟨n,p,c,sd,rfl,_⟩:=h
  rfl
 ·obtain⟨n,p,c,sd,rfl,h1,h4,⟨q,ep,eq⟩,g,hl8,k⟩:=h
  refine⟨_,(aD (fF (pv 0) (jZ (K:=K) rfl rfl (cR (bH (i:=1) sc_zh.nd rfl (Or.inr rfl)) (cR (bH (i:=2) sc_zh.nd rfl (Or.inl rfl)) hZ))))
   (aD (aM (i:=3) sc_zh.nd rfl (Or.inl rfl) (bM Gy (cY (sc0:=aG EA) (N:=["_law_change","_law_letter","_law_side","_law_other"]) (ix:=[1]) (by decide +kernel) rfl rfl rfl (fL (K:=K) rfl (pv 2)) (fun _ _ _=>pV (aT jP (pv 0) (pv 1) (aZ _))) (fun _ _ _=>(pv 0))) (eE (aA (pC c_zx hr (aA (pv 1) aB)) aB))))
   (aH (aV (fY (aA (pC c_zx hr (aA (pv 1) aB)) (aA (bN (dD (K:=K) rfl) (by rfl) T.b_tuple boot_tuple (aA (Dl (K:=K) rfl G_zf1 (hr.mono (by decide)) b_zf1 (by rfl) T.b_sorted (by rfl) m_zf1 (aA (pv 3) aB)) aB)) aB))))))),?_⟩
  have hcL:=aK g.let'
  refine⟨_,rfl,p,_,rfl,.inr (SqT.of ep),rfl,_,_,rfl,_,_,rfl,rfl,?_⟩
  refine⟨_,rfl,q,rfl,⟨_,SqT.of eq⟩,fun Dd hD=>eF (xs:=bB sd) (fun i H2=>Same H H2∧H2 Dd=some (.lst (bB ((sd.take i).filter fun d=>decide (d≠c))))) ⟨Same.new hD,aC⟩ (fun i H2 _ h=>SqT.of (h.1 _ _ eq)) ?_ ?_⟩
  ·rintro i v H2 hv ⟨s2,eD⟩
   obtain⟨d,hd,rfl⟩:=AB hv
   have hi:i<sd.length:=(a9.mp hd).1
   refine⟨_,rfl,_,rfl,rfl,_,rfl,?_⟩
   rw[fX]
   refine gC (fun z=>?_) (fun z=>?_)
   ·have z':d≠c:=by simpa using z
    refine⟨_,rfl,_,eD,?_,s2.upd hD,?_⟩
    ·rw[bA]
     have:=aQV (fun d=>decide (d≠c)) (sd.take i)
     rw[i7] at this
     exact aQ (by omega)
    ·rw[aC,bI hd,aX8,aQx (by simpa using z'),aJM,cF]
   ·have z':d=c:=by simpa using z
    refine⟨s2,?_⟩
    rw[bI hd,aX8,aQy (by simpa using z'),aJM,l4]
    exact eD
  ·rintro H2 ⟨s2,eD⟩
   rw[bA,j8] at eD
   have hfl:(sd.filter fun d=>decide (d≠c)).length≤8:=j7 (aQV _ _) hl8
   have hfm:∀ d∈(sd.filter fun d=>decide (d≠c))++[con c],bX d:=fun d hd=>by
    rcases k0.mp hd with z | z
    ·exact aK (g.side d (aQB.mp z).1)
    ·rw[c6.mp z];exact bQ hcL
   have hss:=fun (ws:List (List Nat)) hp ho=>wI (ws:=ws) h1 h4 g hp ho
   generalize (sd.filter fun d=>decide (d≠c))=F at eD hfl hfm hss
   refine⟨_,rfl,c,rfl,hcL,fun H3 s3=>⟨aN (by simp),fun l hl=>?_⟩⟩
   have eD3:=s3 _ _ eD
   refine⟨Dd,l,_,_,rfl,rfl,by rw[aE (aJ eD3 hl)];exact eD3,aC,aN (by rw[bA];simp;omega),fun L hL=>?_⟩
   have s4:Same H3 (upd (upd H3 l (.lst [.str (S [con c])])) L (.lst (bB F++[.str (S [con c])]))):=(Same.new hl).upd' hL
   have e4:upd (upd H3 l (.lst [.str (S [con c])])) L (.lst (bB F++[.str (S [con c])])) L=some (.lst (bS (bU (F++[con c])))):=by rw[aC,uD,cF]
   generalize upd (upd H3 l (.lst [.str (S [con c])])) L (.lst (bB F++[.str (S [con c])]))=H4 at s4 e4
   refine⟨_,rfl,c,rfl,hcL,fun H6 s6=>⟨_,rfl,?_⟩⟩
   have e6:=s6 _ _ e4
   obtain⟨l',xs',kz,Pv,el,a0,a1,a2,a3,a4,a5,a6,a7⟩:=Dg (K:=K) (Q:=fun v H''=>∃ D ws',v=V.ref D∧H6 D=none∧Same H6 H''∧H'' D=some (.lst (bS ws'))∧ws'.Perm (bU (F++[con c]))∧ws'.Pairwise CL) (SqL.of e6) (by unfold bU;rw[b7,c5];show F.length+1<64;omega) (fun y hy=>by
    obtain⟨d,hd,rfl⟩:=d5.mp hy
    exact⟨cU (hfm d hd),by simp⟩) (fun D ws' H' a b c d e=>⟨D,ws',rfl,a,b,c,d,e⟩)
   refine⟨l',xs',kz,Pv,el,a0,a1,a2,a3,a4,a5,a6,fun S' ks H5' hP=>?_⟩
   obtain⟨b1,b2,b3,b4⟩:=a7 S' ks H5' hP
   refine⟨b1,b2,b3,fun pp hpp so L2 hL2=>?_⟩
   obtain⟨L',ws,eL,_,s7,e7,hp7,ho7⟩:=b4 pp hpp so L2 hL2
   cases eL
   generalize upd (upd H5' S' (.lst [])) L2 (.lst (pp.toList.map fun i=>xs'.getD i .non))=H7 at s7 e7
   rw[hss ws hp7 ho7,uD] at e7
   have s17:Same H H7:=(((s2.trans s3).trans s4).trans s6).trans s7
   refine⟨L2,_,rfl,.inl ⟨SqL.of e7,fun t ht=>⟨aN (by simp),fun r hr=>k r _ ((s17.upd' ht).upd' hr) ⟨t,aC,?_⟩⟩⟩⟩
   rw[aE (aJ (aC (H:=H7) (a:=t) (o:=HO.tup (bB (nE c sd)))) hr)]
   exact aC
theorem IQ{f:Addr}{fd:FuncData}(D:Df K mg "_law_alphabet" DS ["_law_flow_here","_law_n","_law_steps","_law_most"] f fd)(T:Txt P w K mg KN KO KP)(c_z6:Cl P w K mg base "_law_pick" ["_law_flow_here","_law_many"] 1 spPick)(c_zb1:Cl P w K mg base "_law_then" ["_law_one","_law_other"] 4 (spThen K))(c_za1:Cl P w K mg base "_law_same" ["_law_n"] 1 spFirst)(c_ze:Cl P w K mg base "_law_drawn_change" ["_law_flow_here","_law_n"] 2 spDrawnB)(c_zg:Cl P w K mg base "_law_change_told" ["_law_n","_law_change"] 2 spChTold)(c_zh:Cl P w K mg base "_law_change_back" ["_law_change"] 4 spChBk):Cl P w K mg base "_law_alphabet" ["_law_flow_here","_law_n","_law_steps","_law_most"] 5 spAlph:=by
 refine D.cl (D.F.ok sc_zu (fun vs H Q E h=>?_) (fun cdv A outer s H vs Q E hr h=>?_))
 ·obtain⟨fl,sc,n,mo,st,rfl,_⟩:=h
  rfl
 ·obtain⟨fl,sc,n,mo,st,rfl,f,h1,h4,m1,m8,s0,s9,k⟩:=h
  refine⟨_,(aD (uV (i:=4) (j:=5) rfl sc_zu.nd rfl rfl (by decide) rfl rfl (aA (pC c_za1 hr (aA (pv 1) aB)) (aA (pC c_za1 hr (aA (pv 1) aB)) aB)) (by rfl))
   (aD (dL l6 rfl (fH (by rfl) T.b_range (aA (pC c_z6 hr (aA (pv 0) (aA (bM eX (pv 2) aF) aB))) aB)) (bH (i:=6) sc_zu.nd rfl (Or.inl rfl)) (aD (aM (i:=7) sc_zu.nd rfl (Or.inl rfl) (pC c_ze hr (aA (pv 0) (aA (pv 1) aB))))
   (aD (aM (i:=8) sc_zu.nd rfl (Or.inl rfl) (pC c_zb1 hr (aA (pv 4) (aA (pC c_zg hr (aA (pv 1) (aA (pv 7) aB))) aB))))
   (aD (aM (i:=9) sc_zu.nd rfl (Or.inl rfl) (pC c_zb1 hr (aA (pC c_zg hr (aA (pv 1) (aA (pC c_zh hr (aA (pv 7) aB)) aB))) (aA (pv 5) aB))))
   (aH (eB (aT E9 (aU (tM (K:=K) rfl rfl) (by rfl) T.b_max boot_max (aA (cY (sc0:=aG DS) (N:=["_law_flow_here","_law_n","_law_steps","_law_most","_law_found","_law_back_here","_law_k","_law_change","_law_further","_law_further_back"]) (ix:=[]) (by decide +kernel) rfl rfl rfl (fL (K:=K) rfl (bM (Dy (K:=K) rfl) (pv 8) (pv 9))) (fun _ _ _=>cM) (fun _ _ _=>(aU eW (by rfl) T.b_len k7 (aA (pv 0) aB)))) aB)) (pv 3) (aZ _)) (aH (uV (i:=4) (j:=5) rfl sc_zu.nd rfl rfl (by decide) rfl rfl (aA (pv 8) (aA (pv 9) aB)) (by rfl))) cO))))))
   (aH (aV (fY (aA (pv 4) (aA (pv 5) aB))))))),?_⟩
  refine⟨_,rfl,n,rfl,h1,h4,fun p1 H1 hp1 s1 e1=>?_⟩
  refine⟨_,rfl,n,rfl,h1,h4,fun p2 H2 hp2 s2 e2=>?_⟩
  have f2:=(f.same s1).same s2
  have e12:=s2 _ _ e1
  have k02:Kp fl H H2:=(s1.trans s2).kp
  refine⟨_,_,rfl,_,rfl,_,rfl,_,_,rfl,rfl,fl,sc,_,rfl,f2,(by show (0:Int)<st+1;omega),(by show st+1<(1073741824:Int);omega),fun d H3 d0 d1 f3 k3=>⟨d,rfl,by omega,by have:d<st+1:=d1;omega,?_⟩⟩
  refine gJ (lo:=0) (n:=d.toNat) (fun i σ G=>∃ (a b:Addr) (fd bk:List (List Nat)) (v6 v7 v8 v9:Option V),σ=[some (.ref fl),some (.int (n:Nat)),some (.int st),some (.int (mo:Nat)),some (.ref a),some (.ref b),v6,v7,v8,v9]∧oK G a fd∧oK G b bk∧IvG n fd bk mo mo∧IsFl G fl sc∧Kp fl H G) ?_ ?_ ?_
  ·exact⟨p1,p2,cC n,cC n,none,none,none,none,rfl,oG f2 k3 e12,oG f2 k3 e2,IvG.low h1 h4 mo mo m1 m1,f3,k02.trans k3⟩
  ·rintro i _ G hi ⟨a,b,fd,bk,v6,v7,v8,v9,rfl,ea,eb,iv,fG,kG⟩
   refine⟨_,rfl,_,rfl,fl,sc,n,rfl,fG,h1,h4,fun p c sd G2 hp gd hl8 ic fG2 kG2=>?_⟩
   have hcL:=aK gd.let'
   have hsL:∀ d∈sd,bX d:=fun d hd=>aK (gd.side d hd)
   have ic':=gd.back h1 h4
   obtain⟨r1,r2,r3,r4⟩:=EN h1 h4 gd
   have ea2:=oG fG kG2 ea
   have eb2:=oG fG kG2 eb
   refine⟨_,rfl,_,rfl,_,rfl,n,p,c,sd,rfl,h1,h4,ic,hcL,hsL,fun t3 G3 ht3 s3 e3=>?_⟩
   refine⟨a,t3,fd,jK n c sd,n,mo,3,rfl,SqT.of (s3 _ _ ea2),SqT.of e3,iv.rt,r1.1,fun x hx=>(iv.ro x hx).1,h1,h4,by omega,by omega,by omega,fun pf G4 hpf s4 e4=>?_⟩
   have s24:=s3.trans s4
   refine⟨_,rfl,_,rfl,n,p,c,sd,rfl,h1,h4,ic.same s24,gd,hl8,fun q5 G5 s5 ic5=>?_⟩
   refine⟨n,q5,con c,nE c sd,rfl,h1,h4,ic5,bQ hcL,fun d hd=>aK (ic'.side d hd),fun t6 G6 ht6 s6 e6=>?_⟩
   have s26:=(s24.trans s5).trans s6
   refine⟨_,rfl,t6,b,jK n (con c) (nE c sd),bk,n,3,mo,rfl,SqT.of e6,SqT.of (s26 _ _ eb2),r2.1,iv.bt,r2.2,h1,h4,by omega,by omega,by omega,fun pb G7 hpb s7 e7=>?_⟩
   have s27:=s26.trans s7
   have s47:=(s5.trans s6).trans s7
   have fG7:=fG2.same s27
   have kG7:Kp fl H G7:=(kG.trans kG2).trans s27.kp
   have iv2:=iv.comp h1 h4 r1 r2 r3 r4
   have e47:=s47 _ _ e4
   have nf:(bC fd (jK n c sd)).length=n:=iv2.rt.len
   have nb:(bC (jK n (con c) (nE c sd)) bk).length=n:=iv2.bt.len
   generalize bC fd (jK n c sd)=ff at e47 iv2 nf
   generalize bC (jK n (con c) (nE c sd)) bk=fb at e7 iv2 nb
   have lall:∀ x∈ff++fb,x.length≤24:=fun x hx=>by
    rcases k0.mp hx with z | z
    ·have:=iv2.rt.le x z;omega
    ·have:=iv2.bt.le x z;omega
   have nn:∀ {l:List (List Nat)},l.length=n→bS l≠[]:=fun {l} e z=>by
    have:=congrArg List.length z
    rw[aS,e] at this
    simp at this
    omega
   refine⟨_,rfl,_,rfl,pf,pb,_,_,rfl,rfl,SqT.of e47,SqT.of e7,nn nf,aN (by rw[aS,aS];omega),(fun z=>absurd z (nn nb)),fun _ pt hpt=>?_⟩
   have ec:bS ff++bS fb=bS (ff++fb):=by unfold bS;rw[g6]
   rw[ec]
   have s8:=Same.new (o:=HO.tup (bS (ff++fb))) hpt
   have e8:upd G7 pt (.tup (bS (ff++fb))) pt=some (.tup (bS (ff++fb))):=aC
   generalize upd G7 pt (.tup (bS (ff++fb)))=G8 at s8 e8
   refine⟨pt,rfl,⟨_,SqT.of e8⟩,fun Dd hD=>eF (K:=K) (a:=pt) (xs:=bS (ff++fb)) (fun i G9=>Same G8 G9∧G9 Dd=some (.lst ((((ff++fb).take i).map fun x=>((x.length:Nat):Int)).map V.int))) ⟨Same.new hD,aC⟩ (fun i G9 _ h=>SqT.of (h.1 _ _ e8)) ?_ ?_⟩
   ·rintro i v G9 hv ⟨s9,e9⟩
    obtain⟨x,hx,rfl⟩:=fB hv
    have hxl:=lall x (b6 hx)
    have hil:=(a9.mp hx).1
    refine⟨_,rfl,S x,rfl,aN (by rw[bV];omega),_,e9,?_,s9.upd hD,?_⟩
    ·rw[b7,b7,i7]
     have:(ff++fb).length=n+n:=by rw[c5,nf,nb]
     exact aQ (by omega)
    ·rw[aC,p6,hx,g6,g6,bV]
     rfl
   ·rintro G9 ⟨s9,e9⟩
    rw[aS,j8] at e9
    refine⟨Dd,_,rfl,SqL.of e9,by rw[b7,c5,nf];omega,fun mx hmx=>?_⟩
    refine⟨_,rfl,_,_,rfl,rfl,_,rfl,?_⟩
    have s79:=s8.trans s9
    have f9:=fG7.same s79
    have k9:Kp fl H G9:=kG7.trans s79.kp
    refine gC (fun e=>?_) (fun e=>?_)
    ·have e':mx≤((mo:Nat):Int):=of_decide_eq_true e
     obtain⟨x1,x2⟩:=DF rfl hmx e'
     refine⟨_,rfl,_,rfl,_,_,rfl,pf,pb,ff,fb,_,_,_,_,rfl,s79 _ _ e47,s79 _ _ e7,iv2.le x1 x2,f9,k9⟩
    ·exact⟨a,b,fd,bk,_,_,_,_,rfl,s79 _ _ (s27 _ _ ea2),s79 _ _ (s27 _ _ eb2),iv,f9,k9⟩
  ·rintro _ G ⟨a,b,fd,bk,v6,v7,v8,v9,rfl,ea,eb,iv,fG,kG⟩
   refine⟨_,rfl,_,rfl,aN (by simp),fun t ht=>?_⟩
   have s5:=Same.new (o:=HO.tup [.ref a,.ref b]) ht
   exact k t a b fd bk _ aC (s5 _ _ ea) (s5 _ _ eb) iv (fG.upd ht) (kG.upd (kG.free ht (fG.ne ht)))
theorem Jf{f:Addr}{fd:FuncData}(D:Df K mg "_law_turned_by" D1 ["_law_n","_law_g"] f fd)(T:Txt P w K mg KN KO KP)(c_zc1:Cl P w K mg base "_law_back" ["_law_word_here"] 2 spBack)(c_zd1:Cl P w K mg base "_law_laid" ["_law_text"] 2 spLay):Cl P w K mg base "_law_turned_by" ["_law_n","_law_g"] 3 spTurned:=by
 refine D.cl (D.F.ok IN (fun vs H Q E h=>?_) (fun cdv A outer s H vs Q E hr h=>?_))
 ·obtain⟨n,g,rfl,_⟩:=h
  rfl
 ·obtain⟨n,g,rfl,h1,h4,hg,hgl,k⟩:=h
  refine⟨_,(aH (aV (bN (dD (K:=K) rfl) (by rfl) T.b_tuple boot_tuple (aA (cY (sc0:=aG D1) (N:=["_law_n","_law_g"]) (ix:=[1]) (by decide +kernel) rfl rfl rfl (iW (gR nL cQ gY (gD (pv 0)))) (fun _ _ _=>cM) (fun _ _ _=>(pC c_zd1 hr (aA (bM dH (bM dH (pv 1) (pv 0)) (pC c_zc1 hr (aA (pv 1) aB))) aB)))) aB)))),?_⟩
  refine⟨_,rfl,_,rfl,_,rfl,by decide +kernel,S (bP n),?_,fun Dd hD=>?_⟩
  ·show V.str (Txt.slice (Str.ofString "abcd") none (some ((n:Nat):Int)))=_
   rw[nQ,iG _ (by omega) (by simp;omega)]
   rfl
  refine lE (w:=bP n) (fun i H3=>Same H H3∧H3 Dd=some (.lst (bS (((bP n).take i).map fun c=>lay (g++[c]++back g))))) ⟨Same.new hD,aC⟩ ?_ ?_
  ·rintro i c H3 hc ⟨s3,e3⟩
   have hcL:bX c:=iV (b6 hc)
   have hi:i<n:=by have:=(a9.mp hc).1;rw[dE h4] at this;exact this
   refine⟨_,rfl,_,rfl,_,_,rfl,rfl,by rw[bV,bV];exact aN (by simp;omega),?_⟩
   rw[jI]
   refine⟨_,rfl,g,rfl,hg,by omega,fun H4 s4=>?_⟩
   refine⟨_,_,rfl,rfl,by rw[bV,bV,c5,bY];exact aN (by simp;omega),g++[c]++back g,by rw[jI];rfl,fV hg (cU hcL),by rw[c5,c5,bY,u9];omega,fun H5 s5=>⟨_,s5 _ _ (s4 _ _ e3),?_,((s3.trans s4).trans s5).upd hD,?_⟩⟩
   ·rw[aS,b7,i7];exact aQ (by omega)
   ·rw[aC,p6,hc,g6]
    unfold bS
    rw[g6]
    rfl
  ·rintro H3 ⟨s3,e3⟩
   rw[j8] at e3
   exact⟨Dd,_,rfl,.inl ⟨SqL.of e3,fun q hq=>k q _ (s3.free hq) (s3.upd' hq) aC⟩⟩
theorem Hv{f:Addr}{fd:FuncData}(D:Df K mg "_law_exchange_back" Eo ["_law_told"] f fd)(T:Txt P w K mg KN KO KP):Cl P w K mg base "_law_exchange_back" ["_law_told"] 1 spExBkA:=by
 refine D.cl (D.F.ok sc_zb (fun vs H Q E h=>?_) (fun cdv A outer s H vs Q E hr h=>?_))
 ·obtain⟨n,a,cs,rfl,_⟩:=h
  rfl
 ·obtain⟨n,a,cs,rfl,h1,h4,ex,ea,k⟩:=h
  refine⟨_,(aD (aM (i:=1) sc_zb.nd rfl (Or.inl rfl) (eE aB))
   (aD (dL l6 rfl (iW (gR nL cQ gY (gD (aU (bG (K:=K) rfl) (by rfl) T.b_len k7 (aA (pv 0) aB))))) (bH (i:=2) sc_zb.nd rfl (Or.inl rfl)) (aD (aM (i:=3) sc_zb.nd rfl (Or.inl rfl) (cX (K:=K) rfl j9 aZA PySem.F.type_list_index (yU (K:=K) rfl) (cY (sc0:=aG Eo) (N:=["_law_told","_law_found","_law_letter","_law_small"]) (ix:=[]) (by decide +kernel) rfl rfl rfl (fL (K:=K) rfl (pv 0)) (fun _ _ _=>cM) (fun _ _ _=>(fA (K:=K) rfl l8 aQi aQj mS (pv 0)))) (aA (pv 2) aB)))
   (aH (cJ (cX (K:=K) rfl j9 m9 n9 cW (pv 1) (aA (aX (aR (K:=K) rfl) (eE (aA (aX zO cQ (pv 3) (fun _ _=>rfl)) (aA (aX zO cQ (pv 3) (fun _ _=>rfl)) aB))) (bN kF (by rfl) T.b_int boot_int (aA (fA (K:=K) rfl l8 aXv aXw rJ (aX (cH (K:=K) rfl) (pv 0) (pv 3) (fun _ _=>rfl))) aB)) (fun _ _=>rfl)) aB))))))
   (aH (aV (bN (dD (K:=K) rfl) (by rfl) T.b_tuple boot_tuple (aA (pv 1) aB)))))),?_⟩
  have hcl:=ex.len
  refine⟨aN (by simp),fun l hl=>?_⟩
  have ea0:upd H l (.lst []) a=some (.tup (bB cs)):=by rw[aE (aJ ea hl)];exact ea
  refine⟨_,rfl,a,_,rfl,.inr (SqT.of ea0),_,rfl,_,rfl,by decide +kernel,S (bP n),?_,?_⟩
  ·show V.str (Txt.slice (Str.ofString "abcd") none (some (((bB cs).length:Nat):Int)))=_
   rw[bA,hcl,nQ,iG _ (by omega) (by simp;omega)]
   rfl
  refine kR (w:=bP n) (fun i σ H1=>∃ v2 v3:Option V,σ=[some (.ref a),some (.ref l),v2,v3]∧Same H H1∧H1 l=some (.lst (bB ((xB n cs).take i)))) ⟨none,none,rfl,Same.new hl,aC⟩ ?_ ?_
  ·rintro i d σ H1 hd ⟨v2,v3,rfl,s1,e1⟩
   have hm:=b6 hd
   have hi:i<n:=by have:=(a9.mp hd).1;rw[dE h4] at this;exact this
   have hx:(xB n cs)[i]?=some (yM cs d):=by unfold xB;rw[c9,hd];rfl
   have ea1:=s1 _ _ ea
   obtain⟨j,e,hj,hje,heL,hlj,hun,hlo,hup⟩:=Eg h1 h4 ex hm
   refine⟨_,rfl,a,rfl,⟨_,SqT.of ea1⟩,fun Dd hD=>eF (K:=K) (a:=a) (xs:=bB cs) (fun i H2=>Same H1 H2∧H2 Dd=some (.lst (bB ((cs.map lo).take i)))) ⟨Same.new hD,aC⟩ (fun i H2 _ h=>SqT.of (h.1 _ _ ea1)) ?_ ?_⟩
   ·rintro m v H2 hv ⟨s2,e2⟩
    obtain⟨c,hc,rfl⟩:=AB hv
    have hcL:AllL [c]:=cU (aK (ex.mem c (b6 hc)))
    have hml:m<n:=by have:=(a9.mp hc).1;omega
    refine⟨_,rfl,rfl,S [c],rfl,rfl,mX [c] hcL (by simp),?_⟩
    rw[iF hcL]
    have hcm:(cs.map lo)[m]?=some (lo c):=by rw[c9,hc];rfl
    refine⟨_,e2,?_,s2.upd hD,?_⟩
    ·rw[bA,i7];exact aQ (by omega)
    ·rw[aC,bI hcm,cF];rfl
   ·rintro H2 ⟨s2,e2⟩
    have hll:(bB cs).length=(cs.map lo).length:=by rw[bA,b7]
    rw[hll,j8] at e2
    have e2':SqL K H2 Dd (((cs.map lo).map fun c=>S [c]).map V.str):=by rw[← mL];exact SqL.of e2
    have s12:=s1.trans s2
    have at4:∀ {b:Nat} {w:List Nat},(∀ m,m<4→w[m]?=some (b+m))→wD (S w).cps.toList ((j:Nat):Int)=some (b+j):=fun {b w} hw=>Iu (by omega) (by rw[show ((j:Nat):Int).toNat=j by omega];exact hw j (by omega))
    refine⟨.inl ⟨rfl,_,SqL.of e2⟩,_,rfl,Dd,_,S [d],j,rfl,rfl,e2',by rw[c9,hlj];rfl,fun m hm z=>?_,by omega,?_⟩
    ·rw[c9] at z
     cases hq:(cs.map lo)[m]? with
     | none=>rw[hq] at z;cases z
     | some x =>
      rw[hq] at z
      have hz:x=d:=by
       have:=xT (d9 z)
       simpa using this
      rw[hz] at hq
      exact hun m hm hq
    have e12:=s2 _ _ e1
    have ea2:=s2 _ _ ea1
    refine⟨_,rfl,.inl ⟨rfl,_,SqL.of e12⟩,_,rfl,_,_,97+j,rfl,rfl,by decide +kernel,?_,_,rfl,_,_,65+j,rfl,rfl,by decide +kernel,?_,aN (by simp),fun q hq=>?_⟩
    ·rw[nQ]
     exact at4 fun m hm=>by
      have:m=0∨m=1∨m=2∨m=3:=by omega
      rcases this with rfl | rfl | rfl | rfl <;> rfl
    ·rw[show (Str.ofString "ABCD":Str)=S [65,66,67,68] by decide +kernel]
     exact at4 fun m hm=>by
      have:m=0∨m=1∨m=2∨m=3:=by omega
      rcases this with rfl | rfl | rfl | rfl <;> rfl
    have s3:=Same.new (o:=HO.lst [.str (S [97+j]),.str (S [65+j])]) hq
    have e3:upd H2 q (.lst [.str (S [97+j]),.str (S [65+j])]) q=some (.lst [.str (S [97+j]),.str (S [65+j])]):=aC
    generalize upd H2 q (.lst [.str (S [97+j]),.str (S [65+j])])=H3 at s3 e3
    have sm:(bB ((xB n cs).take i)).length<sizeLine:=by rw[bA,i7];exact aQ (by omega)
    have s03:=s12.trans s3
    have e13:=s3 _ _ e12
    refine⟨_,rfl,_,rfl,a,_,_,.str (S [e]),rfl,rfl,SqT.of (s3 _ _ ea2),dJ (lS hje),rfl,S [e],rfl,rfl,.inr ⟨_,rfl,?_⟩⟩
    rw[sY heL]
    cases hl':aY e with
    | true =>
     refine⟨q,_,0,.str (S [97+j]),rfl,rfl,SqL.of e3,rfl,l,_,_,rfl,rfl,e13,sm,_,_,rfl,s03.upd hl,?_⟩
     rw[aC,bI hx,cF,hlo hl']
    | false =>
     refine⟨q,_,1,.str (S [65+j]),rfl,rfl,SqL.of e3,rfl,l,_,_,rfl,rfl,e13,sm,_,_,rfl,s03.upd hl,?_⟩
     rw[aC,bI hx,cF,hup hl']
  ·rintro _ H1 ⟨v2,v3,rfl,s1,e1⟩
   rw[dE h4,u6 (by rw[ex.xB_len h1 h4];exact c0 _)] at e1
   exact⟨_,rfl,l,_,rfl,.inl ⟨SqL.of e1,fun t ht=>k t _ (s1.free ht) (s1.upd' ht) aC⟩⟩
theorem IS{f:Addr}{fd:FuncData}(D:Df K mg "_law_other_alphabet" DR ["_law_flow_here","_law_n","_law_steps","_law_most"] f fd)(T:Txt P w K mg KN KO KP)(c_zc1:Cl P w K mg base "_law_back" ["_law_word_here"] 2 spBack)(c_z4:Cl P w K mg base "_law_word" ["_law_flow_here","_law_n","_law_most"] 2 spWord)(c_zb1:Cl P w K mg base "_law_then" ["_law_one","_law_other"] 4 (spThen K))(c_zu:Cl P w K mg base "_law_alphabet" ["_law_flow_here","_law_n","_law_steps","_law_most"] 5 spAlph)(c_zv:Cl P w K mg base "_law_exchange" ["_law_flow_here","_law_n"] 2 spExchP)(c_zt:Cl P w K mg base "_law_turned_by" ["_law_n","_law_g"] 3 spTurned)(c_zb:Cl P w K mg base "_law_exchange_back" ["_law_told"] 1 spExBkA):Cl P w K mg base "_law_other_alphabet" ["_law_flow_here","_law_n","_law_steps","_law_most"] 6 spOthA:=by
 refine D.cl (D.F.ok sc_za (fun vs H Q E h=>?_) (fun cdv A outer s H vs Q E hr h=>?_))
 ·obtain⟨fl,sc,n,mo,st,rfl,_⟩:=h
  rfl
 ·obtain⟨fl,sc,n,mo,st,rfl,f,h1,h4,m1,m8,s0,s9,k⟩:=h
  refine⟨_,(aD (fF (pC c_zu hr (aA (pv 0) (aA (pv 1) (aA (pv 2) (aA (pv 3) aB))))) (jZ (K:=K) rfl rfl (cR (bH (i:=4) sc_za.nd rfl (Or.inl rfl)) (cR (bH (i:=5) sc_za.nd rfl (Or.inl rfl)) hZ))))
   (aD (aM (i:=6) sc_za.nd rfl (Or.inl rfl) (pC c_zv hr (aA (pv 0) (aA (pv 1) aB))))
   (aD (uV (i:=4) (j:=5) rfl sc_za.nd rfl rfl (by decide) rfl rfl (aA (pC c_zb1 hr (aA (pv 4) (aA (pv 6) aB))) (aA (pC c_zb1 hr (aA (pC c_zb hr (aA (pv 6) aB)) (aA (pv 5) aB))) aB)) (by rfl))
   (aD (aM (i:=7) sc_za.nd rfl (Or.inl rfl) (pC c_z4 hr (aA (pv 0) (aA (pv 1) (aA aF aB)))))
   (aD (aM (i:=8) sc_za.nd rfl (Or.inl rfl) (pC c_zb1 hr (aA (pv 4) (aA (pC c_zt hr (aA (pv 1) (aA (pv 7) aB))) aB))))
   (gG (eB (aT E9 (aU (tM (K:=K) rfl rfl) (by rfl) T.b_max boot_max (aA (cY (sc0:=aG DR) (N:=["_law_flow_here","_law_n","_law_steps","_law_most","_law_found","_law_back_here","_law_told","_law_g","_law_further"]) (ix:=[]) (by decide +kernel) rfl rfl rfl (fL (K:=K) rfl (pv 8)) (fun _ _ _=>cM) (fun _ _ _=>(aU eW (by rfl) T.b_len k7 (aA (pv 0) aB)))) aB)) (pv 3) (aZ _)) (aH (uV (i:=4) (j:=5) rfl sc_za.nd rfl rfl (by decide) rfl rfl (aA (pv 8) (aA (pC c_zb1 hr (aA (pC c_zt hr (aA (pv 1) (aA (pC c_zc1 hr (aA (pv 7) aB)) aB))) (aA (pv 5) aB))) aB)) (by rfl))) cO)
   (aH (aV (fY (aA (pv 4) (aA (pv 5) aB))))))))))),?_⟩
  refine⟨_,rfl,_,rfl,_,rfl,_,rfl,fl,sc,n,mo,st,rfl,f,h1,h4,m1,m8,s0,s9,fun p a b fd bk H1 ep ea eb iv f1 k1=>?_⟩
  refine⟨p,_,rfl,.inr (SqT.of ep),rfl,_,_,rfl,_,_,rfl,rfl,?_⟩
  refine⟨_,rfl,_,rfl,fl,sc,n,rfl,f1,h1,h4,fun q cs H2 hq ex ro oo eq f2 k2=>?_⟩
  have ea2:=oG f1 k2 ea
  have eb2:=oG f1 k2 eb
  obtain⟨x1,x2,x3,x4⟩:=Do h1 h4 ex
  have ob:=lM (ex.back h1 h4)
  have ew:bS (bU cs)=bB cs:=by unfold bS bU bB;rw[p7];rfl
  have ew2:bB (xB n cs)=bS (bU (xB n cs)):=by unfold bS bU bB;rw[p7];rfl
  refine⟨_,rfl,_,rfl,a,q,fd,bU cs,n,mo,1,rfl,SqT.of ea2,SqT.of eq,iv.rt,ro,fun x hx=>(iv.ro x hx).1,h1,h4,by omega,by omega,by omega,fun pf H3 hpf s3 e3=>?_⟩
  refine⟨_,rfl,n,q,cs,rfl,h1,h4,ex,by rw[← ew];exact s3 _ _ eq,fun q4 H4 hq4 s4 e4=>?_⟩
  rw[ew2] at e4
  refine⟨_,rfl,q4,b,bU (xB n cs),bk,n,1,mo,rfl,SqT.of e4,SqT.of (s4 _ _ (s3 _ _ eb2)),ob.1,iv.bt,ob.2,h1,h4,by omega,by omega,by omega,fun pb H5 hpb s5 e5=>⟨_,_,rfl,?_⟩⟩
  have iv2:IvG n (bC fd (bU cs)) (bC (bU (xB n cs)) bk) mo mo:=by
   have:=iv.comp h1 h4 ⟨ro,oo⟩ ob x3 x4
   rw[aJu,Nat.one_mul] at this
   exact this
  have e35:oK H5 pf _:=s5 _ _ (s4 _ _ e3)
  have e55:oK H5 pb _:=e5
  have f5:=f2.same ((s3.trans s4).trans s5)
  have k5:Kp fl H H5:=(k1.trans k2).trans ((s3.trans s4).trans s5).kp
  generalize bC fd (bU cs)=fd at e35 iv2
  generalize bC (bU (xB n cs)) bk=bk at e55 iv2
  clear ea eb ea2 eb2 e3 e4 e5 s3 s4 s5 iv ep eq
  refine⟨_,rfl,_,rfl,fl,sc,(n:Nat),2,rfl,f5,by omega,by omega,by decide,by decide,fun g H6 gO gP gl f6 k6=>?_⟩
  have gl2:g.length≤2:=by omega
  have gA:=gO.all
  have e36:=oG f5 k6 e35
  have e56:=oG f5 k6 e55
  refine⟨_,rfl,_,rfl,_,rfl,n,g,rfl,h1,h4,gA,by omega,fun t7 H7 ht7 s7 e7=>?_⟩
  refine⟨pf,t7,fd,eO n g,n,mo,2 * g.length+1,rfl,SqT.of (s7 _ _ e36),SqT.of e7,iv2.rt,lX h4 gA,fun x hx=>(iv2.ro x hx).1,h1,h4,by omega,by omega,j7 (aQM m8 (show 2 * g.length+1≤5 by omega)) (by decide),fun pt H8 hpt s8 e8=>?_⟩
  have s68:=s7.trans s8
  have f8:=f6.same s68
  have k8:Kp fl H H8:=(k5.trans k6).trans s68.kp
  have e38:=s68 _ _ e36
  have e58:=s68 _ _ e56
  have iv3:=iv2.turn h1 h4 gO
  refine⟨fun σ G=>∃ (a b:Addr) (fd bk:List (List Nat)),σ=[some (.ref fl),some (.int (n:Nat)),some (.int st),some (.int (mo:Nat)),some (.ref a),some (.ref b),some (.ref q),some (.str (S g)),some (.ref pt)]∧oK G a fd∧oK G b bk∧IvG n fd bk mo (5 * mo)∧IsFl G fl sc∧Kp fl H G,?_,?_⟩
  ·have nf:(bC fd (eO n g)).length=n:=iv3.rt.len
   have lall:∀ x∈bC fd (eO n g),x.length≤40:=fun x hx=>j7 (iv3.rt.le x hx) (j7 (aQM m8 (show 2 * g.length+1≤5 by omega)) (by decide))
   refine⟨_,rfl,pt,rfl,⟨_,SqT.of e8⟩,fun Dd hD=>eF (K:=K) (a:=pt) (xs:=bS (bC fd (eO n g))) (fun i G9=>Same H8 G9∧G9 Dd=some (.lst ((((bC fd (eO n g)).take i).map fun x=>((x.length:Nat):Int)).map V.int))) ⟨Same.new hD,aC⟩ (fun i G9 _ h=>SqT.of (h.1 _ _ e8)) ?_ ?_⟩
   ·rintro i v G9 hv ⟨s9,e9⟩
    obtain⟨x,hx,rfl⟩:=fB hv
    have hxl:=lall x (b6 hx)
    have hil:=(a9.mp hx).1
    refine⟨_,rfl,S x,rfl,aN (by rw[bV];omega),_,e9,?_,s9.upd hD,?_⟩
    ·rw[b7,b7,i7]
     exact aQ (by omega)
    ·rw[aC,p6,hx,g6,g6,bV]
     rfl
   ·rintro G9 ⟨s9,e9⟩
    rw[aS,j8] at e9
    refine⟨Dd,_,rfl,SqL.of e9,by rw[b7,nf];omega,fun mx hmx=>?_⟩
    refine⟨_,rfl,_,_,rfl,rfl,_,rfl,?_⟩
    have f9:=f8.same s9
    have k9:Kp fl H G9:=k8.trans s9.kp
    refine gC (fun e=>?_) (fun e=>?_)
    ·have e':mx≤((mo:Nat):Int):=of_decide_eq_true e
     have x1:=(DF (f:=bC fd (eO n g)) (fb:=[]) (by rw[l4]) hmx e').1
     have r2:=lX (n:=n) (g:=back g) h4 (aL gA)
     rw[bY] at r2
     have bo:OfN n (back g):=fun c hc=>by
      unfold back at hc
      obtain⟨d,hd,rfl⟩:=d5.mp (y7.mp hc)
      exact cE (by omega) (by omega) (gO d hd)
     refine⟨_,rfl,_,rfl,_,rfl,g,rfl,gA,by omega,fun H10 s10=>?_⟩
     refine⟨n,back g,rfl,h1,h4,aL gA,by rw[bY];omega,fun t11 H11 ht11 s11 e11=>?_⟩
     have s9b:=(s9.trans s10).trans s11
     refine⟨_,rfl,t11,pb,eO n (back g),bk,n,2 * g.length+1,mo,rfl,SqT.of e11,SqT.of (s9b _ _ e58),r2,iv2.bt,qR h1 h4 bo,h1,h4,by omega,by omega,j7 (aQM (show 2 * g.length+1≤5 by omega) m8) (by decide),fun pb2 H12 hpb2 s12 e12=>⟨_,_,rfl,pt,pb2,_,_,rfl,(s9b.trans s12) _ _ e8,e12,iv3.le x1 fun x hx=>j7 (iv3.bt.le x hx) (aQ3 mo (by omega)),f8.same (s9b.trans s12),k8.trans (s9b.trans s12).kp⟩⟩
    ·exact⟨pf,pb,fd,bk,rfl,s9 _ _ e38,s9 _ _ e58,iv2.le iv2.rt.le fun x hx=>j7 (iv2.bt.le x hx) (by omega),f9,k9⟩
  ·rintro _ G ⟨a,b,fd,bk,rfl,ea,eb,iv,fG,kG⟩
   refine⟨_,rfl,_,rfl,aN (by simp),fun t ht=>?_⟩
   have s5:=Same.new (o:=HO.tup [.ref a,.ref b]) ht
   exact k t a b fd bk _ aC (s5 _ _ ea) (s5 _ _ eb) iv (fG.upd ht) (kG.upd (kG.free ht (fG.ne ht)))
inductive IvJ0(fl:Addr)(a:Addr)(rs:List (List Nat))(sc:Addr)(H:Hp)(i:Nat)(σ:L2.St)(G:Hp):Prop
 | mk (us:List (List Nat)) (v4 v5:Option V) (h0:σ=[some (.ref fl),some (.ref a),some (.int (m:Nat)),some (.str (S us.flatten)),v4,v5]) (h1:(∀ u∈us,∃ v∈rs,u=v∨u=back v)) (h2:us.length=i) (h3:IsFl G fl sc) (h4:Kp fl H G):IvJ0 fl a rs sc H i σ G
theorem Ib{f:Addr}{fd:FuncData}(D:Df K mg "_law_joined_ones" GY ["_law_flow_here","_law_some","_law_many"] f fd)(T:Txt P w K mg KN KO KP)(c_z6:Cl P w K mg base "_law_pick" ["_law_flow_here","_law_many"] 1 spPick)(c_zc1:Cl P w K mg base "_law_back" ["_law_word_here"] 2 spBack)(c_zd1:Cl P w K mg base "_law_laid" ["_law_text"] 2 spLay):Cl P w K mg base "_law_joined_ones" ["_law_flow_here","_law_some","_law_many"] 3 spJoi:=by
 refine D.cl (D.F.ok sc_zi (fun vs H Q E h=>?_) (fun cdv A outer s H vs Q E hr h=>?_))
 ·obtain⟨fl,sc,a,rs,n,m,M,rfl,_⟩:=h
  rfl
 ·obtain⟨fl,sc,a,rs,n,m,M,rfl,f,ea,haf,h1,h4,hrl,hrs,hm,hM,k⟩:=h
  refine⟨_,(aD (aM (i:=3) sc_zi.nd rfl (Or.inl rfl) cQ)
   (aD (dL l6 rfl (fH (by rfl) T.b_range (aA (bM jT (pv 2) (bN kF (by rfl) T.b_int boot_int (aA (gH oH (aU (bG (K:=K) rfl) (by rfl) T.b_len k7 (aA (pv 1) aB)) aF (aZ _)) aB))) aB)) (bH (i:=4) sc_zi.nd rfl (Or.inl rfl)) (aD (aM (i:=5) sc_zi.nd rfl (Or.inl rfl) (aX (aR (K:=K) rfl) (pv 1) (pC c_z6 hr (aA (pv 0) (aA (aU (bG (K:=K) rfl) (by rfl) T.b_len k7 (aA (pv 1) aB)) aB))) (fun _ _=>rfl)))
   (aH (aM (i:=3) sc_zi.nd rfl (Or.inl rfl) (bM dH (pv 3) (aX (aR (K:=K) rfl) (eE (aA (pv 5) (aA (pC c_zc1 hr (aA (pv 5) aB)) aB))) (pC c_z6 hr (aA (pv 0) (aA aF aB))) (fun _ _=>rfl)))))))
   (aH (aV (pC c_zd1 hr (aA (pv 3) aB)))))),?_⟩
  obtain⟨b,hb,hb1,hb2⟩:∃ b:Nat,(if decide ((0:Int)<(((bS rs).length:Nat):Int))=true then (1:Int) else 0)=((b:Nat):Int)∧b≤1∧(b=1→0<rs.length):=by
   rw[aS]
   by_cases z:0<rs.length
   ·exact⟨1,by rw[decide_eq_true (by omega)];rfl,by omega,fun _=>z⟩
   ·exact⟨0,by rw[decide_eq_false (by omega)];rfl,by omega,fun z=>by omega⟩
  refine⟨_,rfl,_,rfl,a,_,rfl,.inl (SqL.of ea),_,_,rfl,rfl,.inr ⟨_,rfl,?_⟩⟩
  rw[hb]
  have hmb:((m:Nat):Int) * ((b:Nat):Int)=((m * b:Nat):Int):=by simp
  have hmb5:m * b≤m:=by
   have:b=0∨b=1:=by omega
   rcases this with rfl | rfl <;> omega
  have hx1:∀ x∈rs,x.length≤M:=fun x hx=>(hrs x hx).2
  have hx2:∀ x∈rs,OfN n x:=fun x hx=>(hrs x hx).1
  refine⟨_,_,rfl,rfl,.inl ⟨by omega,by omega⟩,((m * b:Nat):Int),by rw[← hmb],by omega,by omega,?_⟩
  have e0:Str.ofString ""=S ([]:List (List Nat)).flatten:=oI
  refine gJ (lo:=0) (n:=(((m * b:Nat):Int)).toNat) (IvJ0 fl a rs sc H) ⟨[],none,none,by rw[← e0];rfl,fun u hu=>by (cases hu),rfl,f,Kp.refl _ _⟩ ?_ ?_
  ·rintro i _ G hi ⟨us,v4,v5,rfl,hus,hul,fG,kG⟩
   have hb':b=1:=by
    have:b=0∨b=1:=by omega
    rcases this with rfl | rfl
    ·simp at hi
    ·rfl
   have hpos:=hb2 hb'
   have hi5:i<5:=by
    have:(((m * b:Nat):Int)).toNat=m * b:=by omega
    omega
   have ul:=uP hx1 hus
   have ul2:us.length * M≤5 * 100:=aQM (by omega) hM
   have eaG:=kG _ _ ea haf
   refine⟨_,rfl,_,rfl,_,rfl,a,_,rfl,.inl (SqL.of eaG),fl,sc,_,rfl,fG,by rw[aS];omega,by rw[aS];omega,fun g G2 g0 g1 f2 k2=>?_⟩
   rw[aS] at g1
   obtain⟨x,hx⟩:∃ x,rs[g.toNat]?=some x:=⟨_,b0 (by omega)⟩
   have hxm:=b6 hx
   obtain⟨xO,xl⟩:=hrs x hxm
   refine⟨a,_,g,.str (S x),rfl,rfl,SqL.of (k2 _ _ eaG haf),Aa g0 (mY hx),?_⟩
   refine⟨_,rfl,_,rfl,_,rfl,x,rfl,xO.all,by omega,fun G3 s3=>⟨aN (by simp),fun q hq=>?_⟩⟩
   have f3:=f2.same s3
   refine⟨_,rfl,fl,sc,2,rfl,f3.upd hq,by decide,by decide,fun e G4 e0 e1 f4 k4=>?_⟩
   obtain⟨y,hy,hyx⟩:∃ y,wD [V.str (S x),V.str (S (back x))] e=some (.str (S y))∧(y=x∨y=back x):=by
    have:e=0∨e=1:=by omega
    rcases this with rfl | rfl
    ·exact⟨x,rfl,.inl rfl⟩
    ·exact⟨back x,rfl,.inr rfl⟩
   have hyl:y.length≤M:=by
    rcases hyx with rfl | rfl
    ·exact xl
    ·rw[bY];exact xl
   have hqf:q≠fl:=f3.ne hq
   have eq4:=k4 _ _ (aC (H:=G3) (a:=q) (o:=HO.lst [.str (S x),.str (S (back x))])) hqf
   refine⟨q,_,_,_,rfl,rfl,SqL.of eq4,hy,_,_,rfl,rfl,by rw[bV,bV];exact aN (by omega),?_⟩
   rw[jI]
   have hq2:G2 q=none:=s3.free hq
   refine⟨us++[y],_,_,by rw[aX0,List.flatten_singleton];rfl,fun u hu=>?_,by rw[c5,hul];rfl,f4,?_⟩
   ·rcases k0.mp hu with z | z
    ·exact hus u z
    ·rw[c6.mp z];exact⟨x,hxm,hyx⟩
   ·exact((kG.trans k2).trans (s3.upd' hq).kp).trans k4
  ·rintro _ G ⟨us,v4,v5,rfl,hus,hul,fG,kG⟩
   have ul:=uP hx1 hus
   have hum:us.length≤m:=by omega
   have ul2:us.length * M≤m * M:=aQM hum (c0 _)
   have ul3:m * M≤5 * 100:=aQM hm hM
   have uO:=EE (n:=(n:Nat)) (by omega) (by omega) hx2 hus
   have:=gE us.flatten
   exact⟨_,rfl,us.flatten,rfl,uO.all,by omega,fun G2 s2=>k _ G2 uO.lay (dW _) (by omega) ⟨us,hus,rfl⟩ (fG.same s2) (kG.trans s2.kp)⟩
inductive IvJ1(fl:Addr)(n:Nat)(most:Nat)(lt:Nat)(H:Hp)(sc:Addr)(σ:L2.St)(G:Hp):Prop
 | mk (b:Addr) (bs:List (List Nat)) (h0:σ=[some (.ref fl),some (.int (n:Nat)),some (.int (most:Nat)),some (.int (lt:Nat)),some (.ref b),none,none,none]) (h1:G b=some (.lst (bS bs))) (h2:H b=none) (h3:b≠fl) (h4:b≠sc) (h5:bs.length≤4) (h6:(∀ x∈bs,OfN n x∧aW x∧x.length≤13)) (h7:IsFl G fl sc) (h8:Kp fl H G):IvJ1 fl n most lt H sc σ G
inductive IvJ2(fl:Addr)(n:Nat)(most:Nat)(lt:Nat)(b:Addr)(l:Addr)(bs:List (List Nat))(sc:Addr)(H:Hp)(i:Nat)(σ:L2.St)(G:Hp):Prop
 | mk (v6:Option V) (fs:List (List Nat)) (h0:σ=[some (.ref fl),some (.int (n:Nat)),some (.int (most:Nat)),some (.int (lt:Nat)),some (.ref b),some (.ref l),v6,none]) (h1:G b=some (.lst (bS bs))) (h2:G l=some (.lst (bS fs))) (h3:fs.length=bs.length+i) (h4:(∀ x∈fs,OfN n x∧aW x∧x.length≤39)) (h5:IsFl G fl sc) (h6:Kp fl H G):IvJ2 fl n most lt b l bs sc H i σ G
inductive IvJ3(fl:Addr)(n:Nat)(most:Nat)(lt:Nat)(b:Addr)(v6:Option V)(H:Hp)(sc:Addr)(σ:L2.St)(G:Hp):Prop
 | mk (v7:Option V) (l:Addr) (fs:List (List Nat)) (h0:σ=[some (.ref fl),some (.int (n:Nat)),some (.int (most:Nat)),some (.int (lt:Nat)),some (.ref b),some (.ref l),v6,v7]) (h1:G l=some (.lst (bS fs))) (h2:H l=none) (h3:l≠fl) (h4:l≠sc) (h5:fs.length≤8) (h6:(∀ x∈fs,OfN n x∧aW x∧x.length≤45)) (h7:IsFl G fl sc) (h8:Kp fl H G):IvJ3 fl n most lt b v6 H sc σ G
inductive IvJ4(fl:Addr)(n:Nat)(most:Nat)(lt:Nat)(b:Addr)(l:Addr)(v6:Option V)(v7:Option V)(sc:Addr)(H:Hp)(m:Nat)(σ:L2.St)(G:Hp):Prop
 | mk (fs:List (List Nat)) (h0:m=fs.length) (h1:σ=[some (.ref fl),some (.int (n:Nat)),some (.int (most:Nat)),some (.int (lt:Nat)),some (.ref b),some (.ref l),v6,v7]) (h2:G l=some (.lst (bS fs))) (h3:fs.length≤8) (h4:(∀ x∈fs,OfN n x∧aW x∧x.length≤45)) (h5:IsFl G fl sc) (h6:Kp fl H G):IvJ4 fl n most lt b l v6 v7 sc H m σ G
inductive IvJ5(fs:List (List Nat))(fl:Addr)(n:Nat)(most:Nat)(lt:Nat)(b:Addr)(l:Addr)(v6:Option V)(v7:Option V)(sc:Addr)(H:Hp)(σ':L2.St)(G':Hp):Prop
 | mk (fs':List (List Nat)) (h0:fs'.length<fs.length) (h1:σ'=[some (.ref fl),some (.int (n:Nat)),some (.int (most:Nat)),some (.int (lt:Nat)),some (.ref b),some (.ref l),v6,v7]) (h2:G' l=some (.lst (bS fs'))) (h3:fs'.length≤8) (h4:(∀ x∈fs',OfN n x∧aW x∧x.length≤45)) (h5:IsFl G' fl sc) (h6:Kp fl H G'):IvJ5 fs fl n most lt b l v6 v7 sc H σ' G'
theorem Jp{f:Addr}{fd:FuncData}(D:Df K mg "_law_some_words" Bh ["_law_flow_here","_law_n","_law_most","_law_letters_here"] f fd)(T:Txt P w K mg KN KO KP)(c_z6:Cl P w K mg base "_law_pick" ["_law_flow_here","_law_many"] 1 spPick)(c_zc1:Cl P w K mg base "_law_back" ["_law_word_here"] 2 spBack)(c_zd1:Cl P w K mg base "_law_laid" ["_law_text"] 2 spLay)(c_z4:Cl P w K mg base "_law_word" ["_law_flow_here","_law_n","_law_most"] 2 spWord)(c_zu:Cl P w K mg base "_law_alphabet" ["_law_flow_here","_law_n","_law_steps","_law_most"] 5 spAlph)(c_zi:Cl P w K mg base "_law_joined_ones" ["_law_flow_here","_law_some","_law_many"] 3 spJoi):Cl P w K mg base "_law_some_words" ["_law_flow_here","_law_n","_law_most","_law_letters_here"] 6 spSomeW:=by
 refine D.cl (D.F.ok sc_zm (fun vs H Q E h=>?_) (fun cdv A outer s H vs Q E hr h=>?_))
 ·obtain⟨fl,sc,n,most,lt,rfl,_⟩:=h
  rfl
 ·obtain⟨fl,sc,n,most,lt,rfl,f,h1,h4,k⟩:=h
  refine⟨_,(aD (lU (i:=4) (sc0:=aG Bh) (N:=["_law_flow_here","_law_n","_law_most","_law_letters_here","_law_base","_law_found","_law_k","_law_g"]) (ix:=[0,1]) sc_zm.nd rfl rfl (by decide +kernel) rfl rfl rfl (fH (by rfl) T.b_range (aA (pC c_z6 hr (aA (pv 0) (aA aF aB))) aB)) (fun _ _ _=>cM) (fun _ _ _=>(pC c_z4 hr (aA (pv 1) (aA (pv 2) (aA (aX (aR (K:=K) rfl) (eE (aA aF (aA aF (aA aF aB)))) (pC c_z6 hr (aA (pv 1) (aA aF aB))) (fun _ _=>rfl)) aB))))))
   (gG (eB (aT iD (pC c_z6 hr (aA (pv 0) (aA aF aB))) aF (aZ _)) (aH (aM (i:=4) sc_zm.nd rfl (Or.inl rfl) (bN (lI (K:=K) rfl) (by rfl) T.b_list boot_list (aA (aX (cH (K:=K) rfl) (pC c_zu hr (aA (pv 0) (aA (pv 1) (aA aF (aA aF aB))))) aF (fun _ _=>rfl)) aB)))) cO)
   (aD (aM (i:=5) sc_zm.nd rfl (Or.inl rfl) (bN (lI (K:=K) rfl) (by rfl) T.b_list boot_list (aA (pv 4) aB)))
   (aD (dL l6 rfl (fH (by rfl) T.b_range (aA (pC c_z6 hr (aA (pv 0) (aA aF aB))) aB)) (bH (i:=6) sc_zm.nd rfl (Or.inl rfl)) (aH (cJ (cX (K:=K) rfl j9 m9 n9 cW (pv 5) (aA (pC c_zi hr (aA (pv 0) (aA (pv 4) (aA (bM eX aF (pC c_z6 hr (aA (pv 0) (aA aF aB)))) aB)))) aB)))))
   (gG (eB (aT iD (pC c_z6 hr (aA (pv 0) (aA aF aB))) aF (aZ _)) (aD (aM (i:=7) sc_zm.nd rfl (Or.inr rfl) (pC c_z4 hr (aA (pv 0) (aA (pv 1) (aA aF aB)))))
   (aH (lU (i:=5) (sc0:=aG Bh) (N:=["_law_flow_here","_law_n","_law_most","_law_letters_here","_law_base","_law_found","_law_k","_law_g"]) (ix:=[7]) sc_zm.nd rfl rfl (by decide +kernel) rfl rfl rfl (fP (K:=K) rfl (pv 5)) (fun _ _ _=>cM) (fun _ _ _=>(pC c_zd1 hr (aA (bM dH (bM dH (pv 1) (pv 0)) (pC c_zc1 hr (aA (pv 1) aB))) aB)))))) cO)
   (aD (mQ l6 (PW.pt (pw_or (aT oH (aU (bG (K:=K) rfl) (by rfl) T.b_len k7 (aA (pv 5) aB)) (pv 2) (aZ _)) (pw_or1 (aT oH (aU (tY (K:=K) rfl rfl) (by rfl) T.b_sum boot_sum (aA (cY (sc0:=aG Bh) (N:=["_law_flow_here","_law_n","_law_most","_law_letters_here","_law_base","_law_found","_law_k","_law_g"]) (ix:=[]) (by decide +kernel) rfl rfl rfl (fP (K:=K) rfl (pv 5)) (fun _ _ _=>cM) (fun _ _ _=>(aU eW (by rfl) T.b_len k7 (aA (pv 0) aB)))) aB)) (pv 3) (aZ _))))) (aH (cJ (cX (K:=K) rfl j9 aQR aQS qP (pv 5) (aA (pC c_z6 hr (aA (pv 0) (aA (aU (bG (K:=K) rfl) (by rfl) T.b_len k7 (aA (pv 5) aB)) aB))) aB)))))
   (aH (aV (pv 5))))))))),?_⟩
  refine⟨_,rfl,fl,sc,4,rfl,f,by decide,by decide,fun d0 H1 d00 d01 f1 k1=>⟨d0,rfl,by omega,by omega,fun D0 hD0=>?_⟩⟩
  have hD0f:D0≠fl:=f1.ne hD0
  have hD0s:D0≠sc:=f1.ne2 hD0
  have hD0H:H D0=none:=k1.free hD0 hD0f
  refine yT (lo:=0) (n:=d0.toNat) (fun i G=>∃ bs,G D0=some (.lst (bS bs))∧bs.length=i∧(∀ x∈bs,OfN n x∧aW x∧x.length≤13)∧IsFl G fl sc∧Kp fl H G) ⟨[],aC,rfl,fun x hx=>by (cases hx),f1.upd hD0,k1.upd hD0H⟩ ?_ ?_
  ·rintro i G hi ⟨bs,eb,hbl,hbs,fG,kG⟩
   refine⟨_,rfl,_,rfl,aN (by simp),fun q hq=>?_⟩
   refine⟨_,rfl,fl,sc,3,rfl,fG.upd hq,by decide,by decide,fun e G2 e0 e1 f2 k2=>?_⟩
   obtain⟨c,hc,hc13⟩:∃ c:Nat,wD [V.int 4,V.int 7,V.int 13] e=some (.int (c:Nat))∧c≤13:=by
    have:e=0∨e=1∨e=2:=by omega
    rcases this with rfl | rfl | rfl
    ·exact⟨4,rfl,by decide⟩
    ·exact⟨7,rfl,by decide⟩
    ·exact⟨13,rfl,by decide⟩
   have hqf:q≠fl:=fG.ne hq
   have eq2:=k2 _ _ (aC (H:=G) (a:=q) (o:=HO.lst [.int 4,.int 7,.int 13])) hqf
   refine⟨q,_,_,_,rfl,rfl,SqL.of eq2,hc,fl,sc,(n:Nat),(c:Nat),rfl,f2,by omega,by omega,by omega,by omega,fun w G3 wO wP wl f3 k3=>?_⟩
   have kq:Kp fl G G3:=((Same.new hq).kp.trans k2).trans k3
   refine⟨_,kq _ _ eb hD0f,by rw[aS];exact aQ (by omega),bs++[w],by rw[aC,uN],by rw[c5,hbl];rfl,fun x hx=>?_,f3.set hD0f hD0s,(kG.trans kq).upd hD0H⟩
   rcases k0.mp hx with z | z
   ·exact hbs x z
   ·rw[c6.mp z];exact⟨wO,wP,by omega⟩
  rintro G ⟨bs,eb,hbl,hbs,fG,kG⟩
  refine⟨(IvJ1 fl n most lt H sc),?_,?_⟩
  ·refine⟨_,rfl,fl,sc,4,rfl,fG,by decide,by decide,fun e G2 e0 e1 f2 k2=>⟨rfl,_,rfl,gC (fun z=>?_) (fun z=>?_)⟩⟩
   ·refine⟨_,rfl,_,rfl,fl,sc,n,5,4,rfl,f2,h1,h4,by decide,by decide,by decide,by decide,fun p a b fw fb G3 ep ea _ iv f3 k3=>⟨p,_,0,.ref a,rfl,rfl,SqT.of ep,rfl,a,_,rfl,.inr (SqT.of ea),fun l hl=>?_⟩⟩
    have hlf:=f3.ne hl
    refine⟨l,fw,rfl,aC,((kG.trans k2).trans k3).free hl hlf,hlf,f3.ne2 hl,by rw[iv.rt.len];exact h4,fun x hx=>?_,f3.upd hl,((kG.trans k2).trans k3).trans (Same.new hl).kp⟩
    obtain⟨xo,xl⟩:=iv.ro x hx
    have:=iv.rt.le x hx
    exact⟨xo,by rw[← xl];exact dW x,by omega⟩
   ·exact⟨D0,bs,rfl,k2 _ _ eb hD0f,hD0H,hD0f,hD0s,by omega,hbs,f2,kG.trans k2⟩
  clear hD0 hD0f hD0s hD0H eb hbl hbs fG kG f1 k1
  rintro _ G1 ⟨b,bs,rfl,eb,hbH,hbf,hbs',hbl,hbs,f1,k1⟩
  refine⟨_,rfl,b,_,rfl,.inl (SqL.of eb),fun l hl=>?_⟩
  have hlf:=f1.ne hl
  have hls:=f1.ne2 hl
  have hlH:=k1.free hl hlf
  have hlb:b≠l:=aJ eb hl
  have f2:=f1.upd (o:=HO.lst (bS bs)) hl
  have k2:Kp fl H (upd G1 l (.lst (bS bs))):=k1.trans (Same.new hl).kp
  have el2:upd G1 l (.lst (bS bs)) l=some (.lst (bS bs)):=aC
  have eb2:upd G1 l (.lst (bS bs)) b=some (.lst (bS bs)):=by rw[aE hlb];exact eb
  show yC _ _ _ _ (upd G1 l (.lst (bS bs)))
  generalize upd G1 l (.lst (bS bs))=G2 at f2 k2 el2 eb2
  refine⟨_,rfl,fl,sc,5,rfl,f2,by decide,by decide,fun d G3 d0 d1 f3 k3=>⟨d,rfl,by omega,by omega,gJ (lo:=0) (n:=d.toNat) (IvJ2 fl n most lt b l bs sc H) ⟨none,bs,rfl,k3 _ _ eb2 hbf,k3 _ _ el2 hlf,rfl,fun x hx=>(by obtain⟨a,b,c⟩:=hbs x hx;exact⟨a,b,by omega⟩),f3,k2.trans k3⟩ ?_ ?_⟩⟩
  ·rintro i _ G hi ⟨v6,fs,rfl,ebG,elG,hfl,hfs,fG,kG⟩
   refine⟨_,rfl,.inl ⟨rfl,_,SqL.of elG⟩,_,rfl,_,rfl,_,rfl,fl,sc,3,rfl,fG,by decide,by decide,fun e G4 e0 e1 f4 k4=>?_⟩
   obtain⟨m,hm⟩:∃ m:Nat,1+e=(m:Int):=⟨(1+e).toNat,by omega⟩
   refine⟨_,_,rfl,rfl,fl,sc,b,bs,n,m,13,by show [V.ref fl,V.ref b,V.int (1+e)]=_;rw[hm],f4,k4 _ _ ebG hbf,hbf,h1,h4,by omega,fun x hx=>⟨(hbs x hx).1,(hbs x hx).2.2⟩,by omega,by decide,fun w G5 wO wP wl _ f5 k5=>?_⟩
   have k45:=k4.trans k5
   have el5:=k45 _ _ elG hlf
   have wl:w.length≤39:=by
    have:m * 13≤3 * 13:=aQM (by omega) (c0 _)
    omega
   refine⟨l,_,_,rfl,rfl,el5,by rw[aS];exact aQ (by omega),_,fs++[w],rfl,by rw[aE hlb];exact k45 _ _ ebG hbf,by rw[aC,uN],by rw[c5,hfl];rfl,fun x hx=>?_,f5.set hlf hls,(kG.trans k45).upd hlH⟩
   rcases k0.mp hx with z | z
   ·exact hfs x z
   ·rw[c6.mp z];exact⟨wO,wP,wl⟩
  clear f1 k1 eb hl f2 k2 el2 eb2 k3 f3
  rintro _ G3 ⟨v6,fs,rfl,ebG,elG,hfl,hfs,fG,kG⟩
  refine⟨(IvJ3 fl n most lt b v6 H sc),?_,?_⟩
  ·refine⟨_,rfl,fl,sc,3,rfl,fG,by decide,by decide,fun e G4 e0 e1 f4 k4=>⟨rfl,_,rfl,gC (fun z=>?_) (fun z=>?_)⟩⟩
   ·refine⟨_,rfl,_,rfl,fl,sc,(n:Nat),3,rfl,f4,by omega,by omega,by decide,by decide,fun g G5 gO gP gl f5 k5=>?_⟩
    have el5:=(k4.trans k5) _ _ elG hlf
    have k5:=(kG.trans k4).trans k5
    refine⟨_,rfl,l,rfl,⟨_,SqL.of el5⟩,fun Dd hD=>fT (K:=K) (a:=l) (xs:=bS fs) (fun i G=>∃ gs,Same G5 G∧G Dd=some (.lst (bS gs))∧gs.length=i∧∀ x∈gs,OfN n x∧aW x∧x.length≤45) ⟨[],Same.new hD,aC,rfl,fun x hx=>by (cases hx)⟩ (fun i G _ ⟨_,s,_⟩=>SqL.of (s _ _ el5)) ?_ ?_⟩
    ·rintro i v G hv ⟨gs,sG,eG,hgl,hgs⟩
     obtain⟨x,hx,rfl⟩:=fB hv
     obtain⟨xO,xP,xl⟩:=hfs x (b6 hx)
     have hil:=(a9.mp hx).1
     refine⟨_,rfl,_,rfl,_,_,rfl,rfl,by rw[bV,bV];exact aN (by omega),?_⟩
     rw[jI]
     refine⟨_,rfl,g,rfl,gO.all,by omega,fun G6 s6=>?_⟩
     have wO:OfN n (g++x++back g):=(gO.app xO).app (gO.back (by omega) (by omega))
     have wl:(g++x++back g).length≤45:=by rw[c5,c5,bY];omega
     refine⟨_,_,rfl,rfl,by rw[bV,bV,c5,bY];exact aN (by omega),g++x++back g,by rw[jI];rfl,wO.all,by omega,fun G7 s7=>⟨_,s7 _ _ (s6 _ _ eG),by rw[aS];exact aQ (by omega),gs++[lay (g++x++back g)],((sG.trans s6).trans s7).upd hD,by rw[aC,uN],by rw[c5,hgl];rfl,fun y hy=>?_⟩⟩
     rcases k0.mp hy with z | z
     ·exact hgs y z
     ·rw[c6.mp z]
      have:=gE (g++x++back g)
      exact⟨wO.lay,dW _,by omega⟩
    ·rintro G ⟨gs,sG,eG,hgl,hgs⟩
     rw[aS] at hgl
     have hDf:=f5.ne hD
     exact⟨_,Dd,gs,rfl,eG,k5.free hD hDf,hDf,f5.ne2 hD,by omega,hgs,f5.same sG,k5.trans sG.kp⟩
   ·exact⟨_,l,fs,rfl,k4 _ _ elG hlf,hlH,hlf,hls,by omega,fun x hx=>(by obtain⟨a,b,c⟩:=hfs x hx;exact⟨a,b,by omega⟩),f4,kG.trans k4⟩
  clear hlf hls hlH hlb ebG elG hfl hfs fG kG
  clear l
  rintro _ G4 ⟨v7,l,fs,rfl,el,hlH,hlf,hls,hfl,hfs,f4,k4⟩
  refine⟨(IvJ4 fl n most lt b l v6 v7 sc H),⟨_,fs,rfl,rfl,el,hfl,hfs,f4,k4⟩,?_⟩
  clear el hfl hfs f4 k4
  rintro m _ G ⟨fs,rfl,rfl,el,hfl,hfs,fG,kG⟩
  refine⟨_,rfl,l,_,rfl,.inl (SqL.of el),_,rfl,_,_,rfl,rfl,_,rfl,?_⟩
  have popd:∀ (g:Int),0≤g→g<(((bS fs).length:Nat):Int)→∃ x,fs[g.toNat]?=some x∧(fs.eraseIdx g.toNat).length<fs.length∧(fs.eraseIdx g.toNat).length≤8∧(∀ x∈fs.eraseIdx g.toNat,OfN n x∧aW x∧x.length≤45)∧seqIndex? g (bS fs).length=some g.toNat:=fun g g0 g1=>by
   rw[aS] at g1
   refine⟨_,b0 (by omega),by rw[aXU,if_pos (by omega)];omega,by rw[aXU,if_pos (by omega)];omega,fun x hx=>hfs x (aXx hx),?_⟩
   rw[aS]
   exact aQk g0 (by omega)
  refine gC (fun z=>?_) (fun z=>?_)
  case' refine_2 =>
   refine⟨_,rfl,l,rfl,⟨_,SqL.of el⟩,fun Dd hD=>fT (K:=K) (a:=l) (xs:=bS fs) (fun i G'=>Same G G'∧G' Dd=some (.lst (((fs.take i).map fun x=>((x.length:Nat):Int)).map V.int))) ⟨Same.new hD,aC⟩ (fun i G' _ h=>SqL.of (h.1 _ _ el)) ?_ ?_⟩
   ·rintro i v G9 hv ⟨s9,e9⟩
    obtain⟨x,hx,rfl⟩:=fB hv
    have hxl:=(hfs x (b6 hx)).2.2
    have hil:=(a9.mp hx).1
    refine⟨_,rfl,S x,rfl,aN (by rw[bV];omega),_,e9,?_,s9.upd hD,?_⟩
    ·rw[b7,b7,i7];exact aQ (by omega)
    ·rw[aC,p6,hx,g6,g6,bV];rfl
   rintro G9 ⟨s9,e9⟩
   rw[aS,j8] at e9
   refine⟨Dd,_,rfl,SqL.of e9,_,rfl,_,_,rfl,rfl,_,rfl,?_⟩
   rw[yE]
   have el9:=s9 _ _ el
   have fG9:=fG.same s9
   have kG9:=kG.trans s9.kp
   clear el fG kG
   refine gC (fun z2=>?_) (fun z2=>?_)
   rotate_left
   ·have a1:¬ (((most:Nat):Int)<(((bS fs).length:Nat):Int)):=fun y=>z (decide_eq_true y)
    have a2:¬ (((lt:Nat):Int)<(((fs.map List.length).sum:Nat):Int)):=fun y=>z2 (decide_eq_true y)
    rw[aS] at a1
    exact⟨_,rfl,k l fs G9 hlH el9 ⟨by omega,by omega,fun x hx=>⟨(hfs x hx).1,(hfs x hx).2.1⟩⟩ fG9 kG9⟩
   have hpos:0<fs.length:=by
    have a2:(((lt:Nat):Int)<(((fs.map List.length).sum:Nat):Int)):=of_decide_eq_true z2
    cases fs with
    | nil=>simp at a2;omega
    | cons _ _=>simp
  case' refine_1 =>
   have hpos:0<fs.length:=by
    have a1:(((most:Nat):Int)<(((bS fs).length:Nat):Int)):=of_decide_eq_true z
    rw[aS] at a1
    omega
   have el9:=el
   have fG9:=fG
   have kG9:=kG
  all_goals
   refine⟨(IvJ5 fs fl n most lt b l v6 v7 sc H),fun σ' G' ⟨fs',h,e,x1,x2,x3,x4,x5⟩=>⟨_,h,fs',rfl,e,x1,x2,x3,x4,x5⟩,?_⟩
   refine⟨_,rfl,.inl ⟨rfl,_,SqL.of el9⟩,_,rfl,_,rfl,l,_,rfl,.inl (SqL.of el9),fl,sc,_,rfl,fG9,by rw[aS];omega,by rw[aS];omega,fun g G2 g0 g1 f2 k2=>?_⟩
   obtain⟨x,hx,p1,p2,p3,p4⟩:=popd g g0 g1
   rw[aS] at g1
   refine⟨l,_,g,g.toNat,.str (S x),rfl,rfl,k2 _ _ el9 hlf,by omega,by omega,p4,mY hx,?_⟩
   rw[sZ]
   exact⟨_,p1,rfl,aC,p2,p3,f2.set hlf hls,(kG9.trans k2).upd hlH⟩
inductive IvR0(r:Addr)(d:Addr)(H:Hp)(g:Nat→Nat→Option Nat)(n:Nat)(i:Nat)(σ:L2.St)(G:Hp):Prop
 | mk (v2 v3 v4 v5:Option V) (kvs:List (List cN×V)) (g':Nat→Nat→Option Nat) (h0:σ=[some (.ref r),some (.ref d),v2,v3,v4,v5]) (h1:Same H G) (h2:G d=some (.dT kvs)) (h3:TabW kvs g') (h4:kvs.length≤8 * i) (h5:HK g' g) (h6:∀ p,p<i→∀ j q,j<n→g p (97+j)=some q→g' p (97+j)=some q∧g' q (con (97+j))=some p):IvR0 r d H g n i σ G
inductive IvR1(r:Addr)(d:Addr)(i:Nat)(q:Addr)(H:Hp)(t:Addr)(n:Nat)(g:Nat→Nat→Option Nat)(j:Nat)(σ:L2.St)(G:Hp):Prop
 | mk (v4 v5:Option V) (kvs:List (List cN×V)) (g':Nat→Nat→Option Nat) (h0:σ=[some (.ref r),some (.ref d),some (.int (i:Nat)),some (.ref q),v4,v5]) (h1:Same H G) (h2:G t=some (.tup (bS (cC n)))) (h3:G d=some (.dT kvs)) (h4:TabW kvs g') (h5:kvs.length≤8 * i+2 * j) (h6:HK g' g) (h7:(∀ p,p<i→∀ j q,j<n→g p (97+j)=some q→g' p (97+j)=some q∧g' q (con (97+j))=some p)) (h8:∀ m q,m<j→g i (97+m)=some q→g' i (97+m)=some q∧g' q (con (97+m))=some i):IvR1 r d i q H t n g j σ G
theorem ID{f:Addr}{fd:FuncData}(D:Df K mg "ways_both_ways" GN ["web"] f fd)(T:Txt P w K mg KN KO KP)(c_zr:Cl P w K mg base "first_letters" ["n"] 1 spFirst)(c_z7:Cl P w K mg base "contrary" ["letter"] 1 spCon):Cl P w K mg base "ways_both_ways" ["web"] 2 spWaysB:=by
 refine D.cl (D.F.ok sc_zn (fun vs H Q E h=>?_) (fun cdv A outer s H vs Q E hr h=>?_))
 ·obtain⟨r,n,W,g,rfl,_⟩:=h
  rfl
 ·obtain⟨r,n,W,g,rfl,h1,h4,hw,ok,k⟩:=h
  refine⟨_,(aD (aM (i:=1) sc_zn.nd rfl (Or.inl rfl) C6)
   (aD (dL l6 rfl (Cj (K:=K) rfl (by rfl) T.b_enumerate (aA (pv 0) aB)) (jZ (K:=K) rfl rfl (cR (bH (i:=2) sc_zn.nd rfl (Or.inl rfl)) (cR (bH (i:=3) sc_zn.nd rfl (Or.inl rfl)) hZ))) (aH (dL l6 rfl (Ct (K:=K) rfl (by rfl) T.b_zip (aA (pC c_zr hr (aA (aU (bG (K:=K) rfl) (by rfl) T.b_len k7 (aA (pv 3) aB)) aB)) (aA (pv 3) aB))) (jZ (K:=K) rfl rfl (cR (bH (i:=4) sc_zn.nd rfl (Or.inl rfl)) (cR (bH (i:=5) sc_zn.nd rfl (Or.inl rfl)) hZ))) (aH (eB (aT vV (pv 5) iC (aZ _)) (aD (mT (m7 (t8 (by decide:1≤64) _) hr.units) (pv 1) (fY (aA (pv 2) (aA (pv 4) aB))) (pv 5) (by rfl))
   (aH (mT (m7 (t8 (by decide:1≤64) _) hr.units) (pv 1) (fY (aA (pv 5) (aA (pC c_z7 hr (aA (pv 4) aB)) aB))) (pv 2) (by rfl)))) cO)))))
   (aH (aV (pv 1))))),?_⟩
  obtain⟨qs,er,hql,hqr⟩:=id hw
  have hWl:=ok.few
  intro d hd
  have s1:=Same.new (o:=HO.dT []) hd
  have ed:upd H d (.dT []) d=some (.dT []):=aC
  generalize upd H d (.dT [])=H1 at s1 ed
  refine⟨_,rfl,r,rfl,⟨_,SqT.of (s1 _ _ er)⟩,BD (K:=K) (a:=r) (xs:=qs.map V.ref) (IvR0 r d H g n) ⟨none,none,none,none,[],_,rfl,s1,ed,TabW.nil,c0 _,fun p c q z=>(by cases z),fun p hp=>absurd hp (x6 _)⟩ (fun i σ G _ ⟨_,_,_,_,_,_,_,s,_,_,_,_,_⟩=>SqT.of (s _ _ er)) ?_ ?_⟩
  ·rintro i x pz _ G hx hpz ⟨v2,v3,v4,v5,kvs,g',rfl,sG,dG,tb,kl,sub,full⟩
   rw[c9] at hx
   obtain⟨q,hq,rfl⟩:=i9.mp hx
   obtain⟨row,hrow⟩:∃ row,W[i]?=some row:=⟨_,b0 (by rw[← hql];exact(a9.mp hq).1)⟩
   have hiW:=(a9.mp hrow).1
   have hrl:=ok.len row (b6 hrow)
   have s2:=Same.new (o:=HO.tup [.int ((i:Nat):Int),.ref q]) hpz
   refine⟨pz,_,rfl,.inr (SqT.of aC),rfl,_,_,rfl,_,_,rfl,rfl,?_⟩
   have sG2:=sG.trans s2
   have dG2:=s2 _ _ dG
   generalize upd G pz (.tup [.int ((i:Nat):Int),.ref q])=G2 at s2 sG2 dG2
   have eq0:=hqr i q row hq hrow
   have eq2:=sG2 _ _ eq0
   have hrv:(row.map lQ).length=n:=by rw[b7];exact hrl
   refine⟨_,rfl,q,_,rfl,.inr (SqT.of eq2),n,by rw[hrv];rfl,h1,h4,fun t G3 ht s3 et=>⟨_,rfl,t,q,rfl,⟨_,SqT.of et⟩,⟨_,SqT.of (s3 _ _ eq2)⟩,?_⟩⟩
   have sG3:=sG2.trans s3
   have ht0:H t=none:=sG2.free ht
   have htd:t≠d:=fun e=>by rw[e,dG2] at ht;cases ht
   have ll:(bS (cC n)).length=n:=by rw[aS];exact(lP h1 h4).len
   refine AX (K:=K) (t:=t) (u:=q) (xs:=bS (cC n)) (ys:=row.map lQ) (IvR1 r d i q H t n g) ⟨_,_,kvs,g',rfl,sG3,et,s3 _ _ dG2,tb,kl,sub,full,fun m q hm=>absurd hm (x6 _)⟩ (fun j σ G _ ⟨_,_,_,_,_,s,e,_,_,_,_,_,_⟩=>⟨SqT.of e,SqT.of (s _ _ eq0)⟩) ?_ ?_
   ·rintro j x y pz2 _ G4 hx hy hpz2 ⟨v4,v5,kvs,g',rfl,sG4,et4,dG4,tb,kl,sub,full,part⟩
    obtain⟨rfl,hj⟩:=vI h4 hx
    rw[c9] at hy
    obtain⟨o,ho,rfl⟩:=i9.mp hy
    have hgo:=ok.lo i j row o hrow ho
    have hcL:bX (97+j):=by unfold bX;omega
    have s5:=Same.new (o:=HO.tup [.str (S [97+j]),lQ o]) hpz2
    refine⟨pz2,_,rfl,.inr (SqT.of aC),rfl,_,_,rfl,_,_,rfl,rfl,?_⟩
    have sG5:=sG4.trans s5
    have dG5:=s5 _ _ dG4
    have et5:=s5 _ _ et4
    generalize upd G4 pz2 (.tup [.str (S [97+j]),lQ o])=G5 at s5 sG5 dG5 et5
    cases o with
    | none =>
     refine⟨_,rfl,rfl,_,rfl,jO ?_⟩
     refine⟨_,_,kvs,g',rfl,sG5,et5,dG5,tb,by omega,sub,full,fun m q hm hg=>?_⟩
     by_cases z:m=j
     ·subst z;rw[hgo] at hg;cases hg
     ·exact part m q (by omega) hg
    | some b =>
     refine⟨_,rfl,rfl,_,rfl,lW ?_⟩
     refine⟨_,rfl,_,rfl,_,rfl,_,rfl,aN (by simp),fun k1 hk1=>?_⟩
     have s6:=Same.new (o:=HO.tup [.int ((i:Nat):Int),.str (S [97+j])]) hk1
     have ek1:upd G5 k1 (.tup [.int ((i:Nat):Int),.str (S [97+j])]) k1=some (.tup ((kA i (97+j)).map kV)):=aC
     generalize upd G5 k1 (.tup [.int ((i:Nat):Int),.str (S [97+j])])=G6 at s6 ek1
     refine⟨d,_,rfl,DPut.t (s6 _ _ dG5) ek1 (Dh (by omega)),?_⟩
     have d7:upd G6 d (.dT (dF kvs (kA i (97+j)) (lQ (some b)))) d=some (.dT (dF kvs (kA i (97+j)) (.int (b:Nat)))):=aC
     have sG7:Same H (upd G6 d (.dT (dF kvs (kA i (97+j)) (lQ (some b))))):=(sG5.trans s6).upd hd
     have et7:upd G6 d (.dT (dF kvs (kA i (97+j)) (lQ (some b)))) t=some (.tup (bS (cC n))):=by rw[aE htd];exact s6 _ _ et5
     generalize upd G6 d (.dT (dF kvs (kA i (97+j)) (lQ (some b))))=G7 at d7 sG7 et7
     refine⟨_,rfl,_,rfl,_,rfl,_,rfl,97+j,rfl,hcL,fun G8 s8=>⟨aN (by simp),fun k2 hk2=>?_⟩⟩
     have s9:=Same.new (o:=HO.tup [lQ (some b),.str (S [con (97+j)])]) hk2
     have ek2:upd G8 k2 (.tup [lQ (some b),.str (S [con (97+j)])]) k2=some (.tup ((kA b (con (97+j))).map kV)):=aC
     generalize upd G8 k2 (.tup [lQ (some b),.str (S [con (97+j)])])=G9 at s9 ek2
     have s79:=s8.trans s9
     have kl7:=dQ kvs (kA i (97+j)) (V.int (b:Nat))
     have kl9:=dQ (dF kvs (kA i (97+j)) (V.int (b:Nat))) (kA b (con (97+j))) (V.int (i:Nat))
     have gb:=ok.sy i (97+j) b hcL hgo
     have put:∀ x y q,g x y=some q→(g' x y=some q∨(x=i∧y=97+j)∨(x=b∧y=con (97+j)))→(if x=b∧y=con (97+j) then some i else if x=i∧y=97+j then some b else g' x y)=some q:=fun x y q hq hc=>by
      by_cases z1:x=b∧y=con (97+j)
      ·rw[if_pos z1]
       rw[z1.1,z1.2,gb] at hq
       exact hq
      ·rw[if_neg z1]
       by_cases z2:x=i∧y=97+j
       ·rw[if_pos z2]
        rw[z2.1,z2.2,hgo] at hq
        exact hq
       ·rw[if_neg z2]
        rcases hc with z | z | z
        ·exact z
        ·exact absurd z z2
        ·exact absurd z z1
     refine⟨d,_,rfl,DPut.t (s79 _ _ d7) ek2 (Dh (by omega)),_,_,_,_,rfl,(sG7.trans s79).upd hd,by rw[aE htd];exact s79 _ _ et7,aC,(tb.put i (97+j) b).put b (con (97+j)) i,by omega,fun x y q hq=>?_,fun p hp m q hm hg=>?_,fun m q hm hg=>?_⟩
     ·split at hq
      ·rename_i z;cases hq;rw[z.1,z.2];exact gb
      ·split at hq
       ·rename_i z;cases hq;rw[z.1,z.2];exact hgo
       ·exact sub x y q hq
     ·have hmL:bX (97+m):=by unfold bX;omega
      obtain⟨u1,u2⟩:=full p hp m q hm hg
      exact⟨put _ _ _ hg (.inl u1),put _ _ _ (ok.sy _ _ _ hmL hg) (.inl u2)⟩
     ·have hmL:bX (97+m):=by unfold bX;omega
      by_cases z:m=j
      ·subst z
       rw[hgo] at hg
       cases hg
       exact⟨put _ _ _ hgo (.inr (.inl ⟨rfl,rfl⟩)),put _ _ _ gb (.inr (.inr ⟨rfl,rfl⟩))⟩
      ·obtain⟨u1,u2⟩:=part m q (by omega) hg
       exact⟨put _ _ _ hg (.inl u1),put _ _ _ (ok.sy _ _ _ hmL hg) (.inl u2)⟩
   ·rintro _ G4 ⟨v4,v5,kvs,g',rfl,sG4,et4,dG4,tb,kl,sub,full,part⟩
    rw[ll,hrv,aZc] at kl part
    refine⟨_,_,_,_,kvs,g',rfl,sG4,dG4,tb,by omega,sub,fun p hp m q hm hg=>?_⟩
    by_cases z:p=i
    ·subst z;exact part m q hm hg
    ·exact full p (by omega) m q hm hg
  ·rintro _ G ⟨v2,v3,v4,v5,kvs,g',rfl,sG,dG,tb,kl,sub,full⟩
   rw[b7,hql] at full
   have hgg:g'=g:=by
    funext p c
    cases e:g p c with
    | none =>
     cases e':g' p c with
     | none=>rfl
     | some q=>have:=sub p c q e';rw[e] at this;cases this
    | some q =>
     obtain⟨b1,b2,b3⟩:=ok.bd p c q e
     have hcL:=aK b3
     by_cases lw:aY c=true
     ·obtain⟨j,hj,rfl⟩:=jW h1 h4 b3 lw
      exact(full p b1 j q hj e).1
     ·obtain⟨j,hj,ej⟩:=jW h1 h4 (cE (by omega) (by omega) b3) (by rw[iL hcL];simpa using lw)
      have e2:=ok.sy p c q hcL e
      rw[ej] at e2
      have:=(full q b2 j p hj e2).2
      rw[← ej,aP hcL] at this
      exact this
   rw[hgg] at tb
   exact⟨_,rfl,k d kvs G hd dG tb sG⟩
inductive IvR2(r:Addr)(w:List Nat)(d:Addr)(H1:Hp)(g:Nat→Nat→Option Nat)(i:Nat)(σ:L2.St)(G:Hp):Prop
 | mk (v4:Option V) (q:Nat) (h0:σ=[some (.ref r),some (.str (S w)),some (.ref d),some (.int (q:Nat)),v4]) (h1:Same H1 G) (h2:dP g 0 (w.take i)=some q):IvR2 r w d H1 g i σ G
theorem Gx{f:Addr}{fd:FuncData}(D:Df K mg "is_read" Cu ["web","word"] f fd)(T:Txt P w K mg KN KO KP)(c_zn:Cl P w K mg base "ways_both_ways" ["web"] 2 spWaysB):Cl P w K mg base "is_read" ["web","word"] 3 spReadW:=by
 refine D.cl (D.F.ok sc_ze1 (fun vs H Q E h=>?_) (fun cdv A outer s H vs Q E hr h=>?_))
 ·obtain⟨r,n,W,g,w,rfl,_⟩:=h
  rfl
 ·obtain⟨r,n,W,g,w,rfl,h1,h4,hw,ok,hO,hl,k⟩:=h
  refine⟨_,(aD (aM (i:=2) sc_ze1.nd rfl (Or.inl rfl) (pC c_zn hr (aA (pv 0) aB)))
   (aD (aM (i:=3) sc_ze1.nd rfl (Or.inl rfl) aF)
   (aD (dL l6 rfl (iW (pv 1)) (bH (i:=4) sc_ze1.nd rfl (Or.inl rfl)) (aD (aM (i:=3) sc_ze1.nd rfl (Or.inl rfl) (wZ (m7 (t8 (by decide:1≤64) _) hr.units) (pv 2) (fY (aA (pv 3) (aA (pv 4) aB))) ⟨rfl,rfl,rfl,rfl⟩))
   (aH (eB (aT zJ (pv 3) iC (aZ _)) (aH (aV tF)) cO))))
   (aH (aV (gH iD (pv 3) aF (aZ _))))))),?_⟩
  refine⟨_,rfl,r,n,W,g,rfl,h1,h4,hw,ok,fun d kvs H1 hd dG tb s1=>?_⟩
  refine⟨_,rfl,S w,rfl,kR (w:=w) (IvR2 r w d H1 g) ⟨none,0,rfl,Same.refl _,rfl⟩ ?_ ?_⟩
  ·rintro i c _ G hc ⟨v4,q,rfl,sG,hp⟩
   have hp1:dP g 0 (w.take (i+1))=g q c:=by rw[bI hc,fR,hp];rfl
   refine⟨_,rfl,d,rfl,.inr ⟨kvs,.inl (sG _ _ dG)⟩,_,rfl,_,rfl,aN (by simp),fun k1 hk1=>?_⟩
   have s2:=Same.new (o:=HO.tup [.int ((q:Nat):Int),.str (S [c])]) hk1
   have ek1:upd G k1 (.tup [.int ((q:Nat):Int),.str (S [c])]) k1=some (.tup ((kA q c).map kV)):=aC
   generalize upd G k1 (.tup [.int ((q:Nat):Int),.str (S [c])])=G2 at s2 ek1
   have sG2:=sG.trans s2
   have hg:DGet G2 d (.ref k1) ((g q c).map fun (q:Nat)=>V.int q):=by
    have:=DGet.t (k:=kA q c) (sG2 _ _ dG) ek1
    rw[tb q c] at this
    exact this
   refine⟨_,hg,?_⟩
   cases e:g q c with
   | none =>
    refine⟨_,rfl,rfl,_,rfl,lW ?_⟩
    have:dP g 0 w=none:=by
     have hs:w=w.take (i+1)++w.drop (i+1):=(aQO _ _).symm
     rw[hs,eQ,hp1,e]
     rfl
    have:=k G2 (s1.trans sG2)
    rw[‹dP g 0 w=none›,decide_eq_false (by intro z;cases z)] at this
    exact this
   | some q' =>
    refine⟨_,rfl,rfl,_,rfl,jO ?_⟩
    exact⟨_,q',rfl,sG2,by rw[hp1,e]⟩
  ·rintro _ G ⟨v4,q,rfl,sG,hp⟩
   rw[j8] at hp
   refine⟨_,rfl,rfl,?_⟩
   have:=k G (s1.trans sG)
   rw[hp] at this
   have e:decide (V.int ((q:Nat):Int)=V.int 0)=decide (some q=some 0):=by
    by_cases z:q=0
    ·subst z;rfl
    ·rw[decide_eq_false (fun y=>z (by have:=V.int.inj y;omega)),decide_eq_false (fun y=>z (d9 y))]
   rw[e]
   exact this
theorem Hs{f:Addr}{fd:FuncData}(D:Df K mg "_law_more" D5 ["_law_web"] f fd)(T:Txt P w K mg KN KO KP):Cl P w K mg base "_law_more" ["_law_web"] 1 spMoreW:=by
 refine D.cl (D.F.ok Id (fun vs H Q E h=>?_) (fun cdv A outer s H vs Q E hr h=>?_))
 ·obtain⟨r,W,n,rfl,_⟩:=h
  rfl
 ·obtain⟨r,W,n,rfl,hW,hl,hn,n4,k⟩:=h
  refine⟨_,(aH (aV (bM eX (bM CN (aU (tY (K:=K) rfl rfl) (by rfl) T.b_sum boot_sum (aA (cY (sc0:=aG D5) (N:=["_law_web"]) (ix:=[]) (by decide +kernel) rfl rfl rfl (fL (K:=K) rfl (pv 0)) (fun _ _ _=>cM) (fun _ _ _=>(aU (bG (K:=K) rfl) (by rfl) T.b_len k7 (aA (BV (N:=["_law_place"]) (ix:=[]) (by decide +kernel) rfl rfl (fL (K:=K) rfl (pv 0)) (fun _ _ _=>pV (aT vV (pv 0) iC (aZ _))) (fun _ _ _=>aF)) aB)))) aB)) (aU (bG (K:=K) rfl) (by rfl) T.b_len k7 (aA (pv 0) aB))) aF))),?_⟩
  obtain⟨qs,er,hql,hrow⟩:=hW
  refine⟨_,rfl,r,rfl,⟨_,SqT.of er⟩,fun Dd hD=>eF (K:=K) (a:=r) (xs:=qs.map V.ref) (fun j H2=>Same H H2∧H2 Dd=some (.lst (((W.take j).map fun row=>(((row.filter Option.isSome).length:Nat):Int)).map V.int))) ⟨Same.new hD,aC⟩ (fun j H2 _ pr=>SqT.of (pr.1 _ _ er)) ?_ ?_⟩
  ·rintro j v H2 hv ⟨s2,e2⟩
   rw[c9] at hv
   obtain⟨q,hq,rfl⟩:=i9.mp hv
   have hj:j<W.length:=by have:=(a9.mp hq).1;omega
   obtain⟨row,hrw⟩:∃ row,W[j]?=some row:=⟨_,b0 hj⟩
   have eq:=s2 _ _ (hrow j q row hq hrw)
   have rl:=hn row (b6 hrw)
   refine⟨_,rfl,q,rfl,⟨_,SqT.of eq⟩,fun D2 hD2=>eF (K:=K) (a:=q) (xs:=row.map lQ) (fun i H3=>Same H2 H3∧H3 D2=some (.lst (List.replicate ((row.take i).filter Option.isSome).length (.int 1)))) ⟨Same.new hD2,aC⟩ (fun i H3 _ pr=>SqT.of (pr.1 _ _ eq)) ?_ ?_⟩
   ·rintro i v H3 hv3 ⟨s3,e3⟩
    rw[c9] at hv3
    obtain⟨o,ho,rfl⟩:=i9.mp hv3
    have tk:=mG Option.isSome row i o ho
    have hfl:=aQV Option.isSome (row.take i)
    rw[i7] at hfl
    refine⟨_,rfl,rfl,_,rfl,?_⟩
    cases o with
    | none =>
     refine jO ⟨s3,?_⟩
     rw[e3,tk,if_neg (by simp),l4]
    | some z =>
     refine lW ⟨_,e3,by rw[aXI];exact aQ (by omega),s3.upd hD2,?_⟩
     rw[aC,tk,if_pos (show (some z).isSome=true from rfl),c5,u9,List.replicate_succ']
   ·rintro H3 ⟨s3,e3⟩
    rw[b7,j8] at e3
    refine⟨D2,_,rfl,.inl (SqL.of e3),_,s3 _ _ e2,?_,(s2.trans s3).upd hD,?_⟩
    ·rw[b7,b7,i7];exact aQ (by omega)
    ·rw[aC,p6,hrw,g6,g6,aXI]
     rfl
  ·rintro H2 ⟨s2,e2⟩
   rw[b7,hql,j8] at e2
   refine⟨Dd,_,rfl,SqL.of e2,_,rfl,r,_,rfl,.inr (SqT.of (s2 _ _ er)),_,_,rfl,rfl,_,_,rfl,rfl,?_⟩
   have es:∀ W:List (List (Option Nat)),(W.map fun row=>(((row.filter Option.isSome).length:Nat):Int)).sum=(((W.map fun row=>(row.filter Option.isSome).length).sum:Nat):Int):=fun W=>by
    induction W with
    | nil=>rfl
    | cons a W ih=>rw[g9,u8,ih,g9,u8,Int.natCast_add]
   rw[es,← rF W 0,b7,hql]
   exact k H2 s2
theorem FD{f:Addr}{fd:FuncData}(D:Df K mg "law" wK ["_law_script"] f fd)(T:Txt P w K mg KN KO KP)(c_zi1:Cl P w K mg base "web_of" ["n","words"] 8 (spWebB K))(c_ze1:Cl P w K mg base "is_read" ["web","word"] 3 spReadW)(c_zh1:Cl P w K mg base "retold" ["retelling","word"] 4 (spRetold K))(c_z5:Cl P w K mg base "_law_flow" ["_law_script"] 1 (spFlow K))(c_z6:Cl P w K mg base "_law_pick" ["_law_flow_here","_law_many"] 1 spPick)(c_z4:Cl P w K mg base "_law_word" ["_law_flow_here","_law_n","_law_most"] 2 spWord)(c_zi:Cl P w K mg base "_law_joined_ones" ["_law_flow_here","_law_some","_law_many"] 3 spJoi)(c_zm:Cl P w K mg base "_law_some_words" ["_law_flow_here","_law_n","_law_most","_law_letters_here"] 6 spSomeW)(c_za:Cl P w K mg base "_law_other_alphabet" ["_law_flow_here","_law_n","_law_steps","_law_most"] 6 spOthA)(c_z8:Cl P w K mg base "_law_more" ["_law_web"] 1 spMoreW):FnOk P w K mg base AV 9 f fd ["_law_script"] (spLaw K):=by
 refine D.F.ok sc_law (fun vs H Q E h=>?_) (fun cdv A outer s H vs Q E hr h=>?_)
 ·obtain⟨a,ns,rfl,_⟩:=h
  rfl
 ·obtain⟨a,ns,rfl,hs,hl,k⟩:=h
  refine⟨_,(aD (aM (i:=1) sc_law.nd rfl (Or.inl rfl) (pC c_z5 hr (aA (pv 0) aB)))
   (aD (aM (i:=2) sc_law.nd rfl (Or.inl rfl) (bM eX aF (pC c_z6 hr (aA (pv 1) (aA aF aB)))))
   (aD (aM (i:=3) sc_law.nd rfl (Or.inl rfl) (pC c_zm hr (aA (pv 1) (aA (pv 2) (aA aF (aA aF aB))))))
   (aD (aM (i:=4) sc_law.nd rfl (Or.inr rfl) (aX (cH (K:=K) rfl) (pC c_za hr (aA (pv 1) (aA (pv 2) (aA (pC c_z6 hr (aA (pv 1) (aA aF aB))) (aA aF aB))))) aF (fun _ _=>rfl)))
   (aD (aM (i:=5) sc_law.nd rfl (Or.inl rfl) (pC c_zi1 hr (aA (pv 2) (aA (pv 3) aB))))
   (aD (aM (i:=6) sc_law.nd rfl (Or.inl rfl) (pC c_zi1 hr (aA (pv 2) (aA (cY (sc0:=aG wK) (N:=["_law_script","_law_flow_here","_law_n","_law_some","_law_alphabet_here","_law_web","_law_told","_law_k","_law_word_here"]) (ix:=[4]) (by decide +kernel) rfl rfl rfl (fP (K:=K) rfl (pv 3)) (fun _ _ _=>cM) (fun _ _ _=>(pC c_zh1 hr (aA (pv 1) (aA (pv 0) aB))))) aB))))
   (aD (eB (PW.pt (pw_or (aT jP (pC c_z8 hr (aA (pv 5) aB)) (pC c_z8 hr (aA (pv 6) aB)) (aZ _)) (pw_or1 (aT oH (pC c_z8 hr (aA (pv 5) aB)) (aU (bG (K:=K) rfl) (by rfl) T.b_len k7 (aA (pv 3) aB)) (aZ _))))) (aH (aV tF)) cO)
   (aD (eB (aT jP (Cs (gH iD (aU (bG (K:=K) rfl) (by rfl) T.b_len k7 (aA (pv 5) aB)) aF (aZ _)) (B1 (gH (sM (K:=K) rfl) iC (aX (cH (K:=K) rfl) (pv 5) aF (fun _ _=>rfl)) (by rfl)))) (Cs (gH iD (aU (bG (K:=K) rfl) (by rfl) T.b_len k7 (aA (pv 6) aB)) aF (aZ _)) (B1 (gH (sM (K:=K) rfl) iC (aX (cH (K:=K) rfl) (pv 6) aF (fun _ _=>rfl)) (by rfl)))) (aZ _)) (aH (aV tF)) cO)
   (aD (eB (PW.pt (pw_or (aT jP (pC c_z8 hr (aA (pC c_zi1 hr (aA (pv 2) (aA (pv 4) aB))) aB)) (pv 2) (aZ _)) (pw_or1 (aT jP (aU (bG (K:=K) rfl) (by rfl) T.b_len k7 (aA (pC c_zi1 hr (aA (pv 2) (aA (pv 4) aB))) aB)) aF (aZ _))))) (aH (aV tF)) cO)
   (aD (dL l6 rfl (fH (by rfl) T.b_range (aA aF aB)) (bH (i:=7) sc_law.nd rfl (Or.inl rfl)) (aD (aM (i:=8) sc_law.nd rfl (Or.inl rfl) (pC c_z4 hr (aA (pv 1) (aA (pv 2) (aA aF aB)))))
   (gG (eB (aT iD (pC c_z6 hr (aA (pv 1) (aA aF aB))) aF (aZ _)) (aH (aM (i:=8) sc_law.nd rfl (Or.inl rfl) (pC c_zi hr (aA (pv 1) (aA (pv 3) (aA (bM eX aF (pC c_z6 hr (aA (pv 1) (aA aF aB)))) aB)))))) cO)
   (aH (eB (aT jP (pC c_ze1 hr (aA (pv 5) (aA (pv 8) aB))) (pC c_ze1 hr (aA (pv 6) (aA (pC c_zh1 hr (aA (pv 4) (aA (pv 8) aB))) aB))) (aZ _)) (aH (aV tF)) cO)))))
   (aH (aV tF)))))))))))),?_⟩
  refine⟨_,rfl,a,ns,rfl,hs,hl,fun fl sc H1 hfl s1 f1=>?_⟩
  refine⟨_,rfl,fl,sc,4,rfl,f1,by decide,by decide,fun d H2 d0 d1 f2 k2=>⟨_,_,rfl,rfl,?_⟩⟩
  obtain⟨n,hn⟩:∃ n:Nat,1+d=(n:Int):=⟨(1+d).toNat,by omega⟩
  have hd:V.int (1+d)=V.int (n:Nat):=by rw[← hn]
  rw[hd]
  have n1:1≤n:=by omega
  have n4:n≤4:=by omega
  refine⟨_,rfl,_,rfl,fl,sc,n,4,16,rfl,f2,n1,n4,fun l rs H3 hl3 el sm f3 k3=>?_⟩
  have hlf:l≠fl:=f2.ne hl3
  have sl:=sm.len
  have sx:∀ x∈rs,x.length≤16:=fun x hx=>sm.one hx
  have so:=sm.ofn
  have sa:∀ x∈rs,AllL x∧x.length≤80:=fun x hx=>⟨(so x hx).1.all,by have:=sx x hx;omega⟩
  clear f2 k2 k3 hl3 f1 s1
  refine⟨_,rfl,_,rfl,_,rfl,fl,sc,5,rfl,f3,by decide,by decide,fun st H4 st0 st1 f4 k4=>⟨fl,sc,n,4,st,rfl,f4,n1,n4,by decide,by decide,st0,by omega,fun p aa bb f fb H5 ep ea _ iv f5 k5=>⟨p,_,0,.ref aa,rfl,rfl,SqT.of ep,rfl,?_⟩⟩⟩
  have el5:=k5 _ _ (k4 _ _ el hlf) hlf
  have ea:H5 aa=some (.tup (bS f)):=ea
  have fo:∀ x∈f,OfN n x:=fun z hz=>(iv.ro z hz).1
  have fl4:f.length=n:=iv.rt.len
  clear el k4 k5 f3 f4 ep
  refine⟨_,rfl,_,rfl,n,l,rs,rfl,n1,n4,.inr (SqL.of el5),by omega,sa,fun r H6 ρ δ s6 au idp w6 wl=>?_⟩
  have el6:=s6 _ _ el5
  have ea6:=s6 _ _ ea
  refine⟨_,rfl,_,rfl,l,rfl,⟨_,SqL.of el6⟩,fun Dd hD=>?_⟩
  refine fT (K:=K) (a:=l) (xs:=bS rs) (fun j H7=>Same H6 H7∧H7 Dd=some (.lst (bS ((rs.take j).map (retl f))))) ⟨Same.new hD,aC⟩ (fun j H7 _ pr=>SqL.of (pr.1 _ _ el6)) ?_ ?_
  ·rintro j v H7 hv ⟨s7,e7⟩
   obtain⟨x,hx,rfl⟩:=fB hv
   have hxm:=b6 hx
   have hj:=(a9.mp hx).1
   have xl:=sx x hxm
   refine⟨_,rfl,_,rfl,aa,f,n,4,x,rfl,SqT.of (s7 _ _ ea6),iv.rt,n1,n4,by decide,(so x hxm).1,by omega,by omega,fun H8 s8=>⟨_,s8 _ _ e7,by rw[aS,b7,i7];exact aQ (by omega),(s7.trans s8).upd hD,?_⟩⟩
   rw[aC,p6,hx,g6]
   unfold bS
   rw[g6]
   rfl
  rintro H7 ⟨s7,e7⟩
  rw[aS,j8] at e7
  have so':∀ x∈rs.map (retl f),OfN n x:=fun x hx=>by
   obtain⟨y,hy,rfl⟩:=d5.mp hx
   exact fN n1 n4 fo y
  refine⟨n,Dd,rs.map (retl f),rfl,n1,n4,.inr (SqL.of e7),by rw[b7];omega,fun x hx=>⟨(so' x hx).all,?_⟩,fun r' H8 ρ' δ' s8 au' idp' w8 wl'=>?_⟩
  ·obtain⟨y,hy,rfl⟩:=d5.mp hx
   have:=qT iv.rt y
   have:=sx y hy
   omega
  obtain⟨bE,bF,bL,bR⟩:=Bg n1 n4 iv au au' so wl wl'
  obtain⟨g,ok,hgl,hg,re⟩:=iR n1 n4 au (fun x hx=>(so x hx).1) wl
  obtain⟨g',ok',hgl',hg',re'⟩:=iR n1 n4 au' so' wl'
  have w6:=w6.same (s7.trans s8)
  have el8:=(s7.trans s8) _ _ el6
  have ea8:=(s7.trans s8) _ _ ea6
  have f8:=(f5.same s6).same (s7.trans s8)
  clear el5 el6 ea ea6 f5 s6 s7 s8 e7
  generalize hW:dO δ n (ρ 0) 1000=W at *
  generalize hW':dO δ' n (ρ' 0) 1000=W' at *
  refine⟨_,rfl,r,W,n,rfl,w6,wl,ok.len,n4,fun H9 s9=>⟨_,rfl,r',W',n,rfl,w8.same s9,wl',ok'.len,n4,fun H10 s10=>⟨rfl,_,rfl,pS (by rw[decide_eq_true (congrArg V.int (by omega))];rfl) ?_⟩⟩⟩
  refine⟨_,rfl,r,W,n,rfl,(w6.same s9).same s10,wl,ok.len,n4,fun H11 s11=>⟨_,rfl,l,_,rfl,.inl (SqL.of (s11 _ _ (s10 _ _ (s9 _ _ el8)))),_,_,rfl,rfl,_,rfl,pS (decide_eq_false (by rw[aS];omega)) ?_⟩⟩
  have s8':=(s9.trans s10).trans s11
  have w11:=w6.same s8'
  have v11:=w8.same s8'
  have el11:=s8' _ _ el8
  have ea11:=s8' _ _ ea8
  have f11:=f8.same s8'
  clear w6 w8 el8 ea8 f8 s9 s10 s11 s8'
  refine uG (i:=5) (r:=r) rfl w11 (uG (i:=6) (r:=r') rfl v11 ⟨rfl,_,rfl,pS (by rw[B3 bF,decide_eq_true rfl];rfl) ?_⟩)
  refine⟨_,rfl,_,rfl,n,aa,f,rfl,n1,n4,.inl (SqT.of ea11),by omega,fun x hx=>⟨(fo x hx).all,by have:=iv.rt.le x hx;omega⟩,fun r3 H12 ρ3 δ3 s12 au3 id3 w3 wl3=>?_⟩
  obtain⟨a1,a2⟩:=tP n1 n4 iv au3 wl3
  obtain⟨g3,ok3,_⟩:=iR n1 n4 au3 fo wl3
  refine⟨r3,_,n,rfl,w3,wl3,ok3.len,n4,fun H13 s13=>⟨_,rfl,rfl,_,rfl,pS (by rw[a1,a2,decide_eq_true (congrArg V.int (by omega))];rfl) ?_⟩⟩
  have ea13:=(s12.trans s13) _ _ ea11
  refine⟨_,rfl,_,rfl,n,aa,f,rfl,n1,n4,.inl (SqT.of ea13),by omega,fun x hx=>⟨(fo x hx).all,by have:=iv.rt.le x hx;omega⟩,fun r4 H14 ρ4 δ4 s14 au4 id4 w4 wl4=>?_⟩
  obtain⟨b1,b2⟩:=tP n1 n4 iv au4 wl4
  obtain⟨qs4,e4,hq4,_⟩:=w4
  refine⟨r4,_,rfl,.inr (SqT.of e4),rfl,_,rfl,pS (by rw[b7,hq4,b1,decide_eq_true (show V.int ((1:Nat):Int)=V.int 1 from rfl)];rfl) ?_⟩
  have s14':=(s12.trans s13).trans s14
  have w14:=w11.same s14'
  have v14:=v11.same s14'
  have el14:=s14' _ _ el11
  have ea14:=s14' _ _ ea11
  have f14:=f11.same s14'
  clear w11 v11 el11 ea11 f11 ea13 e4 hq4 w3 s12 s13 s14 s14' b1 b2 a1 a2 ok3
  refine⟨5,rfl,by decide,by decide,gJ (lo:=0) (n:=(5:Int).toNat) (fun i σ G=>∃ v7 v8:Option V,σ=[some (.ref a),some (.ref fl),some (.int (n:Nat)),some (.ref l),some (.ref aa),some (.ref r),some (.ref r'),v7,v8]∧IsFl G fl sc∧Kp fl H14 G) ⟨none,none,rfl,f14,Kp.refl _ _⟩ ?_ ?_⟩
  ·rintro i _ G hi ⟨v7,v8,rfl,fG,kG⟩
   refine⟨_,rfl,_,rfl,fl,sc,(n:Nat),8,rfl,fG,by omega,by omega,by decide,by decide,fun x G1 xo xp xl f1 k1=>?_⟩
   refine⟨fun σ G2=>∃ y:List Nat,σ=[some (.ref a),some (.ref fl),some (.int (n:Nat)),some (.ref l),some (.ref aa),some (.ref r),some (.ref r'),some (.int (0+(i:Nat))),some (.str (S y))]∧OfN n y∧aW y∧y.length≤32∧IsFl G2 fl sc∧Kp fl H14 G2,?_,?_⟩
   ·have kG1:=kG.trans k1
    refine⟨_,rfl,fl,sc,2,rfl,f1,by decide,by decide,fun e G2 e0 e1 f2 k2=>⟨rfl,_,rfl,gC (fun z=>?_) (fun z=>⟨x,rfl,xo,xp,by omega,f2,kG1.trans k2⟩)⟩⟩
    refine⟨_,rfl,_,rfl,_,rfl,fl,sc,2,rfl,f2,by decide,by decide,fun e' G3 e0' e1' f3 k3=>⟨_,_,rfl,rfl,?_⟩⟩
    obtain⟨m,hm⟩:∃ m:Nat,1+e'=(m:Int):=⟨(1+e').toNat,by omega⟩
    rw[show V.int (1+e')=V.int (m:Nat) by rw[← hm]]
    have kG3:=(kG1.trans k2).trans k3
    refine⟨fl,sc,l,rs,n,m,16,rfl,f3,kG3 _ _ el14 hlf,hlf,n1,n4,by omega,fun x hx=>⟨(so x hx).1,sx x hx⟩,by omega,by decide,fun y G4 yo yp yl _ f4 k4=>⟨y,rfl,yo,yp,?_,f4,kG3.trans k4⟩⟩
    have:m≤2:=by omega
    have:=aQ3 16 this
    omega
   ·rintro _ G2 ⟨y,rfl,yo,yp,yl,f2,k2⟩
    have w2:=w14.kp f14 k2
    have v2:=v14.kp f14 k2
    refine⟨_,rfl,_,rfl,r,n,W,g,y,rfl,n1,n4,w2,ok,yo,by omega,fun G3 s3=>?_⟩
    have ea3:=s3 _ _ (vL f14 k2 ea14)
    refine⟨_,rfl,_,rfl,_,rfl,aa,f,n,4,y,rfl,SqT.of ea3,iv.rt,n1,n4,by decide,yo,by omega,by omega,fun G4 s4=>?_⟩
    have rlen:=qT iv.rt y
    refine⟨r',n,W',g',retl f y,rfl,n1,n4,(v2.same s3).same s4,ok',fN n1 n4 fo y,by omega,fun G5 s5=>⟨rfl,_,rfl,pS ?_ ⟨_,_,rfl,f2.same ((s3.trans s4).trans s5),k2.trans ((s3.trans s4).trans s5).kp⟩⟩⟩
    have:decide (dP g 0 y=some 0)=decide (dP g' 0 (retl f y)=some 0):=decide_eq_decide.mpr ((hg y).trans ((bR y yo yp).trans (hg' _).symm))
    rw[this,decide_eq_true rfl]
    rfl
  ·rintro _ G ⟨v7,v8,rfl,fG,kG⟩
   exact k G
end
theorem all_mk{l:PySem.W.OpenLaw}{w:World}{K:b5}{h:Heap}{mg:Str→Option Value}{fa:Addr}(X:K.In h)(G:h.Ns mainGlobals mg)(hfa:mg "law"=some (.ref fa))
  {f_46 KN KO KP:Addr}
  {od_46 an_46:Option Addr} {sl_46:Array (Option Value)} {oc_46 kV_46 dc_46 pm_46 cd_46 ct_46:Value}
  (d_0:DI K "_wall" CJ)
  (d_1:DI K "letters_of" FT)
  (d_2:DI K "first_letters" FP)
  (d_3:DI K "contrary" GT)
  (d_4:DI K "laid_out" F9)
  (d_5:DI K "turned_back" EQ)
  (d_6:DI K "joined" B8)
  (d_7:DJ K KP "__init__" "Weave.__init__" Gf)
  (d_8:DJ K KP "end_of" "Weave.end_of" Fl)
  (d_9:DJ K KP "head_of" "Weave.head_of" Hd)
  (d_10:DJ K KP "goal_of" "Weave.goal_of" FJ)
  (d_11:DJ K KP "new_place" "Weave.new_place" FX)
  (d_12:DJ K KP "lay_way" "Weave.lay_way" Fu)
  (d_13:DJ K KP "lay_word" "Weave.lay_word" G_)
  (d_14:DJ K KP "put_under" "Weave.put_under" GD)
  (d_15:DJ K KP "fold" "Weave.fold" F_)
  (d_16:DJ K KP "round_told" "Weave.round_told" FK)
  (d_17:DI K "numbers_of_heads" FF)
  (d_18:DI K "place_told" B7)
  (d_19:DI K "web_of" Am)
  (d_20:DI K "ways_both_ways" GN)
  (d_21:DI K "is_read" Cu)
  (d_22:DI K "words_by_letter" F0)
  (d_23:DI K "retold" AS)
  (d_24:DI K "_law_flow" Gv)
  (d_25:DI K "_law_pick" Ha)
  (d_26:DI K "_law_letters" F6)
  (d_27:DI K "_law_contrary" FV)
  (d_28:DI K "_law_key" AT)
  (d_29:DI K "_law_back" AW)
  (d_30:DI K "_law_laid" C5)
  (d_31:DI K "_law_word" Ev)
  (d_32:DI K "_law_retold" FH)
  (d_33:DI K "_law_then" AU)
  (d_34:DI K "_law_same" CT)
  (d_35:DI K "_law_drawn_change" FZ)
  (d_36:DI K "_law_change_told" GX)
  (d_37:DI K "_law_change_back" EA)
  (d_38:DI K "_law_alphabet" DS)
  (d_39:DI K "_law_exchange" F7)
  (d_40:DI K "_law_joined_ones" GY)
  (d_41:DI K "_law_some_words" Bh)
  (d_42:DI K "_law_turned_by" D1)
  (d_43:DI K "_law_exchange_back" Eo)
  (d_44:DI K "_law_other_alphabet" DR)
  (d_45:DI K "_law_more" D5)
  (na_46:PySem.W.nsIn K mainGlobals "law"=some (some (.ref f_46))) (nl_46:K.lookup f_46=some ⟨oc_46,od_46,.func (Ig "law" wK kV_46 dc_46 pm_46 an_46 cd_46 ct_46),sl_46⟩) (nc_46:PySem.W.codeIn K cd_46 "law"=true) (nk_46:PySem.W.keepIn K (.ref f_46)=true)
  (nb_enumerate:PySem.W.nsIn K mainGlobals "enumerate"=some none)
  (nb_int:PySem.W.nsIn K mainGlobals "int"=some none)
  (nb_len:PySem.W.nsIn K mainGlobals "len"=some none)
  (nb_list:PySem.W.nsIn K mainGlobals "list"=some none)
  (nb_max:PySem.W.nsIn K mainGlobals "max"=some none)
  (nb_range:PySem.W.nsIn K mainGlobals "range"=some none)
  (nb_reversed:PySem.W.nsIn K mainGlobals "reversed"=some none)
  (nb_sorted:PySem.W.nsIn K mainGlobals "sorted"=some none)
  (nb_sum:PySem.W.nsIn K mainGlobals "sum"=some none)
  (nb_tuple:PySem.W.nsIn K mainGlobals "tuple"=some none)
  (nb_zip:PySem.W.nsIn K mainGlobals "zip"=some none)
  (oa_Weave:PySem.W.nsIn K mainGlobals "Weave"=some (some (.ref KP)))
  (ob_Weave:PySem.W.plainGet K KP Str.empty=true)
  (oe_Weave:PySem.W.hasDictIn K KP=true)
  (of_Weave:PySem.W.plainOver K KP=true)
  (og_Weave:PySem.W.findIn K (.ref KP) "__setattr__"=some (some (.builtin "object.__setattr__")))
  (oh_Weave:PySem.W.makesIn K KP=true)
  (oi_Weave:PySem.W.keepIn K (.ref KP)=true)
  (on_Weave_heads:PySem.W.findIn K (.ref KP) "heads"=some none)
  (on_Weave_turns:PySem.W.findIn K (.ref KP) "turns"=some none)
  (on_Weave_ways:PySem.W.findIn K (.ref KP) "ways"=some none)
  (on_Weave_alike:PySem.W.findIn K (.ref KP) "alike"=some none)
  (nm_CONTRARIES:PySem.W.nsIn K mainGlobals "CONTRARIES"=some (some (.ref KN)))
  (nt_CONTRARIES:KTD.tabLook KTD.flatLooks (fun b=>K.lookup b) KN conTab_rows=true) (nh_CONTRARIES:KTD.hashesOf (fun b=>K.lookup b) KN=conTab_rows.map fun p=>(PySem.strKind l.prog w).hash p.1)
  (nm_LETTERS:PySem.W.nsIn K mainGlobals "LETTERS"=some (some (.ref KO)))
  {i_LETTERS:Array Value} {n_LETTERS:Nat} (nt_LETTERS:K.lookup KO=some ⟨.type "tuple",none,.seq i_LETTERS n_LETTERS,#[]⟩) (nv_LETTERS:Vals letV i_LETTERS.toList)
  : ∃ fd:FuncData,(∀ (s:Shared) (v:Value),BindsTo s fd ⟨[v],[]⟩ [("_law_script",v)])∧∀ base:Heap,K.In base→base.Ns mainGlobals mg→FnOk l.prog w K mg base AV 40 fa fd ["_law_script"] (spLaw K):=by
 have e:=hfa.symm.trans (aQc X G na_46)
 have e2:f_46=fa:=by cases e;rfl
 subst e2
 have T:Txt l.prog w K mg KN KO KP:=⟨aQc X G oa_Weave,⟨⟨ob_Weave,oe_Weave,of_Weave,og_Weave⟩,oh_Weave,oi_Weave⟩,on_Weave_heads,on_Weave_turns,on_Weave_ways,on_Weave_alike,r9 X G nb_enumerate,r9 X G nb_int,r9 X G nb_len,r9 X G nb_list,r9 X G nb_max,r9 X G nb_range,r9 X G nb_reversed,r9 X G nb_sorted,r9 X G nb_sum,r9 X G nb_tuple,r9 X G nb_zip,aQc X G nm_CONTRARIES,fun h x=>PySem.W.kt_tab_in l.prog w x nt_CONTRARIES (by decide +kernel) nh_CONTRARIES,aQc X G nm_LETTERS,fun H=>.inr ⟨_,_,_,nt_LETTERS,rfl,rfl,EG nv_LETTERS (by decide),nv_LETTERS⟩⟩
 obtain⟨_,_,D_0⟩:=jL (ps:=["k"]) d_0 X G fun _ _ _ _ _ _ u h=>match u,h with | [_],_=>rfl
 obtain⟨_,_,D_1⟩:=jL (ps:=["n"]) d_1 X G fun _ _ _ _ _ _ u h=>match u,h with | [_],_=>rfl
 obtain⟨_,_,D_2⟩:=jL (ps:=["n"]) d_2 X G fun _ _ _ _ _ _ u h=>match u,h with | [_],_=>rfl
 obtain⟨_,_,D_3⟩:=jL (ps:=["letter"]) d_3 X G fun _ _ _ _ _ _ u h=>match u,h with | [_],_=>rfl
 obtain⟨_,_,D_4⟩:=jL (ps:=["text"]) d_4 X G fun _ _ _ _ _ _ u h=>match u,h with | [_],_=>rfl
 obtain⟨_,_,D_5⟩:=jL (ps:=["word"]) d_5 X G fun _ _ _ _ _ _ u h=>match u,h with | [_],_=>rfl
 obtain⟨_,_,D_6⟩:=jL (ps:=["one","other"]) d_6 X G fun _ _ _ _ _ _ u h=>match u,h with | [_,_],_=>rfl
 obtain⟨_,_,D_7⟩:=DK (ps:=["self"]) d_7 fun _ _ _ _ _ _ u h=>match u,h with | [_],_=>rfl
 obtain⟨_,_,D_8⟩:=DK (ps:=["self","place","told"]) d_8 fun _ _ _ _ _ _ u h=>match u,h with | [_,_,_],_=>rfl
 obtain⟨_,_,D_9⟩:=DK (ps:=["self","place"]) d_9 fun _ _ _ _ _ _ u h=>match u,h with | [_,_],_=>rfl
 obtain⟨_,_,D_10⟩:=DK (ps:=["self","head","letter"]) d_10 fun _ _ _ _ _ _ u h=>match u,h with | [_,_,_],_=>rfl
 obtain⟨_,_,D_11⟩:=DK (ps:=["self"]) d_11 fun _ _ _ _ _ _ u h=>match u,h with | [_],_=>rfl
 obtain⟨_,_,D_12⟩:=DK (ps:=["self","place","letter","goal","told"]) d_12 fun _ _ _ _ _ _ u h=>match u,h with | [_,_,_,_,_],_=>rfl
 obtain⟨_,_,D_13⟩:=DK (ps:=["self","word","told"]) d_13 fun _ _ _ _ _ _ u h=>match u,h with | [_,_,_],_=>rfl
 obtain⟨_,_,D_14⟩:=DK (ps:=["self","head","above","turn"]) d_14 fun _ _ _ _ _ _ u h=>match u,h with | [_,_,_,_],_=>rfl
 obtain⟨_,_,D_15⟩:=DK (ps:=["self"]) d_15 fun _ _ _ _ _ _ u h=>match u,h with | [_],_=>rfl
 obtain⟨_,_,D_16⟩:=DK (ps:=["self","letter"]) d_16 fun _ _ _ _ _ _ u h=>match u,h with | [_,_],_=>rfl
 obtain⟨_,_,D_17⟩:=jL (ps:=["n","weave"]) d_17 X G fun _ _ _ _ _ _ u h=>match u,h with | [_,_],_=>rfl
 obtain⟨_,_,D_18⟩:=jL (ps:=["n","weave","numbers","head"]) d_18 X G fun _ _ _ _ _ _ u h=>match u,h with | [_,_,_,_],_=>rfl
 obtain⟨_,_,D_19⟩:=jL (ps:=["n","words"]) d_19 X G fun _ _ _ _ _ _ u h=>match u,h with | [_,_],_=>rfl
 obtain⟨_,_,D_20⟩:=jL (ps:=["web"]) d_20 X G fun _ _ _ _ _ _ u h=>match u,h with | [_],_=>rfl
 obtain⟨_,_,D_21⟩:=jL (ps:=["web","word"]) d_21 X G fun _ _ _ _ _ _ u h=>match u,h with | [_,_],_=>rfl
 obtain⟨_,_,D_22⟩:=jL (ps:=["retelling"]) d_22 X G fun _ _ _ _ _ _ u h=>match u,h with | [_],_=>rfl
 obtain⟨_,_,D_23⟩:=jL (ps:=["retelling","word"]) d_23 X G fun _ _ _ _ _ _ u h=>match u,h with | [_,_],_=>rfl
 obtain⟨_,_,D_24⟩:=jL (ps:=["_law_script"]) d_24 X G fun _ _ _ _ _ _ u h=>match u,h with | [_],_=>rfl
 obtain⟨_,_,D_25⟩:=jL (ps:=["_law_flow_here","_law_many"]) d_25 X G fun _ _ _ _ _ _ u h=>match u,h with | [_,_],_=>rfl
 obtain⟨_,_,D_26⟩:=jL (ps:=["_law_n"]) d_26 X G fun _ _ _ _ _ _ u h=>match u,h with | [_],_=>rfl
 obtain⟨_,_,D_27⟩:=jL (ps:=["_law_letter"]) d_27 X G fun _ _ _ _ _ _ u h=>match u,h with | [_],_=>rfl
 obtain⟨_,_,D_28⟩:=jL (ps:=["_law_word_here"]) d_28 X G fun _ _ _ _ _ _ u h=>match u,h with | [_],_=>rfl
 obtain⟨_,_,D_29⟩:=jL (ps:=["_law_word_here"]) d_29 X G fun _ _ _ _ _ _ u h=>match u,h with | [_],_=>rfl
 obtain⟨_,_,D_30⟩:=jL (ps:=["_law_text"]) d_30 X G fun _ _ _ _ _ _ u h=>match u,h with | [_],_=>rfl
 obtain⟨_,_,D_31⟩:=jL (ps:=["_law_flow_here","_law_n","_law_most"]) d_31 X G fun _ _ _ _ _ _ u h=>match u,h with | [_,_,_],_=>rfl
 obtain⟨_,_,D_32⟩:=jL (ps:=["_law_retelling","_law_word_here"]) d_32 X G fun _ _ _ _ _ _ u h=>match u,h with | [_,_],_=>rfl
 obtain⟨_,_,D_33⟩:=jL (ps:=["_law_one","_law_other"]) d_33 X G fun _ _ _ _ _ _ u h=>match u,h with | [_,_],_=>rfl
 obtain⟨_,_,D_34⟩:=jL (ps:=["_law_n"]) d_34 X G fun _ _ _ _ _ _ u h=>match u,h with | [_],_=>rfl
 obtain⟨_,_,D_35⟩:=jL (ps:=["_law_flow_here","_law_n"]) d_35 X G fun _ _ _ _ _ _ u h=>match u,h with | [_,_],_=>rfl
 obtain⟨_,_,D_36⟩:=jL (ps:=["_law_n","_law_change"]) d_36 X G fun _ _ _ _ _ _ u h=>match u,h with | [_,_],_=>rfl
 obtain⟨_,_,D_37⟩:=jL (ps:=["_law_change"]) d_37 X G fun _ _ _ _ _ _ u h=>match u,h with | [_],_=>rfl
 obtain⟨_,_,D_38⟩:=jL (ps:=["_law_flow_here","_law_n","_law_steps","_law_most"]) d_38 X G fun _ _ _ _ _ _ u h=>match u,h with | [_,_,_,_],_=>rfl
 obtain⟨_,_,D_39⟩:=jL (ps:=["_law_flow_here","_law_n"]) d_39 X G fun _ _ _ _ _ _ u h=>match u,h with | [_,_],_=>rfl
 obtain⟨_,_,D_40⟩:=jL (ps:=["_law_flow_here","_law_some","_law_many"]) d_40 X G fun _ _ _ _ _ _ u h=>match u,h with | [_,_,_],_=>rfl
 obtain⟨_,_,D_41⟩:=jL (ps:=["_law_flow_here","_law_n","_law_most","_law_letters_here"]) d_41 X G fun _ _ _ _ _ _ u h=>match u,h with | [_,_,_,_],_=>rfl
 obtain⟨_,_,D_42⟩:=jL (ps:=["_law_n","_law_g"]) d_42 X G fun _ _ _ _ _ _ u h=>match u,h with | [_,_],_=>rfl
 obtain⟨_,_,D_43⟩:=jL (ps:=["_law_told"]) d_43 X G fun _ _ _ _ _ _ u h=>match u,h with | [_],_=>rfl
 obtain⟨_,_,D_44⟩:=jL (ps:=["_law_flow_here","_law_n","_law_steps","_law_most"]) d_44 X G fun _ _ _ _ _ _ u h=>match u,h with | [_,_,_,_],_=>rfl
 obtain⟨_,_,D_45⟩:=jL (ps:=["_law_web"]) d_45 X G fun _ _ _ _ _ _ u h=>match u,h with | [_],_=>rfl
 have D_46:=Kt (ps:=["_law_script"]) nl_46 nc_46 nk_46 (aQc X G na_46) (fun _ _ _ _ _ _ u h=>match u,h with | [_],_=>rfl)
 refine⟨Ig "law" wK kV_46 dc_46 pm_46 an_46 cd_46 ct_46,fun s v=>.of_eq rfl,fun base _ _=>?_⟩
 have c_z5:=Io (base:=base) D_24 T
 have c_z6:=IX (base:=base) D_25 T
 have c_zx:=IL (base:=base) D_27 T
 have c_zy:=HQ (base:=base) D_26 T
 have c_zd1:=Gm (base:=base) D_30 T c_zx
 have c_z4:=Jm (base:=base) D_31 T c_z6 c_zy c_zx
 have c_zc1:=Gg (base:=base) D_29 T c_zx
 have c_z7:=Iq (base:=base) D_3 T
 have c_z9:=Hq (base:=base) D_4 T c_z7
 have c_zz:=Jg (base:=base) D_5 T c_z7
 have c_zg1:=Fz (base:=base) D_6 T c_z9
 have c_z3:=HZ (base:=base) D_1 T
 have c_zr:=Jk (base:=base) D_2 T
 have c_zj:=IW (base:=base) D_22 T c_zr c_z7 c_zz
 have c_zh1:=Fo (base:=base) D_23 T c_z9 c_zj
 have c_zj1:=GU (base:=base) D_0 T
 have c_zc:=Iv (base:=base) D_16 T
 have c_zl:=Jl (base:=base) D_7 T
 have c_zw:=Jn (base:=base) D_8 T c_zg1
 have c_zp:=Jo (base:=base) D_9 T c_zw
 have c_zq:=IA (base:=base) D_10 T c_zp
 have c_zf:=Ih (base:=base) D_11 T
 have c_zs:=Ir (base:=base) D_12 T c_zz c_zg1
 have c_zk:=Iy (base:=base) D_14 T c_zz c_zg1 c_zs
 have c_z1:=IR (base:=base) D_15 T c_zz c_zg1 c_zw c_zk
 have c_zo:=Hu (base:=base) D_13 T c_z7 c_zz c_zf c_zs
 have c_zd:=Im (base:=base) D_17 T c_z3 c_zp c_zq
 have c_z0:=HI (base:=base) D_18 T c_zr c_zq
 have c_zi1:=Gd (base:=base) D_19 T c_zl c_zo c_z1 c_zd c_z0
 have c_z2:=IG (base:=base) D_32 T c_zc1 c_zd1
 have c_zb1:=Fx (base:=base) D_33 T c_z2
 have c_za1:=FB (base:=base) D_34 T
 have c_ze:=Je (base:=base) D_35 T c_z6 c_zy c_zx
 have c_zg:=HW (base:=base) D_36 T c_zx
 have c_zv:=Hz (base:=base) D_39 T c_z6
 have c_zf1:=F5 (base:=base) D_28 T
 have c_zh:=Il (base:=base) D_37 T c_zx c_zf1
 have c_zu:=IQ (base:=base) D_38 T c_z6 c_zb1 c_za1 c_ze c_zg c_zh
 have c_zt:=Jf (base:=base) D_42 T c_zc1 c_zd1
 have c_zb:=Hv (base:=base) D_43 T
 have c_za:=IS (base:=base) D_44 T c_zc1 c_z4 c_zb1 c_zu c_zv c_zt c_zb
 have c_zi:=Ib (base:=base) D_40 T c_z6 c_zc1 c_zd1
 have c_zm:=Jp (base:=base) D_41 T c_z6 c_zc1 c_zd1 c_z4 c_zu c_zi
 have c_zn:=ID (base:=base) D_20 T c_zr c_z7
 have c_ze1:=Gx (base:=base) D_21 T c_zn
 have c_z8:=Hs (base:=base) D_45 T
 exact FnOk.mono (k:=40) (FD D_46 T c_zi1 c_ze1 c_zh1 c_z5 c_z6 c_z4 c_zi c_zm c_za c_z8) (by decide)
theorem walk{l:PySem.W.OpenLaw}{q:Program}{loose:List Str}{XP:(Str→Option Value)→Heap→Prop}{YP:World→Heap→Prop}{d:DefRec}{K:Params→b5}(hn:l.most=some 63)(hdf:d.params.defaults=[])
  (hY:∀ (w:World) (h:Heap),YP w h→(K w.params).In h)
  (F:∀ (w:World) (mg:Str→Option Value) (fa:Addr) (h:Heap),(K w.params).In h→h.Ns mainGlobals mg→mg d.name=some (.ref fa) →
   ∃ fd:FuncData,(∀ (s:Shared) (u:Value),BindsTo s fd ⟨[u],[]⟩ [("_law_script",u)])∧∀ base:Heap,(K w.params).In base→base.Ns mainGlobals mg→FnOk l.prog w (K w.params) mg base AV 40 fa fd ["_law_script"] (spLaw (K w.params))) :
  PySem.W.WalkO q loose XP YP l.row.toRowW d [] (fun f vs=>PySem.call f vs) :=
 L2.walk_of (n:=63) (k:=40) (x:="_law_script") (CX:=fun _=>AV) (sp:=fun w=>spLaw (K w.params)) hn (by decide) hdf ⟨rfl,by decide,by decide⟩ hY F (fun _ _ a ns hl _ hS=>⟨a,ns,rfl,hS,hl,fun _=>rfl⟩) fun _ _ _ _ _ z=>z
end Lw
def PySem.W.Fast.tw12078802898018530332:Nat:=0
def PySem.W.Fast.tw12880149828198875152:Nat:=0
def PySem.W.Fast.tw18003755281655166965:Nat:=0
def PySem.W.Fast.tw17309385517164919104:Nat:=0
def PySem.W.Fast.tw964382701489517143:Nat:=0
def PySem.W.Fast.tw7896399300801934746:Nat:=0
def PySem.W.Fast.tw18256681037398040347:Nat:=0
def PySem.W.Fast.tw9856781909321258521:Nat:=0
def PySem.W.Fast.tw14296699583361739852:Nat:=0
def PySem.W.Fast.tw1361762027971427266:Nat:=0
def PySem.W.Fast.tw5427032248571635603:Nat:=0
def PySem.W.Fast.tw1133283238619581274:Nat:=0
def PySem.W.Fast.tw17217254538400887097:Nat:=0
def PySem.W.Fast.tw1033561393391002614:Nat:=0
def PySem.W.Fast.tw10060230235865373357:Nat:=0
def PySem.W.Fast.tw14784229117893322489:Nat:=0
def PySem.W.Fast.tw5908030027319821724:Nat:=0
def PySem.W.Fast.tw7977196348886676436:Nat:=0
def PySem.W.Fast.tw14359601674498804947:Nat:=0
def PySem.W.Fast.tw16435827343548219954:Nat:=0
def PySem.W.Fast.tw8483807191845852228:Nat:=0
def PySem.W.Fast.tw9719086381925626351:Nat:=0
def PySem.W.Fast.tw5646044811398372092:Nat:=0
def PySem.W.Fast.tw17040493902401251369:Nat:=0
def PySem.W.Fast.tw15638908444613396396:Nat:=0
def PySem.W.Fast.tw7232982154624421262:Nat:=0
def PySem.W.Fast.tw371820722093590237:Nat:=0
def PySem.W.Fast.tw12972093785336213204:Nat:=0
def PySem.W.Fast.tw13620414260533186465:Nat:=0
def PySem.W.Fast.tw5607951366616299773:Nat:=0
def PySem.W.Fast.tw8283292091502677305:Nat:=0
def PySem.W.Fast.tw1970211359324423109:Nat:=0
def PySem.W.Fast.tw16205304891807120181:Nat:=0
def PySem.W.Fast.tw11906553873707125237:Nat:=0
def PySem.W.Fast.tw9178355649326911568:Nat:=0
def PySem.W.Fast.tw17124124791623453558:Nat:=0
def PySem.W.Fast.tw7557669811115285695:Nat:=0
def PySem.W.Fast.tw5757657657619910369:Nat:=0
def PySem.W.Fast.tw15452832686832110711:Nat:=0
def PySem.W.Fast.tw8668893246264750455:Nat:=0
def PySem.W.Fast.tw5524780656103198545:Nat:=0
def PySem.W.Fast.tw4231853817806088131:Nat:=0
def PySem.W.Fast.tw5947283411710189916:Nat:=0
def PySem.W.Fast.tw15333998844399460206:Nat:=0
def PySem.W.Fast.tw14492566507038376571:Nat:=0
def PySem.W.Fast.tw14990035300064827560:Nat:=0
def PySem.W.Fast.tw16079356887808773040:Nat:=0
def PySem.W.Fast.tw4812594956874746256:Nat:=0
def PySem.W.Fast.tw551903395094141207:Nat:=0
def PySem.W.Fast.tw9489768140737299619:Nat:=0
def PySem.W.Fast.tw12810501739698942213:Nat:=0
def PySem.W.Fast.tw2236943263340231221:Nat:=0
def PySem.W.Fast.tw15929948281065060016:Nat:=0
def PySem.W.Fast.tw16531716535061619347:Nat:=0
def PySem.W.Fast.tw15966518058881080108:Nat:=0
def PySem.W.Fast.tw5270196576836144037:Nat:=0
def PySem.W.Fast.tw16695588893990847364:Nat:=0
def PySem.W.Fast.tw9553632283705747224:Nat:=0
def PySem.W.Fast.tw17315303194292566185:Nat:=0
def PySem.W.Fast.tw14811072019651375508:Nat:=0
def PySem.W.Fast.tw18368659830366517773:Nat:=0
def PySem.W.Fast.tw15461021435494094737:Nat:=0
def PySem.W.Fast.tw985094232147917309:Nat:=0
def PySem.W.Fast.tw2731686566705110768:Nat:=0
def PySem.W.Fast.tw15170448383978620637:Nat:=0
def PySem.W.Fast.tw14828392193556136186:Nat:=0
def PySem.W.Fast.tw15531515703655349140:Nat:=0
def PySem.W.Fast.tw5769815121434851589:Nat:=0
def PySem.W.Fast.tw16449516911109455389:Nat:=0
def PySem.W.Fast.tw2431001248480150579:Nat:=0
def PySem.W.Fast.tw12876261065396811488:Nat:=0
open PySem PySem.W PyProof.Rows
set_option maxRecDepth 100000 in
set_option maxHeartbeats 0 in
theorem PySem.Challenge.cw_newletters_k20_whole_webs_of_what_is_ret_holds : PySem.Challenge.rw_newletters_k20_whole_webs_of_what_is_ret.Holds := by
 w_on;o_law;k_head;(case hw=>w_witness2)
 k_fill
 refine Lw.walk (l:=PySem.Challenge.rw_newletters_k20_whole_webs_of_what_is_ret) rfl rfl (fun w h Y=>aJP Y) ?F
 case F =>
  intro w mg fa h KX G hmg
  refine' Lw.all_mk KX G hmg ?d_0 ?d_1 ?d_2 ?d_3 ?d_4 ?d_5 ?d_6 ?d_7 ?d_8 ?d_9 ?d_10 ?d_11 ?d_12 ?d_13 ?d_14 ?d_15 ?d_16 ?d_17 ?d_18 ?d_19 ?d_20 ?d_21 ?d_22 ?d_23 ?d_24 ?d_25 ?d_26 ?d_27 ?d_28 ?d_29 ?d_30 ?d_31 ?d_32 ?d_33 ?d_34 ?d_35 ?d_36 ?d_37 ?d_38 ?d_39 ?d_40 ?d_41 ?d_42 ?d_43 ?d_44 ?d_45 ?na_46 ?nl_46 ?nc_46 ?nk_46 ?nb_enumerate ?nb_int ?nb_len ?nb_list ?nb_max ?nb_range ?nb_reversed ?nb_sorted ?nb_sum ?nb_tuple ?nb_zip ?oa_Weave ?ob_Weave ?oe_Weave ?of_Weave ?og_Weave ?oh_Weave ?oi_Weave ?on_Weave_heads ?on_Weave_turns ?on_Weave_ways ?on_Weave_alike ?nm_CONTRARIES ?nt_CONTRARIES ?nh_CONTRARIES ?nm_LETTERS ?nt_LETTERS ?nv_LETTERS
  (case oa_Weave=>k_is)
  (case d_0 | d_1 | d_2 | d_3 | d_4 | d_5 | d_6 | d_17 | d_18 | d_19 | d_20 | d_21 | d_22 | d_23 | d_24 | d_25 | d_26 | d_27 | d_28 | d_29 | d_30 | d_31 | d_32 | d_33 | d_34 | d_35 | d_36 | d_37 | d_38 | d_39 | d_40 | d_41 | d_42 | d_43 | d_44 | d_45=>exact⟨_,_,_,_,_,_,_,_,_,_,by k_is,by k_is,by k_is,by k_is⟩)
  (case d_7 | d_8 | d_9 | d_10 | d_11 | d_12 | d_13 | d_14 | d_15 | d_16=>exact⟨_,_,_,_,_,_,_,_,_,_,by k_is,by k_is,by k_is,by k_is,by k_is⟩)
  (case na_46 | nl_46 | nc_46 | nk_46 | nb_enumerate | nb_int | nb_len | nb_list | nb_max | nb_range | nb_reversed | nb_sorted | nb_sum | nb_tuple | nb_zip | ob_Weave | oe_Weave | of_Weave | og_Weave | oh_Weave | oi_Weave | on_Weave_heads | on_Weave_turns | on_Weave_ways | on_Weave_alike | nm_CONTRARIES | nm_LETTERS | nt_LETTERS=>k_is)
  (case nt_CONTRARIES=>kernel_rfl)
  (case nh_CONTRARIES=>kernel_rfl)
  (case nv_LETTERS=>exact .cons ⟨_,rfl⟩ (.cons ⟨_,rfl⟩ (.cons ⟨_,rfl⟩ (.cons ⟨_,rfl⟩ (.cons ⟨_,rfl⟩ (.cons ⟨_,rfl⟩ (.cons ⟨_,rfl⟩ (.cons ⟨_,rfl⟩ .nil))))))))
