import PyProof.Rows.All
import Wide.All
import OpenK.AllK
import Wide.FinOn
import Lean
import PyProof.EqAt
import PyProof.EqKinds
import PyProof.TupleCall
import KE.KMinKey
import KE.KSortTup
import KE.KLam
import KE.KNestM
import KE.KItemsList
import PyProof.SeqI2
import PyProof.SeqI3
import PyProof.WalksMore
import PySem.Challenge.RW_newletters_k17_alphabets_looked_at
open List renaming getElem?_eq_some_iff → a9, getElem?_eq_getElem → b0, length_map → b7, mem_of_getElem? → b8, getD_eq_getElem?_getD → c5, length_append → c6, getElem?_map → c7, size_toArray → c8, mem_cons → d3, mem_singleton → d6, mem_cons_of_mem → g9, mem_map → i3, map_append → i7, map_cons → i8, mem_cons_self → i9, mem_append_right → j0, length_take → j6, mem_append → j9, take_length → l5, append_assoc → l6, length_cons → l7, not_mem_nil → l8, append_nil → m7, nodup_cons → p0, length_set → p5, getElem?_append_left → p6, mem_append_left → p7, getElem?_of_mem → p8, length_eq_zero_iff → r9, take_add_one → t9, getElem?_append_right → u5, reverse_cons → u6, map_map → u7, mem_of_mem_take → u8, lookup_cons → x0, map_congr_left → x8, getElem?_set_self → y0, all_eq_true → y1, take_of_length_le → aQA, length_drop → aQC, sum_cons → aQE, getElem?_set_ne → aQF, dropLast_concat_getLast → aQG, flatten_cons → aQI, flatMap_cons → aQJ, replicate_succ → aQK, length_reverse → aQL, mem_reverse → aQM, length_singleton → aQO, take_append_drop → aQP, getElem?_eq_none → aQQ, drop_eq_getElem_cons → aQS, getElem?_take_of_lt → aQV, reverse_reverse → aQW, getElem?_cons_succ → aQ1, nodup_append → aQc, filterMap_cons → aQh, mem_singleton_self → aQi, mem_filter → aQl, find?_cons → aQo, ext_getElem? → aQt, length_replicate → aQu, getElem?_reverse → aQx, length_filter_le → aXC, idxOf_lt_length_of_mem → aXD, getElem_inj → aXE, getElem_mem → aXF, foldl_cons → aXL, forIn_cons → aXM, map_nil → aXO, length_range → aXU, length_pos_of_mem → aXV, any_cons → aXW, map_reverse → aXY, mem_flatMap → aX0, getElem_map → aX1, eraseIdxIfInBounds_toArray → aX6, idxOf_cons → aXa, replicate_succ' → aXb, reverse_append → aXh, toList_toArray → aXi, mem_range → aXj, forIn_nil → aXm, getElem_idxOf → aXr, mem_replicate → aXs, foldl_append → aXw, getElem?_eq_none_iff → aXy, getLast?_eq_some_iff → aXz, mem_of_find?_eq_some → aZA, getElem?_zip_eq_some → aZB, zipIdx_cons → aZG, length_filterMap_le → aZH, any_eq_true → aZJ, length_erase_of_mem → aZL, filter_cons_of_neg → aZR, filter_cons_of_pos → aZS, of_mem_zip → aZV, length_nil → aZY, nil_append → aZZ, find?_cons_of_neg → aZ2, take_left → aZ6, mem_erase_of_ne → aZb, getElem?_zipIdx → aZc, all_cons → aZd, flatMap_append → aZj, length_pos_iff → aZk, getElem_of_mem → aZn, mem_filterMap → aZq, all_map → aZv, getElem?_drop → aZx, pairwise_cons → aJA, find?_eq_none → aJE, countP_append → aJF, length_zipIdx → aJH, filter_append → aJI, pairwise_map → aJT, countP_congr → aJV, map_id → aJZ, countP_cons → aJ8, ext_getElem → aJb, zipIdx_nil → aJg, find?_some → aJj, sum_append → aJk, filter_nil → aJl, drop_zero → aJo, drop_left → aJp, map_set → aKV
open PySem.W renaming Frag → b5, mg_none_of → t4, mg_of → u9, kia_one → aQ8, kia_tup → aQ9, looks_findIn → aQd, callWith_K → aQm, looks_mroIn → aXK, methodCall_KW → aX4, plainGet_of → aXf, looks_clsIn → aXg, cellsFrom_some → aZ0, findObj_own → aZf, callWith_K0 → aZg, kitx_tuple → aZu, check_slot → aJC, looks_find → aJD, set_plain → aJJ, kitx_none → aJL, kitx_bool → aJM, kitx_list → aJN, kitx_int → aJ3, kitx_str → aJ4, bind_fn → aJc, kIn_of → aJm
open PySem.Heap renaming get?_push_of_some → b6, lt_size → d5, get?_push_size → d9, get?_update_self → t8, get?_update_ne → y2, size_push → y3, get?_update_other → aQq, size_update → aZI, get?_push_ne → aJQ
open Nat renaming le_refl → b9, ne_of_lt → d8, le_trans → j8, zero_le → l9, lt_of_lt_of_le → m6, lt_of_le_of_lt → m9, add_le_add_left → t5, not_lt_zero → y4, le_add_right → aQN, le_of_lt → aQT, ne_of_gt → aQU, lt_irrefl → aQZ, mod_lt → aQf, le_succ → aQp, mul_le_mul_right → aXG, lt_succ_self → aXX, mod_eq_of_lt → aXZ, not_le_of_lt → aX2, mul_le_mul → aXk, add_mod_right → aXx, le_of_eq → aZD, add_mod_mod → aZW, mod_add_mod → aZX, min_self → aZw, lt_succ_of_lt → aJR, add_assoc → aJu, succ_mul → aKS, add_zero → aKT, mul_comm → aKU, zero_add → aKW
open Option renaming map_eq_some_iff → i6, map_some → y6, isSome_iff_exists → aQg, bind_eq_some_iff → aZT, isSome_map → aJP, getD_none → aJ1, bind_some → aJa
open Option.some renaming inj → j1
open Bool renaming false_ne_true → j2, and_eq_true → y7, eq_iff_iff → aQ7, false_eq_true → aQn, and_false → aZ5, and_true → aZe, or_eq_true_iff → aZl, not_eq_true' → aJS, or_false → aJr
open PySem.F renaming plainAttrs_list → j7, plainAttrs_str → k7, slot_list_append → o0, type_list_append → o6, slot_dict_keyiterator_next → aQH, slot_dict_get → aQR, plainAttrs_dict → aQ0, slot_dict_setdefault → aQ2, slot_str_upper → aQ3, type_str_upper → aQ4, slot_str_lower → aQ5, type_str_lower → aQ6, slot_tuple_iterator_next → aQa, slot_list_index → aQj, entry_dict_get → aQr, slot_list_pop → aQy, type_list_pop → aQz, slot_str_join → aXA, type_str_join → aXB, excBase_ValueError → aXI, slot_str_isupper → aXR, type_str_isupper → aXS, slot_zip_next → aX7, args_dict_keyiterator_next_1 → aX8, args_dict_setdefault_3 → aX9, entry_dict_keyiterator_next → aXc, entry_dict_setdefault → aXd, args_tuple_iterator_next_1 → aXl, type_dict_setdefault → aXn, slot_str_getitem → aXo, entry_tuple_iterator_next → aXp, excAttr_ValueError → aXu, args_list_index_2 → aZC, args_tuple_add_2 → aZE, slot_tuple_mul → aZM, entry_list_index → aZN, entry_tuple_add → aZO, args_dict_get_2 → aZP, args_dict_get_3 → aZQ, type_list_index → aZU, slot_tuple_add → aZ1, slot_str_index → aZ3, type_str_index → aZ4, type_dict_get → aZ7, args_object_init_2 → aZ9, args_zip_next_1 → aJO, slot_tuple_rmul → aJU, entry_list_pop → aJ2, entry_zip_next → aJ7, slot_dict_iter → aJ9, slot_list_pop → aJf, slot_int_rmul → aJi
open PySem.PassesOwn renaming never → l4
open PySem renaming boot_len → m4, mem_of_lookup → x6, evalArgs_none → aZh
open PyProof.Rows renaming slot_tuple_getitem → p9, callWith_type1 → x9, callWith_builtin1 → aJd, lt_int → aK2
open PySem.Heap.SameBut renaming update → u0, refl → aK6
open Array renaming length_toList → x5, getElem?_eq_some_iff → y9, perm_iff_toList_perm → aQb, getElem?_toList → aQv, getD_eq_getD_getElem? → aXq, forIn_toList → aZz, toList_inj → aJ6
open PySem.Calls renaming callWith_builtin → z9, spliced_cons → aQB, evalArgs_plain → aQe, spliced_nil → aQs, Name_function_global → aXt
open PySem.Obj renaming data_mapFields → aQD, isFreed_of_fields → aQw, data_mapDictKeys → aXH, cls_mapFields → aXv, isFreed_of_dict → aZm
open Ne renaming symm → aQX
open Int renaming toNat_natCast → aQY, toNat_of_nonneg → aXJ, emod_nonneg → aXN, emod_lt_of_pos → aXQ
open PySem.Paired renaming length → aQk, snoc → aJY
open PySem.SeqAt.EqAt renaming int_int → aXP, int_str → aZo, str_int → aZp, str_str → aZs, of_refs → aZy, same → aJe
open PySem.EqBoolInt renaming of_rcne → aXT
open PyProof.Rows.IsTup renaming new → aX3
open PySem.StrLaws renaming glued_eq_join → aX5, seqIndex_nonneg → aXe
open PySem.Txt renaming slice_le → aZF
open List.Pairwise renaming imp_of_mem → aZK, map → aK8
open PySem.Value.type renaming inj → aZ8
open PySem.Around renaming under_plainId → aZa
open PySem.SeqAt.RcNeAt renaming tuples → aZi, lists_lengths → aJt, lists → aK4
open PySem.Heap.IsSliceOf renaming new → aZr
open PyProof.V renaming same_str → aZt
open PySem.Code renaming quiet_builtin → aJB
open PySem.SeqAt renaming list_indexAt → aJG, eq_tupleAt → aJ5
open PySem.Heap.Ns1 renaming of_empty → aJK
open List.Sublist renaming refl → aJW
open Sum.inl renaming inj → aJX
open Prod.mk renaming inj → aJ0
open Array.Perm renaming refl → aJh
open PySem.Walks renaming strAscii → aJn, strWide → aJs, tuple → aK1
open List.Perm renaming refl → aJq
open PySem.Value.ref renaming inj → aJv
open PySem.EqNone renaming eq_none_none → aJw, eq_none_bool → aJx, eq_bool_none → aJy, ne_none_none → aKB, ne_none_bool → aKC, ne_bool_none → aKD, eq_none_int → aKG, eq_none_str → aKH, eq_int_none → aKI, eq_str_none → aKK, ne_none_int → aKM, ne_none_str → aKN, ne_int_none → aKO, ne_str_none → aKQ
open PySem.EqMixed renaming eq_bool_str → aJz, eq_str_bool → aKA, ne_bool_str → aKE, ne_str_bool → aKF, eq_int_str → aKJ, eq_str_int → aKL, ne_int_str → aKP, ne_str_int → aKR
open PySem.Heap.FunFrames renaming of_keeps → aKX
open Sum.inr renaming inj → aKY
open PyProof.V.Flat renaming str_inv → aKZ, int_inv → aK0
open PySem.W.Looks renaming here → aK3
open PySem.Within renaming cons → aK5
open PySem.Heap.IsTuple renaming push → aK7
open PySem.Heap.DictOf renaming new → aK9
set_option Elab.async false
set_option maxHeartbeats 4000000
set_option maxRecDepth 100000
set_option linter.all false
namespace L2
open PySem PySem.Spec PyProof.Rows
abbrev cQ:=Sum Int Str
def sV:cQ→Value→Bool
 | .inl k,v=>Value.isInt k v
 | .inr x,v=>Value.isStrOf x v
def Ni(w:World):cQ→Int
 | .inl k=>hashInt k
 | .inr x=>hashStr w x
theorem cY:∀ {k:cQ} {v:Value},sV k v=true→(∃ i t,k=Sum.inl i∧v=Value.int i t)∨(∃ x t,k=Sum.inr x∧v=Value.str x t)
 | .inl i,v,h=>by
  obtain⟨t,e⟩:=Value.isInt_shape (k:=i) (v:=v) h
  exact .inl ⟨i,t,rfl,e⟩
 | .inr x,v,h=>by
  obtain⟨t,e⟩:=Value.isStrOf_shape (x:=x) (v:=v) h
  exact .inr ⟨x,t,rfl,e⟩
theorem CZ(i:Int)(t:Tok):sV (.inl i) (.int i t)=true:=by simp[sV,Value.isInt]
theorem C7(x:Str)(t:Tok):sV (.inr x) (.str x t)=true:=by simp[sV,Value.isStrOf]
theorem JH(a b:Int):decide ((Sum.inl a:cQ)=Sum.inl b)=(a == b):=by
 by_cases e:a=b
 ·subst e;simp
 ·have h:¬ (Sum.inl a:cQ)=Sum.inl b:=fun q=>e (aJX q)
  rw[decide_eq_false h]
  exact(beq_eq_false_iff_ne.mpr e).symm
theorem Kb(a b:Str):decide ((Sum.inr a:cQ)=Sum.inr b)=decide (a=b):=by
 by_cases e:a=b
 ·subst e;simp
 ·have h:¬ (Sum.inr a:cQ)=Sum.inr b:=fun q=>e (aKY q)
  rw[decide_eq_false h,decide_eq_false e]
theorem Jm(a:Int)(b:Str):decide ((Sum.inl a:cQ)=Sum.inr b)=false:=decide_eq_false (fun q=>nomatch q)
theorem HX(a:Str)(b:Int):decide ((Sum.inr a:cQ)=Sum.inl b)=false:=decide_eq_false (fun q=>nomatch q)
def bO(prog:Program)(w:World):PySem.KeyKind prog w cQ where
 is:=sV
 hash:=Ni w
 inj:=fun v a b ha hb=>by
  rcases cY ha with ⟨i,t,rfl,rfl⟩ | ⟨x,t,rfl,rfl⟩
  ·rcases cY hb with ⟨j,u,rfl,e⟩ | ⟨y,u,rfl,e⟩
   ·injection e with e1 _;rw[e1]
   ·exact nomatch e
  ·rcases cY hb with ⟨j,u,rfl,e⟩ | ⟨y,u,rfl,e⟩
   ·exact nomatch e
   ·injection e with e1 _;rw[e1]
 byValue:=fun k v h=>by
  rcases cY h with ⟨i,t,rfl,rfl⟩ | ⟨x,t,rfl,rfl⟩ <;> rfl
 pyHash:=fun hv h=>by
  rcases cY hv with ⟨i,t,rfl,rfl⟩ | ⟨x,t,rfl,rfl⟩
  ·exact wpAny_pyHash_int h
  ·exact wpAny_pyHash_str h
 eqBool:=fun hu hv h=>by
  rcases cY hu with ⟨i,t,rfl,rfl⟩ | ⟨x,t,rfl,rfl⟩
  ·rcases cY hv with ⟨j,u,rfl,rfl⟩ | ⟨y,u,rfl,rfl⟩
   ·rw[JH] at h;exact wpAny_eqBool_int h
   ·rw[Jm] at h;exact aZo i t y u _ _ _ _ h
  ·rcases cY hv with ⟨j,u,rfl,rfl⟩ | ⟨y,u,rfl,rfl⟩
   ·rw[HX] at h;exact aZp x t j u _ _ _ _ h
   ·rw[Kb] at h;exact wpAny_eqBool_str h
 «strs»:=fun k x t v h=>by
  rcases cY h with ⟨i,u,rfl,e⟩ | ⟨y,u,rfl,e⟩
  ·exact nomatch e
  ·injection e with e1 _
   subst e1
   cases v <;> rfl
theorem zE(prog:Program)(w:World)(i:Int)(t:Tok):(bO prog w).is (.inl i) (.int i t)=true:=CZ i t
theorem yS(prog:Program)(w:World)(x:Str)(t:Tok):(bO prog w).is (.inr x) (.str x t)=true:=C7 x t
inductive V where
 | non | bl (b:Bool) | int (i:Int) | str (x:Str) | byt (b:Array UInt8) | flt (b:UInt64) | ref (a:Addr) | ty (n:String)
 deriving DecidableEq
def RelV:V→Value→Prop
 | .non,u=>u=Value.none
 | .bl b,u=>u=Value.bool b
 | .int i,u=>∃ t,u=Value.int i t
 | .str x,u=>∃ t,u=Value.str x t
 | .byt b,u=>∃ t,u=Value.bytes b t
 | .flt b,u=>∃ t,u=Value.float b t
 | .ref a,u=>u=Value.ref a
 | .ty n,u=>u=Value.type n
abbrev Vals:List V→List Value→Prop:=Paired RelV
theorem Vals.length{xs:List V}{us:List Value}(r:Vals xs us):xs.length=us.length:=aQk r
theorem Vals.get:∀ {xs:List V} {us:List Value} {i:Nat} {x:V},Vals xs us→xs[i]?=some x→∃ u,us[i]?=some u∧RelV x u
 | _,_,_,_,.nil,e=>by simp at e
 | _,_,0,_,.cons r _,e=>by simp at e;subst e;exact⟨_,rfl,r⟩
 | _,_,i+1,x,.cons _ t,e=>by
  obtain⟨u,h1,h2⟩:=Vals.get (i:=i) (x:=x) t (by simpa using e)
  exact⟨u,by simpa using h1,h2⟩
theorem Vals.set{x:V}{u:Value}(r:RelV x u):∀ {xs:List V} {us:List Value} (i:Nat),Vals xs us→Vals (xs.set i x) (us.set i u)
 | _,_,_,.nil=>.nil
 | _,_,0,.cons _ t=>.cons r t
 | _,_,i+1,.cons q t=>.cons q (Vals.set r i t)
theorem Vals.append:∀ {xs ys:List V} {us ws:List Value},Vals xs us→Vals ys ws→Vals (xs++ys) (us++ws)
 | _,_,_,_,.nil,s=>s
 | _,_,_,_,.cons r t,s=>.cons r (Vals.append t s)
theorem Vals.take:∀ {xs:List V} {us:List Value} (n:Nat),Vals xs us→Vals (xs.take n) (us.take n)
 | _,_,0,_=>.nil
 | _,_,_+1,.nil=>.nil
 | _,_,n+1,.cons r t=>.cons r (Vals.take n t)
theorem Vals.drop:∀ {xs:List V} {us:List Value} (n:Nat),Vals xs us→Vals (xs.drop n) (us.drop n)
 | _,_,0,r=>r
 | _,_,_+1,.nil=>.nil
 | _,_,n+1,.cons _ t=>Vals.drop n t
def RelO:Option V→Option Value→Prop
 | some v,some u=>RelV v u
 | none,none=>True
 | _,_=>False
def KV{κ:Type}:List (κ×V)→List (κ×Value)→Prop:=Paired fun (p:κ×V) (q:κ×Value)=>p.1=q.1∧RelV p.2 q.2
def kV:cQ→V
 | .inl i=>.int i
 | .inr x=>.str x
inductive HO where
 | lst (xs:List V)
 | tup (xs:List V)
 | dK (kvs:List (cQ×V)) | dT (kvs:List (List cQ×V))
 | set (S:Int→Bool) (n:Nat)
 | ins (C dx:Addr) (fs:List (Str×V))
 | own (x:Addr)
 | xd (fs:List (Str×V))
 | met (f x:Addr)
 | rng (lo hi:Int)
 | frz (o:Obj) (u:HO)
 | tbl (ps:Array Value)
 | ext (φ:Heap→Prop)
abbrev Hp:=Addr→Option HO
def upd(H:Hp)(a:Addr)(o:HO):Hp:=fun b=>if b=a then some o else H b
theorem aB{H:Hp}{a:Addr}{o:HO}:upd H a o a=some o:=by unfold upd;rw[if_pos rfl]
theorem aE{H:Hp}{a b:Addr}{o:HO}(h:b≠a):upd H a o b=H b:=by unfold upd;rw[if_neg h]
theorem bY{H:Hp}{a b:Addr}{o u:HO}(h:H a=some o)(h':H b=some u)(d:o≠u):a≠b:=by
 intro e;subst e;rw[h] at h';exact d (j1 h')
theorem aJ{H:Hp}{a b:Addr}{o:HO}(h:H a=some o)(h':H b=none):a≠b:=by
 intro e;subst e;rw[h] at h';cases h'
def NoD(h:Heap)(a:Addr):Prop:=∃ o,h.get? a=some o∧o.dict=none
theorem NoD.new(h:Heap)(items:Array Value):NoD (h.push { cls:=.type "tuple",data:=.seq items }) h.objs.size:=⟨_,d9 _ rfl,rfl⟩
section
variable (P:Program)(w:World)
def ObjOk(H:Hp)(h:Heap)(a:Addr):HO→Prop
 | .lst xs=>xs.length≤sizeLine∧∃ (its:List Value) (n:Nat),Vals xs its∧h.get? a=some { cls:=.type "list",data:=.seq its.toArray n }
 | .tup xs=>xs.length≤sizeLine∧∃ its:List Value,Vals xs its∧IsTup h a its.toArray∧NoD h a
 | .dK kvs=>kvs.length≤sizeLine∧(a == sysModules)=false∧∃ vs,KV kvs vs∧h.DictOf (bO P w) a vs
 | .dT kvs=>kvs.length≤sizeLine∧(a == sysModules)=false∧∃ xs:List (List cQ×Addr×Value),
   Paired (fun (p:List cQ×V) (q:List cQ×Addr×Value)=>p.1=q.1∧H q.2.1=some (.tup (p.1.map kV))∧RelV p.2 q.2.2) kvs xs ∧
   ∃ o es ep,h.get? a=some o∧o.ExactDict∧o.data=.dict es ep∧es.toList=xs.map (entryOfKey (tupleKind (bO P w)))∧(xs.map (·.1)).Nodup
 | .set S n=>h.SetOf (intKind P w) a S n
 | .ins C dx fs=>H dx=some (.own a)∧fs.length≤1000∧dx≠a∧h.get? a=some (PySem.W.instObj C dx) ∧
   ∃ mA,h.Ns1 dx mA∧(∀ f,RelO (fs.lookup f) (mA f))∧PySem.Within mA (fs.map (·.1))
 | .own _=>∃ o,h.get? a=some o
 | .xd fs=>∃ mA,h.Ns1 a mA∧∀ f,RelO (fs.lookup f) (mA f)
 | .rng lo hi=>∃ t u v,h.get? a=some { cls:=.type "range",data:=.fields #[.int lo t,.int hi u,.int 1 v] }
 | .frz o u=>h.get? a=some o∧ObjOk H h a u
 | .tbl ps=>h.get? a=some { cls:=.none,data:=.fields ps }
 | .met f x=>h.get? a=some (PySem.W.methodObj (.ref f) (.ref x))
 | .ext φ=>φ h∧(∃ o,h.get? a=some o)∧∀ h1 h2:Heap,φ h1→(∀ o,h1.get? a=some o→h2.get? a=some o)→φ h2
def HOk(H:Hp)(h:Heap):Prop:=∀ a o,H a=some o→ObjOk P w H h a o
end
section
variable {P:Program}{w:World}{H H':Hp}{h h':Heap}{a:Addr}{o:HO}
theorem ObjOk.lt(x:ObjOk P w H h a o):a<h.objs.size:=by
 cases o with
 | lst xs=>obtain⟨_,_,_,_,e⟩:=x;exact d5 e
 | tup xs=>obtain⟨_,_,_,p⟩:=x;exact p.1.lt
 | dK kvs=>obtain⟨_,_,_,_,o,_,_,e,_⟩:=x;exact d5 e
 | dT kvs=>obtain⟨_,_,_,_,o,_,_,e,_⟩:=x;exact d5 e
 | set S n=>obtain⟨o,_,_,_,e,_⟩:=x;exact d5 e
 | ins C dx fs=>obtain⟨_,_,_,e,_⟩:=x;exact d5 e
 | own y=>obtain⟨_,e⟩:=x;exact d5 e
 | xd fs=>obtain⟨_,⟨_,_,_,e,_⟩,_⟩:=x;exact d5 e
 | rng lo hi=>obtain⟨_,_,_,e⟩:=x;exact d5 e
 | frz ob u=>obtain⟨e,_⟩:=x;exact d5 e
 | tbl ps=>exact d5 (show h.get? a=some _ from x)
 | met f y=>exact d5 (show h.get? a=some _ from x)
 | ext φ=>obtain⟨_,⟨_,e⟩,_⟩:=x;exact d5 e
theorem Paired.mapP{α β:Type}{F G:α→β→Prop}:∀ {l₁:List α} {l₂:List β},Paired F l₁ l₂→(∀ a b,F a b→G a b)→Paired G l₁ l₂
 | _,_,.nil,_=>.nil
 | _,_,.cons r t,f=>.cons (f _ _ r) (Paired.mapP t f)
theorem ObjOk.stay(x:ObjOk P w H h a o)(k:∀ b u,(b=a∨H b=some (.own a))→h.get? b=some u→h'.get? b=some u)
  (ho:∀ b,H b=some (.own a)→H' b=some (.own a)) (ht:∀ b xs,H b=some (.tup xs)→H' b=some (.tup xs)):ObjOk P w H' h' a o:=by
 induction o with
 | lst xs=>obtain⟨z,its,n,r,e⟩:=x;exact⟨z,its,n,r,k _ _ (.inl rfl) e⟩
 | tup xs=>obtain⟨z,its,r,⟨ob,e,c⟩,od,e2,c2⟩:=x;exact⟨z,its,r,⟨ob,k _ _ (.inl rfl) e,c⟩,od,k _ _ (.inl rfl) e2,c2⟩
 | dK kvs=>obtain⟨z,y,vs,r,ob,es,ep,e,c⟩:=x;exact⟨z,y,vs,r,ob,es,ep,k _ _ (.inl rfl) e,c⟩
 | dT kvs =>
  obtain⟨z,y,xs,r,ob,es,ep,e,c⟩:=x
  exact⟨z,y,xs,Paired.mapP r fun p q z=>⟨z.1,ht _ _ z.2.1,z.2.2⟩,ob,es,ep,k _ _ (.inl rfl) e,c⟩
 | set S n=>obtain⟨ob,es,ep,t,e,c⟩:=x;exact⟨ob,es,ep,t,k _ _ (.inl rfl) e,c⟩
 | ins C dx fs =>
  obtain⟨d,z,ne,e,mA,⟨od,es,ep,e2,c⟩,r⟩:=x
  exact⟨ho _ d,z,ne,k _ _ (.inl rfl) e,mA,⟨od,es,ep,k _ _ (.inr d) e2,c⟩,r⟩
 | own y=>obtain⟨ob,e⟩:=x;exact⟨ob,k _ _ (.inl rfl) e⟩
 | xd fs=>obtain⟨mA,⟨od,es,ep,e,c⟩,r⟩:=x;exact⟨mA,⟨od,es,ep,k _ _ (.inl rfl) e,c⟩,r⟩
 | rng lo hi=>obtain⟨t,u,v,e⟩:=x;exact⟨t,u,v,k _ _ (.inl rfl) e⟩
 | frz ob u ih=>obtain⟨e,q⟩:=x;exact⟨k _ _ (.inl rfl) e,ih q⟩
 | tbl ps =>
  have e:h.get? a=some { cls:=.none,data:=.fields ps }:=x
  show h'.get? a=some { cls:=.none,data:=.fields ps }
  exact k a _ (.inl rfl) e
 | met f y =>
  have e:h.get? a=some (PySem.W.methodObj (.ref f) (.ref y)):=x
  show h'.get? a=some (PySem.W.methodObj (.ref f) (.ref y))
  exact k a _ (.inl rfl) e
 | ext φ=>obtain⟨p,⟨o,e⟩,st⟩:=x;exact⟨st _ _ p fun o q=>k _ _ (.inl rfl) q,⟨o,k _ _ (.inl rfl) e⟩,st⟩
theorem HOk.lt(x:HOk P w H h)(e:H a=some o):a<h.objs.size:=(x a o e).lt
theorem HOk.fresh(x:HOk P w H h)(e:h.objs.size≤a):H a=none:=by
 cases q:H a with
 | none=>rfl
 | some u=>exact absurd (m6 (x.lt q) e) (aQZ _)
theorem HOk.kept(x:HOk P w H h)(k:∀ b u,h.get? b=some u→h'.get? b=some u):HOk P w H h':=fun a o e =>
 (x a o e).stay (fun b u _ q=>k b u q) (fun _ q=>q) fun _ _ q=>q
theorem HOk.laid(x:HOk P w H h)(k:∀ b u,h.get? b=some u→h'.get? b=some u)(hp:h.objs.size≤a)(new:ObjOk P w (upd H a o) h' a o):HOk P w (upd H a o) h':=fun b u e=>by
 have hn:=x.fresh hp
 by_cases hb:b=a
 ·subst hb;rw[aB] at e;cases e;exact new
 ·rw[aE hb] at e
  exact(x b u e).stay (fun c v _ q=>k c v q) (fun c q=>by rw[aE (aJ q hn)];exact q) fun c xs q=>by rw[aE (aJ q hn)];exact q
end
def Rd(H:Hp)(a:Addr)(u:HO):Prop:=H a=some u∨∃ o,H a=some (.frz o u)
theorem Rd.ok{P:Program}{w:World}{H:Hp}{h:Heap}{a:Addr}{u:HO}(r:Rd H a u)(x:HOk P w H h):ObjOk P w H h a u:=by
 rcases r with r | ⟨o,r⟩
 ·exact x a u r
 ·obtain⟨_,q⟩:=x a _ r
  exact q
def KC:Option HO→Prop
 | some (.lst _)=>True
 | some (.dK _)=>True
 | some (.dT _)=>True
 | some (.set _ _)=>True
 | some (.ins _ _ _)=>True
 | some (.ext _)=>True
 | _=>False
section
variable {P:Program}{w:World}{H:Hp}{h h':Heap}{x e:Addr}{o':HO}
theorem HOk.write(ok:HOk P w H h)(mu:KC (H x))(he:e=x∨H e=some (.own x))(k:∀ b u,b≠e→h.get? b=some u→h'.get? b=some u)(heo:∃ u,h'.get? e=some u)
  (new:ObjOk P w (upd H x o') h' x o'):HOk P w (upd H x o') h':=fun b u q=>by
 have nown:∀ c y,H c=some (.own y)→c≠x:=fun c y r z=>by subst z;rw[r] at mu;exact mu
 have ntup:∀ c xs,H c=some (.tup xs)→c≠x:=fun c xs r z=>by subst z;rw[r] at mu;exact mu
 by_cases hb:b=x
 ·subst hb;rw[aB] at q;cases q;exact new
 ·rw[aE hb] at q
  by_cases hbe:b=e
  ·have q':H b=some (.own x):=by
    rcases he with z | z
    ·exact absurd (hbe.trans z) hb
    ·rw[hbe];exact z
   rw[q] at q';cases q'
   obtain⟨v,hv⟩:=heo
   exact⟨v,by rw[hbe];exact hv⟩
  ·refine(ok b u q).stay (fun c v hc r=>k c v ?_ r) (fun c r=>by rw[aE (nown c b r)];exact r) fun c xs r=>by rw[aE (ntup c xs r)];exact r
   rcases hc with rfl | hc
   ·exact hbe
   ·rintro rfl
    rcases he with z | z
    ·exact nown c b hc z
    ·rw[hc] at z;cases z;exact hb rfl
end
structure Un(fs ex:List Addr)(H H':Hp)(h h':Heap):Prop where
 keep:∀ b o,h.get? b=some o→H b=none→b ∉ fs→b ∉ ex→h'.get? b=some o
 slot:∀ b o,h.get? b=some o→H b=none→b∈fs→b ∉ ex→∃ sl,h'.get? b=some { o with slots:=sl }
 free:∀ b o,h.get? b=some o→H b=none→b ∉ ex→H' b=none
 there:∀ b o,h.get? b=some o→b ∉ ex→∃ o',h'.get? b=some o'
 tups:∀ b xs,H b=some (.tup xs)→H' b=some (.tup xs)
 frzs:∀ b o u,H b=some (.frz o u)→H' b=some (.frz o u)
 tbls:∀ b ps,H b=some (.tbl ps)→∃ more,H' b=some (.tbl (ps++more))
section
variable {fs fs' ex ex':List Addr}{H H1 H2:Hp}{h h1 h2 h':Heap}{a x e:Addr}{o:HO}
theorem Un.any(u:Un fs ex H H1 h h1){b:Addr}{ob:Obj}(q:h.get? b=some ob)(n:H b=none)(hx:b ∉ ex):∃ sl,h1.get? b=some { ob with slots:=sl }:=by
 by_cases hb:b∈fs
 ·exact u.slot b ob q n hb hx
 ·exact⟨ob.slots,u.keep b ob q n hb hx⟩
theorem Un.kept(k:∀ b u,h.get? b=some u→h'.get? b=some u):Un fs ex H H h h' :=
 ⟨fun b ob q _ _ _=>k b ob q,fun b ob q _ _ _=>⟨ob.slots,k b ob q⟩,fun _ _ _ n _=>n,fun b ob q _=>⟨ob,k b ob q⟩,fun _ _ q=>q,fun _ _ _ q=>q,fun _ ps q=>⟨#[],by rw[q];simp⟩⟩
theorem Un.refl:Un fs ex H H h h:=Un.kept fun _ _ q=>q
theorem Un.laid(k:∀ b u,h.get? b=some u→h'.get? b=some u)(hp:h.objs.size≤a)(hn:H a=none):Un fs ex H (upd H a o) h h' where
 keep:=fun b u q _ _ _=>k b u q
 slot:=fun b u q _ _ _=>⟨u.slots,k b u q⟩
 free:=fun b u q n _=>by rw[aE (d8 (m6 (d5 q) hp))];exact n
 there:=fun b u q _=>⟨u,k b u q⟩
 tups:=fun b xs q=>by rw[aE (aJ q hn)];exact q
 frzs:=fun b u xs q=>by rw[aE (aJ q hn)];exact q
 tbls:=fun b ps q=>⟨#[],by rw[aE (aJ q hn),q];simp⟩
theorem Un.write(mu:KC (H x))(he:e=x∨H e=some (.own x))(k:∀ b u,b≠e→h.get? b=some u→h'.get? b=some u)(heo:∃ u,h'.get? e=some u):Un fs ex H (upd H x o) h h':=by
 have hx:∀ b,H b=none→b≠x:=fun b n z=>by subst z;rw[n] at mu;exact mu
 have hb:∀ b,H b=none→b≠e:=fun b n z=>by
  subst z
  rcases he with r | r
  ·exact hx b n r
  ·rw[n] at r;cases r
 have hm:∀ b u,H b=some u→¬ KC (some u)→b≠x:=fun b u q nm z=>by subst z;rw[q] at mu;exact nm mu
 refine⟨fun b u q n _ _=>k b u (hb b n) q,fun b u q n _ _=>⟨u.slots,k b u (hb b n) q⟩,fun b u q n _=>by rw[aE (hx b n)];exact n,fun b u q _=>?_,
  fun b xs q=>by rw[aE (hm b _ q fun z=>z)];exact q,fun b u xs q=>by rw[aE (hm b _ q fun z=>z)];exact q,fun b ps q=>⟨#[],by rw[aE (hm b _ q fun z=>z),q];simp⟩⟩
 by_cases hbe:b=e
 ·subst hbe;exact heo
 ·exact⟨u,k b u hbe q⟩
end
def MA(h:Heap)(H:Hp):List Addr:=(List.range h.objs.size).filter fun a=>(H a).isSome
def wL(h:Heap)(H:Hp):Heap:=PySem.W.hideAll h (MA h H)
theorem Cg(h:Heap)(H:Hp):(wL h H).objs.size=h.objs.size:=PySem.W.hideAll_size _ _
theorem Fa{h:Heap}{H:Hp}{b:Addr}{o:Obj}(e:h.get? b=some o)(n:H b=none):(wL h H).get? b=some o :=
 PySem.W.hideAll_get _ e fun hm=>by
  have q:(H b).isSome=true:=(aQl.mp hm).2
  rw[n] at q;simp at q
theorem G_{h:Heap}{H:Hp}{b:Addr}{o:Obj}(e:(wL h H).get? b=some o):h.get? b=some o∧H b=none:=by
 have e':h.get? b=some o:=PySem.W.of_hideAll (MA h H) e
 refine⟨e',?_⟩
 cases q:H b with
 | none=>rfl
 | some x =>
  have hm:b∈MA h H:=aQl.mpr ⟨aXj.mpr (d5 e'),by simp[q]⟩
  have z:(wL h H).get? b=none:=PySem.W.hideAll_none (MA h H) hm
  rw[z] at e;cases e
structure Mod(K:b5)(mg:Str→Option Value)(base:Heap):Prop where
 kin:K.In base
 glob:base.Ns mainGlobals mg
 blt:∃ mb,base.Ns builtinsNs mb∧∀ x:Str,x≠"__name__"→mb x=bootBuiltins x
 nolimit:base.NoLimit
structure Cx where
 prog:Program
 w:World
 K:b5
 mg:Str→Option Value
 base:Heap
 A:Around
 N:List Str
 s₀:Shared
 H₀:Hp
 env:Env
 outer:List Env
 stack:List Env
 ex:List Addr
 fn:Str→Bool
 calm:Bool
 pn:List (Addr×Obj)
 xe:Value→Shared→Prop
def wV(l:List Env):List Addr:=l.filterMap (·.frame)
abbrev Cx.fs(X:Cx):List Addr:=wV X.outer
def Ld(sc:Scope)(x:Str):Prop:=sc.names.lookup x=some .local∨sc.names.lookup x=some .cell∨sc.names.lookup x=some .free
def L6(sc:Scope)(x:Str):Prop:=sc.names.lookup x=some .local∨sc.names.lookup x=some .cell
def MZ(env:Env)(h:Heap)(m:Str→Option Value)(x:Str)(u:Value):Prop :=
 (env.kindOf x=some .local∧m x=some u)∨((env.kindOf x=some .cell∨env.kindOf x=some .free)∧∃ c,env.cells.lookup x=some c∧h.IsCell c (some u))
structure Cx.Ok(X:Cx):Prop where
 mod:Mod X.K X.mg X.base
 kind:X.env.scope.kind=.function
 glob:X.env.globals=mainGlobals
 blt:X.env.builtins=builtinsNs
 above:X.s₀.heap.objs.size≤X.env.locals
 inj:∀ x y c,X.env.cells.lookup x=some c→X.env.cells.lookup y=some c→x=y
 has:∀ x,(X.env.kindOf x=some .cell∨X.env.kindOf x=some .free)→∃ c,X.env.cells.lookup x=some c
 cab:∀ x c,X.fn x=true→X.env.cells.lookup x=some c→X.s₀.heap.objs.size≤c
 hd:X.calm=true→X.A.handled=none
 frames:X.A.frames=some X.stack
 stk:X.stack=X.outer∨(X.stack=X.env::X.outer∧X.env.frame=some X.env.locals)
 exf:∀ b∈X.ex,b≠X.env.locals∧∀ x c,X.env.cells.lookup x=some c→c≠b
 bs:∀ b o,X.base.get? b=some o→X.s₀.heap.get? b=some o∧X.H₀ b=none
 bsz:X.base.objs.size≤X.s₀.heap.objs.size
 noex:∀ b o,X.base.get? b=some o→b ∉ X.ex
 exfs:∀ b∈X.ex,b ∉ X.fs
 funs:X.s₀.heap.FunFrames X.base X.outer
 frf:∀ b∈X.fs,X.H₀ b=none
structure Inv(X:Cx)(pins:List (Addr×Obj))(σ:List (Option V))(H:Hp)(s:Shared):Prop where
 ok:X.Ok
 os:s.os=X.s₀.os
 bare:AllBare s.gens
 base:Un X.fs X.ex X.H₀ H X.s₀.heap s.heap
 loc:∃ m,s.heap.Ns X.env.locals m∧∀ (i:Nat) (x:Str) (v:V),X.N[i]?=some x→σ[i]?=some (some v)→Ld X.env.scope x→∃ u,RelV v u∧MZ X.env s.heap m x u
 cell:∀ x c,X.env.cells.lookup x=some c→∃ v,s.heap.IsCell c v
 free:H X.env.locals=none
 freeC:∀ x c,X.env.cells.lookup x=some c→H c=none
 pin:∀ p∈X.pn++pins,s.heap.get? p.1=some p.2∧H p.1=none∧p.1≠X.env.locals∧p.1 ∉ X.fs∧∀ v,p.2.data≠.cell v
 hok:HOk X.prog X.w H s.heap
 len:σ.length=X.N.length
section
variable {X:Cx}{pins:List (Addr×Obj)}{σ:List (Option V)}{H H':Hp}{s:Shared}{h':Heap}
theorem Cx.Ok.nofr(ok:X.Ok){b:Addr}{o:Obj}(e:X.base.get? b=some o):b ∉ X.fs:=fun hb=>by
 have:=(ok.funs.mem hb).1
 rw[e] at this;cases this
theorem Inv.bs(I:Inv X pins σ H s):∀ b o,X.base.get? b=some o→s.heap.get? b=some o∧H b=none:=fun b o e =>
 ⟨I.base.keep b o (I.ok.bs b o e).1 (I.ok.bs b o e).2 (I.ok.nofr e) (I.ok.noex b o e),I.base.free b o (I.ok.bs b o e).1 (I.ok.bs b o e).2 (I.ok.noex b o e)⟩
theorem Inv.bk(I:Inv X pins σ H s):∀ b o,X.base.get? b=some o→s.heap.get? b=some o:=fun b o e=>(I.bs b o e).1
theorem Inv.mod(I:Inv X pins σ H s):Mod X.K X.mg X.base:=I.ok.mod
theorem Inv.kIn(I:Inv X pins σ H s):X.K.In s.heap:=I.ok.mod.kin.keeps I.bk
theorem Inv.lt(I:Inv X pins σ H s):X.env.locals<s.heap.objs.size:=let ⟨_,hn,_⟩:=I.loc;hn.lt
theorem Inv.sz(I:Inv X pins σ H s):X.s₀.heap.objs.size≤s.heap.objs.size:=j8 I.ok.above (aQT I.lt)
theorem Inv.nofs(I:Inv X pins σ H s){a:Addr}(h:s.heap.objs.size≤a):a ∉ X.fs:=fun hb=>by
 obtain⟨_,o,ho,_⟩:=I.ok.funs.mem hb
 exact absurd (m6 (d5 ho) (j8 I.sz h)) (aQZ _)
theorem Inv.cne(I:Inv X pins σ H s):∀ x c,X.env.cells.lookup x=some c→c≠X.env.locals:=fun x c e z=>by
 obtain⟨v,o,ho,hd⟩:=I.cell x c e
 obtain⟨m,⟨o',es,ep,ho',hd',_⟩,_⟩:=I.loc
 rw[z,ho'] at ho;cases ho;rw[hd'] at hd;cases hd
theorem Inv.funs(I:Inv X pins σ H s):s.heap.FunFrames X.base X.outer:=by
 have all:∀ (l:List Env),(∀ b∈wV l,b∈X.fs)→X.s₀.heap.FunFrames X.base l→s.heap.FunFrames X.base l:=by
  intro l
  induction l with
  | nil=>intro _ _;trivial
  | cons env r ih =>
   intro hs hl
   obtain⟨hk,⟨L,o,hf,hn,ho,hd⟩,hr⟩:=hl
   have hL:L∈X.fs:=hs L (by unfold wV;rw[aQh,hf];exact i9)
   obtain⟨sl,e⟩:=I.base.slot L o ho (I.ok.frf L hL) hL fun z=>I.ok.exfs L z hL
   exact⟨hk,⟨L,_,hf,hn,e,hd⟩,ih (fun b hb=>hs b (by unfold wV;rw[aQh,hf];exact g9 _ hb)) hr⟩
 exact all X.outer (fun _ hb=>hb) I.ok.funs
theorem Inv.stack(I:Inv X pins σ H s):s.heap.FunFrames X.base X.stack:=by
 rcases I.ok.stk with e | ⟨e,hf⟩
 ·rw[e];exact I.funs
 ·rw[e]
  obtain⟨m,hn,_⟩:=I.loc
  refine .cons (by rw[I.ok.kind];decide) hf hn ?_ I.funs
  exact Heap.get?_none_of_le (j8 I.ok.bsz I.ok.above)
theorem Inv.stkSub(I:Inv X pins σ H s):∀ b∈wV X.stack,b∈X.env.locals::X.fs:=fun b hb=>by
 rcases I.ok.stk with e | ⟨e,hf⟩
 ·rw[e] at hb;exact g9 _ hb
 ·rw[e] at hb
  unfold wV at hb
  rw[aQh,hf] at hb
  exact hb
theorem Inv.stkFree(I:Inv X pins σ H s):∀ b∈wV X.stack,H b=none:=fun b hb=>by
 rcases d3.mp (I.stkSub b hb) with e | hb
 ·rw[e];exact I.free
 ·obtain⟨_,o,ho,_⟩:=I.ok.funs.mem hb
  exact I.base.free b o ho (I.ok.frf b hb) fun z=>I.ok.exfs b z hb
theorem Inv.step{g':Array GenState}{t':Nat}{d':Drawn}{ch:List Addr}(I:Inv X pins σ H s)
  (hch:∀ b∈ch,(b∈X.ex∨X.s₀.heap.objs.size≤b)∧b≠X.env.locals∧(∀ x c,X.env.cells.lookup x=some c→c≠b)∧∀ p∈X.pn++pins,p.1≠b)
  (keep:∀ b o,b≠X.env.locals→b ∉ X.fs→b ∉ ch→s.heap.get? b=some o→H b=none→h'.get? b=some o)
  (slot:∀ b o,b≠X.env.locals→b∈X.fs→b ∉ ch→s.heap.get? b=some o→H b=none→∃ sl,h'.get? b=some { o with slots:=sl }) (free:∀ b o,b ∉ ch→s.heap.get? b=some o→H b=none→H' b=none)
  (there:∀ b o,b ∉ ch→s.heap.get? b=some o→∃ o',h'.get? b=some o')
  (tups:∀ b xs,H b=some (.tup xs)→H' b=some (.tup xs)) (frzs:∀ b o u,H b=some (.frz o u)→H' b=some (.frz o u)) (tbls:∀ b ps,H b=some (.tbl ps)→∃ more,H' b=some (.tbl (ps++more)))
  (ns:∀ m,s.heap.Ns X.env.locals m→h'.Ns X.env.locals m) (hok:HOk X.prog X.w H' h') (hg:AllBare g') :
  Inv X pins σ H' { s with heap:=h',gens:=g',drawn:=d',toks:=t' }:=by
 have neL:∀ b o,X.s₀.heap.get? b=some o→b≠X.env.locals:=fun b o e=>d8 (m6 (d5 e) I.ok.above)
 have neC:∀ b o,X.s₀.heap.get? b=some o→b ∉ X.ex→b ∉ ch:=fun b o e hx hb=>by
  rcases(hch b hb).1 with z | z
  ·exact hx z
  ·exact absurd (m6 (d5 e) z) (aQZ _)
 have cellK:∀ x c,X.env.cells.lookup x=some c→∀ v,s.heap.IsCell c v→h'.IsCell c v:=fun x c e v ⟨o,ho,hd⟩=>by
  have nch:c ∉ ch:=fun z=>(hch c z).2.2.1 x c e rfl
  by_cases hc:c∈X.fs
  ·obtain⟨sl,q⟩:=slot c o (I.cne x c e) hc nch ho (I.freeC x c e)
   exact⟨_,q,hd⟩
  ·exact⟨o,keep c o (I.cne x c e) hc nch ho (I.freeC x c e),hd⟩
 refine⟨I.ok,I.os,hg,⟨fun b o e n hb hx=>?_,fun b o e n hb hx=>?_,fun b o e n hx=>?_,fun b o e hx=>?_,fun b xs e=>tups b xs (I.base.tups b xs e),fun b o xs e=>frzs b o xs (I.base.frzs b o xs e),fun b ps e=>?_⟩,?_,fun x c e=>?_,?_,fun x c e=>?_,fun p hp=>?_,hok,I.len⟩
 ·exact keep b o (neL b o e) hb (neC b o e hx) (I.base.keep b o e n hb hx) (I.base.free b o e n hx)
 ·obtain⟨sl,e1⟩:=I.base.slot b o e n hb hx
  obtain⟨sl',e2⟩:=slot b _ (neL b o e) hb (neC b o e hx) e1 (I.base.free b o e n hx)
  exact⟨sl',e2⟩
 ·obtain⟨o',e1⟩:=I.base.there b o e hx
  exact free b o' (neC b o e hx) e1 (I.base.free b o e n hx)
 ·obtain⟨o',e1⟩:=I.base.there b o e hx
  exact there b o' (neC b o e hx) e1
 ·obtain⟨m1,e1⟩:=I.base.tbls b ps e
  obtain⟨m2,e2⟩:=tbls b _ e1
  exact⟨m1++m2,by rw[e2,Array.append_assoc]⟩
 ·obtain⟨m,hn,hl⟩:=I.loc
  refine⟨m,ns m hn,fun i x v e1 e2 e3=>?_⟩
  obtain⟨u,r,l⟩:=hl i x v e1 e2 e3
  refine⟨u,r,?_⟩
  rcases l with l | ⟨k,c,e,z⟩
  ·exact .inl l
  ·exact .inr ⟨k,c,e,cellK x c e _ z⟩
 ·obtain⟨v,z⟩:=I.cell x c e
  exact⟨v,cellK x c e v z⟩
 ·obtain⟨m,⟨o,_,_,ho,_⟩,_⟩:=I.loc
  exact free _ o (fun z=>(hch _ z).2.1 rfl) ho I.free
 ·obtain⟨v,o,ho,hd⟩:=I.cell x c e
  exact free c o (fun z=>(hch c z).2.2.1 x c e rfl) ho (I.freeC x c e)
 ·obtain⟨e,n,ne,nf,d⟩:=I.pin p hp
  have nch:p.1 ∉ ch:=fun z=>(hch p.1 z).2.2.2 p hp rfl
  exact⟨keep p.1 p.2 ne nf nch e n,free p.1 p.2 nch e n,ne,nf,d⟩
theorem Inv.un{t':Nat}(I:Inv X pins σ H s)(u:Un X.fs [] H H' s.heap h')(hok:HOk X.prog X.w H' h'):Inv X pins σ H' { s with heap:=h',toks:=t' }:=by
 obtain⟨m,⟨o,es,ep,ho,r⟩,_⟩:=id I.loc
 obtain⟨sl,hL⟩:=u.any ho I.free (by simp)
 exact I.step (g':=s.gens) (d':=s.drawn) (ch:=[]) (fun _ z=>nomatch z) (fun b o _ hb _ e n=>u.keep b o e n hb (by simp)) (fun b o _ hb _ e n=>u.slot b o e n hb (by simp)) (fun b o _ e n=>u.free b o e n (by simp)) (fun b o _ e=>u.there b o e (by simp)) u.tups u.frzs u.tbls (fun m' hm=>by
  obtain⟨o',es',ep',ho',r'⟩:=hm
  rw[ho] at ho';cases ho'
  exact⟨_,es',ep',hL,r'⟩) hok I.bare
theorem Inv.call{g':Array GenState}{t':Nat}{d':Drawn}{ch:List Addr}(I:Inv X pins σ H s)(u:Un (wV X.stack) ch H H' s.heap h')(hok:HOk X.prog X.w H' h')(hg:AllBare g')
  (hch:∀ b∈ch,(b∈X.ex∨X.s₀.heap.objs.size≤b)∧b≠X.env.locals∧(∀ x c,X.env.cells.lookup x=some c→c≠b)∧∀ p∈X.pn++pins,p.1≠b) :
  Inv X pins σ H' { s with heap:=h',gens:=g',drawn:=d',toks:=t' }:=by
 obtain⟨m,⟨o,es,ep,ho,r⟩,_⟩:=id I.loc
 obtain⟨sl,hL⟩:=u.any ho I.free fun z=>(hch _ z).2.1 rfl
 exact I.step (ch:=ch) hch (fun b o hL hb hc e n=>u.keep b o e n (fun z=>(d3.mp (I.stkSub b z)).elim hL hb) hc) (fun b o _ _ hc e n=>u.any e n hc) (fun b o hc e n=>u.free b o e n hc) (fun b o hc e=>u.there b o e hc) u.tups u.frzs u.tbls (fun m' hm=>by
  obtain⟨o',es',ep',ho',r'⟩:=hm
  rw[ho] at ho';cases ho'
  exact⟨_,es',ep',hL,r'⟩) hok hg
theorem Inv.turned{t':Nat}{it:Addr}(I:Inv X pins σ H s)(k:∀ b o,b≠it→s.heap.get? b=some o→h'.get? b=some o)(hn:H it=none)(hL:it≠X.env.locals)
  (h1:it∈X.ex∨X.s₀.heap.objs.size≤it) (h2:∀ x c,X.env.cells.lookup x=some c→c≠it) (h3:∀ p∈X.pn++pins,p.1≠it):Inv X pins σ H { s with heap:=h',toks:=t' }:=by
 have nit:∀ b u,H b=some u→b≠it:=fun b u e z=>by rw[z,hn] at e;cases e
 refine I.step (g':=s.gens) (d':=s.drawn) (ch:=[it]) (fun b hb=>?_) (fun b o _ _ hc e _=>k b o (fun z=>hc (by simp[z])) e) (fun b o _ _ hc e _=>⟨o.slots,k b o (fun z=>hc (by simp[z])) e⟩) (fun _ _ _ _ n=>n)
  (fun b o hc e=>⟨o,k b o (fun z=>hc (by simp[z])) e⟩) (fun _ _ e=>e) (fun _ _ _ e=>e) (fun b ps e=>⟨#[],by rw[e];simp⟩) (fun m hm=>?_) (fun b u e=>?_) I.bare
 ·have e:b=it:=by simpa using hb
  subst e
  exact⟨h1,hL,h2,h3⟩
 ·obtain⟨o,es,ep,ho,r⟩:=hm
  exact⟨o,es,ep,k _ o (aQX hL) ho,r⟩
 ·refine(I.hok b u e).stay (fun c v hc q=>k c v ?_ q) (fun _ q=>q) fun _ _ q=>q
  rcases hc with z | z
  ·rw[z];exact nit b u e
  ·exact nit c _ z
theorem Inv.tok(I:Inv X pins σ H s)(t:Nat):Inv X pins σ H { s with toks:=t }:=I.un (h':=s.heap) (t':=t) Un.refl I.hok
theorem Inv.kept{t':Nat}(I:Inv X pins σ H s)(k:∀ b u,s.heap.get? b=some u→h'.get? b=some u):Inv X pins σ H { s with heap:=h',toks:=t' }:=I.un (Un.kept k) (I.hok.kept k)
theorem Inv.laid{a:Addr}{o:HO}{t':Nat}(I:Inv X pins σ H s)(k:∀ b u,s.heap.get? b=some u→h'.get? b=some u)(hp:s.heap.objs.size≤a)(new:ObjOk X.prog X.w (upd H a o) h' a o) :
  Inv X pins σ (upd H a o) { s with heap:=h',toks:=t' }:=I.un (Un.laid k hp (I.hok.fresh hp)) (I.hok.laid k hp new)
theorem Inv.write{x e:Addr}{o:HO}{t':Nat}(I:Inv X pins σ H s)(mu:KC (H x))(he:e=x∨H e=some (.own x))(k:∀ b u,b≠e→s.heap.get? b=some u→h'.get? b=some u)(heo:∃ u,h'.get? e=some u)
  (new:ObjOk X.prog X.w (upd H x o) h' x o):Inv X pins σ (upd H x o) { s with heap:=h',toks:=t' }:=I.un (Un.write mu he k heo) (I.hok.write mu he k heo new)
theorem Inv.pins_of{pins':List (Addr×Obj)}(I:Inv X pins σ H s)(h:∀ p∈pins',s.heap.get? p.1=some p.2∧H p.1=none∧p.1≠X.env.locals∧p.1 ∉ X.fs∧∀ v,p.2.data≠.cell v):Inv X pins' σ H s :=
 ⟨I.ok,I.os,I.bare,I.base,I.loc,I.cell,I.free,I.freeC,fun p hp=>(j9.mp hp).elim (fun z=>I.pin p (p7 _ z)) (h p),I.hok,I.len⟩
theorem qZ{N:List Str}(hN:N.Nodup){i j:Nat}{x:Str}(a:N[i]?=some x)(b:N[j]?=some x):i=j:=by
 obtain⟨h1,e1⟩:=a9.mp a
 obtain⟨h2,e2⟩:=a9.mp b
 exact(aXE hN).mp (e1.trans e2.symm)
theorem oE{M:Model}{A:Around}{E:Value→Shared→Prop}{i:Nat}{x:Str}{v:V}{u:Value}{Q:Unit→Shared→Prop}(I:Inv X pins σ H s)(hN:X.N.Nodup)(hi:X.N[i]?=some x)(hx:L6 X.env.scope x)(r:RelV v u)
  (h:∀ s',Inv X pins (σ.set i (some v)) H s'→(∃ a,Heap.SameBut a s.heap s'.heap∧(a=X.env.locals∨X.env.cells.lookup x=some a))→Q () s') (hf:X.fn x=true∨X.env.scope.names.lookup x=some .local:=by first | exact .inl rfl | exact .inr rfl | assumption):wpAny M A (storeName X.env x u) Q E s:=by
 obtain⟨m,hn,hl⟩:=id I.loc
 have hcls:(X.env.scope.kind == .class || (X.env.scope.kind == .module && X.env.locals != X.env.globals))=false:=by rw[I.ok.kind];rfl
 have hiσ:i<σ.length:=by rw[I.len];exact(a9.mp hi).1
 have cne:=I.cne
 have tracked:∀ {a:Addr} {h':Heap},(∃ o,s.heap.get? a=some o∧H a=none)→Heap.SameBut a s.heap h'→HOk X.prog X.w H h':=fun {a h'} ha hs b ob e=>by
  obtain⟨_,_,hfree⟩:=ha
  refine(I.hok b ob e).stay (fun c w' hc q=>(hs.2 c ?_).trans q) (fun _ q=>q) fun _ _ q=>q
  rintro rfl
  rcases hc with rfl | hc
  ·rw[hfree] at e;cases e
  ·rw[hfree] at hc;cases hc
 rcases hx with hk | hk
 ·refine wpAny_storeName_local hk hn (fun h' hn' hs=>?_) hcls
  obtain⟨oL,_,_,hoL,_⟩:=id hn
  refine h _ ⟨I.ok,I.os,I.bare,⟨fun b o e n hb hx=>?_,fun b o e n hb hx=>?_,I.base.free,fun b o e hx=>?_,I.base.tups,I.base.frzs,I.base.tbls⟩,⟨_,hn',fun j y v' e1 e2 e3=>?_⟩,fun y c e=>?_,I.free,I.freeC,fun p hp=>?_,tracked ⟨oL,hoL,I.free⟩ hs,by simpa using I.len⟩ ⟨_,hs,.inl rfl⟩
  ·exact(hs.2 b (d8 (m6 (d5 e) I.ok.above))).trans (I.base.keep b o e n hb hx)
  ·obtain⟨sl,e1⟩:=I.base.slot b o e n hb hx
   exact⟨sl,(hs.2 b (d8 (m6 (d5 e) I.ok.above))).trans e1⟩
  ·obtain⟨o',e1⟩:=I.base.there b o e hx
   exact⟨o',(hs.2 b (d8 (m6 (d5 e) I.ok.above))).trans e1⟩
  ·by_cases hj:j=i
   ·subst hj
    rw[hi] at e1;cases e1
    rw[y0 hiσ] at e2
    cases e2
    exact⟨u,r,.inl ⟨hk,by simp⟩⟩
   ·rw[aQF (aQX hj)] at e2
    obtain⟨u',r',q⟩:=hl j y v' e1 e2 e3
    refine⟨u',r',?_⟩
    rcases q with ⟨k,e⟩ | ⟨k,c,e,z⟩
    ·refine .inl ⟨k,?_⟩
     have:y≠x:=fun e=>hj (qZ hN e1 (e ▸ hi))
     simp[this,e]
    ·exact .inr ⟨k,c,e,z.sameBut hs (cne y c e)⟩
  ·obtain⟨w',z⟩:=I.cell y c e
   exact⟨w',z.sameBut hs (cne y c e)⟩
  ·obtain⟨e,n,ne,nf,d⟩:=I.pin p hp
   exact⟨(hs.2 p.1 ne).trans e,n,ne,nf,d⟩
 ·have hfn:X.fn x=true:=by
   rcases hf with z | z
   ·exact z
   ·rw[z] at hk;cases hk
  obtain⟨c,hc⟩:=I.ok.has x (.inl hk)
  obtain⟨w',z⟩:=I.cell x c hc
  refine wpAny_storeName_cell I.ok.kind hk hc z (fun h' hc' hs=>?_)
  obtain⟨oc,hoc,hocd⟩:=id z
  refine h { s with heap:=h' } ⟨I.ok,I.os,I.bare,⟨fun b o e n hb hx=>?_,fun b o e n hb hx=>?_,I.base.free,fun b o e hx=>?_,I.base.tups,I.base.frzs,I.base.tbls⟩,⟨m,hn.sameBut hs (aQX (cne x c hc)),fun j y v' e1 e2 e3=>?_⟩,fun y c' e=>?_,I.free,I.freeC,fun p hp=>?_,tracked ⟨oc,hoc,I.freeC x c hc⟩ hs,by simpa using I.len⟩ ⟨c,hs,.inr hc⟩
  ·exact(hs.2 b (d8 (m6 (d5 e) (I.ok.cab x c hfn hc)))).trans (I.base.keep b o e n hb hx)
  ·obtain⟨sl,e1⟩:=I.base.slot b o e n hb hx
   exact⟨sl,(hs.2 b (d8 (m6 (d5 e) (I.ok.cab x c hfn hc)))).trans e1⟩
  ·obtain⟨o',e1⟩:=I.base.there b o e hx
   exact⟨o',(hs.2 b (d8 (m6 (d5 e) (I.ok.cab x c hfn hc)))).trans e1⟩
  ·by_cases hj:j=i
   ·subst hj
    rw[hi] at e1;cases e1
    rw[y0 hiσ] at e2
    cases e2
    exact⟨u,r,.inr ⟨.inl hk,c,hc,hc'⟩⟩
   ·rw[aQF (aQX hj)] at e2
    obtain⟨u',r',q⟩:=hl j y v' e1 e2 e3
    refine⟨u',r',?_⟩
    rcases q with q | ⟨k,c',e,z'⟩
    ·exact .inl q
    ·refine .inr ⟨k,c',e,z'.sameBut hs ?_⟩
     rintro rfl
     exact hj (qZ hN e1 (I.ok.inj _ _ _ e hc ▸ hi))
  ·by_cases hcc:c'=c
   ·subst hcc;exact⟨_,hc'⟩
   ·obtain⟨w2,z2⟩:=I.cell y c' e
    exact⟨w2,z2.sameBut hs hcc⟩
  ·obtain⟨e,n,ne,nf,d⟩:=I.pin p hp
   refine⟨(hs.2 p.1 ?_).trans e,n,ne,nf,d⟩
   intro q
   rw[q,hoc] at e
   have q':oc=p.2:=j1 e
   exact d w' (by rw[← q'];exact hocd)
theorem eC{M:Model}{A:Around}{E:Value→Shared→Prop}{i:Nat}{x:Str}{v:V}{u:Value}{Q:Unit→Shared→Prop}(I:Inv X pins σ H s)(hN:X.N.Nodup)(hi:X.N[i]?=some x)(hx:L6 X.env.scope x)(r:RelV v u)
  (h:∀ s',Inv X pins (σ.set i (some v)) H s'→Q () s') (hf:X.fn x=true∨X.env.scope.names.lookup x=some .local:=by first | exact .inl rfl | exact .inr rfl | assumption):wpAny M A (storeName X.env x u) Q E s :=
 oE I hN hi hx r (fun s' I' _=>h s' I') hf
theorem Inv.call'{s':Shared}{ch:List Addr}(I:Inv X pins σ H s)(ho:s'.os=s.os)(u:Un (wV X.stack) ch H H' s.heap s'.heap)(hok:HOk X.prog X.w H' s'.heap)(hg:AllBare s'.gens)
  (hch:∀ b∈ch,(b∈X.ex∨X.s₀.heap.objs.size≤b)∧b≠X.env.locals∧(∀ x c,X.env.cells.lookup x=some c→c≠b)∧∀ p∈X.pn++pins,p.1≠b):Inv X pins σ H' s':=by
 obtain⟨h',g',d',t',o'⟩:=s'
 have e:o'=s.os:=ho
 subst e
 exact I.call (g':=g') (t':=t') (d':=d') u hok hg hch
end
abbrev XK:=Value→Option Addr→Hp→Prop
abbrev St:=List (Option V)
abbrev VK:=V→Hp→Prop
abbrev TE:=St→Hp→VK→Prop
abbrev TT:=St→Hp→(Bool→Hp→Prop)→Prop
abbrev TA:=St→Hp→(List V→Hp→Prop)→Prop
structure Ends where
 nx:St→Hp→Prop
 rt:VK
 bk:St→Hp→Prop:=fun _ _=>False
 ct:St→Hp→Prop:=fun _ _=>False
abbrev TS:=Ends→St→Hp→Prop
def EP(X:Cx)(pins:List (Addr×Obj))(σ:St)(Q:VK)(u:Value)(s':Shared):Prop:=∃ v H',Inv X pins σ H' s'∧RelV v u∧Q v H'
def TP(X:Cx)(pins:List (Addr×Obj))(σ:St)(Q:Bool→Hp→Prop)(b:Bool)(s':Shared):Prop:=∃ H',Inv X pins σ H' s'∧Q b H'
def AP(X:Cx)(pins:List (Addr×Obj))(σ:St)(Q:List V→Hp→Prop)(us:List Value)(s':Shared):Prop:=∃ vs H',Inv X pins σ H' s'∧Vals vs us∧Q vs H'
def SP(X:Cx)(pins:List (Addr×Obj))(D:Ends)(f:Flow)(s':Shared):Prop :=
 match f with
 | .next=>∃ σ' H',Inv X pins σ' H' s'∧D.nx σ' H'
 | .brk=>∃ σ' H',Inv X pins σ' H' s'∧D.bk σ' H'
 | .cont=>∃ σ' H',Inv X pins σ' H' s'∧D.ct σ' H'
 | .ret u=>∃ v σ' H',Inv X pins σ' H' s'∧RelV v u∧D.rt v H'
def PE(X:Cx)(e:Expr)(t:TE):Prop :=
 ∀ (pins:List (Addr×Obj)) (s:Shared) (σ:St) (H:Hp) (Q:VK),Inv X pins σ H s→t σ H Q→wpAny (model X.prog X.w) X.A (eval e X.env) (EP X pins σ Q) X.xe s
def PT(X:Cx)(e:Expr)(t:TT):Prop :=
 ∀ (pins:List (Addr×Obj)) (s:Shared) (σ:St) (H:Hp) (Q:Bool→Hp→Prop),Inv X pins σ H s→t σ H Q→wpAny (model X.prog X.w) X.A (isTrue e X.env (eval e X.env)) (TP X pins σ Q) X.xe s
def PW(X:Cx)(e:Expr)(t:TT):Prop :=
 ∀ (whole:Sem Value) (pins:List (Addr×Obj)) (s:Shared) (σ:St) (H:Hp) (Q:Bool→Hp→Prop),Inv X pins σ H s→t σ H Q→wpAny (model X.prog X.w) X.A (isTrue e X.env whole) (TP X pins σ Q) X.xe s
theorem PW.pt{X:Cx}{e:Expr}{t:TT}(h:PW X e t):PT X e t:=h _
def PA(X:Cx)(es:List Expr)(t:TA):Prop :=
 ∀ (pos:Pos) (pins:List (Addr×Obj)) (s:Shared) (σ:St) (H:Hp) (Q:List V→Hp→Prop),Inv X pins σ H s→t σ H Q→wpAny (model X.prog X.w) X.A (spliced (backTo pos (starEach es X.env))) (AP X pins σ Q) X.xe s
def PS(X:Cx)(st:Stmt)(t:TS):Prop :=
 ∀ (pins:List (Addr×Obj)) (s:Shared) (σ:St) (H:Hp) (D:Ends),Inv X pins σ H s→t D σ H→wpAny (model X.prog X.w) X.A (exec st X.env) (SP X pins D) X.xe s
def PSs(X:Cx)(st:List Stmt)(t:TS):Prop :=
 ∀ (pins:List (Addr×Obj)) (s:Shared) (σ:St) (H:Hp) (D:Ends),Inv X pins σ H s→t D σ H→wpAny (model X.prog X.w) X.A (execs st X.env) (SP X pins D) X.xe s
theorem bS{α:Type}{t:Sem α}{Q Q':α→Shared→Prop}{M:Model}{A:Around}{E:Value→Shared→Prop}{s:Shared}(h:wpAny M A t Q E s)(hQ:∀ a s,Q a s→Q' a s):wpAny M A t Q' E s:=wpAny_mono h hQ fun _ _ x=>x
section
variable {X:Cx}
theorem NP{a b:Expr}{ta tb:TE}(ha:PE X a ta)(hb:PE X b tb){pins:List (Addr×Obj)}{s:Shared}{σ:St}{H:Hp}{R:V→V→Hp→Prop}(I:Inv X pins σ H s)(h:ta σ H fun x H1=>tb σ H1 fun y H2=>R x y H2)
  {α:Type} {Q:α→Shared→Prop} {f:Value→Value→Sem α}
  (hf:∀ v u s2 x y H2,Inv X pins σ H2 s2→RelV x v→RelV y u→R x y H2→wpAny (model X.prog X.w) X.A (f v u) Q X.xe s2) :
  wpAny (model X.prog X.w) X.A (eval a X.env) (fun v s₁=>wpAny (model X.prog X.w) X.A (eval b X.env) (fun u s₂=>wpAny (model X.prog X.w) X.A (f v u) Q X.xe s₂) X.xe s₁) X.xe s:=by
 refine bS (ha pins s σ H _ I h) fun v s1 ⟨x,H1,I1,r1,q1⟩=>?_
 refine bS (hb pins s1 σ H1 _ I1 q1) fun u s2 ⟨y,H2,I2,r2,q2⟩=>?_
 exact hf v u s2 x y H2 I2 r1 r2 q2
def Ak(i:Nat):TE:=fun σ H Q=>∃ v,σ[i]?=some (some v)∧Q v H
def tC(v:V):TE:=fun _ H Q=>Q v H
theorem HN{i:Nat}{x:Str}{pos:Pos}(hN:X.N[i]?=some x)(hv:Ld X.env.scope x)(hd:(x == ("__debug__":Str))=false:=by decide)(hcd:(x == ("__classdict__":Str))=false:=by decide):PE X (.Name x pos) (Ak i):=by
 intro pins s σ H Q I h
 obtain⟨v,e,h⟩:=h
 obtain⟨m,hn,hl⟩:=I.loc
 obtain⟨u,r,l⟩:=hl i x v hN e hv
 have fin:EP X pins σ Q u s:=⟨v,H,I,r,h⟩
 rcases l with ⟨hk,hm⟩ | ⟨hk,c,hc,hcell⟩
 ·exact wpAny_Name (wpAny_loadName_local I.ok.kind hk hn hm fin) hd
 ·rcases hk with hk | hk
  ·exact wpAny_Name (wpAny_loadName_cell I.ok.kind hk hc hcell fin) hd
  ·exact wpAny_Name (wpAny_loadName_free I.ok.kind hk hc hcell fin hcd) hd
theorem aH{i j pos}:PE X (.Constant (.int i) j pos) (tC (.int i)):=fun _ _ _ H _ I h=>wpAny_Constant_int ⟨.int i,H,I.tok _,⟨_,rfl⟩,h⟩
theorem oV{b j pos}:PE X (.Constant (.bool b) j pos) (tC (.bl b)):=fun _ _ _ H _ I h=>Constant_bool ⟨.bl b,H,I,rfl,h⟩
theorem eZ{j pos}:PE X (.Constant .none j pos) (tC .non):=fun _ _ _ H _ I h=>Constant_none ⟨.non,H,I,rfl,h⟩
theorem bV{x j pos}:PE X (.Constant (.str x) j pos) (tC (.str x)):=fun _ _ _ H _ I h=>Calls.Constant_str ⟨.str x,H,I.tok _,⟨_,rfl⟩,h⟩
def Gl(X:Cx)(x:Str):Prop:=X.env.kindOf x=some .globalImplicit
theorem lX{E:Value→Shared→Prop}{pins:List (Addr×Obj)}{s:Shared}{σ:St}{H:Hp}{x:Str}{u:Value}{pos:Pos}{Q:Value→Shared→Prop}(I:Inv X pins σ H s)(hg:Gl X x)(hm:X.mg x=some u)(h:Q u s)
  (hd:(x == ("__debug__":Str))=false:=by decide):wpAny (model X.prog X.w) X.A (eval (.Name x pos) X.env) Q E s :=
 aXt I.ok.kind hg (Calls.loadGlobal_global (by rw[I.ok.glob];exact I.mod.glob.keeps I.bk) hm h) hd
theorem iK{E:Value→Shared→Prop}{pins:List (Addr×Obj)}{s:Shared}{σ:St}{H:Hp}{x:Str}{u:Value}{pos:Pos}{Q:Value→Shared→Prop}(I:Inv X pins σ H s)(hg:Gl X x)(hm:X.mg x=none)(hv:bootBuiltins x=some u)(h:Q u s)
  (hn:x≠"__name__":=by decide) (hd:(x == ("__debug__":Str))=false:=by decide):wpAny (model X.prog X.w) X.A (eval (.Name x pos) X.env) Q E s:=by
 obtain⟨mb,h1,h2⟩:=I.mod.blt
 exact aXt I.ok.kind hg (Calls.loadGlobal_builtin (by rw[I.ok.glob];exact I.mod.glob.keeps I.bk) hm (by rw[I.ok.blt];exact h1.keeps I.bk) ((h2 x hn).trans hv) h) hd
theorem eR{x:Str}{v:V}{u:Value}{pos:Pos}(hg:Gl X x)(hm:X.mg x=some u)(r:RelV v u)(hd:(x == ("__debug__":Str))=false:=by decide):PE X (.Name x pos) (tC v) :=
 fun _ _ _ H _ I h=>lX I hg hm ⟨v,H,I,r,h⟩ hd
theorem GL{x:Str}{v:V}{u:Value}{pos:Pos}(hg:Gl X x)(hm:X.mg x=none)(hv:bootBuiltins x=some u)(r:RelV v u)(hn:x≠"__name__":=by decide)(hd:(x == ("__debug__":Str))=false:=by decide):PE X (.Name x pos) (tC v) :=
 fun _ _ _ H _ I h=>iK I hg hm hv ⟨v,H,I,r,h⟩ hn hd
variable {a b:Expr}{ta tb:TE}{pos:Pos}
def PC(X:Cx)(op:CmpOp)(a b:Expr)(t:TE):Prop :=
 ∀ (pins:List (Addr×Obj)) (s:Shared) (σ:St) (H:Hp) (Q:VK),Inv X pins σ H s→t σ H Q →
  wpAny (model X.prog X.w) X.A (eval a X.env) (fun v s₁=>wpAny (model X.prog X.w) X.A (eval b X.env) (fun u s₂=>wpAny (model X.prog X.w) X.A (compareOp op v u) (EP X pins σ Q) X.xe s₂) X.xe s₁) X.xe s
def tB(t:TE):TT:=fun σ H Q=>t σ H fun x H1=>∃ c,x=.bl c∧Q c H1
theorem IT{op:CmpOp}{t:TE}(h:PC X op a b t)(h1:behindInMarks op b=false:=by first | exact nobehind _ (by decide) (by decide) | rfl):PT X (.Compare a [op] [b] pos) (tB t):=by
 intro pins s σ H Q I hw
 refine wpAny_isTrue_Compare1 (bS (h pins s σ H _ I hw) fun v s1 h1=>bS h1 fun u s2 h2=>bS h2 fun c s3 ⟨x,H1,I1,r1,q1⟩=>?_) h1
 obtain⟨d,rfl,q⟩:=q1
 cases r1
 exact wpAny_truthy_bool ⟨H1,I1,q⟩
theorem fP{e:Expr}{t:TE}(h:PE X e t)(he:∀ whole,isTrue e X.env whole=(do let v ← whole;standAt e.pos;holding [v] (truthy v)):=by intro _;rfl):PT X e (tB t):=by
 intro pins s σ H Q I hw
 refine isTrue_plain (bS (h pins s σ H _ I hw) fun v s1 ⟨x,H1,I1,r1,q1⟩=>?_) (he _)
 obtain⟨d,rfl,q⟩:=q1
 cases r1
 exact wpAny_truthy_bool ⟨H1,I1,q⟩
variable {tA tB':TT}{rest:List Expr}
def MQ(t u:TT):TT:=fun σ H Q=>t σ H fun c H1=>if c=true then u σ H1 Q else Q false H1
def NF(t u:TT):TT:=fun σ H Q=>t σ H fun c H1=>if c=true then Q true H1 else u σ H1 Q
def MT(t:TT):TT:=fun σ H Q=>t σ H fun c H1=>Q (!c) H1
theorem pw_and1(ha:PT X a tA):PW X (.BoolOp .And [a] pos) tA:=by
 intro wh pins s σ H Q I h
 refine isTrue_and (bS (ha pins s σ H Q I h) fun c s1 e=>?_)
 cases c with
 | true=>exact isTrue_and_nil e
 | false=>exact e
theorem pw_or1(ha:PT X a tA):PW X (.BoolOp .Or [a] pos) tA:=by
 intro wh pins s σ H Q I h
 refine isTrue_or (bS (ha pins s σ H Q I h) fun c s1 e=>?_)
 cases c with
 | false=>exact isTrue_or_nil e
 | true=>exact e
theorem pw_and(ha:PT X a tA)(hb:PW X (.BoolOp .And (b::rest) pos) tB'):PW X (.BoolOp .And (a::b::rest) pos) (MQ tA tB'):=by
 intro wh pins s σ H Q I h
 refine isTrue_and (bS (ha pins s σ H _ I h) fun c s1 ⟨H1,I1,q1⟩=>?_)
 cases c with
 | true=>exact hb wh pins s1 σ H1 Q I1 q1
 | false=>exact⟨H1,I1,q1⟩
theorem pw_or(ha:PT X a tA)(hb:PW X (.BoolOp .Or (b::rest) pos) tB'):PW X (.BoolOp .Or (a::b::rest) pos) (NF tA tB'):=by
 intro wh pins s σ H Q I h
 refine isTrue_or (bS (ha pins s σ H _ I h) fun c s1 ⟨H1,I1,q1⟩=>?_)
 cases c with
 | true=>exact⟨H1,I1,q1⟩
 | false=>exact hb wh pins s1 σ H1 Q I1 q1
theorem vQ(ha:PT X a tA):PT X (.UnaryOp .Not a pos) (MT tA):=by
 intro pins s σ H Q I h
 exact isTrue_not (ha pins s σ H (fun c H1=>Q (!c) H1) I h)
def Kt(ta tb:TE):TE:=fun σ H Q=>ta σ H fun x H1=>∃ c,x=.bl c∧if c=true then tb σ H1 Q else Q (.bl false) H1
theorem nW{op}{t:TE}(h:PE X a t):PE X (.BoolOp op [a] pos) t:=fun pins s σ H Q I hw=>BoolOp_one (h pins s σ H Q I hw)
theorem oI(ha:PE X a ta)(hb:PE X (.BoolOp .And (b::rest) pos) tb):PE X (.BoolOp .And (a::b::rest) pos) (Kt ta tb):=by
 intro pins s σ H Q I h
 refine BoolOp_and (bS (ha pins s σ H _ I h) fun v s1 ⟨x,H1,I1,r1,q1⟩=>?_)
 obtain⟨c,rfl,q1⟩:=q1
 cases r1
 refine wpAny_truthy_bool ?_
 cases c with
 | true=>exact hb pins s1 σ H1 Q I1 q1
 | false=>exact⟨.bl false,H1,I1,rfl,q1⟩
def ND(t:TT)(ta tb:TE):TE:=fun σ H Q=>t σ H fun c H1=>if c=true then ta σ H1 Q else tb σ H1 Q
theorem gW{c:Expr}(hc:PT X c tA)(ha:PE X a ta)(hb:PE X b tb):PE X (.IfExp c a b pos) (ND tA ta tb):=by
 intro pins s σ H Q I h
 refine wpAny_IfExp (bS (hc pins s σ H _ I h) fun d s1 ⟨H1,I1,q1⟩=>?_)
 cases d with
 | true=>exact ha pins s1 σ H1 Q I1 q1
 | false=>exact hb pins s1 σ H1 Q I1 q1
end
def SqL(K:b5)(H:Hp)(a:Addr)(xs:List V):Prop :=
 Rd H a (.lst xs) ∨
  ∃ (o:Obj) (its:Array Value) (n:Nat),K.lookup a=some o∧o.cls=.type "list"∧o.dict=none∧o.data=.seq its n∧its.size≤sizeLine∧Vals xs its.toList
def SqT(K:b5)(H:Hp)(a:Addr)(xs:List V):Prop :=
 Rd H a (.tup xs) ∨
  ∃ (o:Obj) (its:Array Value) (n:Nat),K.lookup a=some o∧o.cls=.type "tuple"∧o.data=.seq its n∧its.size≤sizeLine∧Vals xs its.toList
def M9:Value→Option V
 | .none=>some .non
 | .bool b=>some (.bl b)
 | .int i _=>some (.int i)
 | .str x _=>some (.str x)
 | .bytes b _=>some (.byt b)
 | .float b _=>some (.flt b)
 | .ref a=>some (.ref a)
 | .type n=>some (.ty n)
 | _=>none
theorem RelV.abs{x:V}{u:Value}(r:RelV x u):M9 u=some x:=by
 cases x with
 | non=>cases r;rfl
 | bl _=>cases r;rfl
 | int _=>obtain⟨t,rfl⟩:=r;rfl
 | str _=>obtain⟨t,rfl⟩:=r;rfl
 | byt _=>obtain⟨t,rfl⟩:=r;rfl
 | flt _=>obtain⟨t,rfl⟩:=r;rfl
 | ref _=>cases r;rfl
 | ty _=>cases r;rfl
theorem RelV.inj{x y:V}{u:Value}(r:RelV x u)(q:RelV y u):x=y:=j1 (r.abs.symm.trans q.abs)
theorem Vals.inj:∀ {xs ys:List V} {us:List Value},Vals xs us→Vals ys us→xs=ys
 | _,_,_,.nil,.nil=>rfl
 | _,_,_,.cons r t,.cons r' t'=>by rw[r.inj r',Vals.inj t t']
section
variable {X:Cx}{pins:List (Addr×Obj)}{σ:St}{H:Hp}{s:Shared}{a:Addr}{xs ys:List V}
theorem SqL.of{K:b5}(h:H a=some (.lst xs)):SqL K H a xs:=.inl (.inl h)
theorem SqT.of{K:b5}(h:H a=some (.tup xs)):SqT K H a xs:=.inl (.inl h)
theorem Inv.list(I:Inv X pins σ H s)(h:SqL X.K H a xs):∃ its:List Value,Vals xs its∧PlainL s.heap a its.toArray∧xs.length≤sizeLine:=by
 rcases h with h | ⟨o,its,n,hk,hc,hd,hs,hz,r⟩
 ·obtain⟨z,its,n,r,e⟩:=h.ok I.hok
  exact⟨its,r,⟨_,n,e,rfl,rfl,rfl⟩,z⟩
 ·refine⟨its.toList,r,⟨o,n,I.kIn a o hk,hc,hd,by simpa using hs⟩,?_⟩
  have e:=r.length
  simp only [x5] at e
  omega
theorem Inv.tuple(I:Inv X pins σ H s)(h:SqT X.K H a xs):∃ its:List Value,Vals xs its∧IsTup s.heap a its.toArray∧xs.length≤sizeLine:=by
 rcases h with h | ⟨o,its,n,hk,hc,hs,hz,r⟩
 ·obtain⟨z,its,r,p,_⟩:=h.ok I.hok
  exact⟨its,r,p,z⟩
 ·refine⟨its.toList,r,⟨o,I.kIn a o hk,hc,n,by simpa using hs⟩,?_⟩
  have e:=r.length
  simp only [x5] at e
  omega
theorem Inv.list_inj(I:Inv X pins σ H s)(h:SqL X.K H a xs)(h':SqL X.K H a ys):xs=ys:=by
 obtain⟨its,r,⟨o,n,e,_,_,d⟩,_⟩:=I.list h
 obtain⟨its',r',⟨o',n',e',_,_,d'⟩,_⟩:=I.list h'
 rw[e] at e';cases e'
 rw[d] at d'
 injection d' with d1 _
 have:its=its':=by simpa using congrArg Array.toList d1
 subst this
 exact r.inj r'
theorem Inv.tuple_inj(I:Inv X pins σ H s)(h:SqT X.K H a xs)(h':SqT X.K H a ys):xs=ys:=by
 obtain⟨its,r,⟨o,e,_,n,d⟩,_⟩:=I.tuple h
 obtain⟨its',r',⟨o',e',_,n',d'⟩,_⟩:=I.tuple h'
 rw[e] at e';cases e'
 rw[d] at d'
 injection d' with d1 _
 have:its=its':=by simpa using congrArg Array.toList d1
 subst this
 exact r.inj r'
end
abbrev Cx.wish(X:Cx)(E:Value→Shared→Prop):Cx:={ X with xe:=E }
abbrev Cx.nox(X:Cx):Cx:=X.wish fun _ _=>False
theorem Cx.Ok.wish{X:Cx}(ok:X.Ok)(E:Value→Shared→Prop):(X.wish E).Ok :=
 ⟨ok.mod,ok.kind,ok.glob,ok.blt,ok.above,ok.inj,ok.has,ok.cab,ok.hd,ok.frames,ok.stk,ok.exf,ok.bs,ok.bsz,ok.noex,ok.exfs,ok.funs,ok.frf⟩
theorem Cx.Ok.unwish{X:Cx}{E:Value→Shared→Prop}(ok:(X.wish E).Ok):X.Ok :=
 ⟨ok.mod,ok.kind,ok.glob,ok.blt,ok.above,ok.inj,ok.has,ok.cab,ok.hd,ok.frames,ok.stk,ok.exf,ok.bs,ok.bsz,ok.noex,ok.exfs,ok.funs,ok.frf⟩
section
variable {X:Cx}{pins:List (Addr×Obj)}{σ:St}{H:Hp}{s:Shared}{E:Value→Shared→Prop}
theorem Inv.wish(I:Inv X pins σ H s)(E:Value→Shared→Prop):Inv (X.wish E) pins σ H s:=⟨I.ok.wish E,I.os,I.bare,I.base,I.loc,I.cell,I.free,I.freeC,I.pin,I.hok,I.len⟩
theorem Inv.unwish(I:Inv (X.wish E) pins σ H s):Inv X pins σ H s:=⟨I.ok.unwish,I.os,I.bare,I.base,I.loc,I.cell,I.free,I.freeC,I.pin,I.hok,I.len⟩
theorem SP.unwish{D:Ends}{f:Flow}{s':Shared}(h:SP (X.wish E) pins D f s'):SP X pins D f s':=by
 cases f with
 | next=>obtain⟨σ',H',I,q⟩:=h;exact⟨σ',H',I.unwish,q⟩
 | brk=>obtain⟨σ',H',I,q⟩:=h;exact⟨σ',H',I.unwish,q⟩
 | cont=>obtain⟨σ',H',I,q⟩:=h;exact⟨σ',H',I.unwish,q⟩
 | ret u=>obtain⟨v,σ',H',I,r,q⟩:=h;exact⟨v,σ',H',I.unwish,r,q⟩
theorem PSs.nox{st:List Stmt}{t:TS}(h:PSs X.nox st t):PSs X st t:=fun pins s σ H D I hw =>
 wpAny_mono (h pins s σ H D (I.wish _) hw) (fun _ _ q=>q.unwish) fun _ _ z=>False.elim z
end
section
variable {X:Cx}{st:Stmt}{rest:List Stmt}{t u:TS}{e:Expr}{te:TE}{pos:Pos}
def Hr:TS:=fun D σ H=>D.nx σ H
def sO(t u:TS):TS:=fun D σ H=>t { D with nx:=u D } σ H
theorem bI:PSs X [] Hr:=fun _ _ σ H _ I h=>wpAny_execs_nil ⟨σ,H,I,h⟩
theorem aD(h1:PS X st t)(h2:PSs X rest u):PSs X (st::rest) (sO t u):=by
 intro pins s σ H D I h
 refine wpAny_execs_cons (bS (h1 pins s σ H { D with nx:=u D } I h) fun f s1 q=>?_)
 cases f with
 | next =>
  obtain⟨σ',H',I',q⟩:=q
  exact h2 pins s1 σ' H' D I' q
 | ret v=>exact q
 | brk=>exact q
 | cont=>exact q
theorem aF(h1:PS X st t):PSs X [st] t:=by
 intro pins s σ H D I h
 refine wpAny_execs_cons (bS (h1 pins s σ H D I h) fun f s1 q=>?_)
 cases f with
 | next=>exact wpAny_execs_nil q
 | ret v=>exact q
 | brk=>exact q
 | cont=>exact q
theorem Inv.quiet{pins:List (Addr×Obj)}{σ:St}{H:Hp}{s:Shared}(I:Inv X pins σ H s):interactive X.env=false:=by simp[interactive,I.ok.kind]
def K_(te:TE):TS:=fun D σ H=>te σ H fun _ H1=>D.nx σ H1
theorem cA(he:PE X e te)(hs:swapsWith e none pos.line X.env=pure false:=by rfl):PS X (.Expr e pos) (K_ te):=by
 intro pins s σ H D I h
 exact wpAny_Expr_any (bS (he pins s σ H _ I h) fun v s1 ⟨x,H1,I1,r1,q1⟩=>⟨σ,H1,I1,q1⟩) I.quiet hs
def MG(te:TE):TS:=fun D σ H=>te σ H D.rt
theorem aQ(he:PE X e te):PS X (.Return (some e) pos) (MG te):=by
 intro pins s σ H D I h
 exact wpAny_Return_some (bS (he pins s σ H _ I h) fun v s1 ⟨x,H1,I1,r1,q1⟩=>⟨x,σ,H1,I1,r1,q1⟩)
def Nb(c:TT)(t u:TS):TS:=fun D σ H=>c σ H fun b H1=>if b=true then t D σ H1 else u D σ H1
theorem cR{c:Expr}{a b:List Stmt}{tc:TT}(hc:PT X c tc)(ha:PSs X a t)(hb:PSs X b u):PS X (.If c a b pos) (Nb tc t u):=by
 intro pins s σ H D I h
 refine wpAny_If (bS (hc pins s σ H _ I h) fun d s1 ⟨H1,I1,q1⟩=>?_)
 cases d with
 | true=>exact ha pins s1 σ H1 D I1 q1
 | false=>exact hb pins s1 σ H1 D I1 q1
def Kh:TS:=fun _ _ _=>False
theorem uQ{sts:List Stmt}:PSs X sts Kh:=fun _ _ _ _ _ _ h=>h.elim
end
abbrev TG:=V→St→Hp→(St→Hp→Prop)→Prop
abbrev JL:=List V→St→Hp→(St→Hp→Prop)→Prop
def PG(X:Cx)(target:Expr)(t:TG):Prop :=
 ∀ (pins:List (Addr×Obj)) (s:Shared) (σ:St) (H:Hp) (v:V) (u:Value) (Q:St→Hp→Prop),Inv X pins σ H s→RelV v u→t v σ H Q →
  wpAny (model X.prog X.w) X.A (assign target X.env u) (fun _ s'=>∃ σ' H',Inv X pins σ' H' s'∧Q σ' H') X.xe s
def Mr(X:Cx)(ts:List Expr)(t:JL):Prop :=
 ∀ (pins:List (Addr×Obj)) (s:Shared) (σ:St) (H:Hp) (vs:List V) (us:List Value) (Q:St→Hp→Prop),Inv X pins σ H s→Vals vs us→t vs σ H Q →
  wpAny (model X.prog X.w) X.A (assignInOrder ((assignEach ts X.env).map (·.2)) us) (fun _ s'=>∃ σ' H',Inv X pins σ' H' s'∧Q σ' H') X.xe s
abbrev Jw:=V→V→V→Hp→(Hp→Prop)→Prop
def LB(X:Cx)(t:Jw):Prop :=
 ∀ (pins:List (Addr×Obj)) (s:Shared) (σ:St) (H:Hp) (o i v:V) (ov iv u:Value) (Q:Hp→Prop),Inv X pins σ H s→RelV o ov→RelV i iv→RelV v u→t o i v H Q →
  wpAny (model X.prog X.w) X.A (setItem ov iv u) (fun _ s'=>∃ H',Inv X pins σ H' s'∧Q H') X.xe s
abbrev MC:=V→V→Hp→VK→Prop
def Nm(X:Cx)(op:Operator)(t:MC):Prop :=
 ∀ (pins:List (Addr×Obj)) (s:Shared) (σ:St) (H:Hp) (x y:V) (v u:Value) (Q:VK),Inv X pins σ H s→RelV x v→RelV y u→t x y H Q →
  wpAny (model X.prog X.w) X.A (inplaceOp op v u) (EP X pins σ Q) X.xe s
section
variable {X:Cx}{pos:Pos}
def HJ(i:Nat):TG:=fun v σ H Q=>Q (σ.set i (some v)) H
theorem aX{i:Nat}{x:Str}(hN:X.N.Nodup)(hi:X.N[i]?=some x)(hx:L6 X.env.scope x)(hf:X.fn x=true∨X.env.scope.names.lookup x=some .local:=by first | exact .inl rfl | exact .inr rfl | assumption):PG X (.Name x pos) (HJ i):=by
 intro pins s σ H v u Q I r h
 exact wpAny_assign_Name (eC I hN hi hx r (fun s' I'=>⟨_,H,I',h⟩) hf)
def M7:JL:=fun vs σ H Q=>vs=[]∧Q σ H
def Lm(t:TG)(u:JL):JL:=fun vs σ H Q=>∃ v r,vs=v::r∧t v σ H fun σ' H'=>u r σ' H' Q
theorem fH:Mr X [] M7:=by
 intro pins s σ H vs us Q I r h
 obtain⟨e,h⟩:=h
 subst e
 cases r
 exact assignInOrder_nil ⟨σ,H,I,h⟩
theorem bK{e:Expr}{es:List Expr}{t:TG}{u:JL}(h1:PG X e t)(h2:Mr X es u)
  (hs:(assignEach (e::es) X.env).map (·.2)=assign e X.env::(assignEach es X.env).map (·.2):=by rfl):Mr X (e::es) (Lm t u):=by
 intro pins s σ H vs us Q I r h
 obtain⟨v,vr,e1,h⟩:=h
 subst e1
 cases r with
 | cons r rr =>
  rw[hs]
  refine assignInOrder_cons (bS (h1 pins s σ H _ _ _ I r h) fun _ s1 ⟨σ1,H1,I1,q1⟩=>?_)
  exact h2 pins s1 σ1 H1 _ _ Q I1 rr q1
def Nd(to ti:TE)(t:Jw):TG:=fun v σ H Q=>to σ H fun o H1=>ti σ H1 fun i H2=>t o i v H2 fun H3=>Q σ H3
theorem gH{o i:Expr}{to ti:TE}{t:Jw}(ho:PE X o to)(hi:PE X i ti)(hs:LB X t)
  (ha:∀ v,assign (.Subscript o i pos) X.env v=(do
   let ov ← holding [v] (eval o X.env)
   let iv ← holding [v,ov] (eval i X.env)
   standAt pos
   holding [v,ov,iv] (setItem ov iv v)
   release [v,ov,iv] []):=by intro _;rfl):PG X (.Subscript o i pos) (Nd to ti t):=by
 intro pins s σ H v u Q I r h
 rw[ha]
 refine wpAny_bind (wpAny_holding (bS (ho pins s σ H _ I h) fun ov s1 ⟨x,H1,I1,r1,q1⟩=>?_))
 refine wpAny_bind (wpAny_holding (bS (hi pins s1 σ H1 _ I1 q1) fun iv s2 ⟨y,H2,I2,r2,q2⟩=>?_))
 refine wpAny_bind (wpAny_standAt (wpAny_bind (wpAny_holding (bS (hs pins s2 σ H2 x y v ov iv u _ I2 r1 r2 r q2) fun _ s3 ⟨H3,I3,q3⟩=>?_))))
 exact wpAny_release ⟨σ,H3,I3,q3⟩
def Lc(te:TE)(g:TG):TS:=fun D σ H=>te σ H fun x H1=>g x σ H1 D.nx
theorem eV{tg e:Expr}{te:TE}{g:TG}(he:PE X e te)(hg:PG X tg g)(hs:swapsWithSole [tg] e pos.line X.env=pure false:=by rfl)(hw:swappedStores [tg] e X.env=pure none:=by rfl)
  (h1:(assignEach [tg] X.env).map (·.2)=[assign tg X.env]:=by rfl):PS X (.Assign [tg] e pos) (Lc te g):=by
 intro pins s σ H D I h
 refine wpAny_Assign_stores (bS (he pins s σ H _ I h) fun v s1 ⟨x,H1,I1,r1,q1⟩=>?_) hs hw
 rw[h1]
 exact bS (hg pins s1 σ H1 x v _ I1 r1 q1) fun _ s2 q=>q
theorem aM{i:Nat}{x:Str}{e:Expr}{te:TE}{pos':Pos}(hN:X.N.Nodup)(hi:X.N[i]?=some x)(hx:L6 X.env.scope x)(he:PE X e te)(hs:swapsWith e (some (.Name x pos')) pos.line X.env=pure false:=by rfl)(hf:X.fn x=true∨X.env.scope.names.lookup x=some .local:=by first | exact .inl rfl | exact .inr rfl | assumption) :
  PS X (.Assign [.Name x pos'] e pos) (Lc te (HJ i)):=by
 intro pins s σ H D I h
 refine wpAny_Assign_Name (bS (he pins s σ H _ I h) fun v s1 ⟨y,H1,I1,r1,q1⟩=>?_) hs
 exact eC I1 hN hi hx r1 (fun s2 I2=>⟨_,H1,I2,q1⟩) hf
def MO(i j:Nat)(ta:TA):TS:=fun D σ H=>ta σ H fun vs H1=>∃ v w,vs=[v,w]∧D.nx ((σ.set i (some v)).set j (some w)) H1
theorem wD{i j:Nat}{x y:Str}{a b:Expr}{ta:TA}{px py pt:Pos}{kt k2 pt2}(hc:X.calm=true)(hN:X.N.Nodup)(hi:X.N[i]?=some x)(hj:X.N[j]?=some y)(hij:i≠j)
  (hx:X.env.scope.names.lookup x=some .local) (hy:X.env.scope.names.lookup y=some .local) (ha:PA X [a,b] ta)
  (hw:swappedStores [.Tuple [.Name x px,.Name y py] kt pt] (.Tuple [a,b] k2 pt2) X.env=pure (some [x,y]))
  (hs:swapsWithSole [.Tuple [.Name x px,.Name y py] kt pt] (.Tuple [a,b] k2 pt2) pos.line X.env=pure false:=by rfl) :
  PS X (.Assign [.Tuple [.Name x px,.Name y py] kt pt] (.Tuple [a,b] k2 pt2) pos) (MO i j ta):=by
 intro pins s σ H D I h
 rw[exec_Assign_arm]
 refine wpAny_bind (wpAny_standAt ?_)
 rw[hs]
 refine wpAny_bind (wpAny_pure ?_)
 rw[if_neg (by decide)]
 refine wpAny_bind (Tuple_ (bS (ha _ pins s σ H _ I h) fun us s1 ⟨vs,H1,I1,r1,q1⟩=>?_))
 obtain⟨v,w,e1,q1⟩:=q1
 subst e1
 obtain⟨u1,u2,rfl,rv,rw'⟩:∃ u1 u2,us=[u1,u2]∧RelV v u1∧RelV w u2:=by
  cases r1 with
  | cons p q =>
   cases q with
   | cons p' q' =>
    cases q'
    exact⟨_,_,rfl,p,p'⟩
 refine wpAny_newObj_type ?_ (by show 2≤sizeLine;decide)
 have I2:Inv X pins σ H1 { s1 with heap:=s1.heap.push { cls:=.type "tuple",data:=.seq [u1,u2].toArray } }:=I1.kept (t':=s1.toks) fun b o e=>b6 _ e
 rw[hw]
 refine wpAny_bind (wpAny_pure ?_)
 show wpAny (model X.prog X.w) X.A (do rule "assign.swapped-stores";let items ← unpackItems (.ref s1.heap.objs.size) 2 none;assignInOrder [fun v=>bindName X.env y v,fun v=>bindName X.env x v] items.reverse;pure Flow.next) _ _ _
 refine wpAny_bind (wpAny_rule (wpAny_bind (unpackItems_tuple (items:=#[u1,u2]) (I.ok.hd hc) (aX3 s1.heap _) fun h' hx'=>?_)))
 have I3:=I2.kept (h':=h') (t':=s1.toks) fun b o e=>hx' b o (d8 (d5 e)) e
 show wpAny _ _ (assignInOrder [fun v=>bindName X.env y v,fun v=>bindName X.env x v] [u2,u1] >>= fun _=>pure Flow.next) _ _ _
 refine wpAny_bind (assignInOrder_cons (wpAny_bindName (eC I3 hN hj (.inl hy) rw' (fun s2 I4=>?_) (.inr hy))))
 refine assignInOrder_cons (wpAny_bindName (eC I4 hN hi (.inl hx) rv (fun s3 I5=>assignInOrder_nil (wpAny_pure ?_)) (.inr hx)))
 rw[List.set_comm _ _ (aQX hij)] at I5
 exact⟨_,H1,I5,q1⟩
def Nf(i:Nat)(te:TE)(ti:MC):TS:=fun D σ H=>∃ x,σ[i]?=some (some x)∧te σ H fun y H1=>ti x y H1 fun z H2=>D.nx (σ.set i (some z)) H2
theorem JC{i:Nat}{x:Str}{e:Expr}{te:TE}{op:Operator}{ti:MC}{pos':Pos}(hN:X.N.Nodup)(hi:X.N[i]?=some x)(hx:L6 X.env.scope x)(he:PE X e te)(ho:Nm X op ti)(hf:X.fn x=true∨X.env.scope.names.lookup x=some .local:=by first | exact .inl rfl | exact .inr rfl | assumption) :
  PS X (.AugAssign (.Name x pos') op e pos) (Nf i te ti):=by
 intro pins s σ H D I h
 obtain⟨v,e1,h⟩:=h
 obtain⟨m,hn,hl⟩:=I.loc
 have vis:Ld X.env.scope x:=by rcases hx with k | k;exact .inl k;exact .inr (.inl k)
 obtain⟨u,r,l⟩:=hl i x v hi e1 vis
 refine wpAny_AugAssign_Name ?_
 have go:wpAny (model X.prog X.w) X.A (eval e X.env) (fun w s₂=>wpAny (model X.prog X.w) X.A (inplaceOp op u w) (fun r s₃=>wpAny (model X.prog X.w) X.A (storeName X.env x r) (fun _=>SP X pins D .next) X.xe s₃) X.xe s₂) X.xe s:=by
  refine bS (he pins s σ H _ I h) fun w s1 ⟨y,H1,I1,r1,q1⟩=>?_
  refine bS (ho pins s1 σ H1 v y u w _ I1 r r1 q1) fun z s2 ⟨zv,H2,I2,r2,q2⟩=>?_
  exact eC I2 hN hi hx r2 (fun s3 I3=>⟨_,H2,I3,q2⟩) hf
 rcases l with ⟨hk,hm⟩ | ⟨hk,c,hc,hcell⟩
 ·exact wpAny_loadName_local I.ok.kind hk hn hm go
 ·rcases hk with hk | hk
  ·exact wpAny_loadName_cell I.ok.kind hk hc hcell go
  ·rcases hx with k | k
   ·have:X.env.scope.names.lookup x=some .free:=hk
    rw[k] at this;cases this
   ·have:X.env.scope.names.lookup x=some .free:=hk
    rw[k] at this;cases this
def NE(f:Int→Int→Int):MC:=fun x y H Q=>∃ i j,x=.int i∧y=.int j∧Q (.int (f i j)) H
theorem Iv:Nm X .Add (NE fun i j=>i+j):=by
 intro pins s σ H x y v u Q I r1 r2 h
 obtain⟨i,j,e1,e2,q⟩:=h
 subst e1;subst e2
 obtain⟨t,rfl⟩:=r1
 obtain⟨t',rfl⟩:=r2
 exact iadd_int ⟨.int _,H,I.tok _,⟨_,rfl⟩,q⟩
end
section
variable {X:Cx}{pos:Pos}
def Jv(c:TT)(tb:TS):TS:=fun D σ H=>∃ W:Nat→St→Hp→Prop,(∃ m,W m σ H)∧∀ m σ H,W m σ H →
 c σ H fun b H1=>if b=true then ∃ N:St→Hp→Prop,(∀ σ' H',N σ' H'→∃ m',m' < m∧W m' σ' H')∧tb { D with nx:=N,ct:=N,bk:=D.nx } σ H1 else D.nx σ H1
theorem kK{c:Expr}{body:List Stmt}{tc:TT}{tb:TS}(hp:PassesOwn (model X.prog X.w) X.A X.env X.xe)(hc:PT X c tc)(hb:PSs X body tb):PS X (.While c body [] pos) (Jv tc tb):=by
 intro pins s σ H D I h
 obtain⟨W,⟨m0,w0⟩,turn⟩:=h
 refine wpAny_While (codeAny_whileLoop (fun n s'=>∃ σ' H',Inv X pins σ' H' s'∧W n σ' H') ?_ m0 ⟨σ,H,I,w0⟩)
 rintro n s1 ⟨σ1,H1,I1,w1⟩
 refine wpAny_passesOwn hp (bS (hc pins s1 σ1 H1 _ I1 (turn n σ1 H1 w1)) fun b s2 ⟨H2,I2,q2⟩=>?_)
 cases b with
 | true =>
  obtain⟨N,hN,q2⟩:=q2
  rw[if_pos rfl]
  refine wpAny_passesOwn hp (bS (hb pins s2 σ1 H2 _ I2 q2) fun f s3 q3=>?_)
  cases f with
  | next =>
   obtain⟨σ3,H3,I3,n3⟩:=q3
   obtain⟨m',hm,w3⟩:=hN σ3 H3 n3
   exact⟨m',hm,σ3,H3,I3,w3⟩
  | cont =>
   obtain⟨σ3,H3,I3,n3⟩:=q3
   obtain⟨m',hm,w3⟩:=hN σ3 H3 n3
   exact⟨m',hm,σ3,H3,I3,w3⟩
  | brk=>exact q3
  | ret v=>exact q3
 | false =>
  rw[if_neg j2]
  exact wpAny_execs_nil ⟨σ1,H2,I2,q2⟩
end
structure It where
 go:Nat→Hp→Prop
 yld:Nat→Hp→V→Hp→Prop
 stop:Nat→Hp→Prop
def gQ(X:Cx)(pins:List (Addr×Obj))(H:Hp)(b:Addr):Prop :=
 H b=none∧b≠X.env.locals∧b ∉ X.fs∧(b∈X.ex∨X.s₀.heap.objs.size≤b)∧(∀ x c,X.env.cells.lookup x=some c→c≠b)∧∀ p∈X.pn++pins,p.1≠b
theorem Inv.fpOk{X:Cx}{pins:List (Addr×Obj)}{σ:St}{H H':Hp}{s:Shared}{b:Addr}(I:Inv X pins σ H s)(hb:s.heap.objs.size≤b)(hn:H' b=none):gQ X pins H' b:=by
 refine⟨hn,aQU (m6 I.lt hb),I.nofs hb,.inr (j8 I.sz hb),fun x c e z=>?_,fun p hp z=>?_⟩
 ·obtain⟨v,q⟩:=I.cell x c e
  exact absurd (m6 q.lt (by rw[z];exact hb)) (aQZ _)
 ·exact absurd (m6 (d5 (I.pin p hp).1) (by rw[z];exact hb)) (aQZ _)
structure Turn(P:Program)(w:World)(K:b5)(tg:Expr)(J:It)(fp:List Addr)(it:Addr)(tn:Nat→Heap→Prop):Prop where
 mem:it∈fp
 obj:∀ i h,tn i h→∀ b∈fp,∃ o,h.get? b=some o∧∀ v,o.data≠.cell v
 keep:∀ i h h',tn i h→(∀ b∈fp,∀ o,h.get? b=some o→h'.get? b=some o)→tn i h'
 item:∀ (X:Cx),X.prog=P→X.w=w→X.K=K→X.calm=true→∀ (i:Nat) (pins:List (Addr×Obj)) (s:Shared) (σ:St) (H:Hp) (E:Value→Shared→Prop),Inv X pins σ H s→(∀ b∈fp,gQ X pins H b)→tn i s.heap→J.go i H →
  wpAny (model P w) X.A (pyNext (.ref it)) (fun r s1=>∃ u,r=some u ∧
   wpAny (model P w) X.A (letOwnedTupleGo tg (.ref it) u) (fun _ s2=>∃ x H',Inv X pins σ H' s2∧RelV x u∧J.yld i H x H'∧tn (i+1) s2.heap∧∀ b∈fp,H' b=none) E s1) E s
 done:∀ (X:Cx),X.prog=P→X.w=w→X.K=K→X.calm=true→∀ (i:Nat) (pins:List (Addr×Obj)) (s:Shared) (σ:St) (H:Hp) (E:Value→Shared→Prop),Inv X pins σ H s→(∀ b∈fp,gQ X pins H b)→tn i s.heap→J.stop i H →
  wpAny (model P w) X.A (pyNext (.ref it)) (fun r s1=>r=none∧Inv X pins σ H s1) E s
 self:∀ (A:Around) (i:Nat) (s:Shared) (Q:Value→Shared→Prop) (E:Value→Shared→Prop),tn i s.heap→Q (.ref it) s→wpAny (model P w) A (pyIter (.ref it)) Q E s
abbrev TI:=St→Hp→(It→Hp→Prop)→Prop
def Nl(X:Cx)(pins:List (Addr×Obj))(σ:St)(tg:Expr)(R:It→Hp→Prop)(itv:Value)(s2:Shared):Prop :=
 ∃ (it:Addr) (fp:List Addr) (tn:Nat→Heap→Prop) (J:It) (H':Hp),itv=.ref it∧Inv X pins σ H' s2∧Turn X.prog X.w X.K tg J fp it tn∧tn 0 s2.heap∧(∀ b∈fp,gQ X pins H' b)∧R J H'
def PI(X:Cx)(tg iter:Expr)(wi:TI):Prop :=
 ∀ (pins:List (Addr×Obj)) (s:Shared) (σ:St) (H:Hp) (R:It→Hp→Prop),Inv X pins σ H s→wi σ H R →
  wpAny (model X.prog X.w) X.A (eval iter X.env) (fun v s1=>wpAny (model X.prog X.w) X.A (pyIter v) (Nl X pins σ tg R) X.xe s1) X.xe s
theorem uK{M:Model}{A:Around}{E:Value→Shared→Prop}{s:Shared}{tg:Expr}{it:Addr}{u:Value}{o:Obj}{n:String}{vs:Array Value}{Q:Unit→Shared→Prop}(ho:s.heap.get? it=some o)(hc:o.cls=.type n)(hd:o.data=.fields vs)
  (hn:["enumerate","zip","dict_itemiterator","dict_reverseitemiterator","odict_iterator","itertools.zip_longest","itertools.pairwise"].contains n=false) (hQ:Q () s):wpAny M A (letOwnedTupleGo tg (.ref it) u) Q E s:=by
 unfold letOwnedTupleGo
 cases tg <;> first
  | exact wpAny_pure hQ
  | (cases u <;> first
    | exact wpAny_pure hQ
    | (refine wpAny_bind (wpAny_load ho ?_)
       rw[hc,hd]
       show wpAny M A (if (["enumerate","zip","dict_itemiterator","dict_reverseitemiterator","odict_iterator","itertools.zip_longest","itertools.pairwise"].contains n && vs[0]? == some (rawInt _))=true then _ else _) Q E s
       rw[if_neg (by intro h;rw[hn,Bool.false_and] at h;cases h)]
       exact wpAny_pure hQ))
def HS(K:b5)(a:Addr):It :=
 ⟨fun i H=>∃ xs x,SqL K H a xs∧xs[i]?=some x,fun i H x H'=>H'=H∧∀ xs,SqL K H a xs→xs[i]?=some x,fun i H=>∃ xs,SqL K H a xs∧xs.length≤i⟩
def Kk(K:b5)(a:Addr):It :=
 ⟨fun i H=>∃ xs x,SqT K H a xs∧xs[i]?=some x,fun i H x H'=>H'=H∧∀ xs,SqT K H a xs→xs[i]?=some x,fun i H=>∃ xs,SqT K H a xs∧xs.length≤i⟩
def Ju(lo:Int)(n:Nat):It:=⟨fun i _=>i<n,fun i H x H'=>H'=H∧x=.int (lo+i),fun i _=>n≤i⟩
theorem B_{P:Program}{w:World}{K:b5}{tg:Expr}(a it:Addr):Turn P w K tg (HS K a) [it] it (fun i h=>h.IsListIter it a i) where
 mem:=by simp
 obj:=fun i h st b hb=>by
  have e:b=it:=by simpa using hb
  subst e
  obtain⟨o,e,c,d⟩:=st
  exact⟨o,e,fun v z=>by rw[d] at z;cases z⟩
 keep:=fun i h h' st k=>st.at fun o e=>k it (by simp) o e
 item:=by
  intro X hP hw hK hc i pins s σ H E I hf st hg
  subst hP hw hK
  obtain⟨xs,x,hq,hx⟩:=hg
  obtain⟨its,rv,p,hz⟩:=I.list hq
  obtain⟨u,hu,ru⟩:=rv.get hx
  obtain⟨f0,f1,f2,f3,f4,f5⟩:=hf it (by simp)
  refine wpAny_pyNext_list_item st p.isList (x:=u) (by simpa using hu) fun h' st' sb=>?_
  have I1:Inv X pins σ H { s with heap:=h' }:=I.turned (t':=s.toks) (fun b o hb e=>(sb.2 b hb).trans e) f0 f1 f3 f4 f5
  obtain⟨o,e,c,d⟩:=id st'
  exact⟨u,rfl,uK (s:={ s with heap:=h' }) e c d (by decide) ⟨x,H,I1,ru,⟨rfl,fun ys hy=>by rw[I.list_inj hy hq];exact hx⟩,st',fun b hb=>(hf b hb).1⟩⟩
 done:=by
  intro X hP hw hK hc i pins s σ H E I hf st hg
  subst hP hw hK
  obtain⟨xs,hq,hx⟩:=hg
  obtain⟨its,rv,p,hz⟩:=I.list hq
  obtain⟨f0,f1,f2,f3,f4,f5⟩:=hf it (by simp)
  have hl:=rv.length
  exact wpAny_pyNext_list_end (I.ok.hd hc) st p.isList (by simp;omega) fun h' eb=>⟨rfl,I.turned (t':=s.toks) (fun b o hb e=>eb b o hb e) f0 f1 f3 f4 f5⟩
 self:=fun _ _ _ _ _ st h=>wpAny_pyIter_listiter st h
theorem AO{P:Program}{w:World}{K:b5}{tg:Expr}(a it:Addr):Turn P w K tg (Kk K a) [it] it (fun i h=>h.IsTupleIter it a i) where
 mem:=by simp
 obj:=fun i h st b hb=>by
  have e:b=it:=by simpa using hb
  subst e
  obtain⟨o,e,c,d⟩:=st
  exact⟨o,e,fun v z=>by rw[d] at z;cases z⟩
 keep:=fun i h h' st k=>st.at fun o e=>k it (by simp) o e
 item:=by
  intro X hP hw hK hc i pins s σ H E I hf st hg
  subst hP hw hK
  obtain⟨xs,x,hq,hx⟩:=hg
  obtain⟨its,rv,p,hz⟩:=I.tuple hq
  obtain⟨u,hu,ru⟩:=rv.get hx
  obtain⟨f0,f1,f2,f3,f4,f5⟩:=hf it (by simp)
  refine wpAny_pyNext_tuple_item st (show s.heap.IsTuple a its.toArray from p) (x:=u) (by simpa using hu) fun h' st' sb=>?_
  have I1:Inv X pins σ H { s with heap:=h' }:=I.turned (t':=s.toks) (fun b o hb e=>(sb.2 b hb).trans e) f0 f1 f3 f4 f5
  obtain⟨o,e,c,d⟩:=id st'
  exact⟨u,rfl,uK (s:={ s with heap:=h' }) e c d (by decide) ⟨x,H,I1,ru,⟨rfl,fun ys hy=>by rw[I.tuple_inj hy hq];exact hx⟩,st',fun b hb=>(hf b hb).1⟩⟩
 done:=by
  intro X hP hw hK hc i pins s σ H E I hf st hg
  subst hP hw hK
  obtain⟨xs,hq,hx⟩:=hg
  obtain⟨its,rv,p,hz⟩:=I.tuple hq
  obtain⟨f0,f1,f2,f3,f4,f5⟩:=hf it (by simp)
  have hl:=rv.length
  exact wpAny_pyNext_tuple_end (I.ok.hd hc) st (show s.heap.IsTuple a its.toArray from p) (by simp;omega) fun h' eb=>⟨rfl,I.turned (t':=s.toks) (fun b o hb e=>eb b o hb e) f0 f1 f3 f4 f5⟩
 self:=fun _ _ _ _ _ st h=>wpAny_pyIter_tupleiter st h
theorem AS{P:Program}{w:World}{K:b5}{tg:Expr}(it:Addr)(lo:Int)(n:Nat):Turn P w K tg (Ju lo n) [it] it (fun i h=>IsRangeIter h it (lo+(i:Nat) * 1) ((n:Int) - (i:Nat)) 1) where
 mem:=by simp
 obj:=fun i h st b hb=>by
  have e:b=it:=by simpa using hb
  subst e
  exact⟨_,st,fun v z=>by
   have z':Data.fields _=Data.cell v:=z
   cases z'⟩
 keep:=fun i h h' st k=>k it (by simp) _ st
 item:=by
  intro X hP hw hK hc i pins s σ H E I hf st hg
  subst hP hw hK
  obtain⟨f0,f1,f2,f3,f4,f5⟩:=hf it (by simp)
  have W:=Walks.range (prog:=X.prog) (w:=X.w) (I.ok.hd hc) it lo 1 n
  refine W.item i s _ _ hg st fun v h' tk hv st' kk=>?_
  obtain⟨t,rfl⟩:=hv
  have I1:Inv X pins σ H { s with heap:=h',toks:=tk }:=I.turned (fun b o hb e=>kk b o (by simpa using hb) e) f0 f1 f3 f4 f5
  refine⟨_,rfl,uK (s:={ s with heap:=h',toks:=tk }) (n:="range_iterator") st' rfl rfl (by decide) ⟨.int (lo+i),H,I1,⟨t,?_⟩,⟨rfl,rfl⟩,st',fun b hb=>(hf b hb).1⟩⟩
  rw[Int.mul_one]
 done:=by
  intro X hP hw hK hc i pins s σ H E I hf st hg
  subst hP hw hK
  obtain⟨f0,f1,f2,f3,f4,f5⟩:=hf it (by simp)
  exact wpAny_pyNext_range_end (I.ok.hd hc) st (by have:n≤i:=hg;omega) fun h' eb=>⟨rfl,I.turned (t':=s.toks) (fun b o hb e=>eb b o hb e) f0 f1 f3 f4 f5⟩
 self:=fun _ _ _ _ _ st h=>wpAny_pyIter_rangeiter st h
section
variable {X:Cx}{tg:Expr}
def DB(K:b5)(tl:TE):TI:=fun σ H R=>tl σ H fun x H1=>∃ a,x=.ref a∧(∃ xs,SqL K H1 a xs)∧R (HS K a) H1
def Jn(K:b5)(tl:TE):TI:=fun σ H R=>tl σ H fun x H1=>∃ a,x=.ref a∧(∃ xs,SqT K H1 a xs)∧R (Kk K a) H1
theorem GP{l:Expr}{tl:TE}(hl:PE X l tl):PI X tg l (DB X.K tl):=by
 intro pins s σ H R I h
 refine bS (hl pins s σ H _ I h) fun v s1 ⟨x,H1,I1,r1,q1⟩=>?_
 obtain⟨a,e,⟨xs,hq⟩,q⟩:=q1
 subst e
 cases r1
 obtain⟨its,rv,p,hz⟩:=I1.list hq
 refine wpAny_pyIter_list p.isList ?_
 refine⟨s1.heap.objs.size,[s1.heap.objs.size],_,_,H1,rfl,I1.kept (t':=s1.toks) fun b o e=>b6 _ e,B_ a _,⟨_,d9 _ rfl,rfl,rfl⟩,fun b hb=>?_,q⟩
 have e:b=s1.heap.objs.size:=by simpa using hb
 subst e
 exact I1.fpOk (b9 _) (I1.hok.fresh (b9 _))
theorem Il{l:Expr}{tl:TE}(hl:PE X l tl):PI X tg l (Jn X.K tl):=by
 intro pins s σ H R I h
 refine bS (hl pins s σ H _ I h) fun v s1 ⟨x,H1,I1,r1,q1⟩=>?_
 obtain⟨a,e,⟨xs,hq⟩,q⟩:=q1
 subst e
 cases r1
 obtain⟨its,rv,p,hz⟩:=I1.tuple hq
 refine wpAny_pyIter_tuple (show s1.heap.IsTuple a its.toArray from p) ?_
 refine⟨s1.heap.objs.size,[s1.heap.objs.size],_,_,H1,rfl,I1.kept (t':=s1.toks) fun b o e=>b6 _ e,AO a _,⟨_,d9 _ rfl,rfl,rfl⟩,fun b hb=>?_,q⟩
 have e:b=s1.heap.objs.size:=by simpa using hb
 subst e
 exact I1.fpOk (b9 _) (I1.hok.fresh (b9 _))
theorem C_{pins:List (Addr×Obj)}{σ:St}{H:Hp}{s:Shared}{R:It→Hp→Prop}{E:Value→Shared→Prop}{lo hi:Int}{t u v:Tok}{tk:Nat}(I:Inv X pins σ H s)(h1:-(2 ^ 62)≤lo)(h2:lo<2 ^ 62)(h3:-(2 ^ 62)≤hi)(h4:hi<2 ^ 62)
  (q:R (Ju lo (hi - lo).toNat) H):wpAny (model X.prog X.w) X.A (pyIter (.ref s.heap.objs.size)) (Nl X pins σ tg R) E { s with heap:=s.heap.push { cls:=.type "range",data:=.fields #[.int lo t,.int hi u,.int 1 v] },toks:=tk }:=by
 refine wpAny_pyIter_range (IsRange.new ..) (small_one h1 h2 h3 h4) ?_
 have I1:Inv X pins σ H { s with heap:=s.heap.push { cls:=.type "range",data:=.fields #[.int lo t,.int hi u,.int 1 v] },toks:=tk }:=I.kept fun b o e=>b6 _ e
 refine⟨(s.heap.push { cls:=.type "range",data:=.fields #[.int lo t,.int hi u,.int 1 v] }).objs.size,[(s.heap.push { cls:=.type "range",data:=.fields #[.int lo t,.int hi u,.int 1 v] }).objs.size],_,_,H,rfl,
  I1.kept (t':=tk) fun b o e=>b6 _ e,AS _ lo (hi - lo).toNat,?_,fun b hb=>?_,q⟩
 ·have e1:lo+((0:Nat):Int) * 1=lo:=by simp
  have e2:(((hi - lo).toNat:Nat):Int) - ((0:Nat):Int)=Builtin.Range.rangeSize lo hi 1:=by rw[rangeSize_one];split <;> omega
  show IsRangeIter _ _ (lo+((0:Nat):Int) * 1) ((((hi - lo).toNat:Nat):Int) - ((0:Nat):Int)) 1
  rw[e1,e2]
  exact d9 _ rfl
 ·have e:b=(s.heap.push { cls:=.type "range",data:=.fields #[.int lo t,.int hi u,.int 1 v] }).objs.size:=by simpa using hb
  subst e
  exact I1.fpOk (b9 _) (I1.hok.fresh (b9 _))
def LG(ta:TA):TI:=fun σ H R=>ta σ H fun vs H1=>∃ j:Int,vs=[.int j]∧-(2 ^ 62)≤j∧j<2 ^ 62∧R (Ju 0 j.toNat) H1
theorem fN{a:Expr}{ta:TA}{p pos:Pos}(hg:Gl X "range")(hm:X.mg "range"=none)(ha:PA X [a] ta)(hs:starEach [a] X.env=[(false,eval a X.env)]:=by rfl):PI X tg (.Call (.Name "range" p) [a] [] pos) (LG ta):=by
 intro pins s σ H R I h
 refine Call_ (iK I hg hm boot_range (x9 (bS (ha pos pins s σ H _ I h) fun us s1 ⟨vs,H1,I1,r1,q1⟩=>?_) hs rfl))
 obtain⟨j,e,q1,q2,q⟩:=q1
 subst e
 cases r1 with
 | cons r rr =>
  cases rr
  obtain⟨t,rfl⟩:=r
  exact call_range_1 (C_ I1 (by omega) (by omega) q1 q2 (by simpa using q))
def Kz(wi:TI)(g:TG)(tb:TS):TS:=fun D σ H=>wi σ H fun J H1=>∃ W:Nat→Nat→St→Hp→Prop,(∃ m,W 0 m σ H1)∧∀ i m σ H,W i m σ H →
 (J.stop i H∧D.nx σ H)∨(J.go i H∧∃ N:St→Hp→Prop,(∀ σ' H',N σ' H'→∃ m',m' < m∧W (i+1) m' σ' H')∧∀ x H',J.yld i H x H'→g x σ H' fun σ2 H2=>tb { D with nx:=N,ct:=N,bk:=D.nx } σ2 H2)
def jW(fp:List Addr)(h:Heap):List (Addr×Obj):=fp.filterMap fun b=>(h.get? b).map fun o=>(b,o)
theorem fR{fp:List Addr}{h:Heap}{b:Addr}{o:Obj}(hb:b∈fp)(e:h.get? b=some o):(b,o)∈jW fp h:=aZq.mpr ⟨b,hb,by rw[e];rfl⟩
theorem CA{fp:List Addr}{h:Heap}{p:Addr×Obj}(hp:p∈jW fp h):p.1∈fp∧h.get? p.1=some p.2:=by
 obtain⟨b,hb,e⟩:=aZq.mp hp
 cases q:h.get? b with
 | none=>rw[q] at e;cases e
 | some o =>
  rw[q] at e
  have e':(b,o)=p:=j1 e
  subst e'
  exact⟨hb,q⟩
theorem Inv.pinned{pins:List (Addr×Obj)}{σ:St}{H:Hp}{s:Shared}{fp:List Addr}(I:Inv X pins σ H s)(hf:∀ b∈fp,gQ X pins H b)(ho:∀ b∈fp,∃ o,s.heap.get? b=some o∧∀ v,o.data≠.cell v):Inv X (pins++jW fp s.heap) σ H s :=
 I.pins_of fun p hp=>(j9.mp hp).elim (fun z=>I.pin p (j0 _ z)) fun z=>by
  obtain⟨hb,e⟩:=CA z
  obtain⟨f0,f1,f2,_⟩:=hf p.1 hb
  obtain⟨o,e',d⟩:=ho p.1 hb
  rw[e] at e';cases e'
  exact⟨e,f0,f1,f2,d⟩
theorem Inv.unpinned{pins pl:List (Addr×Obj)}{σ:St}{H:Hp}{s:Shared}(I:Inv X (pins++pl) σ H s):Inv X pins σ H s:=I.pins_of fun p hp=>I.pin p (j0 _ (p7 _ hp))
theorem cW{iter:Expr}{body:List Stmt}{wi:TI}{g:TG}{tb:TS}{pos:Pos}(hp:PassesOwn (model X.prog X.w) X.A X.env X.xe)(hc:X.calm=true)(hi:PI X tg iter wi)(hg:PG X tg g)(hb:PSs X body tb)
  (hs:∀ x,foldedSetIterable iter X.env x=pure x:=by intro _;rfl):PS X (.For tg iter body [] pos) (Kz wi g tb):=by
 intro pins s σ H D I h
 refine wpAny_For (bS (hi pins s σ H _ I h) fun v s1 h1=>bS h1 fun itv s2 h2=>?_) hs
 obtain⟨it,fp,tn,J,H2,e,I2,T,st2,f2,W,⟨m0,w0⟩,turn⟩:=h2
 subst e
 -- what stays true of the iterator's objects through the loop
 have stat:∀ {H':Hp},(∀ b∈fp,H' b=none)→∀ b∈fp,gQ X pins H' b:=fun hn b hb=>⟨hn b hb,(f2 b hb).2⟩
 refine codeAny_forLoop_any (fun n s'=>∃ i σ' H',Inv X pins σ' H' s'∧tn i s'.heap∧(∀ b∈fp,H' b=none)∧W i n σ' H') ?_ m0 ⟨0,σ,H2,I2,st2,fun b hb=>(f2 b hb).1,w0⟩
 rintro n s3 ⟨i,σ3,H3,I3,st3,fr3,w3⟩
 rcases turn i n σ3 H3 w3 with ⟨stop,qn⟩ | ⟨go,N,hN,step⟩
 ·refine wpAny_passesOwn hp (bS (T.done X rfl rfl rfl hc i pins s3 σ3 H3 X.xe I3 (stat fr3) st3 stop) fun r s4 ⟨hr,I4⟩=>?_)
  subst hr
  exact wpAny_execs_nil ⟨σ3,H3,I4,qn⟩
 ·refine wpAny_passesOwn hp (bS (T.item X rfl rfl rfl hc i pins s3 σ3 H3 X.xe I3 (stat fr3) st3 go) fun r s4 ⟨u,hr,h4⟩=>?_)
  subst hr
  refine wpAny_passesOwn hp (bS h4 fun _ s5 ⟨x,H5,I5,r5,y5,st5,fr5⟩=>?_)
  have I5':=I5.pinned (stat fr5) (T.obj _ _ st5)
  refine wpAny_passesOwn hp (bS (hg _ s5 σ3 H5 x u _ I5' r5 (step x H5 y5)) fun _ s6 ⟨σ6,H6,I6,q6⟩=>?_)
  refine wpAny_passesOwn hp (bS (hb _ s6 σ6 H6 _ I6 q6) fun f s7 q7=>?_)
  have again:∀ {σ7:St} {H7:Hp},Inv X (pins++jW fp s5.heap) σ7 H7 s7→N σ7 H7→∃ m,m<n∧∃ i σ' H',Inv X pins σ' H' s7∧tn i s7.heap∧(∀ b∈fp,H' b=none)∧W i m σ' H':=fun {σ7 H7} I7 n7=>by
   obtain⟨m',hm,w7⟩:=hN σ7 H7 n7
   refine⟨m',hm,i+1,σ7,H7,I7.unpinned,T.keep _ _ _ st5 fun b hb o e=>(I7.pin (b,o) (j0 _ (j0 _ (fR hb e)))).1,fun b hb=>?_,w7⟩
   obtain⟨o,e,d⟩:=T.obj _ _ st5 b hb
   exact(I7.pin (b,o) (j0 _ (j0 _ (fR hb e)))).2.1
  cases f with
  | next=>obtain⟨σ7,H7,I7,n7⟩:=q7;exact again I7 n7
  | cont=>obtain⟨σ7,H7,I7,n7⟩:=q7;exact again I7 n7
  | brk=>obtain⟨σ7,H7,I7,q7⟩:=q7;exact⟨σ7,H7,I7.unpinned,q7⟩
  | ret v=>obtain⟨x7,σ7,H7,I7,r7,q7⟩:=q7;exact⟨x7,σ7,H7,I7.unpinned,r7,q7⟩
end
theorem fB{K:b5}{a:Addr}{xs:List V}{g:TG}{tb:TS}{D:Ends}{σ:St}{H:Hp}(Pv:Nat→St→Hp→Prop)(h0:Pv 0 σ H)(hl:∀ i σ H,i≤xs.length→Pv i σ H→SqL K H a xs)
  (hs:∀ i x σ H,xs[i]?=some x→Pv i σ H→g x σ H fun σ2 H2=>tb { D with nx:=Pv (i+1),ct:=Pv (i+1),bk:=D.nx } σ2 H2) (hd:∀ σ H,Pv xs.length σ H→D.nx σ H) :
  ∃ W:Nat→Nat→St→Hp→Prop,(∃ m,W 0 m σ H)∧∀ i m σ H,W i m σ H →
   ((HS K a).stop i H∧D.nx σ H)∨((HS K a).go i H∧∃ N:St→Hp→Prop,(∀ σ' H',N σ' H'→∃ m',m' < m∧W (i+1) m' σ' H')∧∀ x H',(HS K a).yld i H x H'→g x σ H' fun σ2 H2=>tb { D with nx:=N,ct:=N,bk:=D.nx } σ2 H2):=by
 refine⟨fun i m σ H=>m=xs.length - i∧i≤xs.length∧Pv i σ H,⟨xs.length,by simp,l9 _,h0⟩,?_⟩
 rintro i m σ H ⟨rfl,hi,p⟩
 have q:=hl i σ H hi p
 by_cases hlt:i<xs.length
 ·refine .inr ⟨⟨xs,xs[i],q,by simp[hlt]⟩,Pv (i+1),fun σ' H' p'=>⟨xs.length - (i+1),by omega,rfl,hlt,p'⟩,fun x H' y=>?_⟩
  obtain⟨e,y⟩:=y
  subst e
  exact hs i x σ _ (y xs q) p
 ·have e:i=xs.length:=by omega
  subst e
  exact .inl ⟨⟨xs,q,b9 _⟩,hd σ H p⟩
theorem Bj{K:b5}{a:Addr}{xs:List V}{g:TG}{tb:TS}{D:Ends}{σ:St}{H:Hp}(Pv:Nat→St→Hp→Prop)(h0:Pv 0 σ H)(hl:∀ i σ H,i≤xs.length→Pv i σ H→SqT K H a xs)
  (hs:∀ i x σ H,xs[i]?=some x→Pv i σ H→g x σ H fun σ2 H2=>tb { D with nx:=Pv (i+1),ct:=Pv (i+1),bk:=D.nx } σ2 H2) (hd:∀ σ H,Pv xs.length σ H→D.nx σ H) :
  ∃ W:Nat→Nat→St→Hp→Prop,(∃ m,W 0 m σ H)∧∀ i m σ H,W i m σ H →
   ((Kk K a).stop i H∧D.nx σ H)∨((Kk K a).go i H∧∃ N:St→Hp→Prop,(∀ σ' H',N σ' H'→∃ m',m' < m∧W (i+1) m' σ' H')∧∀ x H',(Kk K a).yld i H x H'→g x σ H' fun σ2 H2=>tb { D with nx:=N,ct:=N,bk:=D.nx } σ2 H2):=by
 refine⟨fun i m σ H=>m=xs.length - i∧i≤xs.length∧Pv i σ H,⟨xs.length,by simp,l9 _,h0⟩,?_⟩
 rintro i m σ H ⟨rfl,hi,p⟩
 have q:=hl i σ H hi p
 by_cases hlt:i<xs.length
 ·refine .inr ⟨⟨xs,xs[i],q,by simp[hlt]⟩,Pv (i+1),fun σ' H' p'=>⟨xs.length - (i+1),by omega,rfl,hlt,p'⟩,fun x H' y=>?_⟩
  obtain⟨e,y⟩:=y
  subst e
  exact hs i x σ _ (y xs q) p
 ·have e:i=xs.length:=by omega
  subst e
  exact .inl ⟨⟨xs,q,b9 _⟩,hd σ H p⟩
theorem oK{lo:Int}{n:Nat}{g:TG}{tb:TS}{D:Ends}{σ:St}{H:Hp}(Pv:Nat→St→Hp→Prop)(h0:Pv 0 σ H)
  (hs:∀ i σ H,i<n→Pv i σ H→g (.int (lo+i)) σ H fun σ2 H2=>tb { D with nx:=Pv (i+1),ct:=Pv (i+1),bk:=D.nx } σ2 H2) (hd:∀ σ H,Pv n σ H→D.nx σ H) :
  ∃ W:Nat→Nat→St→Hp→Prop,(∃ m,W 0 m σ H)∧∀ i m σ H,W i m σ H →
   ((Ju lo n).stop i H∧D.nx σ H)∨((Ju lo n).go i H∧∃ N:St→Hp→Prop,(∀ σ' H',N σ' H'→∃ m',m' < m∧W (i+1) m' σ' H')∧∀ x H',(Ju lo n).yld i H x H'→g x σ H' fun σ2 H2=>tb { D with nx:=N,ct:=N,bk:=D.nx } σ2 H2):=by
 refine⟨fun i m σ H=>m=n - i∧i≤n∧Pv i σ H,⟨n,by simp,l9 _,h0⟩,?_⟩
 rintro i m σ H ⟨rfl,hi,p⟩
 by_cases hlt:i<n
 ·refine .inr ⟨hlt,Pv (i+1),fun σ' H' p'=>⟨n - (i+1),by omega,rfl,hlt,p'⟩,fun x H' y=>?_⟩
  obtain⟨e,y⟩:=y
  subst e y
  exact hs i σ _ hlt p
 ·have e:i=n:=by omega
  subst e
  exact .inl ⟨b9 _,hd σ H p⟩
abbrev R2:=V→V→Hp→VK→Prop
def jL(X:Cx)(f:Value→Value→Sem Value)(r:R2):Prop :=
 ∀ (pins:List (Addr×Obj)) (s:Shared) (σ:St) (H:Hp) (x y:V) (v u:Value) (Q:VK),Inv X pins σ H s→RelV x v→RelV y u→r x y H Q →
  wpAny (model X.prog X.w) X.A (f v u) (EP X pins σ Q) X.xe s
def MY(X:Cx)(f:Value→Sem Value)(r:V→Hp→VK→Prop):Prop :=
 ∀ (pins:List (Addr×Obj)) (s:Shared) (σ:St) (H:Hp) (x:V) (v:Value) (Q:VK),Inv X pins σ H s→RelV x v→r x H Q →
  wpAny (model X.prog X.w) X.A (f v) (EP X pins σ Q) X.xe s
def dZ(X:Cx)(f:Value)(r:List V→Hp→VK→Prop):Prop :=
 ∀ (pins:List (Addr×Obj)) (s:Shared) (σ:St) (H:Hp) (xs:List V) (us:List Value) (Q:VK),Inv X pins σ H s→Vals xs us→r xs H Q →
  wpAny (model X.prog X.w) X.A (call f us) (EP X pins σ Q) X.xe s
def Ms(r:R2)(ta tb:TE):TE:=fun σ H Q=>ta σ H fun x H1=>tb σ H1 fun y H2=>r x y H2 Q
def NG(r:V→Hp→VK→Prop)(ta:TE):TE:=fun σ H Q=>ta σ H fun x H1=>r x H1 Q
def rI(C:Int→Int→Prop)(g:Int→Int→V):R2:=fun x y H Q=>∃ i j,x=.int i∧y=.int j∧C i j∧Q (g i j) H
def Hq(g:Int→Int→V):R2:=fun x y H Q=>∃ i j,x=.int i∧y=.int j∧Q (g i j) H
def rU(g:Int→V):V→Hp→VK→Prop:=fun x H Q=>∃ i,x=.int i∧Q (g i) H
section
variable {X:Cx}{a b c:Expr}{ta tb tc:TE}{pos:Pos}
theorem HZ(ha:PE X a ta)(hb:PE X b tb){pins:List (Addr×Obj)}{s:Shared}{σ:St}{H:Hp}{R:V→V→Hp→Prop}(I:Inv X pins σ H s)
  (h:ta σ H fun x H1=>tb σ H1 fun y H2=>R x y H2) {Q:Value→Shared→Prop} {f:Value→Value→Sem Value}
  (hf:∀ v u s2 x y H2,Inv X pins σ H2 s2→RelV x v→RelV y u→R x y H2→wpAny (model X.prog X.w) X.A (f v u) Q X.xe s2) :
  wpAny (model X.prog X.w) X.A (eval a X.env) (fun v s₁=>wpAny (model X.prog X.w) X.A (eval b X.env) (fun u s₂=>wpAny (model X.prog X.w) X.A (f v u) Q X.xe s₂) X.xe s₁) X.xe s:=by
 refine bS (ha pins s σ H _ I h) fun v s1 ⟨x,H1,I1,r1,q1⟩=>?_
 refine bS (hb pins s1 σ H1 _ I1 q1) fun u s2 ⟨y,H2,I2,r2,q2⟩=>?_
 exact hf v u s2 x y H2 I2 r1 r2 q2
theorem bG{op:Operator}{r:R2}(ho:jL X (binaryOp op) r)(ha:PE X a ta)(hb:PE X b tb):PE X (.BinOp a op b pos) (Ms r ta tb):=by
 intro pins s σ H Q I h
 exact wpAny_BinOp (HZ ha hb I h fun v u s2 x y H2 I2 rx ry q=>ho pins s2 σ H2 x y v u Q I2 rx ry q)
theorem Es{op:UnaryOp}{r:V→Hp→VK→Prop}(ho:MY X (unaryOp op) r)(ha:PE X a ta):PE X (.UnaryOp op a pos) (NG r ta):=by
 intro pins s σ H Q I h
 exact UnaryOp_ (bS (ha pins s σ H _ I h) fun v s1 ⟨x,H1,I1,r1,q1⟩=>ho pins s1 σ H1 x v Q I1 r1 q1)
theorem MD{f:Value→Value→Sem Value}{C:Int→Int→Prop}{g:Int→Int→Int}
  (rule:∀ (i j:Int) (t u:Tok) (s:Shared) (Q:Value→Shared→Prop) (E:Value→Shared→Prop),C i j→Q (.int (g i j) s.toks) { s with toks:=s.toks+1 }→wpAny (model X.prog X.w) X.A (f (.int i t) (.int j u)) Q E s) :
  jL X f (rI C fun i j=>.int (g i j)):=by
 intro pins s σ H x y v u Q I rx ry h
 obtain⟨i,j,rfl,rfl,hc,q⟩:=h
 obtain⟨t,rfl⟩:=rx
 obtain⟨t',rfl⟩:=ry
 exact rule i j t t' s _ _ hc ⟨.int (g i j),H,I.tok _,⟨_,rfl⟩,q⟩
theorem KU{f:Value→Value→Sem Value}{g:Int→Int→Int}
  (rule:∀ (i j:Int) (t u:Tok) (s:Shared) (Q:Value→Shared→Prop) (E:Value→Shared→Prop),Q (.int (g i j) s.toks) { s with toks:=s.toks+1 }→wpAny (model X.prog X.w) X.A (f (.int i t) (.int j u)) Q E s) :
  jL X f (Hq fun i j=>.int (g i j)):=by
 intro pins s σ H x y v u Q I rx ry h
 obtain⟨i,j,rfl,rfl,q⟩:=h
 obtain⟨t,rfl⟩:=rx
 obtain⟨t',rfl⟩:=ry
 exact rule i j t t' s _ _ ⟨.int (g i j),H,I.tok _,⟨_,rfl⟩,q⟩
theorem F5{f:Value→Value→Sem Value}{g:Int→Int→Bool}
  (rule:∀ (i j:Int) (t u:Tok) (s:Shared) (Q:Value→Shared→Prop) (E:Value→Shared→Prop),Q (.bool (g i j)) s→wpAny (model X.prog X.w) X.A (f (.int i t) (.int j u)) Q E s) :
  jL X f (Hq fun i j=>.bl (g i j)):=by
 intro pins s σ H x y v u Q I rx ry h
 obtain⟨i,j,rfl,rfl,q⟩:=h
 obtain⟨t,rfl⟩:=rx
 obtain⟨t',rfl⟩:=ry
 exact rule i j t t' s _ _ ⟨.bl (g i j),H,I,rfl,q⟩
def M0(i j:Int):Prop:=0<j∧j<1073741824
def Na(i j:Int):Prop:=0≤j∧j≤1000000∧i.natAbs<2 ^ 64
def CMul(i j:Int):Prop:=(-(2 ^ 64)<i∧i<2 ^ 64)∨(-(2 ^ 64)<j∧j<2 ^ 64)
theorem CMul.ok{i j:Int}(h:CMul i j):IntMulOk i j:=by
 rcases h with ⟨h1,h2⟩ | ⟨h1,h2⟩
 ·exact .of_left (intBits_le_64 h1 h2)
 ·exact .of_right (intBits_le_64 h1 h2)
theorem fI:jL X (binaryOp .Add) (Hq fun i j=>.int (i+j)):=KU fun _ _ _ _ _ _ _ q=>add_int q
theorem Av:jL X (binaryOp .Sub) (Hq fun i j=>.int (i - j)):=KU fun _ _ _ _ _ _ _ q=>sub_int q
theorem kB:jL X (binaryOp .Mult) (rI CMul fun i j=>.int (i * j)):=MD fun _ _ _ _ _ _ _ hc q=>mul_int q hc.ok
theorem pM:jL X (binaryOp .FloorDiv) (rI M0 fun i j=>.int (i / j)):=MD fun i j _ _ _ _ _ hc q=>by
 have h1:(0:Int)<j:=hc.1
 have h2:j<1073741824:=hc.2
 exact floordiv_int (by omega) (by rw[Int.fdiv_eq_ediv_of_nonneg i (by omega)];exact q) (.inl (PyProof.noPylong_small (by omega)))
theorem lI:jL X (binaryOp .Mod) (rI (fun _ j=>0<j) fun i j=>.int (i % j)):=MD fun i j _ _ _ _ _ hc q=>by
 have h1:(0:Int)<j:=hc
 exact mod_int' (by omega) (by rw[Int.fmod_eq_emod_of_nonneg i (by omega)];exact q)
theorem JZ:jL X (binaryOp .Pow) (rI Na fun i j=>.int (i ^ j.toNat)):=MD fun _ _ _ _ _ _ _ hc q=>pow_int_small hc.1 hc.2.1 hc.2.2 q
theorem NH{f:Value→Sem Value}{g:Int→Int}
  (rule:∀ (i:Int) (t:Tok) (s:Shared) (Q:Value→Shared→Prop) (E:Value→Shared→Prop),Q (.int (g i) s.toks) { s with toks:=s.toks+1 }→wpAny (model X.prog X.w) X.A (f (.int i t)) Q E s) :
  MY X f (rU fun i=>.int (g i)):=by
 intro pins s σ H x v Q I rx h
 obtain⟨i,rfl,q⟩:=h
 obtain⟨t,rfl⟩:=rx
 exact rule i t s _ _ ⟨.int (g i),H,I.tok _,⟨_,rfl⟩,q⟩
theorem AV:MY X (unaryOp .USub) (rU fun i=>.int (-i)):=NH fun _ _ _ _ _ q=>neg_int q
end
def Mh:V→V→Bool
 | .non,.non=>true | .non,.int _=>true | .int _,.non=>true | .non,.bl _=>true | .bl _,.non=>true | .non,.str _=>true | .str _,.non=>true
 | .int _,.int _=>true | .bl _,.bl _=>true | .str _,.str _=>true | .byt _,.byt _=>true
 | .int _,.str _=>true | .str _,.int _=>true | .bl _,.str _=>true | .str _,.bl _=>true
 | _,_=>false
def Ny:R2:=fun x y H Q=>Mh x y=true∧Q (.bl (decide (x=y))) H
def NK:R2:=fun x y H Q=>Mh x y=true∧Q (.bl (!decide (x=y))) H
theorem A_{i j:Int}:decide (V.int i=V.int j)=(i == j):=by
 rw[aQ7]
 simp
theorem Ev{i j:Bool}:decide (V.bl i=V.bl j)=(i == j):=by
 rw[aQ7]
 simp
theorem Bo{i j:Str}:decide (V.str i=V.str j)=(i == j):=by
 rw[aQ7]
 simp
theorem BD{i j:Array UInt8}:decide (V.byt i=V.byt j)=(i.toList == j.toList):=by
 rw[aQ7]
 cases i
 cases j
 simp
section
variable {X:Cx}{a b c:Expr}{ta tb tc:TE}{pos:Pos}
theorem bQ{pins:List (Addr×Obj)}{σ:St}{H:Hp}{s:Shared}{Q:VK}{k k':Bool}(I:Inv X pins σ H s)(q:Q (.bl k) H)(e:k=k'):EP X pins σ Q (.bool k') s:=by
 subst e
 exact⟨.bl k,H,I,rfl,q⟩
theorem eM:jL X (compareOp .Eq) Ny:=by
 intro pins s σ H x y v u Q I rx ry h
 obtain⟨hs,q⟩:=h
 cases x with
 | non =>
  cases rx
  cases y with
  | non=>cases ry;exact aJw (bQ I q (by simp))
  | bl j=>cases ry;exact aJx (bQ I q (by simp))
  | int j=>obtain⟨t',rfl⟩:=ry;exact aKG (bQ I q (by simp))
  | str j=>obtain⟨t',rfl⟩:=ry;exact aKH (bQ I q (by simp))
  | _=>exact absurd (show false=true from hs) j2
 | bl i =>
  cases rx
  cases y with
  | non=>cases ry;exact aJy (bQ I q (by simp))
  | bl j=>cases ry;exact eq_bool (bQ I q Ev)
  | str j=>obtain⟨t',rfl⟩:=ry;exact aJz (bQ I q (by simp))
  | _=>exact absurd (show false=true from hs) j2
 | int i =>
  obtain⟨t,rfl⟩:=rx
  cases y with
  | non=>cases ry;exact aKI (bQ I q (by simp))
  | int j=>obtain⟨t',rfl⟩:=ry;exact eq_int (bQ I q A_)
  | str j=>obtain⟨t',rfl⟩:=ry;exact aKJ (bQ I q (by simp))
  | _=>exact absurd (show false=true from hs) j2
 | str i =>
  obtain⟨t,rfl⟩:=rx
  cases y with
  | non=>cases ry;exact aKK (bQ I q (by simp))
  | bl j=>cases ry;exact aKA (bQ I q (by simp))
  | int j=>obtain⟨t',rfl⟩:=ry;exact aKL (bQ I q (by simp))
  | str j=>obtain⟨t',rfl⟩:=ry;exact eq_str (bQ I q Bo)
  | _=>exact absurd (show false=true from hs) j2
 | byt i =>
  obtain⟨t,rfl⟩:=rx
  cases y with
  | byt j=>obtain⟨t',rfl⟩:=ry;exact PySem.W.eq_bytes (bQ I q BD)
  | _=>exact absurd (show false=true from hs) j2
 | _=>cases y <;> exact absurd (show false=true from hs) j2
theorem jV:jL X (compareOp .NotEq) NK:=by
 intro pins s σ H x y v u Q I rx ry h
 obtain⟨hs,q⟩:=h
 cases x with
 | non =>
  cases rx
  cases y with
  | non=>cases ry;exact aKB (bQ I q (by simp))
  | bl j=>cases ry;exact aKC (bQ I q (by simp))
  | int j=>obtain⟨t',rfl⟩:=ry;exact aKM (bQ I q (by simp))
  | str j=>obtain⟨t',rfl⟩:=ry;exact aKN (bQ I q (by simp))
  | _=>exact absurd (show false=true from hs) j2
 | bl i =>
  cases rx
  cases y with
  | non=>cases ry;exact aKD (bQ I q (by simp))
  | bl j=>cases ry;exact ne_bool (bQ I q (congrArg not Ev))
  | str j=>obtain⟨t',rfl⟩:=ry;exact aKE (bQ I q (by simp))
  | _=>exact absurd (show false=true from hs) j2
 | int i =>
  obtain⟨t,rfl⟩:=rx
  cases y with
  | non=>cases ry;exact aKO (bQ I q (by simp))
  | int j=>obtain⟨t',rfl⟩:=ry;exact ne_int (bQ I q (congrArg not A_))
  | str j=>obtain⟨t',rfl⟩:=ry;exact aKP (bQ I q (by simp))
  | _=>exact absurd (show false=true from hs) j2
 | str i =>
  obtain⟨t,rfl⟩:=rx
  cases y with
  | non=>cases ry;exact aKQ (bQ I q (by simp))
  | bl j=>cases ry;exact aKF (bQ I q (by simp))
  | int j=>obtain⟨t',rfl⟩:=ry;exact aKR (bQ I q (by simp))
  | str j=>obtain⟨t',rfl⟩:=ry;exact ne_str (bQ I q (congrArg not Bo))
  | _=>exact absurd (show false=true from hs) j2
 | byt i =>
  obtain⟨t,rfl⟩:=rx
  cases y with
  | byt j=>obtain⟨t',rfl⟩:=ry;exact PySem.W.ne_bytes (bQ I q (congrArg not BD))
  | _=>exact absurd (show false=true from hs) j2
 | _=>cases y <;> exact absurd (show false=true from hs) j2
theorem BH:jL X (compareOp .Lt) (Hq fun i j=>.bl (decide (i<j))):=F5 fun _ _ _ _ _ _ _ q=>lt_int q
theorem DA:jL X (compareOp .LtE) (Hq fun i j=>.bl (decide (i≤j))):=F5 fun _ _ _ _ _ _ _ q=>le_int q
theorem BU:jL X (compareOp .Gt) (Hq fun i j=>.bl (decide (j<i))):=F5 fun _ _ _ _ _ _ _ q=>gt_int q
theorem Kr:jL X (compareOp .GtE) (Hq fun i j=>.bl (decide (j≤i))):=F5 fun _ _ _ _ _ _ _ q=>ge_int q
theorem wH:jL X (compareOp .Is) (fun x y H Q=>y=.non∧Q (.bl (decide (x=.non))) H):=by
 intro pins s σ H x y v u Q I rx ry h
 obtain⟨rfl,q⟩:=h
 cases ry
 refine is_none_gen (bQ I q ?_)
 cases x <;> first
  | (cases rx;rfl)
  | (obtain⟨t,rfl⟩:=rx;rfl)
theorem vX:jL X (compareOp .IsNot) (fun x y H Q=>y=.non∧Q (.bl (!decide (x=.non))) H):=by
 intro pins s σ H x y v u Q I rx ry h
 obtain⟨rfl,q⟩:=h
 cases ry
 refine isnot_none_gen (bQ I q ?_)
 cases x <;> first
  | (cases rx;rfl)
  | (obtain⟨t,rfl⟩:=rx;rfl)
theorem aS(b:Expr){op:CmpOp}(h:op≠.In:=by decide)(h2:op≠.NotIn:=by decide):behindInMarks op b=false:=by
 have e1:(op == CmpOp.In)=false:=by cases op <;> first | rfl | exact absurd rfl h
 have e2:(op == CmpOp.NotIn)=false:=by cases op <;> first | rfl | exact absurd rfl h2
 cases b <;> simp[behindInMarks,e1,e2]
theorem dI{op:CmpOp}{r:R2}(ho:jL X (compareOp op) r)(ha:PE X a ta)(hb:PE X b tb)(hm:behindInMarks op b=false):PE X (.Compare a [op] [b] pos) (Ms r ta tb):=by
 intro pins s σ H Q I h
 exact wpAny_Compare1 (HZ ha hb I h fun v u s2 x y H2 I2 rx ry q=>ho pins s2 σ H2 x y v u Q I2 rx ry q) hm
def KL(t:TE):TT:=fun σ H Q=>t σ H fun x H'=>∃ k,x=.bl k∧Q k H'
theorem aT{op:CmpOp}{r:R2}(ho:jL X (compareOp op) r)(ha:PE X a ta)(hb:PE X b tb)(hm:behindInMarks op b=false):PT X (.Compare a [op] [b] pos) (KL (Ms r ta tb)):=by
 intro pins s σ H Q I h
 refine wpAny_isTrue_Compare1 (bS (ha pins s σ H _ I h) fun v s1 ⟨x,H1,I1,r1,q1⟩=>bS (hb pins s1 σ H1 _ I1 q1) fun u s2 ⟨y,H2,I2,r2,q2⟩ =>
  bS (ho pins s2 σ H2 x y v u _ I2 r1 r2 q2) fun c s3 ⟨z,H3,I3,r3,k,e,q3⟩=>?_) hm
 subst e
 cases r3
 exact wpAny_truthy_bool ⟨H3,I3,q3⟩
theorem nT:(sizeLine:Nat)<2 ^ 63:=by rw[sizeLine_eq];decide
theorem eB:jL X (binaryOp .Add) (fun x y H Q=>∃ i j,x=.str i∧y=.str j∧i.length+j.length≤sizeLine∧Q (.str (i++j)) H):=by
 intro pins s σ H x y v u Q I rx ry h
 obtain⟨i,j,rfl,rfl,hz,q⟩:=h
 obtain⟨t,rfl⟩:=rx
 obtain⟨t',rfl⟩:=ry
 exact add_str (fun t' tk=>⟨.str (i++j),H,I.tok _,⟨_,rfl⟩,q⟩) hz
theorem mZ{x:V}{us:List Value}(r:Vals [x] us):∃ u,us=[u]∧RelV x u:=by
 cases r with
 | cons r1 r2=>cases r2;exact⟨_,rfl,r1⟩
theorem LJ{x y:V}{us:List Value}(r:Vals [x,y] us):∃ u w',us=[u,w']∧RelV x u∧RelV y w':=by
 cases r with
 | cons r1 r2 =>
  cases r2 with
  | cons r3 r4=>cases r4;exact⟨_,_,rfl,r1,r3⟩
theorem gU:dZ X (.type "int") (fun xs H Q=>(∃ i,xs=[.int i]∧Q (.int i) H)∨∃ k,xs=[.bl k]∧Q (.int (if k then 1 else 0)) H):=by
 intro pins s σ H xs us Q I r h
 rcases h with ⟨i,rfl,q⟩ | ⟨k,rfl,q⟩
 ·obtain⟨u,rfl,t,rfl⟩:=mZ r
  exact call_int_int ⟨.int i,H,I,⟨_,rfl⟩,q⟩
 ·obtain⟨u,rfl,r1⟩:=mZ r
  cases r1
  exact call_int_bool ⟨.int (if k then 1 else 0),H,I.tok _,⟨_,rfl⟩,q⟩
end
structure ObjM(h:Heap)(x dx C:Addr)(mA:Str→Option Value):Prop where
 obj:h.get? x=some (PySem.W.instObj C dx)
 ns:h.Ns1 dx mA
 ne:dx≠x
theorem uM{h:Heap}{dx:Addr}{mA:Str→Option Value}(n:h.Ns1 dx mA):∃ od,h.get? dx=some od∧∀ name,PySem.W.lookIn name od=some (mA name):=by
 obtain⟨o,es,ep,ho,hd,hk,_,hm⟩:=n
 refine⟨o,ho,fun name=>?_⟩
 have e:=hm name
 unfold nsFind findBy at e
 rw[← Array.find?_toList] at e
 unfold PySem.W.lookIn
 rw[hd]
 dsimp only
 split
 ·rename_i y q
  rw[q] at e
  exact congrArg some e
 ·rename_i q
  rw[q] at e
  have a:es.toList.any (·.refKey)=false:=by
   rw[List.any_eq_false]
   intro y hy
   obtain⟨z,t,hkey⟩:=hk y (Array.mem_toList_iff.mp hy)
   simp[DictEntry.refKey,hkey]
  have a':¬ es.toList.any (·.refKey)=true:=by rw[a];exact j2
  rw[if_neg a']
  exact congrArg some e
theorem ObjM.look{h:Heap}{x dx C:Addr}{mA:Str→Option Value}(I:ObjM h x dx C mA):∃ od,PySem.W.InstAt h x (PySem.W.instObj C dx) C (some od)∧∀ name,PySem.W.lookIn name od=some (mA name) :=
 let ⟨od,ho,hl⟩:=uM I.ns
 ⟨od,⟨I.obj,rfl,rfl,ho⟩,hl⟩
section
variable {prog:Program}{w:World}{A:Around}{E:Value→Shared→Prop}{s:Shared}{K:b5}{x dx C f:Addr}{mA:Str→Option Value}{name:Str}{v:Value}
theorem FZ{expr:Bool}{Q:Value→Shared→Prop}(X:K.In s.heap)(I:ObjM s.heap x dx C mA)(hg:PySem.W.plainGet K C name=true)(hh:PySem.W.hasDictIn K C=true)
  (ha:PySem.W.findIn K (.ref C) name=some none) (hv:mA name=some v) (hv':PySem.W.handedIn v=true) (h:Q v { s with toks:=s.toks+1 }) :
  wpAny (model prog w) A (getAttr (.ref x) name expr) Q E s:=by
 obtain⟨od,J,hl⟩:=I.look
 exact PySem.W.get_value X J (aXf hg).1 (aZf hh ha rfl (by rw[hl,hv])) hv' h
theorem DQ{pl:Sem Bool}{Q:Value×List Value→Shared→Prop}(X:K.In s.heap)(I:ObjM s.heap x dx C mA)(hg:PySem.W.plainGet K C name=true)
  (hf:PySem.W.findIn K (.ref C) name=some (some (.ref f))) (ht:PySem.W.isFn K (.ref f)=true) (hv:mA name=none) (h:Q (.ref f,[.ref x]) s) :
  wpAny (model prog w) A (getMethod (.ref x) name pl) Q E s:=by
 obtain⟨od,J,hl⟩:=I.look
 exact PySem.W.method_fn X J (aXf hg).1 (aXf hg).2 hf (beq_iff_eq.mp ht) (by show (PySem.W.lookIn name od).map (·.isSome)=some false;rw[hl,hv];rfl) h
theorem GA{ns:List Str}{Q:Unit→Shared→Prop}(X:K.In s.heap)(I:ObjM s.heap x dx C mA)
  (hs:PySem.W.findIn K (.ref C) "__setattr__"=some (some (.builtin "object.__setattr__"))) (hp:PySem.W.plainOver K C=true) (ht:PySem.W.takerIn K C name=some none) (hh:PySem.W.hasDictIn K C=true)
  (hw:PySem.Within mA ns) (hsz:ns.length≤sizeLine)
  (h:∀ h',ObjM h' x dx C (fun y=>if y=name then some v else mA y)→Heap.SameBut dx s.heap h'→Q () { s with heap:=h',toks:=s.toks+2 }) :
  wpAny (model prog w) A (setAttr (.ref x) name v) Q E s:=by
 obtain⟨od,J,hl⟩:=I.look
 refine aJJ X J hs (PySem.W.osa_open (s:={ s with toks:=s.toks+1 }) (r:=none) X J hp ht fun b=>?_)
 obtain⟨cd,hc,hd'⟩:=PySem.W.any_some hh
 have hx:s.heap.get? x=some ⟨.ref C,some dx,.plain,#[]⟩:=I.obj
 refine wpAny_bind (wpAny_pure (wpAny_bind (wpAny_bind (wpAny_loadPart hx (wpAny_bind (aK3 (s:={ s with toks:=s.toks+1 }) (aXg X hc) ?_))))))
 rw[hd']
 refine wpAny_pure (a:=some dx) (wpAny_bind (wpAny_pure (wpAny_bind ?_)))
 refine wpAny_nsSet1 (s:={ s with toks:=s.toks+1 }) I.ns fun h' hn2 hs2=>?_
 obtain⟨oD,esD,epD,hoD,hdD,hcD⟩:=hn2.count (aK5 name v hw)
 refine wpAny_bind (wpAny_lookBehind hoD (by rw[hdD];exact pastItsLine_dict (j8 hcD (by rw[l7];omega))) ?_)
 exact wpAny_pure (h _ ⟨(hs2.2 _ (aQX I.ne)).trans I.obj,hn2,I.ne⟩ hs2)
theorem Fh{R:Result→Shared→Prop}{vs:List Value}{kw:List (Str×Value)}(X:K.In s.heap)(hm:PySem.W.makesIn K C=true)
  (hi:PySem.W.findIn K (.ref C) "__init__"=some (some (.ref f))) (hf:PySem.W.typeIn K (.ref f)=some (.type "function"))
  (h:codeAny (model prog w) (A.under (.builtin "type.__call__" ⟨.ref C::vs,kw⟩)) (.call (.ref f) ⟨.ref (s.heap.objs.size+1)::vs,kw⟩) (PySem.W.InitBack (s.heap.objs.size+1) R)
   { s with heap:=(s.heap.push PySem.W.emptyDict).push (PySem.W.instObj C s.heap.objs.size) }) :
  codeAny (model prog w) A (.call (.ref C) ⟨vs,kw⟩) R s:=by
 obtain⟨hh,g,d,t,os⟩:=s
 exact PySem.W.make_core (PySem.W.makes_of X hm) (aQd X hi) (fun self=>aJc X self hf) (.inl rfl) h
end
def fY(f:Str)(v:V):List (Str×V)→List (Str×V)
 | []=>[(f,v)]
 | (g,x)::r=>if g=f then (g,v)::r else (g,x)::fY f v r
theorem bJ(f g:Str)(v:V):∀ fs:List (Str×V),(fY f v fs).lookup g=if g=f then some v else fs.lookup g
 | []=>by
  show List.lookup g [(f,v)]=_
  by_cases h:g=f
  ·have hb:(g == f)=true:=beq_iff_eq.mpr h
   simp only [List.lookup,hb,if_pos h]
  ·have hb:(g == f)=false:=beq_eq_false_iff_ne.mpr h
   simp only [List.lookup,hb,if_neg h]
 | (k,x)::r=>by
  have ih:=bJ f g v r
  rw[show fY f v ((k,x)::r)=(if k=f then (k,v)::r else (k,x)::fY f v r) from rfl]
  by_cases hk:k=f
  ·rw[if_pos hk]
   by_cases h:g=k
   ·have hb:(g == k)=true:=beq_iff_eq.mpr h
    simp only [List.lookup,hb,if_pos (h.trans hk)]
   ·have hb:(g == k)=false:=beq_eq_false_iff_ne.mpr h
    simp only [List.lookup,hb,if_neg (fun e:g=f=>h (e.trans hk.symm))]
  ·rw[if_neg hk]
   by_cases h:g=k
   ·have hb:(g == k)=true:=beq_iff_eq.mpr h
    simp only [List.lookup,hb,if_neg (fun e:g=f=>hk (h.symm.trans e))]
   ·have hb:(g == k)=false:=beq_eq_false_iff_ne.mpr h
    simp only [List.lookup,hb]
    exact ih
theorem nR(f:Str)(v:V):∀ fs:List (Str×V),f∈(fY f v fs).map (·.1)∧∀ g,g∈fs.map (·.1)→g∈(fY f v fs).map (·.1)
 | []=>⟨by simp[fY],fun g h=>by simp at h⟩
 | (k,x)::r=>by
  obtain⟨i1,i2⟩:=nR f v r
  rw[show fY f v ((k,x)::r)=(if k=f then (k,v)::r else (k,x)::fY f v r) from rfl]
  by_cases hk:k=f
  ·rw[if_pos hk]
   subst hk
   exact⟨by simp,fun g h=>by simpa using h⟩
  ·rw[if_neg hk]
   refine⟨?_,fun g h=>?_⟩
   ·rw[i8]
    exact g9 _ i1
   ·rw[i8] at h ⊢
    rcases d3.mp h with e | e
    ·exact d3.mpr (.inl e)
    ·exact g9 _ (i2 g e)
theorem oO(f:Str)(v:V):∀ fs:List (Str×V),(fY f v fs).length≤fs.length+1
 | []=>by simp[fY]
 | (k,x)::r=>by
  have ih:=oO f v r
  rw[show fY f v ((k,x)::r)=(if k=f then (k,v)::r else (k,x)::fY f v r) from rfl]
  by_cases hk:k=f
  ·rw[if_pos hk,l7,l7];omega
  ·rw[if_neg hk,l7,l7];omega
theorem RelO.some_of{v:V}{o:Option Value}(r:RelO (some v) o):∃ u,o=some u∧RelV v u:=by
 cases o with
 | none=>exact(show False from r).elim
 | some u=>exact⟨u,rfl,r⟩
theorem RelO.none_of{o:Option Value}(r:RelO none o):o=none:=by
 cases o with
 | none=>rfl
 | some u=>exact(show False from r).elim
theorem uS{v:V}{u:Value}(r:RelV v u):PySem.W.handedIn u=true:=by
 cases v with
 | non=>cases (show u=Value.none from r);rfl
 | bl b=>cases (show u=Value.bool b from r);rfl
 | int i=>obtain⟨t,e⟩:=(show ∃ t,u=Value.int i t from r);cases e;rfl
 | str x=>obtain⟨t,e⟩:=(show ∃ t,u=Value.str x t from r);cases e;rfl
 | byt b=>obtain⟨t,e⟩:=(show ∃ t,u=Value.bytes b t from r);cases e;rfl
 | flt b=>obtain⟨t,e⟩:=(show ∃ t,u=Value.float b t from r);cases e;rfl
 | ref a=>cases (show u=Value.ref a from r);rfl
 | ty n=>cases (show u=Value.type n from r);rfl
section
variable {P:Program}{w:World}{H H':Hp}{h h':Heap}{a C dx:Addr}{fs fs':List (Str×V)}
theorem vR(hok:HOk P w H h)(e:H a=some (.ins C dx fs)):∃ mA,ObjM h a dx C mA∧(∀ f,RelO (fs.lookup f) (mA f))∧PySem.Within mA (fs.map (·.1))∧fs.length≤1000∧H dx=some (.own a):=by
 obtain⟨d,z,ne,ob,mA,n,r,q⟩:=(show ObjOk P w H h a (.ins C dx fs) from hok a _ e)
 exact⟨mA,⟨ob,n,ne⟩,r,q,z,d⟩
end
structure Cls(K:b5)(C:Addr):Prop where
 pg:PySem.W.plainGet K C Str.empty=true
 hd:PySem.W.hasDictIn K C=true
 po:PySem.W.plainOver K C=true
 sa:PySem.W.findIn K (.ref C) "__setattr__"=some (some (.builtin "object.__setattr__"))
theorem Cls.get{K:b5}{C:Addr}(c:Cls K C)(f:Str):PySem.W.plainGet K C f=true:=c.pg
def NoAttr(K:b5)(C:Addr)(f:Str):Prop:=PySem.W.findIn K (.ref C) f=some none
theorem NoAttr.taker{K:b5}{C:Addr}{f:Str}(n:NoAttr K C f):PySem.W.takerIn K C f=some none:=by
 unfold PySem.W.takerIn
 rw[show PySem.W.findIn K (.ref C) f=some none from n]
 rfl
structure Meth(K:b5)(C:Addr)(m:Str)(f:Addr):Prop where
 at_:PySem.W.findIn K (.ref C) m=some (some (.ref f))
 fn:PySem.W.isFn K (.ref f)=true
 kp:PySem.W.keepIn K (.ref f)=true
section
variable {X:Cx}{pins:List (Addr×Obj)}{σ:St}{H:Hp}{s:Shared}{a C dx:Addr}{fs:List (Str×V)}{f:Str}{v:V}{A:Around}{E:Value→Shared→Prop}
theorem Ap{b:Bool}{Q:Value→Shared→Prop}(I:Inv X pins σ H s)(e:H a=some (.ins C dx fs))(c:Cls X.K C)(n:NoAttr X.K C f)(l:fs.lookup f=some v)
  (h:∀ u s',Inv X pins σ H s'→RelV v u→Q u s'):wpAny (model X.prog X.w) A (getAttr (.ref a) f b) Q E s:=by
 obtain⟨mA,O,r,_,_,_⟩:=vR I.hok e
 obtain⟨u,hu,ru⟩:=RelO.some_of (v:=v) (o:=mA f) (by rw[← l];exact r f)
 exact FZ I.kIn O (c.get f) c.hd n hu (uS ru) (h u _ (I.tok _) ru)
theorem lF{m:Str}{g:Addr}{pl:Sem Bool}{Q:Value×List Value→Shared→Prop}(I:Inv X pins σ H s)(e:H a=some (.ins C dx fs))(c:Cls X.K C)(k:Meth X.K C m g)(l:fs.lookup m=none)
  (h:Q (.ref g,[.ref a]) s):wpAny (model X.prog X.w) A (getMethod (.ref a) m pl) Q E s:=by
 obtain⟨mA,O,r,_,_,_⟩:=vR I.hok e
 have hn:mA m=none:=RelO.none_of (by rw[← l];exact r m)
 exact DQ I.kIn O (c.get m) k.at_ k.fn hn h
theorem Ao{y:V}{u:Value}{Q:Unit→Shared→Prop}(I:Inv X pins σ H s)(e:H a=some (.ins C dx fs))(c:Cls X.K C)(n:NoAttr X.K C f)(hl:fs.length<1000)(ry:RelV y u)
  (h:∀ s',Inv X pins σ (upd H a (.ins C dx (fY f y fs))) s'→Q () s'):wpAny (model X.prog X.w) A (setAttr (.ref a) f u) Q E s:=by
 obtain⟨mA,O,r,wi,_,ho⟩:=vR I.hok e
 have hz:(fs.map (·.1)).length≤sizeLine:=by rw[b7,sizeLine_eq];omega
 refine GA I.kIn O c.sa c.po n.taker c.hd wi hz fun h' O' sb=>h _ ?_
 have hd:∃ o,h'.get? dx=some o:=let ⟨o,_,_,e',_⟩:=O'.ns;⟨o,e'⟩
 refine I.write (x:=a) (e:=dx) (by rw[e];exact True.intro) (.inr ho) (fun b q hb z=>(sb.2 b hb).trans z) hd ?_
 refine⟨by rw[aE O.ne];exact ho,?_,O.ne,O'.obj,_,O'.ns,fun g=>?_,fun g hg=>?_⟩
 ·have:=oO f y fs;omega
 ·show RelO ((fY f y fs).lookup g) (if g=f then some u else mA g)
  rw[bJ]
  by_cases q:g=f
  ·rw[if_pos q,if_pos q];exact ry
  ·rw[if_neg q,if_neg q];exact r g
 ·by_cases q:g=f
  ·rw[q];exact(nR f y fs).1
  ·refine(nR f y fs).2 g (wi g fun z=>hg ?_)
   show (if g=f then some u else mA g)=none
   rw[if_neg q];exact z
theorem Inv.made(I:Inv X pins σ H s):Inv X pins σ (upd (upd H s.heap.objs.size (.own (s.heap.objs.size+1))) (s.heap.objs.size+1) (.ins C s.heap.objs.size []))
  { s with heap:=(s.heap.push PySem.W.emptyDict).push (PySem.W.instObj C s.heap.objs.size) }:=by
 have e1:(s.heap.push PySem.W.emptyDict).get? s.heap.objs.size=some PySem.W.emptyDict:=d9 s.heap rfl
 have e2:((s.heap.push PySem.W.emptyDict).push (PySem.W.instObj C s.heap.objs.size)).get? (s.heap.objs.size+1)=some (PySem.W.instObj C s.heap.objs.size):=by
  have:=d9 (s.heap.push PySem.W.emptyDict) (o:=PySem.W.instObj C s.heap.objs.size) rfl
  rwa [y3] at this
 have e3:(s.heap.push PySem.W.emptyDict).Ns s.heap.objs.size (fun _=>none):=⟨PySem.W.emptyDict,#[],_,e1,rfl,(fun e he=>absurd he (by simp)),fun _=>rfl⟩
 have I1:=I.laid (a:=s.heap.objs.size) (o:=.own (s.heap.objs.size+1)) (h':=s.heap.push PySem.W.emptyDict) (t':=s.toks) (fun b u q=>b6 _ q) (b9 _) ⟨_,e1⟩
 refine I1.laid (a:=s.heap.objs.size+1) (o:=.ins C s.heap.objs.size []) (t':=s.toks) (fun b u q=>b6 _ q) (aZD (y3 _ _)) ?_
 have ne:s.heap.objs.size≠s.heap.objs.size+1:=d8 (aXX _)
 refine⟨by rw[aE ne,aB],l9 _,ne,e2,fun _=>none,(aJK e3).at fun o q=>b6 _ q,fun _=>True.intro,fun y hy=>absurd rfl hy⟩
theorem Bt{prog:Program}{w:World}{env:Env}{e:Expr}{f:Str}{pos:Pos}{s:Shared}{Q:Value→Shared→Prop}(hb:attributeBase e f env (eval e env)=eval e env)
  (h:wpAny (model prog w) A (eval e env) (fun o s₁=>wpAny (model prog w) A (getAttr o f true) Q E s₁) E s):wpAny (model prog w) A (eval (.Attribute e f pos) env) Q E s :=
 Attribute_any_ h (by rw[arm_eval_Attribute,hb])
end
def LK(K:b5)(ta:TE)(f:Str):TE:=fun σ H Q=>ta σ H fun x H1=>∃ a C dx fs v,x=.ref a∧H1 a=some (.ins C dx fs)∧Cls K C∧NoAttr K C f∧fs.lookup f=some v∧Q v H1
def KF(K:b5)(ta tv:TE)(f:Str):TS:=fun D σ H=>tv σ H fun y H1=>ta σ H1 fun x H2=>∃ a C dx fs,x=.ref a∧H2 a=some (.ins C dx fs)∧Cls K C∧NoAttr K C f∧fs.length<1000 ∧
 D.nx σ (upd H2 a (.ins C dx (fY f y fs)))
section
variable {X:Cx}{o e value:Expr}{f:Str}{pos pos' tpos:Pos}{ta tv:TE}
theorem Ke(he:PE X e ta)(hb:attributeBase e f X.env (eval e X.env)=eval e X.env):PE X (.Attribute e f pos) (LK X.K ta f):=by
 intro pins s σ H Q I h
 refine Bt hb (bS (he pins s σ H _ I h) fun u s1 ⟨x,H1,I1,rx,a,C,dx,fs,v,ex,ea,c,n,l,q⟩=>?_)
 subst ex
 obtain rfl:u=Value.ref a:=rx
 exact Ap I1 ea c n l fun u' s2 I2 ru=>⟨v,H1,I2,ru,q⟩
theorem J8(ha:PE X o ta)(hv:PE X value tv)(hs:swapsWith value (some (.Attribute o f pos')) pos.line X.env=pure false):PS X (.Assign [.Attribute o f pos'] value pos) (KF X.K ta tv f):=by
 intro pins s σ H D I h
 refine plainObj_wpAny_Assign_Attribute (bS (hv pins s σ H _ I h) fun u s1 ⟨y,H1,I1,ry,q⟩=>bS (ha pins s1 σ H1 _ I1 q) fun ov s2 ⟨x,H2,I2,rx,a,C,dx,fs,ex,ea,c,n,l,q2⟩=>?_) hs
 subst ex
 obtain rfl:ov=Value.ref a:=rx
 exact Ao I2 ea c n l ry fun s3 I3=>⟨σ,_,I3,q2⟩
theorem Ht{pl:Sem Bool}{m:Str}{apos:Pos}{args:List Expr}{pins:List (Addr×Obj)}{s:Shared}{σ:St}{H:Hp}{Q:Value→Shared→Prop}{te:TE}(he:PE X e te)(I:Inv X pins σ H s)
  (h:te σ H fun x H1=>∃ a C dx fs g,x=.ref a∧H1 a=some (.ins C dx fs)∧Cls X.K C∧Meth X.K C m g∧fs.lookup m=none ∧
   ∀ s1,Inv X pins σ H1 s1→wpAny (model X.prog X.w) X.A (callWith pos (.ref g) [.ref a] (backTo pos (starEach args X.env)) (backToKw pos (keywordEach [] X.env))) Q X.xe s1)
  (ht:eval (.Call (.Attribute e m apos) args [] pos) X.env=(do
   let ov ← eval e X.env
   standAt apos.atName
   let (f,first) ← holding [ov] (getMethod ov m pl)
   callWith pos f first (backTo pos (starEach args X.env)) (backToKw pos (keywordEach [] X.env)))) :
  wpAny (model X.prog X.w) X.A (eval (.Call (.Attribute e m apos) args [] pos) X.env) Q X.xe s:=by
 refine aX4 (pl:=pl) (bS (he pins s σ H _ I h) fun u s1 ⟨x,H1,I1,rx,a,C,dx,fs,g,ex,ea,c,k,l,q⟩=>?_) ht
 subst ex
 obtain rfl:u=Value.ref a:=rx
 exact lF I1 ea c k l (q s1 I1)
end
structure Room(k:Nat)(A:Around):Prop where
 hd:A.handled=none
 dp:A.depth+3 * k+5<recursionLimit
 un:A.units+16 * k+200<cLine
theorem Room.mono{j k:Nat}{A:Around}(r:Room k A)(h:j≤k):Room j A:=⟨r.hd,by have:=r.dp;omega,by have:=r.un;omega⟩
theorem Room.deeper{k:Nat}{A:Around}(r:Room (k+1) A)(env:Env):Room k (A.deeper env) :=
 ⟨r.hd,by have:=r.dp;show A.depth+1+3 * k+5<_;omega,by have:=r.un;show A.units+3+16 * k+200<_;omega⟩
theorem Room.in1{k:Nat}{A:Around}(r:Room (k+1) A):Room k A.in1 :=
 ⟨r.hd,by have:=r.dp;show A.depth+3 * k+5<_;omega,by have:=r.un;show A.units+1+16 * k+200<_;omega⟩
theorem Az{A:Around}{C:Addr}{us:List Value}{kw:List (Str×Value)}:(A.under (.builtin "type.__call__" ⟨.ref C::us,kw⟩)).depth=A.depth+1:=by
 first | rfl | simp[Around.under,Code.weight,Code.isCreation,Code.isGuard,Code.isCaller,Code.frames,Code.isFrame,guardIds]
theorem AJ{A:Around}{C:Addr}{us:List Value}{kw:List (Str×Value)}:(A.under (.builtin "type.__call__" ⟨.ref C::us,kw⟩)).units=A.units+1:=by
 first | rfl | simp[Around.under,Code.cUnits,Code.frames,Code.isFrame]
theorem Room.make{k:Nat}{A:Around}(r:Room (k+1) A)(C:Addr)(us:List Value)(kw:List (Str×Value)):Room k (A.under (.builtin "type.__call__" ⟨.ref C::us,kw⟩)) :=
 ⟨r.hd,by have:=r.dp;rw[Az];omega,by have:=r.un;rw[AJ];omega⟩
theorem Room.depth{k:Nat}{A:Around}(r:Room k A):A.depth<recursionLimit:=by have:=r.dp;omega
theorem Room.units{k:Nat}{A:Around}(r:Room k A):A.units+64<cLine:=by have:=r.un;omega
theorem Room.units0{k:Nat}{A:Around}(r:Room k A):A.units<cLine:=by have:=r.un;omega
def Au:TA:=fun _ H Q=>Q [] H
def Fk(ta:TE)(tr:TA):TA:=fun σ H Q=>ta σ H fun x H1=>tr σ H1 fun xs H2=>Q (x::xs) H2
section
variable {X:Cx}{e:Expr}{es:List Expr}{te:TE}{t:TA}{pos:Pos}
theorem aC:PA X [] Au:=fun _ _ _ _ H Q I h=>aQs ⟨[],H,I,.nil,h⟩
theorem aA(ha:PE X e te)(hr:PA X es t)(hs:starEach (e::es) X.env=(false,eval e X.env)::starEach es X.env:=by rfl):PA X (e::es) (Fk te t):=by
 intro pos pins s σ H Q I h
 rw[hs]
 show wpAny _ _ (spliced ((false,eval e X.env)::backTo pos (starEach es X.env))) _ _ s
 refine aQB (bS (ha pins s σ H _ I h) fun u s1 ⟨x,H1,I1,r1,q1⟩=>?_)
 exact bS (hr pos pins s1 σ H1 _ I1 q1) fun us s2 ⟨xs,H2,I2,r2,q2⟩=>⟨x::xs,H2,I2,.cons r1 r2,q2⟩
def M_(t:TA):TE:=fun σ H Q=>t σ H fun xs H1=>xs.length≤sizeLine∧∀ p,H1 p=none→Q (.ref p) (upd H1 p (.tup xs))
def M8(t:TA):TE:=fun σ H Q=>t σ H fun xs H1=>xs.length≤sizeLine∧∀ p,H1 p=none→Q (.ref p) (upd H1 p (.lst xs))
theorem bH{x1}(h:PA X es t):PE X (.Tuple es x1 pos) (M_ t):=by
 intro pins s σ H Q I hq
 refine wpAny_Tuple_spliced (bS (h pos pins s σ H _ I hq) fun us s1 ⟨xs,H1,I1,r,z,q⟩=>⟨by rw[← r.length];exact z,?_⟩)
 have hf:H1 s1.heap.objs.size=none:=I1.hok.fresh (b9 _)
 refine⟨.ref s1.heap.objs.size,upd H1 s1.heap.objs.size (.tup xs),I1.laid (t':=s1.toks) (fun b u e=>b6 _ e) (b9 _) ?_,rfl,q _ hf⟩
 exact⟨z,us,r,⟨_,d9 _ rfl,rfl,_,rfl⟩,NoD.new _ _⟩
theorem cP(h:PA X es t):PE X (.List es pos) (M8 t):=by
 intro pins s σ H Q I hq
 refine wpAny_List_spliced (bS (h pos pins s σ H _ I hq) fun us s1 ⟨xs,H1,I1,r,z,q⟩=>⟨by rw[← r.length];exact z,?_⟩)
 have hf:H1 s1.heap.objs.size=none:=I1.hok.fresh (b9 _)
 refine⟨.ref s1.heap.objs.size,upd H1 s1.heap.objs.size (.lst xs),I1.laid (t':=s1.toks) (fun b u e=>b6 _ e) (b9 _) ?_,rfl,q _ hf⟩
 exact⟨z,us,0,r,d9 _ rfl⟩
end
abbrev Sp:=List V→Hp→VK→XK→Prop
abbrev zR:=List Env→Hp→Shared→XK→Value→Shared→Prop
structure Env0(P:Program)(w:World)(K:b5)(mg:Str→Option Value)(base:Heap)(A:Around)(outer:List Env)(s:Shared)(H:Hp):Prop where
 frames:A.frames=some outer
 mod:Mod K mg base
 bs:∀ b o,base.get? b=some o→s.heap.get? b=some o∧H b=none
 bsz:base.objs.size≤s.heap.objs.size
 funs:s.heap.FunFrames base outer
 frf:∀ b∈wV outer,H b=none
 hok:HOk P w H s.heap
 bare:AllBare s.gens
def CE(outer:List Env)(P:Program)(w:World)(H:Hp)(s:Shared)(Q:VK)(u:Value)(s':Shared):Prop :=
 ∃ v H',s'.os=s.os∧AllBare s'.gens∧Un (wV outer) [] H H' s.heap s'.heap∧HOk P w H' s'.heap∧RelV v u∧Q v H'
def CR(CX:zR)(outer:List Env)(P:Program)(w:World)(H:Hp)(s:Shared)(Q:VK)(E:XK)(r:Result)(s':Shared):Prop :=
 match r with
 | .ok (.ret u)=>CE outer P w H s Q u s'
 | .ok _=>False
 | .error e=>CX outer H s E e s'
structure FnOk(P:Program)(w:World)(K:b5)(mg:Str→Option Value)(base:Heap)(CX:zR)(k:Nat)(f:Addr)(fd:FuncData)(ps:List Str)(sp:Sp):Prop where
 len:∀ vs H Q E,sp vs H Q E→vs.length=ps.length
 run:∀ (A:Around) (outer:List Env) (s:Shared) (H:Hp) (args:Args) (us:List Value) (vs:List V) (Q:VK) (E:XK),Room k A→Env0 P w K mg base A outer s H→BindsTo s fd args (ps.zip us)→Vals vs us→sp vs H Q E →
  codeAny (model P w) A (.call (.ref f) args) (CR CX outer P w H s Q E) s
theorem FnOk.mono{P:Program}{w:World}{K:b5}{mg:Str→Option Value}{base:Heap}{CX:zR}{j k:Nat}{f:Addr}{fd:FuncData}{ps:List Str}{sp:Sp}(F:FnOk P w K mg base CX j f fd ps sp)(h:j≤k) :
  FnOk P w K mg base CX k f fd ps sp:=⟨F.len,fun A outer s H args us vs Q E hr=>F.run A outer s H args us vs Q E (hr.mono h)⟩
theorem Env0.make{P:Program}{w:World}{K:b5}{mg:Str→Option Value}{base:Heap}{A:Around}{outer:List Env}{s:Shared}{H:Hp}(e:Env0 P w K mg base A outer s H)(C:Addr)(us:List Value)(kw:List (Str×Value)) :
  Env0 P w K mg base (A.under (.builtin "type.__call__" ⟨.ref C::us,kw⟩)) outer s H:=⟨by first | exact e.frames | (simpa [Around.under,Code.envs,Code.isFrame,pushEnvs] using e.frames),e.mod,e.bs,e.bsz,e.funs,e.frf,e.hok,e.bare⟩
section
variable {X:Cx}{pins:List (Addr×Obj)}{σ:St}{H:Hp}{s s':Shared}
theorem Inv.env0(I:Inv X pins σ H s):Env0 X.prog X.w X.K X.mg X.base X.A X.stack s H :=
 ⟨I.ok.frames,I.ok.mod,I.bs,j8 I.ok.bsz I.sz,I.stack,I.stkFree,I.hok,I.bare⟩
theorem Inv.after{Q:VK}{u:Value}(I:Inv X pins σ H s)(h:CE X.stack X.prog X.w H s Q u s'):EP X pins σ Q u s':=by
 obtain⟨v,H',os,bare,un,hok,r,q⟩:=h
 obtain⟨hh,g,d,t,os'⟩:=s'
 obtain rfl:os'=s.os:=os
 exact⟨v,H',I.call (h':=hh) (g':=g) (d':=d) (t':=t) (ch:=[]) un hok bare (fun b z=>absurd z (by simp)),r,q⟩
end
def Hs(sp:Sp)(dvs:List V)(E:XK)(t:TA):TE:=fun σ H Q=>t σ H fun vs H1=>sp (vs++dvs) H1 Q E
def Hv(C:Addr)(m:Str)(sp:Sp)(dvs:List V)(E:XK)(ta:TE)(t:TA):TE:=fun σ H Q=>ta σ H fun x H1=>∃ a dx fs,x=.ref a∧H1 a=some (.ins C dx fs)∧fs.lookup m=none ∧
 t σ H1 fun vs H2=>sp (x::(vs++dvs)) H2 Q E
def Lv(C:Addr)(sp:Sp)(dvs:List V)(E:XK)(t:TA):TE:=fun σ H Q=>t σ H fun vs H1=>∀ x dx,H1 x=none→H1 dx=none→dx≠x →
 sp (.ref x::(vs++dvs)) (upd (upd H1 dx (.own x)) x (.ins C dx [])) (fun v H2=>v=.non∧Q (.ref x) H2) E
def Binds(K:b5)(fd:FuncData)(ps:List Str)(ds:List Value):Prop :=
 ∀ (s:Shared) (us:List Value),K.In s.heap→(us++ds).length=ps.length→BindsTo s fd ⟨us,[]⟩ (ps.zip (us++ds))
theorem Binds.all{K:b5}{fd:FuncData}{ps:List Str}(h:∀ us:List Value,us.length=ps.length→bindArgs fd ⟨us,[]⟩=pure (ps.zip us)):Binds K fd ps []:=fun s us _ hl=>by
 rw[m7] at hl ⊢
 exact .of_eq (h us hl)
def lP(CX:zR)(X:Cx)(E:XK):Prop:=∀ (pins:List (Addr×Obj)) (σ:St) (H:Hp) (s:Shared) (e:Value) (s':Shared),Inv X pins σ H s→CX X.stack H s E e s'→X.xe e s'
section
variable {X:Cx}{CX:zR}{k:Nat}{f C:Addr}{fd:FuncData}{ps:List Str}{sp:Sp}{dvs:List V}{ds:List Value}{E:XK}{x m:Str}{p pos apos:Pos}{e o:Expr}{es:List Expr}{ta:TE}{t:TA}
theorem wF{pins:List (Addr×Obj)}{σ:St}{H:Hp}{s:Shared}{Q:VK}{us:List Value}{vs:List V}(F:FnOk X.prog X.w X.K X.mg X.base CX k f fd ps sp)(hr:Room k X.A)(hb:Binds X.K fd ps ds)(hd:Vals dvs ds)(hx:lP CX X E)
  (I:Inv X pins σ H s) (r:Vals vs us) (h:sp (vs++dvs) H Q E):wpAny (model X.prog X.w) X.A (call (.ref f) us) (EP X pins σ Q) X.xe s:=by
 have r2:Vals (vs++dvs) (us++ds):=r.append hd
 have hl:(us++ds).length=ps.length:=by rw[← r2.length];exact F.len _ _ _ _ h
 refine wpAny_call (codeAny_mono (F.run X.A X.stack s H ⟨us,[]⟩ (us++ds) (vs++dvs) Q E hr I.env0 (hb s us I.kIn hl) r2 h) fun r s' hq=>?_)
 cases r with
 | error e=>exact hx pins σ H s e s' I hq
 | ok fl =>
  cases fl with
  | ret u=>exact I.after hq
  | next=>exact False.elim hq
  | brk=>exact False.elim hq
  | cont=>exact False.elim hq
theorem Gx(F:FnOk X.prog X.w X.K X.mg X.base CX k f fd ps sp)(hr:Room k X.A)(hg:Gl X x)(hm:X.mg x=some (.ref f))(hk:PySem.W.keepIn X.K (.ref f)=true)(hb:Binds X.K fd ps ds)(hd:Vals dvs ds)(hx:lP CX X E)
  (ha:PA X (e::es) t) (hdb:(x == ("__debug__":Str))=false:=by decide) (he:starEach (e::es) X.env=(false,eval e X.env)::starEach es X.env:=by rfl) (hpl:(backTo pos (starEach es X.env)).any (·.1)=false:=by rfl) :
  PE X (.Call (.Name x p) (e::es) [] pos) (Hs sp dvs E t):=by
 intro pins s σ H Q I h
 refine wpAny_Call_Name_kw (lX I hg hm ?_ hdb)
 refine aQm (h₀:=X.base) I.ok.mod.kin hk (bS (ha pos pins s σ H _ I h) fun us s1 ⟨vs,H1,I1,r,q⟩=>⟨I1.kIn,?_⟩) he hpl
 exact wF F hr hb hd hx I1 r q
theorem eQ{pl:Sem Bool}(he:PE X o ta)(c:Cls X.K C)(hm:Meth X.K C m f)(F:FnOk X.prog X.w X.K X.mg X.base CX k f fd ps sp)(hr:Room k X.A)(hb:Binds X.K fd ps ds)(hd:Vals dvs ds)(hx:lP CX X E)(ha:PA X (e::es) t)
  (hst:starEach (e::es) X.env=(false,eval e X.env)::starEach es X.env:=by rfl) (hpl:(backTo pos (starEach es X.env)).any (·.1)=false:=by rfl)
  (ht:eval (.Call (.Attribute o m apos) (e::es) [] pos) X.env=(do
   let ov ← eval o X.env
   standAt apos.atName
   let (f,first) ← holding [ov] (getMethod ov m pl)
   callWith pos f first (backTo pos (starEach (e::es) X.env)) (backToKw pos (keywordEach [] X.env))):=by rfl) :
  PE X (.Call (.Attribute o m apos) (e::es) [] pos) (Hv C m sp dvs E ta t):=by
 intro pins s σ H Q I h
 refine aX4 (pl:=pl) (bS (he pins s σ H _ I h) fun u s1 ⟨x,H1,I1,rx,a,dx,fs,ex,ea,l,q⟩=>?_) ht
 subst ex
 obtain rfl:u=Value.ref a:=rx
 refine lF I1 ea c hm l ?_
 refine aQm (first:=[.ref a]) (h₀:=X.base) I.ok.mod.kin hm.kp (bS (ha pos pins s1 σ H1 _ I1 q) fun us s2 ⟨vs,H2,I2,r,q2⟩=>⟨I2.kIn,?_⟩) hst hpl
 exact wF (us:=.ref a::us) (vs:=.ref a::vs) F hr hb hd hx I2 (.cons rfl r) q2
theorem yM{pl:Sem Bool}(he:PE X o ta)(c:Cls X.K C)(hm:Meth X.K C m f)(F:FnOk X.prog X.w X.K X.mg X.base CX k f fd ps sp)(hr:Room k X.A)(hb:Binds X.K fd ps ds)(hd:Vals dvs ds)(hx:lP CX X E)
  (ht:eval (.Call (.Attribute o m apos) [] [] pos) X.env=(do
   let ov ← eval o X.env
   standAt apos.atName
   let (f,first) ← holding [ov] (getMethod ov m pl)
   callWith pos f first (backTo pos (starEach [] X.env)) (backToKw pos (keywordEach [] X.env))):=by rfl) :
  PE X (.Call (.Attribute o m apos) [] [] pos) (Hv C m sp dvs E ta Au):=by
 intro pins s σ H Q I h
 refine aX4 (pl:=pl) (bS (he pins s σ H _ I h) fun u s1 ⟨x,H1,I1,rx,a,dx,fs,ex,ea,l,q⟩=>?_) ht
 subst ex
 obtain rfl:u=Value.ref a:=rx
 refine lF I1 ea c hm l ?_
 exact aZg (first:=[.ref a]) I1.kIn hm.kp (wF (us:=[.ref a]) (vs:=[.ref a]) F hr hb hd hx I1 (.cons rfl .nil) q)
structure Mk(K:b5)(C f:Addr):Prop where
 makes:PySem.W.makesIn K C=true
 init:PySem.W.findIn K (.ref C) "__init__"=some (some (.ref f))
 fn:PySem.W.isFn K (.ref f)=true
 kp:PySem.W.keepIn K (.ref C)=true
theorem D3{pins:List (Addr×Obj)}{σ:St}{H:Hp}{s:Shared}{Q:VK}{us:List Value}{vs:List V}(M:Mk X.K C f)(F:FnOk X.prog X.w X.K X.mg X.base CX k f fd ps sp)(hr:Room (k+1) X.A)(hb:Binds X.K fd ps ds)(hd:Vals dvs ds)
  (hx:lP CX X E) (I:Inv X pins σ H s) (r:Vals vs us)
  (h:∀ x dx,H x=none→H dx=none→dx≠x→sp (.ref x::(vs++dvs)) (upd (upd H dx (.own x)) x (.ins C dx [])) (fun v H2=>v=.non∧Q (.ref x) H2) E) :
  wpAny (model X.prog X.w) X.A (call (.ref C) us) (EP X pins σ Q) X.xe s:=by
 have hq:=h (s.heap.objs.size+1) s.heap.objs.size (I.hok.fresh (aQp _)) (I.hok.fresh (b9 _)) (d8 (aXX _))
 have I2:=Inv.made (C:=C) I
 have r2:Vals (V.ref (s.heap.objs.size+1)::(vs++dvs)) (Value.ref (s.heap.objs.size+1)::(us++ds)):=.cons rfl (r.append hd)
 have hl:(Value.ref (s.heap.objs.size+1)::us++ds).length=ps.length:=by
  have e:=r2.length
  rw[F.len _ _ _ _ hq] at e
  exact e.symm
 refine wpAny_call (Fh (f:=f) I.kIn M.makes M.init (beq_iff_eq.mp M.fn) (codeAny_mono (F.run _ X.stack _ _ ⟨Value.ref (s.heap.objs.size+1)::us,[]⟩ (Value.ref (s.heap.objs.size+1)::(us++ds)) _ _ E (hr.make C us [])
  (I2.env0.make C us []) (hb _ (Value.ref (s.heap.objs.size+1)::us) I2.kIn hl) r2 hq) fun r s' hq'=>?_))
 cases r with
 | error e=>exact hx pins σ _ _ e s' I2 hq'
 | ok fl =>
  cases fl with
  | ret u =>
   obtain⟨v,H',I3,rv,ev,q3⟩:=I2.after hq'
   subst ev
   exact⟨rv,⟨V.ref (s.heap.objs.size+1),H',I3,rfl,q3⟩⟩
  | next=>exact False.elim hq'
  | brk=>exact False.elim hq'
  | cont=>exact False.elim hq'
theorem EJ(M:Mk X.K C f)(F:FnOk X.prog X.w X.K X.mg X.base CX k f fd ps sp)(hr:Room (k+1) X.A)(hg:Gl X x)(hm:X.mg x=some (.ref C))(hb:Binds X.K fd ps ds)(hd:Vals dvs ds)(hx:lP CX X E)
  (hdb:(x == ("__debug__":Str))=false:=by decide):PE X (.Call (.Name x p) [] [] pos) (Lv C sp dvs E Au):=by
 intro pins s σ H Q I h
 refine wpAny_Call_Name_kw (lX I hg hm ?_ hdb)
 exact aZg I.kIn M.kp (D3 (us:=[]) M F hr hb hd hx I .nil h)
end
def PK(X:Cx)(kws:List Keyword)(t:TA):Prop :=
 ∀ (pos:Pos) (pins:List (Addr×Obj)) (s:Shared) (σ:St) (H:Hp) (Q:List V→Hp→Prop),Inv X pins σ H s→t σ H Q→wpAny (model X.prog X.w) X.A (evalAll ((backToKw pos (keywordEach kws X.env)).map (·.2))) (AP X pins σ Q) X.xe s
section
variable {X:Cx}{CX:zR}{k:Nat}{f C:Addr}{fd:FuncData}{ps ks:List Str}{sp:Sp}{E:XK}{x m:Str}{p pos apos kpos:Pos}{e o:Expr}{es:List Expr}{kws:List Keyword}{te ta:TE}{t tk:TA}{nm:Option Str}
theorem J4:PK X [] Au:=fun _ _ _ _ H Q I h=>wpAny_evalAll_nil ⟨[],H,I,.nil,h⟩
theorem FU(ha:PE X e te)(hr:PK X kws t):PK X (⟨nm,e,kpos⟩::kws) (Fk te t):=by
 intro pos pins s σ H Q I h
 show wpAny _ _ (evalAll ((do let v ← eval e X.env;standAt pos;pure v)::(backToKw pos (keywordEach kws X.env)).map (·.2))) _ _ s
 refine wpAny_evalAll_cons (wpAny_bind (bS (ha pins s σ H _ I h) fun u s1 ⟨x,H1,I1,r1,q1⟩=>wpAny_bind (wpAny_standAt (wpAny_pure ?_))))
 exact bS (hr pos pins s1 σ H1 _ I1 q1) fun us s2 ⟨xs,H2,I2,r2,q2⟩=>⟨x::xs,H2,I2,.cons r1 r2,q2⟩
variable {g:List Value→List Value→List Value}{gV:List V→List V→List V}
end
structure FnScope(N P:List Str)(sc:Scope):Prop where
 kind:sc.kind=.function
 co:sc.isCoroutine=false
 gen:sc.isGenerator=false
 nd:N.Nodup
 pre:N.take P.length=P
 par:∀ x∈P,sc.names.lookup x=some .local∨sc.names.lookup x=some .cell
 nofree:∀ y∈sc.names,y.2≠.free
theorem uN{kindOf:Str→Option NameKind}{x:Str}:∀ {binds:List (Str×Value)} {m:Str→Option Value},(∀ v,(x,v) ∉ binds)→bindL kindOf binds m x=m x
 | [],_,_=>rfl
 | (n,v)::r,m,h=>by
  unfold bindL
  rw[uN fun w hw=>h w (g9 _ hw)]
  split
  ·have:x≠n:=by rintro rfl;exact h v i9
   simp[this]
  ·rfl
theorem uB{kindOf:Str→Option NameKind}{x:Str}:∀ {binds:List (Str×Value)} {m:Str→Option Value},(∀ v,(x,v) ∉ binds)→bindC kindOf binds m x=m x
 | [],_,_=>rfl
 | (n,v)::r,m,h=>by
  unfold bindC
  rw[uB fun w hw=>h w (g9 _ hw)]
  split
  ·rfl
  ·have:x≠n:=by rintro rfl;exact h v i9
   simp[this]
theorem sZ{kindOf:Str→Option NameKind}{x:Str}{v:Value}:∀ {P:List Str} {vs:List Value} {i:Nat} {m:Str→Option Value},P.Nodup→P[i]?=some x→vs[i]?=some v→kindOf x=some .local →
  bindL kindOf (P.zip vs) m x=some v
 | [],_,_,_,_,h,_,_=>by simp at h
 | _::_,[],_,_,_,_,h,_=>by simp at h
 | p::P,w::vs,0,m,nd,h1,h2,hk=>by
  simp at h1 h2;subst h1;subst h2
  show bindL kindOf ((p,w)::P.zip vs) m p=_
  unfold bindL
  rw[uN fun v hv=>(p0.mp nd).1 (aZV hv).1,if_pos hk]
  simp
 | p::P,w::vs,i+1,m,nd,h1,h2,hk=>by
  show bindL kindOf ((p,w)::P.zip vs) m x=_
  unfold bindL
  exact sZ (i:=i) (p0.mp nd).2 (by simpa using h1) (by simpa using h2) hk
theorem uH{kindOf:Str→Option NameKind}{x:Str}{v:Value}:∀ {P:List Str} {vs:List Value} {i:Nat} {m:Str→Option Value},P.Nodup→P[i]?=some x→vs[i]?=some v→kindOf x≠some .local →
  bindC kindOf (P.zip vs) m x=some v
 | [],_,_,_,_,h,_,_=>by simp at h
 | _::_,[],_,_,_,_,h,_=>by simp at h
 | p::P,w::vs,0,m,nd,h1,h2,hk=>by
  simp at h1 h2;subst h1;subst h2
  show bindC kindOf ((p,w)::P.zip vs) m p=_
  unfold bindC
  rw[uB fun v hv=>(p0.mp nd).1 (aZV hv).1,if_neg hk]
  simp
 | p::P,w::vs,i+1,m,nd,h1,h2,hk=>by
  show bindC kindOf ((p,w)::P.zip vs) m x=_
  unfold bindC
  exact uH (i:=i) (p0.mp nd).2 (by simpa using h1) (by simpa using h2) hk
def mQ(N:List Str)(vs:List V):St:=vs.map some++List.replicate (N.length - vs.length) none
def xJ(CX:zR)(P:Program)(w:World)(K:b5)(mg:Str→Option Value)(base:Heap)(N:List Str)(qual:Str)(scope:Scope)(f:Addr)(cd:Value)(A:Around)(outer:List Env)(s:Shared)(H:Hp)(E:XK):Cx where
 prog:=P
 w:=w
 K:=K
 mg:=mg
 base:=base
 A:=A.deeper (envOfC qual scope s.heap.objs.size f cd)
 N:=N
 s₀:=s
 H₀:=H
 env:=envOfC qual scope s.heap.objs.size f cd
 outer:=outer
 stack:=envOfC qual scope s.heap.objs.size f cd::outer
 ex:=[]
 calm:=true
 fn:=fun _=>true
 pn:=[]
 xe:=fun e s'=>wpAny (model P w) (A.deeper (envOfC qual scope s.heap.objs.size f cd)) (leaving (envOfC qual scope s.heap.objs.size f cd) e) (fun _ s''=>CX outer H s E e s'') (fun e' s''=>CX outer H s E e' s'') s'
theorem xM{sc:Scope}{n:Nat}{x:Str}(h:sc.names.lookup x=some .cell):∃ c,(cellsFrom n sc.names []).lookup x=some c:=by
 have q:=aZ0 sc.names n [] (.inl h)
 exact aQg.mp q
theorem C6{CX:zR}{P:Program}{w:World}{K:b5}{mg:Str→Option Value}{base:Heap}{N ps:List Str}{qual:Str}{scope:Scope}{f:Addr}{cd:Value}{A:Around}{outer:List Env}{s s1:Shared}{H:Hp}{E:XK}{us:List Value}{vs:List V}
  (S:FnScope N ps scope) (hd:A.handled=none) (e0:Env0 P w K mg base A outer s H) (hl:vs.length=ps.length) (r:Vals vs us)
  (x:InCallC s s.heap.objs.size (bindL (envOfC qual scope s.heap.objs.size f cd).kindOf (ps.zip us) fun _=>none) (cellsFrom (s.heap.objs.size+1) scope.names []) (bindC (envOfC qual scope s.heap.objs.size f cd).kindOf (ps.zip us) fun _=>none) s1) :
  Inv (xJ CX P w K mg base N qual scope f cd A outer s H E) [] (mQ N vs) H s1:=by
 have hpl:ps.length≤N.length:=by have:=congrArg List.length S.pre;rw[j6] at this;omega
 obtain⟨h1,tk,rfl,hk⟩:=x.done
 have noA:∀ b:Addr,b ∉ (xJ CX P w K mg base N qual scope f cd A outer s H E).ex:=fun b z=>absurd (show b∈([]:List Addr) from z) (by simp)
 refine⟨⟨e0.mod,S.kind,rfl,rfl,b9 _,fun y z c h1 h2=>?_,fun y hy=>?_,fun y c _ h=>?_,fun _=>hd,Around.frames_deeper e0.frames,.inr ⟨rfl,rfl⟩,fun b z=>absurd z (noA b),e0.bs,e0.bsz,fun b _ _=>noA b,fun b z=>absurd z (noA b),e0.funs,e0.frf⟩,
  rfl,e0.bare,Un.kept hk,⟨_,x.toInCall.ns,fun i y v h1 h2 h3=>?_⟩,fun y c h=>⟨_,x.cell y c h⟩,e0.hok.fresh (b9 _),fun y c h=>?_,fun p hp=>absurd (show p∈([]:List (Addr×Obj)) from hp) (by simp),e0.hok.kept hk,?_⟩
 ·exact name_of_addr x.apart (x6 h1) (x6 h2)
 ·have hy:scope.names.lookup y=some .cell∨scope.names.lookup y=some .free:=hy
  rcases hy with hy | hy
  ·exact xM hy
  ·exact absurd rfl (S.nofree _ (x6 hy))
 ·exact aQT (x.above y c (x6 h))
 ·have hi:i<vs.length:=by
   unfold mQ at h2
   by_cases hi:i<vs.length
   ·exact hi
   ·rw[u5 (by simpa using hi)] at h2
    rw[List.getElem?_replicate] at h2
    split at h2 <;> cases h2
  have ha:vs[i]?=some v:=by
   unfold mQ at h2
   rw[p6 (by simpa using hi),c7] at h2
   cases e:vs[i]? with
   | none=>rw[e] at h2;cases h2
   | some a=>rw[e] at h2;cases h2;rfl
  obtain⟨u,hu,rv⟩:=r.get ha
  have hp:ps[i]?=some y:=by
   rw[← S.pre,aQV (by omega)];exact h1
  have ndP:ps.Nodup:=by rw[← S.pre];exact S.nd.sublist (List.take_sublist _ _)
  refine⟨u,rv,?_⟩
  rcases S.par y (b8 hp) with k | k
  ·exact .inl ⟨k,sZ ndP hp hu k⟩
  ·obtain⟨c,e⟩:=xM (n:=s.heap.objs.size+1) k
   refine .inr ⟨.inl k,c,e,?_⟩
   have q:=x.cell y c e
   rw[uH ndP hp hu (by show scope.names.lookup y≠_;rw[k];decide)] at q
   exact q
 ·exact e0.hok.fresh (aQT (x.above y c (x6 h)))
 ·unfold mQ
  show _=N.length
  rw[c6,b7,aQu]
  omega
theorem Hy{CX:zR}{P:Program}{w:World}{K:b5}{mg:Str→Option Value}{base:Heap}{k:Nat}{f:Addr}{name qual:Str}{params:Arguments}{body:List Stmt}{scope:Scope}{dV kV doc pm cdv ct oc:Value}{an od:Option Addr}
  {osl:Array (Option Value)} {N ps:List Str} {sp:Sp} (lk:K.lookup f=some ⟨oc,od,.func (PySem.W.fnOf name qual params body scope dV kV doc pm an cdv ct),osl⟩) (hcd:PySem.W.codeIn K cdv qual=true) (S:FnScope N ps scope)
  (len:∀ vs H Q E,sp vs H Q E→vs.length=ps.length)
  (hbody:∀ (A:Around) (outer:List Env) (s:Shared) (H:Hp) (vs:List V) (Q:VK) (E:XK),Room k (A.deeper (envOfC qual scope s.heap.objs.size f cdv))→sp vs H Q E →
   ∃ t,PSs (xJ CX P w K mg base N qual scope f cdv A outer s H E) body t∧t { nx:=fun _ H'=>Q .non H',rt:=Q } (mQ N vs) H) :
  FnOk P w K mg base CX (k+1) f (PySem.W.fnOf name qual params body scope dV kV doc pm an cdv ct) ps sp:=by
 refine⟨len,fun A outer s H args us vs Q E hr e0 hb r hsp=>?_⟩
 have hl:=len _ _ _ _ hsp
 have KX:K.In s.heap:=e0.mod.kin.keeps fun b o e=>(e0.bs b o e).1
 have lim:s.heap.NoLimit:=e0.mod.nolimit.keeps fun b o e=>(e0.bs b o e).1
 have hkind:∀ y∈ps.zip us,scope.names.lookup y.1=some .local∨(scope.names.lookup y.1=some .cell∧((cellsFrom (s.heap.objs.size+1) scope.names []).lookup y.1).isSome=true):=fun ⟨n,v⟩ hy=>by
  rcases S.par n (aZV hy).1 with q | q
  ·exact .inl q
  ·exact .inr ⟨q,aZ0 _ _ _ (.inl q)⟩
 refine codeAny_call_function hr.depth (KX _ _ lk) rfl S.co S.gen rfl (PySem.W.codeRec_of KX hcd) (hb _ _ _ _ ?_)
 refine wpAny_newFunctionEnv_cells S.kind hkind fun env he s1 x=>?_
 subst he
 refine⟨lim.keeps x.toInCall.keep,codeAny_func ?_⟩
 obtain⟨t,ht,hq⟩:=hbody A outer s H vs Q E (hr.deeper _) hsp
 have I:Inv (xJ CX P w K mg base N qual scope f cdv A outer s H E) [] (mQ N vs) H s1:=C6 S hr.hd e0 hl r x
 refine wpAny_mono (ht [] s1 (mQ N vs) H _ I hq) (fun fl s' hs=>?_) fun e s' hs=>hs
 have fin:∀ {σ':St} {H':Hp} {v:V} {u:Value},Inv (xJ CX P w K mg base N qual scope f cdv A outer s H E) [] σ' H' s'→RelV v u→Q v H'→CE outer P w H s Q u s' :=
  fun {σ' H' v u} J rv q=>⟨v,H',J.os,J.bare,J.base,J.hok,rv,q⟩
 cases fl with
 | ret u =>
  obtain⟨v,σ',H',J,rv,q⟩:=hs
  exact fin J rv q
 | next =>
  obtain⟨σ',H',J,q⟩:=hs
  exact fin (v:=V.non) (u:=Value.none) J rfl q
 | brk =>
  obtain⟨_,_,_,q⟩:=hs
  exact False.elim q
 | cont =>
  obtain⟨_,_,_,q⟩:=hs
  exact False.elim q
section
variable {X:Cx}{x:Str}{p pos:Pos}{e:Expr}{es:List Expr}{t:TA}{id T:String}{r:List V→Hp→VK→Prop}
def Nn(r:List V→Hp→VK→Prop)(t:TA):TE:=fun σ H Q=>t σ H fun vs H1=>r vs H1 Q
theorem aL(hc:dZ X (.builtin id) r)(hg:Gl X x)(hm:X.mg x=none)(hv:bootBuiltins x=some (.builtin id))(ha:PA X (e::es) t)(hn:x≠"__name__":=by decide)(hdb:(x == ("__debug__":Str))=false:=by decide)
  (he:starEach (e::es) X.env=(false,eval e X.env)::starEach es X.env:=by rfl) (hpl:(backTo pos (starEach es X.env)).any (·.1)=false:=by rfl):PE X (.Call (.Name x p) (e::es) [] pos) (Nn r t):=by
 intro pins s σ H Q I h
 refine wpAny_Call_Name_kw (iK I hg hm hv ?_ hn hdb)
 exact aJd (bS (ha pos pins s σ H _ I h) fun us s1 ⟨vs,H1,I1,r1,q1⟩=>hc pins s1 σ H1 vs us Q I1 r1 q1) he hpl
theorem aY(hc:dZ X (.type T) r)(hg:Gl X x)(hm:X.mg x=none)(hv:bootBuiltins x=some (.type T))(ha:PA X (e::es) t)(hn:x≠"__name__":=by decide)(hdb:(x == ("__debug__":Str))=false:=by decide)
  (he:starEach (e::es) X.env=(false,eval e X.env)::starEach es X.env:=by rfl) (hpl:(backTo pos (starEach es X.env)).any (·.1)=false:=by rfl):PE X (.Call (.Name x p) (e::es) [] pos) (Nn r t):=by
 intro pins s σ H Q I h
 refine wpAny_Call_Name_kw (iK I hg hm hv ?_ hn hdb)
 exact x9 (bS (ha pos pins s σ H _ I h) fun us s1 ⟨vs,H1,I1,r1,q1⟩=>hc pins s1 σ H1 vs us Q I1 r1 q1) he hpl
end
end L2
namespace HT
open PySem PyProof.Rows
def lexLt:List Int→List Int→Bool
 | [],[]=>false
 | [],_::_=>true
 | _::_,[]=>false
 | x::xs,y::ys=>if x=y then lexLt xs ys else decide (x<y)
theorem lexLt_cons(x y:Int)(xs ys:List Int):lexLt (x::xs) (y::ys)=if x=y then lexLt xs ys else decide (x<y):=rfl
theorem Dl(A:Around)(s:Shared)(a:Int)(t:Tok)(c:Int)(u:Tok)(prog:Program)(w:World)(E:Value→Shared→Prop)(Q:Value→Shared→Prop)(h:Q (.bool (decide (a<c))) s) :
  wpAny (model prog w) A (richCompare .Lt (.int a t) (.int c u)) Q E s :=
 (aK2 h:wpAny (model prog w) A (compareOp .Lt (.int a t) (.int c u)) Q E s)
section
variable {prog:Program}{w:World}{A:Around}{E:Value→Shared→Prop}{s:Shared}
theorem cat_tup{t b:Addr}{vs ws:List Value}{Q:Value→Shared→Prop}(ht:IsTup s.heap t vs.toArray)(hb:IsTup s.heap b ws.toArray)(hv:vs≠[])
  (h1:ws=[]→Q (.ref t) s) (h2:ws≠[]→Q (.ref s.heap.objs.size) { s with heap:=s.heap.push { cls:=.type "tuple",data:=.seq (vs++ws).toArray } })
  (hsz:vs.length+ws.length≤sizeLine):wpAny (model prog w) A (binaryOp .Add (.ref t) (.ref b)) Q E s:=by
 obtain⟨⟨cls,dd,data,sl⟩,ho,hc,n,hd⟩:=id ht
 obtain⟨⟨cls2,dd2,data2,sl2⟩,ho2,hc2,n2,hd2⟩:=id hb
 simp only at hc hd hc2 hd2
 subst hc hd hc2 hd2
 have e:vs.toArray++ws.toArray=(vs++ws).toArray:=by simp
 by_cases hw:ws=[]
 ·exact concat_meets ⟨_,ho,rfl⟩ ⟨_,ho2,rfl⟩ noFill_tuple_add seq_tuple_add aZ1 aZO (aZE _ _)
   (tuple_addW1 t b vs.toArray ws.toArray n n2 dd dd2 sl sl2 (by simpa using hv) (by simp[hw])) ⟨ho,ho2,h1 hw⟩
 ·refine concat_meets ⟨_,ho,rfl⟩ ⟨_,ho2,rfl⟩ noFill_tuple_add seq_tuple_add aZ1 aZO (aZE _ _)
   (tuple_addW2 t b vs.toArray ws.toArray n n2 dd dd2 sl sl2 (by simpa using hv) (by simpa using hw) (by rw[c8,c8];exact hsz)) ⟨ho,ho2,?_⟩
  rw[e]
  exact h2 hw
def sIx(n d:Nat):Option Int→Nat
 | none=>d
 | some v=>if v<0 then (v+(n:Int)).toNat else min v.toNat n
theorem JJ(n d:Nat)(hd:d≤n)(o:Option Int):sIx n d o≤n:=by
 cases o with
 | none=>exact hd
 | some v =>
  show (if v<0 then (v+(n:Int)).toNat else min v.toNat n)≤n
  by_cases hv:v<0
  ·rw[if_pos hv];omega
  ·rw[if_neg hv];exact Nat.min_le_right _ _
theorem BT(v:Int)(n d:Nat):(if v<0 then max (v+(n:Int)) 0 else min v (n:Int))=((sIx n d (some v):Nat):Int):=by
 show (if v<0 then max (v+(n:Int)) 0 else min v (n:Int))=(((if v<0 then (v+(n:Int)).toNat else min v.toNat n):Nat):Int)
 by_cases hv:v<0
 ·simp only [if_pos hv];omega
 ·simp only [if_neg hv];omega
theorem zT(lo hi:Option Int)(n:Nat):Builtin.Slice.sliceAdjust lo hi 1 (n:Int)=(((sIx n 0 lo:Nat):Int),((sIx n n hi:Nat):Int)):=by
 have h1:¬ ((1:Int)<0):=by omega
 unfold Builtin.Slice.sliceAdjust
 simp only [h1,if_false]
 refine Prod.ext ?_ ?_
 ·cases lo with
  | none=>rfl
  | some v=>exact BT v n 0
 ·cases hi with
  | none=>rfl
  | some v=>exact BT v n n
theorem Am(i j:Nat):Builtin.Slice.slicePlaces (i:Int) (j:Int) 1=j - i:=by
 unfold Builtin.Slice.slicePlaces
 have h1:(1:Int) > 0:=by omega
 simp only [h1,if_true,Int.ediv_one]
 split <;> omega
theorem slicePart_{v:Value}{o:Option Int}{Q:Option Int→Shared→Prop}(p:IsPart v o)(h:Q o s):wpAny (model prog w) A (Builtin.Slice.slicePartIndex v) Q E s:=by
 cases p with
 | none=>exact slicePart_none h
 | int i t=>exact slicePart_int h
theorem sliceApplied_gen{sl:Addr}{vl vu:Value}{lo hi:Option Int}{n:Nat}{Q:Int×Int×Nat→Shared→Prop}(hs:s.heap.IsSliceOf sl vl vu .none)(pl:IsPart vl lo)(pu:IsPart vu hi)
  (h:Q (((sIx n 0 lo:Nat):Int),1,sIx n n hi - sIx n 0 lo) s):wpAny (model prog w) A (Builtin.Slice.sliceApplied (.ref sl) (pure (n:Int))) Q E s:=by
 obtain⟨os,hos,hcs,hds⟩:=id hs
 unfold Builtin.Slice.sliceApplied Builtin.Slice.sliceFields
 refine wpAny_bind (wpAny_bind (wpAny_field hos hds (x:=vl) rfl (wpAny_bind (wpAny_field hos hds (x:=vu) rfl (wpAny_bind (wpAny_field hos hds (x:=.none) rfl (wpAny_pure ?_)))))))
 refine wpAny_bind (slicePart_none ?_)
 show wpAny _ _ (if ((1:Int) == 0)=true then _ else _) _ _ s
 rw[if_neg (by decide)]
 refine wpAny_bind (slicePart_ pl (wpAny_bind (slicePart_ pu (wpAny_bind (wpAny_pure ?_)))))
 show wpAny _ _ (match Builtin.Slice.sliceAdjust lo hi 1 (n:Int) with | (lo,hi)=>pure (lo,(1:Int),Builtin.Slice.slicePlaces lo hi 1)) _ _ s
 rw[zT lo hi n]
 show wpAny _ _ (pure (((sIx n 0 lo:Nat):Int),(1:Int),Builtin.Slice.slicePlaces ((sIx n 0 lo:Nat):Int) ((sIx n n hi:Nat):Int) 1)) _ _ s
 rw[Am]
 exact wpAny_pure h
theorem Fy(xs:Array Value)(i k:Nat):((List.range k).filterMap fun (m:Nat)=>xs[((i:Int)+(m:Int) * 1).toNat]?).toArray=((xs.toList.drop i).take k).toArray:=by
 have e:(fun (m:Nat)=>xs[((i:Int)+(m:Int) * 1).toNat]?)=fun m=>xs[i+m]?:=by
  funext m
  have:((i:Int)+(m:Int) * 1).toNat=i+m:=by omega
  rw[this]
 rw[e]
 have:=pick_run xs i k
 rw[List.filterMap_map] at this
 have e2:((fun x=>xs[x]?) ∘ fun x=>i+x)=fun m=>xs[i+m]?:=rfl
 rw[e2] at this
 rw[this]
theorem getItem_tuple_cut{t sl:Addr}{items:Array Value}{vl vu:Value}{lo hi:Option Int}{Q:Value→Shared→Prop}(ht:IsTup s.heap t items)(hs:s.heap.IsSliceOf sl vl vu .none)(pl:IsPart vl lo)(pu:IsPart vu hi)
  (hw:¬ (sIx items.size 0 lo=0∧sIx items.size items.size hi=items.size))
  (h:Q (.ref s.heap.objs.size) { s with heap:=s.heap.push { cls:=.type "tuple",data:=.seq ((items.toList.drop (sIx items.size 0 lo)).take (sIx items.size items.size hi - sIx items.size 0 lo)).toArray } })
  (hsz:items.size≤sizeLine):wpAny (model prog w) A (getItem (.ref t) (.ref sl)) Q E s:=by
 have htake:sizeOk (.seq ((items.toList.drop (sIx items.size 0 lo)).take (sIx items.size items.size hi - sIx items.size 0 lo)).toArray):=by
  show ((items.toList.drop (sIx items.size 0 lo)).take (sIx items.size items.size hi - sIx items.size 0 lo)).toArray.size≤sizeLine
  rw[c8,j6,aQC,x5]
  omega
 have hj:sIx items.size items.size hi≤items.size:=JJ _ _ (b9 _) hi
 obtain⟨os,hos,hcs,hds⟩:=id hs
 have hTs:s.TypeIs (.ref sl) "slice":=⟨os,hos,hcs⟩
 unfold getItem
 try with_reducible refine wpAny_holding ?_
 first | refine wpAny_bind (wpAny_pure ?_) | skip
 refine wpAny_bind (wpAny_sequenceKey ht.typeIs (by decide) ?_)
 refine wpAny_bind (wpAny_callSpecial?_slot (name:=Str.ofString "__getitem__") ht.typeIs p9
  (wpAny_call_entry p9 ht.typeIs entry_tuple_getitem ?_ (args_tuple_getitem _ _)))
 show wpAny _ _ (Builtin.Tuple.tupleItemsOf (.ref t) >>= _) _ _ s
 refine wpAny_bind (tupleItemsOf_ ht ?_)
 refine wpAny_bind (wpAny_typeOf hTs ?_)
 rw[if_pos (by decide)]
 refine wpAny_bind (sliceApplied_gen hs pl pu ?_)
 have hno:¬ ((((sIx items.size 0 lo:Nat):Int) == 0 && (1:Int) == 1 && (sIx items.size items.size hi - sIx items.size 0 lo) == items.size)=true):=by
  intro q
  rw[y7,y7] at q
  have q1:((sIx items.size 0 lo:Nat):Int)=0:=eq_of_beq q.1.1
  have q2:sIx items.size items.size hi - sIx items.size 0 lo=items.size:=eq_of_beq q.2
  exact hw ⟨by omega,by omega⟩
 show wpAny _ _ (if (((sIx items.size 0 lo:Nat):Int) == 0 && (1:Int) == 1 && (sIx items.size items.size hi - sIx items.size 0 lo) == items.size)=true then _ else _) _ _ s
 rw[if_neg hno,Fy]
 first
  | exact wpAny_bind (m:=Builtin.Tuple.tupleExact _) (wpAny_newObj_type (wpAny_pure ⟨_,rfl,wpAny_pure h⟩) htake)
  | exact wpAny_bind (m:=Builtin.Tuple.tupleExact _) (wpAny_newObj_type (wpAny_bind (wpAny_pure (wpAny_pure ⟨_,rfl,wpAny_pure h⟩))) htake)
  | exact wpAny_bind (wpAny_bind (m:=Builtin.Tuple.tupleExact _) (wpAny_newObj_type (wpAny_pure (wpAny_pure ⟨_,rfl,wpAny_pure h⟩)) htake))
  | exact wpAny_bind (wpAny_bind (m:=Builtin.Tuple.tupleExact _) (wpAny_newObj_type (wpAny_pure ⟨_,rfl,wpAny_pure h⟩) htake))
end
end HT
namespace L2
open PySem PySem.Spec PyProof.Rows
abbrev TO:=St→Hp→(Option Int→Hp→Prop)→Prop
def PO(X:Cx)(e:Option Expr)(t:TO):Prop :=
 ∀ (pins:List (Addr×Obj)) (s:Shared) (σ:St) (H:Hp) (Q:Option Int→Hp→Prop),Inv X pins σ H s→t σ H Q →
  wpAny (model X.prog X.w) X.A (evalPart e X.env) (fun u s'=>∃ o H',Inv X pins σ H' s'∧IsPart u o∧Q o H') X.xe s
def FN:TO:=fun _ H Q=>Q none H
def Lo(t:TE):TO:=fun σ H Q=>t σ H fun x H1=>∃ i,x=.int i∧Q (some i) H1
theorem qI{ns:List Int}:∀ {us:List Value},Vals (ns.map V.int) us→IntsAre us ns:=by
 induction ns with
 | nil=>intro us r;rw[aXO] at r;cases r;exact .nil
 | cons n ns ih =>
  intro us r
  rw[i8] at r
  cases r with
  | cons r1 r2 =>
   obtain⟨t,e⟩:=r1
   subst e
   exact .cons n t (ih r2)
section
variable {X:Cx}{e:Expr}{te:TE}{lo hi:Option Expr}{tl th:TO}{pos p2:Pos}
theorem fF:PO X none FN:=by
 intro pins s σ H Q I h
 rw[evalPart_none]
 exact wpAny_pure ⟨none,H,I,.none,h⟩
theorem eT(h:PE X e te):PO X (some e) (Lo te):=by
 intro pins s σ H Q I hw
 rw[evalPart_some]
 refine bS (h pins s σ H _ I hw) fun u s1 ⟨x,H1,I1,r1,q1⟩=>?_
 obtain⟨i,rfl,q⟩:=q1
 obtain⟨t,rfl⟩:=r1
 exact⟨some i,H1,I1,.int i t,q⟩
def Ki(X:Cx)(r:V→Option Int→Option Int→Hp→VK→Prop):Prop :=
 ∀ (pins:List (Addr×Obj)) (s:Shared) (σ:St) (H:Hp) (x:V) (v vl vu:Value) (lo hi:Option Int) (sl:Addr) (Q:VK),Inv X pins σ H s→RelV x v→s.heap.IsSliceOf sl vl vu .none→IsPart vl lo→IsPart vu hi→r x lo hi H Q →
  ∃ T id,typeLookup (.type T) "__getitem__"=pure (some (.builtin id))∧s.TypeIs v T∧wpAny (model X.prog X.w) X.A (getItem v (.ref sl)) (EP X pins σ Q) X.xe s
def NC(r:V→Option Int→Option Int→Hp→VK→Prop)(te:TE)(tl th:TO):TE:=fun σ H Q=>te σ H fun x H1=>tl σ H1 fun l H2=>th σ H2 fun u H3=>r x l u H3 Q
theorem eO{r:V→Option Int→Option Int→Hp→VK→Prop}(hr:Ki X r)(he:PE X e te)(hl:PO X lo tl)(hu:PO X hi th):PE X (.Subscript e (.Slice lo hi none p2) pos) (NC r te tl th):=by
 intro pins s σ H Q I h
 refine Subscript_ (bS (he pins s σ H _ I h) fun v s1 ⟨x,H1,I1,r1,q1⟩=>?_)
 refine wpAny_Slice (bS (hl pins s1 σ H1 _ I1 q1) fun vl s2 ⟨l,H2,I2,pl,q2⟩=>bS (hu pins s2 σ H2 _ I2 q2) fun vu s3 ⟨u,H3,I3,pu,q3⟩=>?_)
 rw[evalPart_none]
 refine wpAny_pure ?_
 have I4:Inv X pins σ H3 { s3 with heap:=s3.heap.push { cls:=.type "slice",data:=.fields #[vl,vu,.none] } }:=I3.kept (t':=s3.toks) fun b ob q=>b6 _ q
 obtain⟨T,id,hT,ht,hg⟩:=hr pins { s3 with heap:=s3.heap.push { cls:=.type "slice",data:=.fields #[vl,vu,.none] } } σ H3 x v vl vu l u s3.heap.objs.size Q I4 r1 (aZr ..) pl pu q3
 show wpAny (model X.prog X.w) X.A (subscriptTail e (.Slice lo hi none p2) v (.ref s3.heap.objs.size)) (EP X pins σ Q) X.xe { s3 with heap:=s3.heap.push { cls:=.type "slice",data:=.fields #[vl,vu,.none] } }
 exact tail_any (ops:=[.ref s3.heap.objs.size,v]) ht hT hg (by with_unfolding_all rfl)
def mU(xs:List V)(lo hi:Option Int):List V:=(xs.drop (HT.sIx xs.length 0 lo)).take (HT.sIx xs.length xs.length hi - HT.sIx xs.length 0 lo)
theorem oW(xs:List V)(lo hi:Option Int):(mU xs lo hi).length≤xs.length:=by
 unfold mU
 rw[j6,aQC]
 omega
def Nj(K:b5):V→Option Int→Option Int→Hp→VK→Prop:=fun x lo hi H Q=>∃ a xs,x=.ref a∧SqT K H a xs ∧
 ¬ (HT.sIx xs.length 0 lo=0∧HT.sIx xs.length xs.length hi=xs.length)∧∀ p,H p=none→Q (.ref p) (upd H p (.tup (mU xs lo hi)))
theorem JK:Ki X (Nj X.K):=by
 intro pins s σ H x v vl vu lo hi sl Q I rx hs pl pu h
 obtain⟨a,xs,rfl,hx,hw,q⟩:=h
 cases rx
 obtain⟨its,r,ht,hz⟩:=I.tuple hx
 have hlen:its.toArray.size=xs.length:=by rw[c8];exact r.length.symm
 refine⟨"tuple",_,p9.lookup,ht.typeIs,?_⟩
 refine HT.getItem_tuple_cut ht hs pl pu (by rw[hlen];exact hw) ?_ (by rw[hlen];exact hz)
 rw[hlen]
 refine⟨.ref s.heap.objs.size,_,I.laid (t':=s.toks) (o:=.tup (mU xs lo hi)) (fun b ob q=>b6 _ q) (b9 _) ?_,rfl,q _ (I.hok.fresh (b9 _))⟩
 exact⟨j8 (oW xs lo hi) hz,_,(r.drop (HT.sIx xs.length 0 lo)).take (HT.sIx xs.length xs.length hi - HT.sIx xs.length 0 lo),aX3 _ _,NoD.new _ _⟩
def Hz(K:b5):R2:=fun x y H Q=>∃ a b xs ys,x=.ref a∧y=.ref b∧SqT K H a xs∧SqT K H b ys∧xs≠[]∧xs.length+ys.length≤sizeLine ∧
 (ys=[]→Q (.ref a) H)∧(ys≠[]→∀ p,H p=none→Q (.ref p) (upd H p (.tup (xs++ys))))
theorem Vals.nil_iff{xs:List V}{us:List Value}(r:Vals xs us):us=[]↔xs=[]:=by
 cases r with
 | nil=>simp
 | cons _ _=>simp
theorem Gv:jL X (binaryOp .Add) (Hz X.K):=by
 intro pins s σ H x y v u Q I rx ry h
 obtain⟨a,b,xs,ys,rfl,rfl,ha,hb,hx,hz,q1,q2⟩:=h
 cases rx
 cases ry
 obtain⟨its,r1,p1,_⟩:=I.tuple ha
 obtain⟨its2,r2,p2,_⟩:=I.tuple hb
 refine HT.cat_tup p1 p2 (fun z=>hx (r1.nil_iff.mp z)) (fun z=>⟨.ref a,H,I,rfl,q1 (r2.nil_iff.mp z)⟩) (fun z=>?_) (by rw[← r1.length,← r2.length];exact hz)
 refine⟨.ref s.heap.objs.size,_,I.laid (t':=s.toks) (o:=.tup (xs++ys)) (fun b ob q=>b6 _ q) (b9 _) ?_,rfl,q2 (fun w=>z (r2.nil_iff.mpr w)) _ (I.hok.fresh (b9 _))⟩
 exact⟨by rw[c6];exact hz,_,r1.append r2,aX3 _ _,NoD.new _ _⟩
end
def Di(n:Nat)(i:Int):Option Nat:=if 0≤i then (if i<n then some i.toNat else none) else if -(n:Int)≤i then some (i+n).toNat else none
def sI{α:Type}(xs:List α)(i:Int):Option α:=(Di xs.length i).bind fun j=>xs[j]?
theorem BC{n:Nat}{i:Int}{j:Nat}(h:Di n i=some j):seqIndex? i n=some j∧j<n∧-(n:Int)≤i∧i<n:=by
 unfold Di at h
 by_cases h0:0≤i
 ·rw[if_pos h0] at h
  by_cases h1:i<n
  ·rw[if_pos h1] at h
   have e:i.toNat=j:=j1 h
   exact⟨by rw[seqIndex_of h0 h1,e],by omega,by omega,h1⟩
  ·rw[if_neg h1] at h;cases h
 ·rw[if_neg h0] at h
  by_cases h1:-(n:Int)≤i
  ·rw[if_pos h1] at h
   have e:(i+n).toNat=j:=j1 h
   exact⟨by rw[seqIndex_neg (by omega) h1,e],by omega,h1,by omega⟩
  ·rw[if_neg h1] at h;cases h
theorem wG{α:Type}{xs:List α}{i:Int}{v:α}(h:sI xs i=some v):∃ j,seqIndex? i xs.length=some j∧xs[j]?=some v∧j<xs.length∧-(xs.length:Int)≤i∧i<xs.length:=by
 unfold sI at h
 cases e:Di xs.length i with
 | none=>rw[e] at h;cases h
 | some j =>
  rw[e] at h
  obtain⟨h1,h2,h3,h4⟩:=BC e
  exact⟨j,h1,h,h2,h3,h4⟩
theorem cN{α:Type}{xs:List α}{j:Nat}{v:α}(h:xs[j]?=some v):sI xs (j:Int)=some v:=by
 have hj:j<xs.length:=(a9.mp h).1
 have e:Di xs.length (j:Int)=some j:=by
  unfold Di
  rw[if_pos (by omega),if_pos (by omega)];simp
 unfold sI;rw[e];exact h
theorem qT{α:Type}(xs:List α)(v:α):sI (xs++[v]) (-1)=some v:=by
 have hl:(xs++[v]).length=xs.length+1:=by simp
 have e:Di (xs++[v]).length (-1)=some xs.length:=by
  unfold Di
  rw[hl,if_neg (by decide),if_pos (by omega)]
  congr 1
  omega
 unfold sI
 rw[e]
 show (xs++[v])[xs.length]?=some v
 simp
def FX(b:Expr):Prop:=∀ o i,subscripted b false o i=operate [o,i] (getItem o i)
def Js(X:Cx)(r:R2):Prop :=
 ∀ (value slice:Expr) (pins:List (Addr×Obj)) (s:Shared) (σ:St) (H:Hp) (x y:V) (v u:Value) (Q:VK),Inv X pins σ H s→RelV x v→RelV y u→r x y H Q →
  subscripted slice false v u=operate [v,u] (getItem v u)→wpAny (model X.prog X.w) X.A (subscriptTail value slice v u) (EP X pins σ Q) X.xe s
def Ba(X:Cx)(id:String)(r:V→List V→Hp→VK→Prop):Prop :=
 ∀ (pins:List (Addr×Obj)) (s:Shared) (σ:St) (H:Hp) (x:V) (xs:List V) (v:Value) (us:List Value) (Q:VK),Inv X pins σ H s→RelV x v→Vals xs us→r x xs H Q →
  wpAny (model X.prog X.w) X.A (call (.builtin id) (v::us)) (EP X pins σ Q) X.xe s
section
variable {X:Cx}{a b:Expr}{ta tb:TE}{pos:Pos}
theorem aV{r:R2}(hr:Js X r)(ha:PE X a ta)(hb:PE X b tb)(hs:FX b):PE X (.Subscript a b pos) (Ms r ta tb):=by
 intro pins s σ H Q I h
 exact Subscript_ (HZ ha hb I h fun v u s2 x y H2 I2 rx ry q=>hr a b pins s2 σ H2 x y v u Q I2 rx ry q (hs _ _))
def LH(K:b5):R2:=fun x y H Q=>∃ p xs i v,x=.ref p∧y=.int i∧SqL K H p xs∧sI xs i=some v∧Q v H
def LY(K:b5):R2:=fun x y H Q=>∃ p xs i v,x=.ref p∧y=.int i∧SqT K H p xs∧sI xs i=some v∧Q v H
def Nh:R2:=fun x y H Q=>∃ z i c,x=.str z∧y=.int i∧z.length≤sizeLine∧sI z.cps.toList i=some c∧Q (.str ⟨#[c]⟩) H
theorem F_:Js X (LH X.K):=by
 intro value slice pins s σ H x y v u Q I rx ry h hs
 obtain⟨p,xs,i,z,rfl,rfl,hq,he,q⟩:=h
 cases rx
 obtain⟨t,rfl⟩:=ry
 obtain⟨its,r,pl,hz⟩:=I.list hq
 obtain⟨j,h1,h2,h3,h4,h5⟩:=wG he
 obtain⟨w,ew,rw'⟩:=r.get h2
 have hl:=r.length
 have hn:=nT
 have fin:EP X pins σ Q w s:=⟨z,H,I,rw',q⟩
 by_cases h0:0≤i
 ·have hj:i.toNat=j:=by
   rw[seqIndex_of h0 h5] at h1
   exact j1 h1
  exact item_listR pl.isList h0 (by omega) (by rw[hj];simpa using ew) fin hs
 ·have hj:(i+(its.toArray.size:Int)).toNat=j:=by
   rw[seqIndex_neg (by omega) h4] at h1
   rw[c8,← hl]
   exact j1 h1
  exact subscriptTail_builtinR (x:=w) pl.isList.typeIs slot_list_getitem.lookup
   (wpAny_getItem_list_neg (Q:=fun r s'=>r=w∧EP X pins σ Q r s') pl.isList (by omega) (by rw[c8] <;> omega) (by omega) (by rw[hj];simpa using ew) ⟨rfl,fin⟩) hs
theorem JA:Js X (LY X.K):=by
 intro value slice pins s σ H x y v u Q I rx ry h hs
 obtain⟨p,xs,i,z,rfl,rfl,hq,he,q⟩:=h
 cases rx
 obtain⟨t,rfl⟩:=ry
 obtain⟨its,r,pl,hz⟩:=I.tuple hq
 obtain⟨j,h1,h2,h3,h4,h5⟩:=wG he
 obtain⟨w,ew,rw'⟩:=r.get h2
 have hl:=r.length
 have hn:=nT
 have fin:EP X pins σ Q w s:=⟨z,H,I,rw',q⟩
 exact subscriptTail_builtinR (x:=w) pl.typeIs slot_tuple_getitem.lookup
  (getItem_tuple (j:=j) (Q:=fun r s'=>r=w∧EP X pins σ Q r s') pl (by omega) (by omega) (by rw[c8,← hl];exact h1) (by simpa using ew) ⟨rfl,fin⟩) hs
theorem Aq:Js X Nh:=by
 intro value slice pins s σ H x y v u Q I rx ry h hs
 obtain⟨z,i,c,rfl,rfl,hz,he,q⟩:=h
 obtain⟨t,rfl⟩:=rx
 obtain⟨t',rfl⟩:=ry
 obtain⟨j,h1,h2,h3,h4,h5⟩:=wG he
 have hl:z.cps.toList.length=z.length:=by simp[Str.length]
 rw[hl] at h1 h4 h5
 have hn:=nT
 exact tail_any (typeIs_str s z t) slot_str_getitem.lookup (getItem_str (c:=c) (by
  have e1:decide (i < -(2 ^ 63:Int))=false:=decide_eq_false (by omega)
  have e2:decide (i ≥ 2 ^ 63)=false:=decide_eq_false (by omega)
  rw[e1,e2,aJr]) (by rw[h1];simpa using h2) ⟨.str ⟨#[c]⟩,H,I.tok _,⟨_,rfl⟩,q⟩) hs
theorem Ax(its:List Value)(n j:Nat)(u:Value):Obj.mapSeq (·.setIfInBounds j u) { cls:=.type "list",data:=.seq its.toArray n }={ cls:=.type "list",data:=.seq (its.set j u).toArray n }:=by
 simp[Obj.mapSeq]
theorem Inv.lst{pins:List (Addr×Obj)}{σ:St}{H:Hp}{s:Shared}{p:Addr}{xs:List V}(I:Inv X pins σ H s)(h:H p=some (.lst xs)) :
  ∃ (its:List Value) (n:Nat),Vals xs its∧s.heap.get? p=some { cls:=.type "list",data:=.seq its.toArray n }∧xs.length≤sizeLine:=by
 obtain⟨z,its,n,r,e⟩:=I.hok p _ h
 exact⟨its,n,r,e,z⟩
theorem Inv.lstUpd{pins:List (Addr×Obj)}{σ:St}{H:Hp}{s:Shared}{p:Addr}{xs ys:List V}{its its':List Value}{n n':Nat}{f:Obj→Obj}(I:Inv X pins σ H s)(h:H p=some (.lst xs))
  (ho:s.heap.get? p=some { cls:=.type "list",data:=.seq its.toArray n }) (hf:f { cls:=.type "list",data:=.seq its.toArray n }={ cls:=.type "list",data:=.seq its'.toArray n' }) (r:Vals ys its') (hz:ys.length≤sizeLine) (t:Nat) :
  Inv X pins σ (upd H p (.lst ys)) { s with heap:=s.heap.update p f,toks:=t }:=by
 have e:(s.heap.update p f).get? p=some { cls:=.type "list",data:=.seq its'.toArray n' }:=by
  rw[t8 f ho (by rw[hf] <;> rfl),hf]
 refine I.write (x:=p) (e:=p) (by rw[h];trivial) (.inl rfl) (fun b u hb q=>(aQq _ _ (aQX hb)).trans q) ⟨_,e⟩ ?_
 exact⟨hz,its',n',r,e⟩
def Mb:V→V→V→Hp→(Hp→Prop)→Prop:=fun o i v H Q=>∃ p xs k j,o=.ref p∧i=.int k∧H p=some (.lst xs)∧Di xs.length k=some j∧Q (upd H p (.lst (xs.set j v)))
theorem dR:LB X Mb:=by
 intro pins s σ H o i v ov iv u Q I ro ri rv h
 obtain⟨p,xs,k,j,rfl,rfl,hp,hj,q⟩:=h
 cases ro
 obtain⟨t,rfl⟩:=ri
 obtain⟨its,n,r,ho,hz⟩:=I.lst hp
 obtain⟨h1,h2,h3,h4⟩:=BC hj
 have hl:=r.length
 have hn:=nT
 have I':Inv X pins σ (upd H p (.lst (xs.set j v))) { s with heap:=s.heap.update p (Obj.mapSeq (·.setIfInBounds j u)) } :=
  I.lstUpd hp ho (Ax its n j u) (r.set rv j) (by rw[p5];exact hz) s.toks
 by_cases h0:0≤k
 ·have hk:k.toNat=j:=by
   rw[seqIndex_of h0 h4] at h1
   exact j1 h1
  exact PySem.W.ki_setAt ho h0 (by omega) (by rw[c8,← hl];exact h4) (by rw[hk];exact⟨_,I',q⟩)
 ·have hk:(k+(its.toArray.size:Int)).toNat=j:=by
   rw[seqIndex_neg (by omega) h3] at h1
   rw[c8,← hl]
   exact j1 h1
  exact PySem.W.ki_setBack ho (by omega) (by rw[c8,← hl];exact h3) (by omega) (by rw[hk];exact⟨_,I',q⟩)
theorem wE(lo hi:Option Int)(n:Nat):(sliceBounds lo hi none n).1=((HT.sIx n 0 lo:Nat):Int)∧(sliceBounds lo hi none n).2.1=((HT.sIx n n hi:Nat):Int)∧(sliceBounds lo hi none n).2.2=1:=by
 refine⟨?_,?_,rfl⟩
 ·cases lo with
  | none=>simp[sliceBounds,HT.sIx]
  | some i =>
   simp only [sliceBounds,HT.sIx,aJ1,show (1:Int) > 0 by decide,if_true]
   by_cases h:i<0
   ·simp only [h,if_true] <;> omega
   ·simp only [h,if_false] <;> omega
 ·cases hi with
  | none=>simp[sliceBounds,HT.sIx]
  | some i =>
   simp only [sliceBounds,HT.sIx,aJ1,show (1:Int) > 0 by decide,if_true]
   by_cases h:i<0
   ·simp only [h,if_true] <;> omega
   ·simp only [h,if_false] <;> omega
theorem sM(its:List Value)(lo hi:Option Int):slicePick its.toArray lo hi none=((its.drop (HT.sIx its.length 0 lo)).take (HT.sIx its.length its.length hi - HT.sIx its.length 0 lo)).toArray:=by
 obtain⟨h1,h2,h3⟩:=wE lo hi its.toArray.size
 unfold slicePick
 rw[h1,h2,h3]
 simp only [sliceRange_one,pick_run,c8] <;> rfl
def KQ(K:b5):V→Option Int→Option Int→Hp→VK→Prop:=fun x lo hi H Q=>∃ a xs,x=.ref a∧SqL K H a xs∧∀ p,H p=none→Q (.ref p) (upd H p (.lst (mU xs lo hi)))
theorem GW:Ki X (KQ X.K):=by
 intro pins s σ H x v vl vu lo hi sl Q I rx hs pl pu h
 obtain⟨a,xs,rfl,hx,q⟩:=h
 cases rx
 obtain⟨its,r,ht,hz⟩:=I.list hx
 have hlen:=r.length
 refine⟨"list",_,slot_list_getitem.lookup,ht.isList.typeIs,?_⟩
 refine wpAny_getItem_list_slice ht.isList hs pl pu .none (by simp) ?_ (by rw[c8] <;> omega)
 rw[sM,← hlen]
 refine⟨.ref s.heap.objs.size,_,I.laid (t':=s.toks) (o:=.lst (mU xs lo hi)) (fun b ob q=>b6 _ q) (b9 _) ?_,rfl,q _ (I.hok.fresh (b9 _))⟩
 exact⟨j8 (oW xs lo hi) hz,_,0,(r.drop (HT.sIx xs.length 0 lo)).take (HT.sIx xs.length xs.length hi - HT.sIx xs.length 0 lo),d9 _ rfl⟩
def gC:V→Bool
 | .non=>true
 | .bl _=>true
 | .int _=>true
 | .str _=>true
 | _=>false
def oY:V→V→Bool
 | .non,.non=>true
 | .bl a,.bl b=>a == b
 | .bl a,.int b=>(if a then 1 else 0) == b
 | .int a,.bl b=>a == (if b then 1 else 0)
 | .int a,.int b=>a == b
 | .str a,.str b=>a == b
 | _,_=>false
theorem Ai{A:Around}{s:Shared}{y x:V}{u v:Value}(ry:RelV y u)(rx:RelV x v)(fy:gC y=true)(fx:gC x=true):SeqAt.EqAt A s u v (oY y x):=by
 cases y with
 | non =>
  cases ry
  cases x with
  | non=>cases rx;exact aJe _
  | bl b=>cases rx;exact SeqAt.EqAt.none_bool b
  | int b=>obtain⟨t,rfl⟩:=rx;exact SeqAt.EqAt.none_int b t
  | str b=>obtain⟨t,rfl⟩:=rx;exact SeqAt.EqAt.none_str b t
  | _=>exact absurd (show false=true from fx) j2
 | bl a =>
  cases ry
  cases x with
  | non=>cases rx;exact SeqAt.EqAt.bool_none a
  | bl b=>cases rx;exact SeqAt.EqAt.bool_bool a b
  | int b=>obtain⟨t,rfl⟩:=rx;exact SeqAt.EqAt.bool_int a b t
  | str b=>obtain⟨t,rfl⟩:=rx;exact SeqAt.EqAt.bool_str a b t
  | _=>exact absurd (show false=true from fx) j2
 | int a =>
  obtain⟨t',rfl⟩:=ry
  cases x with
  | non=>cases rx;exact SeqAt.EqAt.int_none a t'
  | bl b=>cases rx;exact SeqAt.EqAt.int_bool a t' b
  | int b=>obtain⟨t,rfl⟩:=rx;exact aXP a t' b t
  | str b=>obtain⟨t,rfl⟩:=rx;exact aZo a t' b t
  | _=>exact absurd (show false=true from fx) j2
 | str a =>
  obtain⟨t',rfl⟩:=ry
  cases x with
  | non=>cases rx;exact SeqAt.EqAt.str_none a t'
  | bl b=>cases rx;exact SeqAt.EqAt.str_bool a t' b
  | int b=>obtain⟨t,rfl⟩:=rx;exact aZp a t' b t
  | str b=>obtain⟨t,rfl⟩:=rx;exact aZs a t' b t
  | _=>exact absurd (show false=true from fx) j2
 | _=>exact absurd (show false=true from fy) j2
def AU(x:V)(u:Value):Bool:=match u with
 | .none=>oY .non x
 | .bool b=>oY (.bl b) x
 | .int i _=>oY (.int i) x
 | .str z _=>oY (.str z) x
 | _=>false
theorem Db{x y:V}{u:Value}(r:RelV y u)(f:gC y=true):AU x u=oY y x:=by
 cases y with
 | non=>cases r;rfl
 | bl b=>cases r;rfl
 | int i=>obtain⟨t,rfl⟩:=r;rfl
 | str z=>obtain⟨t,rfl⟩:=r;rfl
 | _=>exact absurd (show false=true from f) j2
theorem mL{x:V}:∀ {xs:List V} {us:List Value},Vals xs us→xs.all gC=true→us.any (AU x)=xs.any fun y=>oY y x
 | _,_,.nil,_=>rfl
 | y::xs,u::us,.cons r t,f=>by
  rw[aZd,y7] at f
  rw[aXW,aXW,Db r f.1,mL t f.2]
theorem kA{A:Around}{s:Shared}{x:V}{v:Value}(rx:RelV x v)(fx:gC x=true):∀ {xs:List V} {us:List Value},Vals xs us→xs.all gC=true→∀ u∈us,SeqAt.EqAt A s u v (AU x u)
 | _,_,.nil,_=>fun u hu=>by cases hu
 | y::xs,u::us,.cons r t,f=>fun u' hu=>by
  rw[aZd,y7] at f
  rcases d3.mp hu with rfl | hu
  ·rw[Db r f.1];exact Ai r rx f.1 fx
  ·exact kA rx fx t f.2 u' hu
def Ed(x:V)(xs:List V):Bool:=xs.any fun y=>oY y x
def Mo(K:b5)(neg:Bool):R2:=fun x y H Q=>∃ p xs,y=.ref p∧(SqL K H p xs∨SqT K H p xs)∧gC x=true∧xs.all gC=true∧Q (.bl (if neg then !Ed x xs else Ed x xs)) H
theorem Cr:jL X (compareOp .In) (Mo X.K false):=by
 intro pins s σ H x y v u Q I rx ry h
 obtain⟨p,xs,rfl,hq,fx,fs,q⟩:=h
 cases ry
 rcases hq with hq | hq
 ·obtain⟨its,r,pl,hz⟩:=I.list hq
  refine SeqAt.in_listAt (AU x) pl.isList (fun w hw=>kA rx fx r fs w (by simpa using hw)) ⟨.bl _,H,I,rfl,?_⟩
  rw[show its.toArray.any (AU x)=its.any (AU x) by simp,mL r fs]
  exact q
 ·obtain⟨its,r,pl,hz⟩:=I.tuple hq
  refine SeqAt.in_tupleAt (AU x) pl (fun w hw=>kA rx fx r fs w (by simpa using hw)) ⟨.bl _,H,I,rfl,?_⟩
  rw[show its.toArray.any (AU x)=its.any (AU x) by simp,mL r fs]
  exact q
theorem vL:jL X (compareOp .NotIn) (Mo X.K true):=by
 intro pins s σ H x y v u Q I rx ry h
 obtain⟨p,xs,rfl,hq,fx,fs,q⟩:=h
 cases ry
 rcases hq with hq | hq
 ·obtain⟨its,r,pl,hz⟩:=I.list hq
  refine SeqAt.notIn_listAt (AU x) pl.isList (fun w hw=>kA rx fx r fs w (by simpa using hw)) ⟨.bl _,H,I,rfl,?_⟩
  rw[show its.toArray.any (AU x)=its.any (AU x) by simp,mL r fs]
  exact q
 ·obtain⟨its,r,pl,hz⟩:=I.tuple hq
  refine SeqAt.notIn_tupleAt (AU x) pl (fun w hw=>kA rx fx r fs w (by simpa using hw)) ⟨.bl _,H,I,rfl,?_⟩
  rw[show its.toArray.any (AU x)=its.any (AU x) by simp,mL r fs]
  exact q
theorem vN:dZ X (.builtin "len") (fun xs H Q=>∃ p ys,xs=[.ref p]∧(SqL X.K H p ys∨SqT X.K H p ys)∧Q (.int ys.length) H):=by
 intro pins s σ H xs us Q I r h
 obtain⟨p,ys,rfl,hq,q⟩:=h
 obtain⟨u,rfl,rx⟩:=mZ r
 cases rx
 have hn:=nT
 rcases hq with hq | hq
 ·obtain⟨its,r',pl,hz⟩:=I.list hq
  have hlen:=r'.length
  exact Calls.call_len_list pl.isList (by simp only [c8] <;> omega) ⟨.int ys.length,H,I.tok _,⟨s.toks+1,by rw[c8,hlen]⟩,q⟩
 ·obtain⟨its,r',pl,hz⟩:=I.tuple hq
  have hlen:=r'.length
  exact len_tuple pl (by simp only [c8] <;> omega) ⟨.int ys.length,H,I.tok _,⟨s.toks+1,by rw[c8,hlen]⟩,q⟩
theorem eJ:dZ X (.builtin "len") (fun xs H Q=>∃ z,xs=[.str z]∧z.length≤sizeLine∧Q (.int z.length) H):=by
 intro pins s σ H xs us Q I r h
 obtain⟨z,rfl,hz,q⟩:=h
 obtain⟨u,rfl,t,rfl⟩:=mZ r
 have hn:=nT
 exact len_str (by omega) ⟨.int z.length,H,I.tok _,⟨_,rfl⟩,q⟩
theorem vG:dZ X (.type "list") (fun xs H Q=>∃ p ys,xs=[.ref p]∧(SqL X.K H p ys∨SqT X.K H p ys)∧∀ l,H l=none→Q (.ref l) (upd H l (.lst ys))):=by
 intro pins s σ H xs us Q I r h
 obtain⟨p,ys,rfl,hq,q⟩:=h
 obtain⟨u,rfl,rx⟩:=mZ r
 cases rx
 have fin:∀ (its:List Value),Vals ys its→ys.length≤sizeLine→∀ (h':Heap) (c':Nat),(∀ b o',s.heap.get? b=some o'→h'.get? b=some o') →
   h'.get? s.heap.objs.size=some { cls:=.type "list",dict:=none,data:=.seq its.toArray c',slots:=#[] }→EP X pins σ Q (.ref s.heap.objs.size) { s with heap:=h' }:=fun its r' hz h' c' kp e =>
  ⟨.ref s.heap.objs.size,_,I.laid (t':=s.toks) kp (b9 _) (show ObjOk X.prog X.w _ h' _ (.lst ys) from ⟨hz,its,c',r',e⟩),rfl,q _ (I.hok.fresh (b9 _))⟩
 rcases hq with hq | hq
 ·obtain⟨its,r',pl,hz⟩:=I.list hq
  have hlen:=r'.length
  obtain⟨o,ho,hc,n,hd⟩:=pl.isList
  exact call_list_seq p (.inl rfl) ho hc hd (fun h' c' kp e=>fin its r' hz h' c' kp e) (by simp only [c8] <;> omega)
 ·obtain⟨its,r',pl,hz⟩:=I.tuple hq
  have hlen:=r'.length
  obtain⟨o,ho,hc,n,hd⟩:=pl
  exact call_list_seq p (.inr rfl) ho hc hd (fun h' c' kp e=>fin its r' hz h' c' kp e) (by simp only [c8] <;> omega)
theorem sH:dZ X (.type "tuple") (fun xs H Q=>∃ p ys,xs=[.ref p]∧((SqL X.K H p ys∧∀ l,H l=none→Q (.ref l) (upd H l (.tup ys)))∨(SqT X.K H p ys∧Q (.ref p) H))):=by
 intro pins s σ H xs us Q I r h
 obtain⟨p,ys,rfl,h⟩:=h
 obtain⟨u,rfl,rx⟩:=mZ r
 cases rx
 rcases h with ⟨hq,q⟩ | ⟨hq,q⟩
 ·obtain⟨its,r',pl,hz⟩:=I.list hq
  have hlen:=r'.length
  refine call_tuple_list pl.isList (fun h' kp=>?_) (by simp only [c8] <;> omega)
  have I1:Inv X pins σ H { s with heap:=h' }:=I.kept (t':=s.toks) kp
  have I2:Inv X pins σ (upd H h'.objs.size (.tup ys)) { s with heap:=h'.push { cls:=.type "tuple",data:=.seq its.toArray } } :=
   I1.laid (t':=s.toks) (fun b o e=>b6 _ e) (b9 _) (show ObjOk X.prog X.w _ _ _ (.tup ys) from ⟨hz,its,r',aX3 _ _,NoD.new _ _⟩)
  exact⟨.ref h'.objs.size,_,I2,rfl,q _ (I1.hok.fresh (b9 _))⟩
 ·obtain⟨its,r',pl,hz⟩:=I.tuple hq
  exact call_tuple_same pl ⟨.ref p,H,I,rfl,q⟩
def MW(K:b5)(T:String)(x:V)(H:Hp):Prop:=match x with
 | .str _=>T="str"
 | .int _=>T="int"
 | .ref p=>(T="list"∧∃ xs,SqL K H p xs)∨(T="tuple"∧∃ o,K.lookup p=some o∧o.cls=.type "tuple"∧o.dict=none) ∨
   (T="dict"∧((∃ kvs,H p=some (.dK kvs))∨∃ kvs,H p=some (.dT kvs)))∨(T="set"∧∃ S n,H p=some (.set S n))
 | _=>False
theorem Em{pins:List (Addr×Obj)}{σ:St}{H:Hp}{s:Shared}{T:String}{x:V}{v:Value}(I:Inv X pins σ H s)(r:RelV x v)(ty:MW X.K T x H) :
  s.TypeIs v T∧∀ a,v=.ref a→∃ ob,s.heap.get? a=some ob∧ob.dict=none:=by
 cases x with
 | str z =>
  obtain⟨t,rfl⟩:=r
  cases (show T="str" from ty)
  exact⟨typeIs_str s z t,fun _ e=>nomatch e⟩
 | int i =>
  obtain⟨t,rfl⟩:=r
  cases (show T="int" from ty)
  exact⟨typeIs_int s i t,fun _ e=>nomatch e⟩
 | ref p =>
  cases r
  rcases ty with ⟨rfl,xs,hq⟩ | ⟨rfl,o,hk,hc,hd⟩ | ⟨rfl,hk⟩ | ⟨rfl,S,n,hk⟩
  ·obtain⟨its,_,pl,_⟩:=I.list hq
   refine⟨pl.isList.typeIs,fun a e=>?_⟩
   cases e
   obtain⟨o,n,e,c,hd,_⟩:=pl
   exact⟨o,e,hd⟩
  ·refine⟨⟨o,I.kIn p o hk,hc⟩,fun a e=>?_⟩
   cases e
   exact⟨o,I.kIn _ o hk,hd⟩
  ·have z:∃ o,s.heap.get? p=some o∧o.ExactDict:=by
    rcases hk with ⟨kvs,hk⟩ | ⟨kvs,hk⟩
    ·obtain⟨_,_,_,_,o,_,_,e,ex,_⟩:=I.hok p _ hk
     exact⟨o,e,ex⟩
    ·obtain⟨_,_,_,_,o,_,_,e,ex,_⟩:=I.hok p _ hk
     exact⟨o,e,ex⟩
   obtain⟨o,e,ex⟩:=z
   refine⟨⟨o,e,ex.1⟩,fun a e2=>?_⟩
   cases e2
   exact⟨o,e,ex.2.1⟩
  ·obtain⟨o,_,_,_,e,ex,_⟩:=I.hok p _ hk
   refine⟨⟨o,e,ex.1⟩,fun a e2=>?_⟩
   cases e2
   exact⟨o,e,ex.2.1⟩
 | _=>exact False.elim ty
def L5(K:b5)(T:String)(r:V→List V→Hp→VK→Prop)(to:TE):TE:=fun σ H Q=>to σ H fun x H1=>MW K T x H1∧r x [] H1 Q
def Nr(K:b5)(T:String)(r:V→List V→Hp→VK→Prop)(to:TE)(t:TA):TE:=fun σ H Q=>to σ H fun x H1=>MW K T x H1∧t σ H1 fun xs H2=>r x xs H2 Q
variable {o e:Expr}{es:List Expr}{to:TE}{t:TA}{name:Str}{apos cpos:Pos}{T id:String}{r:V→List V→Hp→VK→Prop}
theorem J0(pa:PlainAttrs T)(slot:Slot T name id)(hty:typeOf (.builtin id)=pure (.type "method_descriptor"))(hm:Ba X id r)(ho:PE X o to)
  (hbase:attributeBase o name X.env (eval o X.env)=eval o X.env:=by rfl) (hline:(apos.endLine == cpos.line)=true:=by rfl):PE X (.Call (.Attribute o name apos) [] [] cpos) (L5 X.K T r to):=by
 intro pins s σ H Q I h
 refine wpAny_Call_method0_late hbase hline (bS (ho pins s σ H _ I h) fun v s1 ⟨x,H1,I1,r1,ty,q1⟩=>?_)
 obtain⟨h1,h2⟩:=Em I1 r1 ty
 exact⟨T,id,pa,slot,hty,h1,h2,z9 rfl (aZh (hm pins s1 σ H1 x [] v [] Q I1 r1 .nil q1))⟩
theorem LQ(pa:PlainAttrs T)(slot:Slot T name id)(hty:typeOf (.builtin id)=pure (.type "method_descriptor"))(hm:Ba X id r)(ho:PE X o to)(ha:PA X (e::es) t)
  (hbase:attributeBase o name X.env (eval o X.env)=eval o X.env:=by rfl)
  (hfew:((backTo cpos (starEach (e::es) X.env)).all (fun x=>!x.1) && (backToKw cpos (keywordEach [] X.env)).all (fun x=>x.1.isSome)
   && decide ((e::es).length+([]:List Keyword).length+(if ([]:List Keyword).isEmpty then 0 else 1)<30))=true:=by rfl)
  (hline:(apos.endLine == cpos.line)=true:=by rfl) (hs:starEach (e::es) X.env=(false,eval e X.env)::starEach es X.env:=by rfl) (hplain:(backTo cpos (starEach es X.env)).any (·.1)=false:=by rfl) :
  PE X (.Call (.Attribute o name apos) (e::es) [] cpos) (Nr X.K T r to t):=by
 intro pins s σ H Q I h
 refine wpAny_Call_method_late hbase hfew hline rfl (bS (ho pins s σ H _ I h) fun v s1 ⟨x,H1,I1,r1,ty,q1⟩=>?_)
 obtain⟨h1,h2⟩:=Em I1 r1 ty
 refine⟨T,id,pa,slot,hty,h1,h2,?_⟩
 have hA:=ha cpos pins s1 σ H1 _ I1 q1
 rw[hs] at hA ⊢
 refine z9 (by show (false || (backTo cpos (starEach es X.env)).any (·.1))=false;rw[hplain] <;> rfl) (aQe ?_)
 exact bS hA fun us s2 ⟨vs,H2,I2,r2,q2⟩=>hm pins s2 σ H2 x vs v us Q I2 r1 r2 q2
/- xs.append(e),list.index on a module's tuple .. are Ba facts of 06m -/
end
def MB(X:Cx)(id:String)(r:V→List V→Hp→VK→Prop):Prop :=
 ∀ (pins:List (Addr×Obj)) (s:Shared) (σ:St) (H:Hp) (x:V) (xs:List V) (v:Value) (us:List Value) (Q:VK),Inv X pins σ H s→RelV x v→Vals xs us→r x xs H Q →
  wpAny (model X.prog X.w) X.A (call (.builtin id) (v::us)) (EP X pins σ Q) X.xe s
theorem Vals.one:∀ {x:V} {us:List Value},Vals [x] us→∃ u,us=[u]∧RelV x u
 | _,_,.cons r .nil=>⟨_,rfl,r⟩
theorem Vals.two:∀ {x y:V} {us:List Value},Vals [x,y] us→∃ u v,us=[u,v]∧RelV x u∧RelV y v
 | _,_,_,.cons r (.cons q .nil)=>⟨_,_,rfl,r,q⟩
theorem Vals.zero:∀ {us:List Value},Vals [] us→us=[]
 | _,.nil=>rfl
theorem Vals.dropLast{xs:List V}{us:List Value}(h:Vals xs us):Vals xs.dropLast us.dropLast:=by
 induction h with
 | nil=>exact .nil
 | cons r t ih =>
  cases t with
  | nil=>exact .nil
  | cons q t'=>exact .cons r ih
theorem Vals.eraseIdx:∀ {xs:List V} {us:List Value} (i:Nat),Vals xs us→Vals (xs.eraseIdx i) (us.eraseIdx i)
 | _,_,_,.nil=>.nil
 | _,_,0,.cons _ t=>t
 | _,_,i+1,.cons r t=>.cons r (Vals.eraseIdx i t)
theorem Vals.rep{xs:List V}{us:List Value}(h:Vals xs us):∀ k:Nat,Vals (List.replicate k xs).flatten (List.replicate k us).flatten
 | 0=>.nil
 | k+1=>by
  rw[aQK,aQK,aQI,aQI]
  exact Vals.append h (Vals.rep h k)
theorem zX{α:Type}(l:List α):l.eraseIdx (l.length - 1)=l.dropLast:=by
 induction l with
 | nil=>rfl
 | cons a r ih =>
  cases r with
  | nil=>rfl
  | cons b r =>
   have e:(a::b::r).length - 1=((b::r).length - 1)+1:=by
    have h1:(a::b::r).length=r.length+2:=rfl
    have h2:(b::r).length=r.length+1:=rfl
    omega
   rw[e,List.eraseIdx_cons_succ,ih]
   all_goals rfl
theorem tJ{α:Type}:∀ (l:List α) (i:Nat),(l.eraseIdx i).length≤l.length
 | [],_=>b9 _
 | _::_,0=>aQp _
 | _::r,i+1=>Nat.succ_le_succ (tJ r i)
theorem foldl_rep(its:List Value):∀ (k:Nat) (acc:List Value),
  List.foldl (fun x1 x2=>x1++x2) acc.toArray (List.replicate k its.toArray)=(acc++(List.replicate k its).flatten).toArray
 | 0,acc=>by simp
 | k+1,acc=>by
  have e:acc.toArray++its.toArray=(acc++its).toArray:=by simp
  have e2:(acc++its)++(List.replicate k its).flatten=acc++(List.replicate (k+1) its).flatten:=by
   rw[aQK,aQI,l6]
  rw[← e2,← foldl_rep its k (acc++its),← e,aQK,aXL]
section
variable {X:Cx}{pins:List (Addr×Obj)}{σ:St}{H:Hp}{s:Shared}{l b:Addr}{xs ys zs:List V}
theorem Inv.lset{its its':List Value}{n:Nat}{f:Array Value→Array Value}{t':Nat}(I:Inv X pins σ H s)(hH:H l=some (.lst xs))
  (e:s.heap.get? l=some { cls:=.type "list",data:=.seq its.toArray n }) (hf:f its.toArray=its'.toArray) (hv:Vals ys its') (hz:ys.length≤sizeLine) :
  Inv X pins σ (upd H l (.lst ys)) { s with heap:=s.heap.update l (Obj.mapSeq f),toks:=t' }:=by
 have q:=PySem.IsL.update e f
 rw[hf] at q
 refine I.write (x:=l) (e:=l) (by rw[hH];exact trivial) (.inl rfl) (fun b' u hb hu=>(aQq s.heap (Obj.mapSeq f) (aQX hb)).trans hu) ⟨_,q⟩ ?_
 exact⟨hz,its',_,hv,q⟩
theorem Inv.lnew{its:List Value}{t':Nat}(I:Inv X pins σ H s)(hv:Vals ys its)(hz:ys.length≤sizeLine) :
  Inv X pins σ (upd H s.heap.objs.size (.lst ys)) { s with heap:=s.heap.push { cls:=.type "list",data:=.seq its.toArray },toks:=t' } :=
 I.laid (fun _ _ q=>b6 _ q) (b9 _) ⟨hz,its,0,hv,d9 _ rfl⟩
theorem Inv.fresh(I:Inv X pins σ H s):H s.heap.objs.size=none:=I.hok.fresh (b9 _)
theorem Inv.lstM(I:Inv X pins σ H s)(hH:H l=some (.lst xs)):xs.length≤sizeLine∧∃ (its:List Value) (n:Nat),Vals xs its∧xs.length=its.length∧s.heap.get? l=some { cls:=.type "list",data:=.seq its.toArray n }:=by
 obtain⟨z,its,n,r,e⟩:=I.hok l _ hH
 exact⟨z,its,n,r,r.length,e⟩
theorem EW{n:Nat}(h:n≤sizeLine):Builtin.List.listTooLong n=false:=by
 unfold Builtin.List.listTooLong
 exact decide_eq_false (by omega)
end
section
variable {X:Cx}
def Gd:V→List V→Hp→VK→Prop:=fun x vs H Q=>∃ l xs y,x=.ref l∧vs=[y]∧H l=some (.lst xs)∧xs.length<sizeLine∧Q .non (upd H l (.lst (xs++[y])))
theorem bX:MB X "list.append" Gd:=by
 intro pins s σ H x vs v us Q I rx rv h
 obtain⟨l,xs,y,rfl,rfl,hH,hz,q⟩:=h
 cases rx
 obtain⟨u,rfl,ru⟩:=rv.one
 obtain⟨z,its,n,r,hl,e⟩:=I.lstM hH
 refine call_meets F.slot_list_append ⟨_,e,rfl⟩ F.entry_list_append (F.args_list_append_2 _ _) (PySem.list_append l its.toArray n u (by rw[c8];omega)) ⟨e,?_⟩
 refine⟨.non,_,I.lset (its':=its++[u]) hH e (by simp) (r.append (.cons ru .nil)) ?_,rfl,q⟩
 rw[c6,aQO]
 omega
def FV:V→List V→Hp→VK→Prop:=fun x vs H Q=>∃ l b xs zs,x=.ref l∧vs=[.ref b]∧H l=some (.lst xs)∧H b=some (.lst zs)∧xs.length+zs.length≤sizeLine∧Q .non (upd H l (.lst (xs++zs)))
theorem Kl:MB X "list.extend" FV:=by
 intro pins s σ H x vs v us Q I rx rv h
 obtain⟨l,b,xs,zs,rfl,rfl,hH,hB,hz,q⟩:=h
 cases rx
 obtain⟨u,rfl,ru⟩:=rv.one
 cases ru
 obtain⟨z,its,n,r,hl,e⟩:=I.lstM hH
 obtain⟨z2,its2,n2,r2,hl2,e2⟩:=I.lstM hB
 have hsz:its.toArray.size+its2.toArray.size≤sizeLine:=by rw[c8,c8];omega
 have hlong:¬ (!its.toArray.isEmpty && Builtin.List.listTooLong (its.toArray.size+its2.toArray.size))=true:=by
  rw[EW hsz,aZ5]
  exact j2
 refine call_meets F.slot_list_extend ⟨_,e,rfl⟩ F.entry_list_extend (F.args_list_extend_2 _ _)
  (AutoSeq1.list_extend_list_list_0 l its.toArray n b its2.toArray n2 hlong (by rw[c8];omega) (by omega)) ⟨e,e2,?_⟩
 refine⟨.non,_,I.lset (its':=its++its2) hH e (by simp) (r.append r2) ?_,rfl,q⟩
 rw[c6]
 omega
def Nc:V→List V→Hp→VK→Prop:=fun x vs H Q=>∃ l xs y,x=.ref l∧vs=[]∧H l=some (.lst xs)∧xs[xs.length - 1]?=some y∧Q y (upd H l (.lst xs.dropLast))
theorem ED:MB X "list.pop" Nc:=by
 intro pins s σ H x vs v us Q I rx rv h
 obtain⟨l,xs,y,rfl,rfl,hH,hy,q⟩:=h
 cases rx
 have hus:=rv.zero
 subst hus
 obtain⟨z,its,n,r,hl,e⟩:=I.lstM hH
 obtain⟨u,hu,ru⟩:=r.get hy
 have hy':its.toArray[its.toArray.size - 1]?=some u:=by
  show its.toArray[its.length - 1]?=some u
  rw[← aQv,← hl]
  exact hu
 refine call_meets aJf ⟨_,e,rfl⟩ aJ2 (F.args_list_pop_1 _) (MeetsSeq.list_pop_last l its.toArray n u hy' (by rw[c8];omega)) ⟨e,?_⟩
 refine⟨y,_,I.lset (its':=its.dropLast) hH e ?_ r.dropLast ?_,ru,q⟩
 ·show its.toArray.eraseIdxIfInBounds (its.toArray.size - 1)=its.dropLast.toArray
  rw[c8,aX6,zX]
 ·rw[List.length_dropLast]
  omega
def JW:V→List V→Hp→VK→Prop:=fun x vs H Q=>∃ l xs i k y,x=.ref l∧vs=[.int i]∧H l=some (.lst xs)∧-(2 ^ 63)≤i∧i<2 ^ 63∧seqIndex? i xs.length=some k∧xs[k]?=some y∧Q y (upd H l (.lst (xs.eraseIdx k)))
theorem xH:MB X "list.pop" JW:=by
 intro pins s σ H x vs v us Q I rx rv h
 obtain⟨l,xs,i,k,y,rfl,rfl,hH,h1,h2,hk,hy,q⟩:=h
 cases rx
 obtain⟨u,rfl,ru⟩:=rv.one
 obtain⟨t,rfl⟩:=ru
 obtain⟨z,its,n,r,hl,e⟩:=I.lstM hH
 obtain⟨w,hw,rw'⟩:=r.get hy
 refine call_meets aJf ⟨_,e,rfl⟩ aJ2 (F.args_list_pop_2 _ _)
  (MeetsSeq.list_pop_at l its.toArray n i t k w (fitsIndex_both h1 h2) (by rw[c8,← hl];exact hk) (by rw[← aQv];exact hw) (by rw[c8];omega)) ⟨e,?_⟩
 refine⟨y,_,I.lset (its':=its.eraseIdx k) hH e ?_ (r.eraseIdx k) ?_,rw',q⟩
 ·show its.toArray.eraseIdxIfInBounds k=(its.eraseIdx k).toArray
  rw[aX6]
 ·have:=tJ xs k
  omega
def MR:R2:=fun x y H Q=>∃ l b xs zs,x=.ref l∧y=.ref b∧H l=some (.lst xs)∧H b=some (.lst zs)∧xs.length+zs.length≤sizeLine∧∀ p,H p=none→Q (.ref p) (upd H p (.lst (xs++zs)))
theorem FD:jL X (binaryOp .Add) MR:=by
 intro pins s σ H x y v u Q I rx ry h
 obtain⟨l,b,xs,zs,rfl,rfl,hH,hB,hz,q⟩:=h
 cases rx
 cases ry
 obtain⟨z,its,n,r,hl,e⟩:=I.lstM hH
 obtain⟨z2,its2,n2,r2,hl2,e2⟩:=I.lstM hB
 refine PySem.P.add_list e e2 ?_ (by rw[c8,c8];omega)
 have ea:its.toArray++its2.toArray=(its++its2).toArray:=by simp
 rw[ea]
 exact⟨.ref _,_,I.lnew (t':=s.toks) (r.append r2) (by rw[c6];omega),rfl,q _ I.fresh⟩
theorem len_rep{α:Type}(xs:List α)(k:Nat):(List.replicate k xs).flatten.length=k * xs.length:=by
 induction k with
 | zero=>simp
 | succ k ih=>rw[aQK,aQI,c6,ih,aKS,Nat.add_comm]
end
end L2
namespace Att
open PySem PySem.W PySem.Calls PyProof.Rows
theorem pF{P:Params}{h:Heap}:∀ (ns:List Int) (vs:List Value),WellAll P h vs (ns.map WData.int)→IntsAre vs ns:=by
 intro ns
 induction ns with
 | nil =>
  intro vs w
  rw[aXO] at w
  cases w
  exact .nil
 | cons n ns ih =>
  intro vs w
  rw[i8] at w
  cases w with
  | cons a b =>
   cases a
   exact .cons _ _ (ih _ b)
theorem C2{l:OpenLaw}{n:Nat}(hn:l.most=some n){P:Params}{h:Heap}{args:List WData}{vals:List Value}
  (hpre:l.row.toRowW.claim.pre args=true) (hwl:WellAll P h vals args) :
  ∃ a vs ns,vals=[Value.ref a]∧args=[WData.list (ns.map WData.int)]∧h.get? a=some { cls:=.type "list",data:=.seq vs.toArray }∧IntsAre vs ns∧ns.length≤n:=by
 have hsh:WShape.hasAll [] args [.list .int]=true:=(pre_splitW hpre).1
 have hc:l.pre.holds [] { args:=args }=true:=(pre_splitW hpre).2
 obtain⟨d,r,rfl,h1,h2⟩:=hasAllW_cons hsh
 obtain rfl:=hasAllW_nil h2
 obtain⟨xs,rfl,h3⟩:=hasW_list h1
 obtain⟨ns,rfl⟩:=items_int h3
 have hlen:ns.length≤n:=by
  unfold OpenLaw.pre at hc
  have h4:(WTm.not (.lt (.lit (.int (n:Int))) (.len (.arg 0)))).holds [] { args:=[.list (ns.map .int)] }=true:=by
   have h4:=(holds_andW hc).1
   rw[hn] at h4
   exact h4
  have h5:=condW_of h4 (w_not (w_lt w_lit (w_len_list (w_arg rfl))))
  rw[b7] at h5
  refine Nat.le_of_not_lt fun q=>?_
  have q':(n:Int)<((ns.length:Nat):Int):=by omega
  first
   | (rw[decide_eq_true q'] at h5;exact absurd h5 (by decide))
   | (simp at h5;omega)
 cases hwl with
 | cons w1 w2 =>
  cases w2
  cases w1 with
  | list ho hall=>exact⟨_,_,ns,rfl,rfl,ho,pF ns _ hall,hlen⟩
theorem C3(l:OpenLaw)(args:List WData):l.row.toRowW.claim.post args (.bool true) args=true :=
 postW_of (r:=l.row.toRowW) (X:=(true == true))
  (show WShape.has [] (.bool true) .bool=true by first | rfl | decide | simp[WShape.has,WShape.arms,WShape.armsAll])
  (show (WTm.eq .res (.lit (.bool true))).value [] { args:=args,res:=some (.bool true),after:=args }=some (.bool (true == true)) from w_eq_bool (w_res rfl) w_lit) rfl
theorem attach_call{l:OpenLaw}{n:Nat}{q:Program}{loose:List Str}{XP:(Str→Option Value)→Heap→Prop}{YP:World→Heap→Prop}{d:DefRec}
  (hn:l.most=some n) (hdf:d.params.defaults=[])
  (call:∀ (w:World) (s₀ s₁:Shared) (mg mb:Str→Option Value) (fa:Addr) (o:Obj) (pm cd doc:Value) (a:Addr) (vs:List Value) (ns:List Int),
   Ground q loose [] XP w s₀ mg mb s₁.heap→YP w s₁.heap →
   s₁.heap.get? fa=some o→o.data=.func (docDef d.name d.params d.body d.scope pm cd doc)→s₁.heap.CodeRec cd d.name→mg d.name=some (.ref fa) →
   s₁.heap.get? a=some { cls:=.type "list",data:=.seq vs.toArray }→IntsAre vs ns→ns.length≤n→s₁.gens=#[] →
   codeAny (model l.prog w) callerA (.call (.ref fa) ⟨[.ref a],[]⟩) (fun r s'=>r=.ok (.ret (.bool true))∧OldK s₁.heap s'.heap∧s'.os=s₁.os∧AllBare s'.gens) s₁) :
  WalkO q loose XP YP l.row.toRowW d [] (fun f vs=>PySem.call f vs):=by
 intro w s₀ s₁ mg mb G Y fa o pm cd doc dV kV ho hd hcd hD hmg hg args vals as hpre hlay hrd hwl hlo
 obtain rfl:dV=.none:=Dflts.none hD hdf
 obtain rfl:kV=.none:=Dflts.noKw hD
 obtain⟨a,vs,ns,rfl,rfl,hobj,hints,hlen⟩:=C2 hn hpre hwl
 refine enter_call (codeAny_mono (call w s₀ s₁ mg mb fa o pm cd doc a vs ns G Y ho (fd_plain hd) hcd hmg hobj hints hlen hg) fun r s' hq=>?_)
 obtain⟨rfl,h2,h3,h4⟩:=hq
 exact⟨.inl ⟨.bool true,.bool true,[],rfl,fun _=>rfl,.bool true,C3 l _,fun _=>⟨List.Pairwise.nil,fun _ hm=>(nomatch hm)⟩⟩,h2,h3,h4⟩
end Att
namespace L2
open PySem PySem.Spec PyProof.Rows
theorem tS:∀ {vs:List Value} {ns:List Int},IntsAre vs ns→Vals (ns.map V.int) vs
 | _,_,.nil=>.nil
 | _,_,.cons n t h=>.cons ⟨t,rfl⟩ (tS h)
def IC(H:Hp):Prop:=∀ b,H b=none∨∃ o xs,H b=some (.frz o (.lst xs))
theorem EL{P:Program}{w:World}{K:b5}{mg mb:Str→Option Value}{CX:zR}{k:Nat}{fa a:Addr}{fd:FuncData}{x:Str}{sp:Sp}{s₁:Shared}{vs:List Value}{ns:List Int}
  (KX:K.In s₁.heap) (hns:s₁.heap.Ns mainGlobals mg) (hb:s₁.heap.Ns builtinsNs mb) (hbb:∀ x:Str,x≠"__name__"→mb x=bootBuiltins x) (hlim:s₁.heap.NoLimit) (hg:s₁.gens=#[])
  (ha:s₁.heap.get? a=some { cls:=.type "list",data:=.seq vs.toArray }) (hi:IntsAre vs ns) (hl:ns.length≤sizeLine) (hr:Room k callerA)
  (F:∀ base:Heap,K.In base→base.Ns mainGlobals mg→FnOk P w K mg base CX k fa fd [x] sp) (hbind:∀ (s:Shared) (u:Value),BindsTo s fd ⟨[u],[]⟩ [(x,u)])
  (hsp:∀ H:Hp,IC H→SqL K H a (ns.map V.int)→sp [.ref a] H (fun v _=>v=.bl true) fun _ _ _=>False)
  (hCX:∀ H e s',CX [] H s₁ (fun _ _ _=>False) e s'→False) :
  codeAny (model P w) callerA (.call (.ref fa) ⟨[.ref a],[]⟩) (fun r s'=>r=.ok (.ret (.bool true))∧OldK s₁.heap s'.heap∧s'.os=s₁.os∧AllBare s'.gens) s₁:=by
 have rv:=tS hi
 have lenV:=hi.length
 -- from an abstract heap in which nothing but the script may be tracked
 have core:∀ H:Hp,IC H→SqL K H a (ns.map V.int)→HOk P w H s₁.heap→(∀ b,H b≠none→b=a)→(H a≠none→K.lookup a=none) →
   codeAny (model P w) callerA (.call (.ref fa) ⟨[.ref a],[]⟩) (fun r s'=>r=.ok (.ret (.bool true))∧OldK s₁.heap s'.heap∧s'.os=s₁.os∧AllBare s'.gens) s₁:=by
  intro H hO hS hok hA hK
  have base_of:∀ {b:Addr} {o:Obj},s₁.heap.get? b=some o→H b=none→(wL s₁.heap H).get? b=some o:=fun e n=>Fa e n
  have noA:∀ {b:Addr} {o:Obj} {es:Array DictEntry} {ep:Nat},s₁.heap.get? b=some o→o.data=.dict es ep→H b=none:=fun {b o es ep} e d=>by
   cases q:H b with
   | none=>rfl
   | some u =>
    have e':b=a:=hA b (by rw[q];simp)
    subst e'
    rw[ha] at e;cases e
    have d':Data.seq vs.toArray _=Data.dict es ep:=d
    cases d'
  have nsK:∀ {b:Addr} {m:Str→Option Value},s₁.heap.Ns b m→(wL s₁.heap H).Ns b m:=fun {b m} ⟨o,es,ep,e,d,r⟩=>⟨o,es,ep,base_of e (noA e d),d,r⟩
  have hKb:K.In (wL s₁.heap H):=fun b o e=>base_of (KX b o e) (by
   cases q:H b with
   | none=>rfl
   | some u =>
    have e':b=a:=hA b (by rw[q];simp)
    subst e'
    rw[hK (by rw[q];simp)] at e;cases e)
  have hM:Mod K mg (wL s₁.heap H):=⟨hKb,nsK hns,⟨mb,nsK hb,hbb⟩,let ⟨mc,h1,h2⟩:=hlim;⟨mc,nsK h1,h2⟩⟩
  have e0:Env0 P w K mg (wL s₁.heap H) callerA [] s₁ H:=⟨rfl,hM,fun b o e=>G_ e,aZD (Cg _ _),trivial,fun b hb=>absurd (show b∈([]:List Addr) from hb) (by simp),hok,.of_eq hg⟩
  refine codeAny_mono ((F _ hKb (nsK hns)).run callerA [] s₁ H ⟨[.ref a],[]⟩ [.ref a] [.ref a] _ _ hr e0 (hbind s₁ (.ref a)) (.cons rfl .nil) (hsp H hO hS)) fun r s' h=>?_
  cases r with
  | error e=>exact(hCX H e s' h).elim
  | ok fl =>
   cases fl with
   | next=>exact False.elim h
   | brk=>exact False.elim h
   | cont=>exact False.elim h
   | ret u =>
    obtain⟨v,H',os,bare,un,hok',r',q⟩:=h
    have q':v=.bl true:=q
    subst q'
    obtain rfl:u=Value.bool true:=r'
    refine⟨rfl,OldK.of_keep fun b o e=>?_,os,bare⟩
    cases q:H b with
    | none=>exact un.keep b o e q (by intro z;exact absurd (show b∈([]:List Addr) from z) (by simp)) (by simp)
    | some u =>
     rcases hO b with z | ⟨ob,xs,z⟩
     ·rw[q] at z;cases z
     ·have z2:=un.frzs b ob _ z
      obtain⟨e1,_⟩:=hok b _ z
      obtain⟨e2,_⟩:=hok' b _ z2
      rw[e] at e1;cases e1
      exact e2
 cases hk:K.lookup a with
 | some o =>
  -- the script is one of the module's own objects
  have e:=KX a o hk
  rw[ha] at e
  cases e
  refine core (fun _=>none) (fun _=>.inl rfl) (.inr ⟨_,vs.toArray,_,hk,rfl,rfl,rfl,by rw[c8,lenV];exact hl,by simpa using rv⟩) (fun b u z=>by have z':(none:Option HO)=some u:=z;cases z') (fun b z=>absurd rfl z) fun z=>absurd rfl z
 | none =>
  refine core (fun b=>if b=a then some (.frz { cls:=.type "list",data:=.seq vs.toArray } (.lst (ns.map V.int))) else none) (fun b=>?_) (.inl (.inr ⟨{ cls:=.type "list",data:=.seq vs.toArray },if_pos rfl⟩)) (fun b u z=>?_) (fun b z=>?_) fun _=>hk
  ·by_cases hb:b=a
   ·exact .inr ⟨_,_,if_pos hb⟩
   ·exact .inl (if_neg hb)
  ·by_cases hb:b=a
   ·have z':=(if_pos hb).symm.trans z
    cases z'
    subst hb
    exact⟨ha,by rw[b7];exact hl,vs,_,rv,ha⟩
   ·have z':=(if_neg hb).symm.trans z
    cases z'
  ·by_cases hb:b=a
   ·exact hb
   ·exact absurd (if_neg hb) z
theorem walk_of{l:PySem.W.OpenLaw}{n k:Nat}{q:Program}{loose:List Str}{XP:(Str→Option Value)→Heap→Prop}{YP:World→Heap→Prop}{d:DefRec}{K:Params→b5}{CX:World→zR}{sp:World→Sp}{x:Str}
  (hn:l.most=some n) (hn2:n≤sizeLine) (hdf:d.params.defaults=[]) (hr:Room k callerA)
  (hY:∀ (w:World) (h:Heap),YP w h→(K w.params).In h)
  (F:∀ (w:World) (mg:Str→Option Value) (fa:Addr) (h:Heap),(K w.params).In h→h.Ns mainGlobals mg→mg d.name=some (.ref fa) →
   ∃ fd:FuncData,(∀ (s:Shared) (u:Value),BindsTo s fd ⟨[u],[]⟩ [(x,u)]) ∧
    ∀ base:Heap,(K w.params).In base→base.Ns mainGlobals mg→FnOk l.prog w (K w.params) mg base (CX w) k fa fd [x] (sp w))
  (hsp:∀ (w:World) (H:Hp) (a:Addr) (ns:List Int),ns.length≤n→IC H→SqL (K w.params) H a (ns.map V.int)→sp w [.ref a] H (fun v _=>v=.bl true) fun _ _ _=>False)
  (hCX:∀ (w:World) (H:Hp) (s:Shared) (e:Value) (s':Shared),CX w [] H s (fun _ _ _=>False) e s'→False) :
  PySem.W.WalkO q loose XP YP l.row.toRowW d [] (fun f vs=>PySem.call f vs):=by
 refine Att.attach_call hn hdf fun w s₀ s₁ mg mb fa o pm cd doc a vs ns G Y ho hd hcd hmg hobj hints hlen hg=>?_
 have KX:=hY w _ Y
 obtain⟨fd,hb,hF⟩:=F w mg fa _ KX G.T.g hmg
 exact EL KX G.T.g G.T.b G.T.builtins G.T.nolimit hg hobj hints (j8 hlen hn2) hr hF hb (fun H hO hS=>hsp w H a ns hlen hO hS) fun H e s'=>hCX w H s₁ e s'
end L2
/- THE LAST THEOREM (shape;LID,My.* are yours):
   My.Adr: a structure of the addresses that your layer names (classes,functions);My.Txt K t: a structure (Prop) of the equations over K;
   My.txt_mk:{K} {implicit addresses ..} (e1:nsIn K mainGlobals "law"=some (some (.ref f))) (e2:K.lookup f=some ⟨oc,od,.func (fnOf "law" "law" params body scope dV kV doc pm an cdv ct),sl⟩) (e3:codeIn K cdv "law"=true) ..:∃ t,My.Txt K t
set_option maxRecDepth 100000 in
set_option maxHeartbeats 0 in
theorem PySem.Challenge.cw_LID_holds : PySem.Challenge.rw_LID.Holds := by
 w_on;o_law;k_head;(case hw=>w_witness2)
 k_fill
 refine L2.walk_of (l:=PySem.Challenge.rw_LID) (n:=63) (k:=40) (x:="script") (CX:=fun w=>..) (sp:=fun _=>My.sp_law) rfl (by decide) rfl ⟨rfl,by decide,by decide⟩ (fun w h Y=>aJm Y) ?F ?S ?C
 case F =>
  intro w mg fa h KX G hmg
  have T:∃ t,My.Txt (L2.KOf KX) t:=by
   dsimp only [L2.KOf]                          -- K must stand as «<heap const> w.params» for k_is
   refine' My.txt_mk ?e1 ?e2 ?e3 ..
   (case e1=>PySem.W.k_is)                    -- in the order: a name -> its address -> its object -> its parts
   (case e2=>PySem.W.k_is)
   ..
  obtain⟨t,T⟩:=T
  have e0:=hmg.symm.trans (u9 KX G T.law)
  cases e0                                       -- fa is the law's own address
  exact⟨_,fun s u=>.of_eq rfl,fun base kb nb=>My.law_fn T kb nb⟩     -- if «.of_eq rfl» comes too early: refine' ⟨_,?b,fun base kb nb=>My.law_fn T kb nb⟩;exact fun s u=>.of_eq rfl
 case S=>exact fun w H a ns hl hO hS=>..
 case C=>exact ..
(the tactic k_is has no namespace: write k_is) -/
namespace L2
open PySem PySem.Spec PyProof.Rows
def eK(s:Stmt):Arguments:=match s with
 | .FunctionDef _ a _ _ _ _ _ _ _ _=>a
 | _=>{ posonlyargs:=[],args:=[],vararg:=none,kwonlyargs:=[],kw_defaults:=[],kwarg:=none,defaults:=[] }
def dO(s:Stmt):List Stmt:=match s with
 | .FunctionDef _ _ b _ _ _ _ _ _ _=>b
 | _=>[]
def aG(s:Stmt):Scope:=match s with
 | .FunctionDef _ _ _ _ _ _ sc _ _ _=>sc
 | _=>{ kind:=.function,names:=[],isGenerator:=false,isCoroutine:=false }
abbrev zJ:zR:=fun _ _ _ _ _ _=>False
abbrev E0:XK:=fun _ _ _=>False
theorem fX{X:Cx}:lP zJ X E0:=fun _ _ _ _ _ _ _ h=>h.elim
structure Fun(K:b5)(x qual:Str)(st:Stmt)(f:Addr)(fd:FuncData):Prop where
 ex:∃ (oc:Value) (od:Option Addr) (kV doc pm:Value) (an:Option Addr) (cdv ct:Value) (osl:Array (Option Value)),
  fd=PySem.W.fnOf x qual (eK st) (dO st) (aG st) .none kV doc pm an cdv ct∧K.lookup f=some ⟨oc,od,.func fd,osl⟩∧PySem.W.codeIn K cdv qual=true
 kp:PySem.W.keepIn K (.ref f)=true
section
variable {P:Program}{w:World}{K:b5}{mg:Str→Option Value}{base:Heap}
theorem Fun.ok{x qual:Str}{st:Stmt}{f:Addr}{fd:FuncData}{N ps:List Str}{k:Nat}{sp:Sp}(F:Fun K x qual st f fd)(S:FnScope N ps (aG st))(len:∀ vs H Q E,sp vs H Q E→vs.length=ps.length)
  (hbody:∀ (cdv:Value) (A:Around) (outer:List Env) (s:Shared) (H:Hp) (vs:List V) (Q:VK) (E:XK),Room k (A.deeper (envOfC qual (aG st) s.heap.objs.size f cdv))→sp vs H Q E →
   ∃ t,PSs (xJ zJ P w K mg base N qual (aG st) f cdv A outer s H E).nox (dO st) t∧t { nx:=fun _ H'=>Q .non H',rt:=Q } (mQ N vs) H):FnOk P w K mg base zJ (k+1) f fd ps sp:=by
 obtain⟨oc,od,kV,doc,pm,an,cdv,ct,osl,rfl,lk,hcd⟩:=F.ex
 refine Hy lk hcd S len fun A outer s H vs Q E hr hsp=>?_
 obtain⟨t,h,q⟩:=hbody cdv A outer s H vs Q E hr hsp
 exact⟨t,h.nox,q⟩
theorem Fun.binds{x qual:Str}{st:Stmt}{f:Addr}{fd:FuncData}{ps:List Str}(F:Fun K x qual st f fd)
  (h:∀ (kV doc pm:Value) (an:Option Addr) (cdv ct:Value) (us:List Value),us.length=ps.length→bindArgs (PySem.W.fnOf x qual (eK st) (dO st) (aG st) .none kV doc pm an cdv ct) ⟨us,[]⟩=pure (ps.zip us)):Binds K fd ps []:=by
 obtain⟨oc,od,kV,doc,pm,an,cdv,ct,osl,rfl,lk,hcd⟩:=F.ex
 exact .all (h kV doc pm an cdv ct)
theorem jN{x qual:Str}{st:Stmt}{f:Addr}{oc:Value}{od an:Option Addr}{osl:Array (Option Value)}{kV doc pm cdv ct:Value}(l:K.lookup f=some ⟨oc,od,.func (PySem.W.fnOf x qual (eK st) (dO st) (aG st) .none kV doc pm an cdv ct),osl⟩)
  (c:PySem.W.codeIn K cdv qual=true) (k:PySem.W.keepIn K (.ref f)=true):Fun K x qual st f (PySem.W.fnOf x qual (eK st) (dO st) (aG st) .none kV doc pm an cdv ct):=⟨⟨oc,od,kV,doc,pm,an,cdv,ct,osl,rfl,l,c⟩,k⟩
end
theorem aP{n:Nat}(h:n≤1000):n<sizeLine:=m9 h (by decide)
section
variable {X:Cx}
theorem pv(i:Nat){x:Str}{pos:Pos}(hN:X.N[i]?=some x:=by rfl)(hv:Ld X.env.scope x:=by first | exact Or.inl rfl | exact Or.inr (Or.inl rfl) | exact Or.inr (Or.inr rfl))(hd:(x == ("__debug__":Str))=false:=by decide)
  (hcd:(x == ("__classdict__":Str))=false:=by decide):PE X (.Name x pos) (Ak i):=HN hN hv hd hcd
end
theorem fQ{A B:Prop}(h:B):if false=true then A else B:=by
 rw[if_neg j2]
 exact h
theorem gY{A B:Prop}(h:A):if true=true then A else B:=by
 rw[if_pos rfl]
 exact h
theorem fA{c A B:Prop}[Decidable c](h1:c→A)(h2:¬ c→B):if c then A else B:=by
 by_cases h:c
 ·rw[if_pos h]
  exact h1 h
 ·rw[if_neg h]
  exact h2 h
def Same(H H':Hp):Prop:=∀ b o,H b=some o→H' b=some o
theorem Same.refl(H:Hp):Same H H:=fun _ _ h=>h
theorem Same.trans{H H1 H2:Hp}(a:Same H H1)(b:Same H1 H2):Same H H2:=fun c o h=>b c o (a c o h)
theorem Same.free{H H':Hp}(e:Same H H'){l:Addr}(h:H' l=Option.none):H l=Option.none:=by
 cases q:H l with
 | none=>rfl
 | some o =>
  rw[e l o q] at h
  cases h
def fM(cells:List (Str×Addr))(acc:List (Str×Addr))(p:Str×NameKind):List (Str×Addr) :=
 if p.2 == .free then (match cells.lookup p.1 with | some c=>(p.1,c)::acc | none=>acc) else acc
def Ct(names:List (Str×NameKind))(cells:List (Str×Addr)):List (Str×Addr):=names.foldl (fM cells) []
theorem nB{env:Env}:∀ (names:List (Str×NameKind)) (acc:List (Str×Addr)),(∀ y∈names,y.2=.free→∃ c,env.cells.lookup y.1=some c) →
  (forIn names acc (fun (p:Str×NameKind) (cs:List (Str×Addr))=>(match p with
   | (name,kind)=>if (kind == .free)=true then (do let c ← cellOf env name;pure (ForInStep.yield ((name,c)::cs))) else pure (ForInStep.yield cs):Sem (ForInStep (List (Str×Addr))))))=pure (names.foldl (fM env.cells) acc)
 | [],acc,_=>rfl
 | (n,k)::r,acc,h=>by
  have ih:=fun acc=>nB (env:=env) r acc fun y hy=>h y (g9 _ hy)
  rw[aXM,aXL]
  by_cases e:(k == NameKind.free)=true
  ·obtain⟨c,hc⟩:=h (n,k) i9 (by simpa using e)
   have hc':env.cells.lookup n=some c:=hc
   have e1:fM env.cells acc (n,k)=(n,c)::acc:=by unfold fM;rw[if_pos e];simp only [hc']
   rw[e1,← ih]
   have e2:cellOf env n=pure c:=by unfold cellOf;rw[hc']
   simp only [e,if_true,e2]
   rfl
  ·have e1:fM env.cells acc (n,k)=acc:=by unfold fM;rw[if_neg e]
   rw[e1,← ih]
   simp only [e,if_false]
   rfl
theorem iL{scope:Scope}{env:Env}(h:∀ y∈scope.names,y.2=.free→∃ c,env.cells.lookup y.1=some c):closureFor scope env=pure (Ct scope.names env.cells):=by
 unfold closureFor
 have q:=nB (env:=env) scope.names [] h
 unfold Ct
 exact(congrArg (fun (m:Sem (List (Str×Addr)))=>m >>= fun cs=>pure cs) q).trans rfl
theorem xT{cells:List (Str×Addr)}:∀ (names:List (Str×NameKind)) (acc:List (Str×Addr)),(∀ y c,acc.lookup y=some c→cells.lookup y=some c)→∀ y c,(names.foldl (fM cells) acc).lookup y=some c→cells.lookup y=some c
 | [],acc,h,y,c,e=>h y c e
 | p::r,acc,h,y,c,e=>by
  refine xT r (fM cells acc p) (fun z d q=>?_) y c e
  unfold fM at q
  split at q
  ·split at q
   ·rename_i c' hc'
    rw[x0] at q
    split at q
    ·rename_i hz
     have hz':z=p.1:=by simpa using hz
     cases q
     rw[hz'];exact hc'
    ·exact h z d q
   ·exact h z d q
  ·exact h z d q
theorem yL{cells:List (Str×Addr)}:∀ (names:List (Str×NameKind)) (acc:List (Str×Addr)) (y:Str),(acc.lookup y).isSome=true→((names.foldl (fM cells) acc).lookup y).isSome=true
 | [],_,_,h=>h
 | p::r,acc,y,h=>by
  refine yL r _ y ?_
  unfold fM
  split
  ·split
   ·rw[x0]
    split
    ·rfl
    ·exact h
   ·exact h
  ·exact h
theorem Al{cells:List (Str×Addr)}:∀ (names:List (Str×NameKind)) (acc:List (Str×Addr)) (y:Str) (c:Addr),(y,NameKind.free)∈names→cells.lookup y=some c→((names.foldl (fM cells) acc).lookup y).isSome=true
 | [],_,_,_,h,_=>by simp at h
 | p::r,acc,y,c,h,hc=>by
  rcases d3.mp h with e | e
  ·refine yL r _ y ?_
   subst e
   unfold fM
   simp only [hc]
   simp[x0]
  ·exact Al r _ y c e hc
theorem lZ{env:Env}:∀ {names:List (Str×NameKind)} {x:Str},names.lookup x=some .free →
  (names.map fun (n,k)=>if (k == NameKind.free && env.scope.kind == .function && env.kindOf n == some .cell) then (n,NameKind.cell) else (n,k)).lookup x=some .cell ∨
  (names.map fun (n,k)=>if (k == NameKind.free && env.scope.kind == .function && env.kindOf n == some .cell) then (n,NameKind.cell) else (n,k)).lookup x=some .free
 | [],_,h=>by simp at h
 | (n,k)::r,x,h=>by
  have ih:=@lZ env r x
  rw[i8]
  cases hx:x == n with
  | true =>
   simp only [x0,hx] at h
   cases h
   by_cases hc:(NameKind.free == NameKind.free && env.scope.kind == .function && env.kindOf n == some .cell)=true
   ·left;dsimp only;rw[if_pos hc];simp[x0,hx]
   ·right;dsimp only;rw[if_neg hc];simp[x0,hx]
  | false =>
   simp only [x0,hx] at h
   have e:∀ z:Str×NameKind,z.1=n→((z::(r.map fun (n,k)=>if (k == NameKind.free && env.scope.kind == .function && env.kindOf n == some .cell) then (n,NameKind.cell) else (n,k))).lookup x=(r.map fun (n,k)=>if (k == NameKind.free && env.scope.kind == .function && env.kindOf n == some .cell) then (n,NameKind.cell) else (n,k)).lookup x):=fun z hz=>by
    obtain⟨z1,z2⟩:=z
    cases hz
    rw[x0,hx]
   dsimp only
   split
   ·rw[e _ rfl];exact ih h
   ·rw[e _ rfl];exact ih h
theorem mX{env:Env}:∀ {names:List (Str×NameKind)} {x:Str},(∀ y∈names,y.2≠.cell) →
  ((names.map fun (n,k)=>if (k == NameKind.free && env.scope.kind == .function && env.kindOf n == some .cell) then (n,NameKind.cell) else (n,k)).lookup x=some .cell ∨
  (names.map fun (n,k)=>if (k == NameKind.free && env.scope.kind == .function && env.kindOf n == some .cell) then (n,NameKind.cell) else (n,k)).lookup x=some .free)→names.lookup x=some .free
 | [],_,_,h=>by simp at h
 | (n,k)::r,x,hn,h=>by
  have ih:=@mX env r x fun y hy=>hn y (g9 _ hy)
  have hk:k≠.cell:=hn (n,k) i9
  rw[i8] at h
  cases hx:x == n with
  | true =>
   by_cases hc:(k == NameKind.free && env.scope.kind == .function && env.kindOf n == some .cell)=true
   ·have:k=.free:=by
     cases k <;> simp at hc ⊢
    subst this
    simp[x0,hx]
   ·dsimp only at h;rw[if_neg hc] at h
    simp only [x0,hx] at h ⊢
    rcases h with h | h
    ·cases h;exact absurd rfl hk
    ·exact h
  | false =>
   have e:∀ z:Str×NameKind,z.1=n→((z::(r.map fun (n,k)=>if (k == NameKind.free && env.scope.kind == .function && env.kindOf n == some .cell) then (n,NameKind.cell) else (n,k))).lookup x=(r.map fun (n,k)=>if (k == NameKind.free && env.scope.kind == .function && env.kindOf n == some .cell) then (n,NameKind.cell) else (n,k)).lookup x):=fun z hz=>by
    obtain⟨z1,z2⟩:=z
    cases hz
    rw[x0,hx]
   dsimp only at h
   have h':(r.map fun (n,k)=>if (k == NameKind.free && env.scope.kind == .function && env.kindOf n == some .cell) then (n,NameKind.cell) else (n,k)).lookup x=some .cell∨(r.map fun (n,k)=>if (k == NameKind.free && env.scope.kind == .function && env.kindOf n == some .cell) then (n,NameKind.cell) else (n,k)).lookup x=some .free:=by
    split at h
    ·rw[e _ rfl] at h;exact h
    ·rw[e _ rfl] at h;exact h
   rw[x0,hx]
   exact ih h'
structure CompSc(X:Cx)(scope:Scope)(x:Str)(ix:List Nat):Prop where
 kind:scope.kind=.function
 nocell:∀ y∈scope.names,y.2≠.cell
 loc:∀ y∈scope.names,y.2=.local→scope.names.lookup y.1=some .local
 x:scope.names.lookup x=some .local
 free:∀ y∈scope.names,y.2=.free→X.env.scope.names.lookup y.1=some .cell∨X.env.scope.names.lookup y.1=some .free
 cap:∀ i∈ix,i<X.N.length∧scope.names.lookup (X.N.getD i "")=some .free
def oS(X:Cx)(x:Str)(ix:List Nat):List Str:=x::ix.map fun i=>X.N.getD i ""
def rW(σ:St)(ix:List Nat):St:=none::ix.map fun i=>σ.getD i none
def cI(X:Cx)(scope:Scope)(x:Str)(ix:List Nat)(ex:List Addr)(s:Shared)(H:Hp):Cx where
 prog:=X.prog
 w:=X.w
 K:=X.K
 mg:=X.mg
 base:=X.base
 A:=X.A
 N:=oS X x ix
 s₀:=s
 H₀:=H
 env:=compEnvC scope (Ct scope.names X.env.cells) s.heap.objs.size X.env
 outer:=X.stack
 stack:=X.stack
 ex:=ex
 fn:=fun _=>false
 calm:=X.calm
 pn:=[]
 xe:=fun _ _=>False
section
variable {X:Cx}{scope:Scope}{x:Str}{ix:List Nat}
theorem CompSc.cells(S:CompSc X scope x ix)(ok:X.Ok):∀ y∈scope.names,y.2=.free→∃ c,X.env.cells.lookup y.1=some c:=fun y hy hf=>ok.has y.1 (S.free y hy hf)
theorem xZ{pins:List (Addr×Obj)}{σ:St}{H:Hp}{s:Shared}{h':Heap}{t':Nat}{fp:List Addr}(S:CompSc X scope x ix)(I:Inv X pins σ H s)(hf:∀ b∈fp,gQ X pins H b)(hlt:∀ b∈fp,b<s.heap.objs.size)
  (ns:h'.Ns s.heap.objs.size (fun y=>([]:List (Str×Value)).reverse.lookup y)) (sb:Heap.SameBut s.heap.objs.size (s.heap.push { cls:=.type "dict",data:=.dict #[] }) h') :
  Inv (cI X scope x ix fp s H) [] (rW σ ix) H { s with heap:=h',toks:=t' }:=by
 have hk:∀ b u,s.heap.get? b=some u→h'.get? b=some u:=fun b u e=>(sb.2 b (d8 (d5 e))).trans (b6 _ e)
 have sound:∀ y c,(Ct scope.names X.env.cells).lookup y=some c→X.env.cells.lookup y=some c:=xT scope.names [] (fun _ _ q=>by simp at q)
 have cellLt:∀ y c,X.env.cells.lookup y=some c→c<s.heap.objs.size:=fun y c e=>by
  obtain⟨v,q⟩:=I.cell y c e
  exact q.lt
 have cellK:∀ y c v,X.env.cells.lookup y=some c→s.heap.IsCell c v→h'.IsCell c v:=fun y c v _ ⟨o,ho,hd⟩=>⟨o,hk c o ho,hd⟩
 refine⟨⟨I.ok.mod,S.kind,I.ok.glob,I.ok.blt,b9 _,fun y z c h1 h2=>I.ok.inj y z c (sound y c h1) (sound z c h2),fun y hy=>?_,fun y c hf _=>(by cases hf),I.ok.hd,I.ok.frames,.inl rfl,fun b hb=>⟨d8 (hlt b hb),fun y c e=>(hf b hb).2.2.2.2.1 y c (sound y c e)⟩,I.bs,j8 I.ok.bsz I.sz,fun b o e hb=>?_,fun b hb hs=>?_,I.stack,I.stkFree⟩,
  rfl,I.bare,Un.kept hk,⟨_,ns,fun i y v h1 h2 h3=>?_⟩,fun y c e=>?_,I.hok.fresh (b9 _),fun y c e=>I.freeC y c (sound y c e),fun p hp=>absurd (show p∈([]:List (Addr×Obj)) from hp) (by simp),I.hok.kept hk,?_⟩
 ·have hy':scope.names.lookup y=some .free:=mX (env:=X.env) S.nocell hy
  obtain⟨c,hc⟩:=S.cells I.ok (y,.free) (x6 hy') rfl
  exact aQg.mp (Al scope.names [] y c (x6 hy') hc)
 ·obtain⟨_,_,_,f3,_⟩:=hf b hb
  rcases f3 with f3 | f3
  ·exact I.ok.noex b o e f3
  ·exact absurd (m6 (d5 e) (j8 I.ok.bsz f3)) (aQZ _)
 ·rcases d3.mp (I.stkSub b hs) with e | e
  ·exact(hf b hb).2.1 e
  ·exact(hf b hb).2.2.1 e
 ·cases i with
  | zero =>
   have h2':(none:Option V)=some v:=by simpa [rW] using h2
   cases h2'
  | succ i =>
   have h1':(ix.map fun i=>X.N.getD i "")[i]?=some y:=by simpa [cI,oS] using h1
   have h2':(ix.map fun i=>σ.getD i none)[i]?=some (some v):=by simpa [rW] using h2
   rw[c7] at h1' h2'
   cases ei:ix[i]? with
   | none=>rw[ei] at h1';cases h1'
   | some j =>
    rw[ei] at h1' h2'
    have h1'':X.N.getD j ""=y:=j1 h1'
    have h2'':σ.getD j none=some v:=j1 h2'
    obtain⟨hj,hfr⟩:=S.cap j (b8 ei)
    rw[h1''] at hfr
    have e1:X.N[j]?=some y:=by
     rw[b0 hj]
     rw[c5,b0 hj] at h1''
     exact congrArg some h1''
    have e2:σ[j]?=some (some v):=by
     have hj':j<σ.length:=by rw[I.len];exact hj
     rw[b0 hj']
     rw[c5,b0 hj'] at h2''
     exact congrArg some h2''
    have vis:Ld X.env.scope y:=by
     rcases S.free (y,.free) (x6 hfr) rfl with q | q
     ·exact .inr (.inl q)
     ·exact .inr (.inr q)
    obtain⟨m,hn,hl⟩:=I.loc
    obtain⟨u,r,q⟩:=hl j y v e1 e2 vis
    refine⟨u,r,.inr ⟨?_,?_⟩⟩
    ·exact lZ (env:=X.env) hfr
    ·rcases q with ⟨k,_⟩ | ⟨_,c,hc,z⟩
     ·rcases S.free (y,.free) (x6 hfr) rfl with q | q
      ·rw[show X.env.kindOf y=X.env.scope.names.lookup y from rfl,q] at k;cases k
      ·rw[show X.env.kindOf y=X.env.scope.names.lookup y from rfl,q] at k;cases k
     ·obtain⟨c',hc'⟩:=aQg.mp (Al scope.names [] y c (x6 hfr) hc)
      have e3:=sound y c' hc'
      rw[hc] at e3;cases e3
      exact⟨c,hc',cellK y c _ hc z⟩
 ·obtain⟨v,q⟩:=I.cell y c (sound y c e)
  exact⟨v,cellK y c v (sound y c e) q⟩
 ·simp[rW,cI,oS]
theorem xX{pins:List (Addr×Obj)}{σ σ':St}{H H':Hp}{s s':Shared}{fp:List Addr}{h'':Heap}(I:Inv X pins σ H s)(hf:∀ b∈fp,gQ X pins H b)(J:Inv (cI X scope x ix fp s H) [] σ' H' s')
  (sb:Heap.SameBut s.heap.objs.size s'.heap h''):Inv X pins σ H' { s' with heap:=h'' }:=by
 have neC:∀ b o,s.heap.get? b=some o→b≠s.heap.objs.size:=fun b o e=>d8 (d5 e)
 have B:Un (wV X.stack) fp H H' s.heap s'.heap:=J.base
 have hC:H' s.heap.objs.size=none:=J.free
 refine I.call' (ch:=fp) J.os ?_ ?_ J.bare fun b hb=>⟨(hf b hb).2.2.2.1,(hf b hb).2.1,(hf b hb).2.2.2.2.1,(hf b hb).2.2.2.2.2⟩
 ·refine⟨fun b o e n hb hx=>(sb.2 b (neC b o e)).trans (B.keep b o e n hb hx),fun b o e n hb hx=>?_,B.free,fun b o e hx=>?_,B.tups,B.frzs,B.tbls⟩
  ·obtain⟨sl,q⟩:=B.slot b o e n hb hx
   exact⟨sl,(sb.2 b (neC b o e)).trans q⟩
  ·obtain⟨o',q⟩:=B.there b o e hx
   exact⟨o',(sb.2 b (neC b o e)).trans q⟩
 ·intro b ob e
  refine(J.hok b ob e).stay (fun c w' hc q=>(sb.2 c ?_).trans q) (fun _ q=>q) fun _ _ q=>q
  rintro rfl
  rcases hc with hc | hc
  ·rw[← hc,hC] at e;cases e
  ·rw[hC] at hc;cases hc
end
theorem sQ{α β:Type}{M:Model}{A:Around}{a:α}{t:Sem β}{P:α→Shared→Prop}{Q:β→Shared→Prop}{E E':Value→Shared→Prop}{s:Shared}(h:wpAny M A (pure a:Sem α) P E s)(k:P a s→wpAny M A t Q E' s):wpAny M A t Q E' s:=fun Γ p hΓ=>k (h Γ p hΓ) Γ p hΓ
def sL(X:Cx)(ifs:List Expr)(t:TT):Prop :=
 ∀ (pins:List (Addr×Obj)) (s:Shared) (σ:St) (H:Hp) (Q:Bool→Hp→Prop),Inv X pins σ H s→t σ H Q →
  wpAny (model X.prog X.w) X.A (forIn ifs true fun c r=>if r=true then do let ok ← isTrue c X.env (eval c X.env);pure (ForInStep.yield ok) else pure (ForInStep.yield r)) (TP X pins σ Q) X.xe s
def Ja:TT:=fun _ H Q=>Q true H
theorem bW{X:Cx}:sL X [] Ja:=fun _ _ _ H _ I h=>wpAny_tests_nil ⟨H,I,h⟩
theorem yA{X:Cx}{c:Expr}{t:TT}(h:PT X c t):sL X [c] t:=fun pins s σ H Q I q=>wpAny_tests_one (h pins s σ H Q I q)
def mE(σ:St)(ix:List Nat):St:=ix.map fun i=>σ.getD i none
def jP(J:It)(D:Addr)(Q:VK)(ti:TT)(te:TE)(c:St)(H0:Hp):Prop :=
 ∃ W:Nat→Nat→Hp→Prop,(∃ m,W 0 m H0)∧∀ i m H,W i m H →
  (J.stop i H∧Q (.ref D) H)∨(J.go i H∧∃ N:Hp→Prop,(∀ H',N H'→∃ m',m' < m∧W (i+1) m' H')∧∀ v H',J.yld i H v H' →
   ti (some v::c) H' fun b H2=>if b=true then te (some v::c) H2 fun y H3=>∃ ys,H3 D=some (.lst ys)∧ys.length<sizeLine∧N (upd H3 D (.lst (ys++[y]))) else N H2)
def Dc(wi:TI)(ix:List Nat)(ti:TT)(te:TE):TE:=fun σ H Q=>wi σ H fun J H1=>∀ D,H1 D=none→jP J D Q ti te (mE σ ix) (upd H1 D (.lst []))
section
variable {X:Cx}{scope:Scope}{x:Str}{px pos:Pos}{ix:List Nat}{elt iter:Expr}{ifs:List Expr}{wi:TI}{ti:TT}{te:TE}
theorem qR{pins:List (Addr×Obj)}{σ:St}{H:Hp}{s:Shared}{fp:List Addr}{it D:Addr}{tn:Nat→Heap→Prop}{J:It}{Q:VK}{E:Value→Shared→Prop}{RR:Result→Shared→Prop}(S:CompSc X scope x ix)(hc:X.calm=true)
  (he:∀ s H,PE (cI X scope x ix fp s H) elt te) (hi:∀ s H,sL (cI X scope x ix fp s H) ifs ti)
  (I:Inv X pins σ H s) (T:Turn X.prog X.w X.K (.Name x px) J fp it tn) (st:tn 0 s.heap) (hf:∀ b∈fp,gQ X pins H b) (go:jP J D Q ti te (mE σ ix) H)
  (nd:(oS X x ix).Nodup)
  (hR:∀ σ' H' s',Inv (cI X scope x ix fp s H) [] σ' H' s'→Q (.ref D) H'→RR (.ok .next) s') :
  wpAny (model X.prog X.w) X.A (newFunctionEnv scope X.env.globals (Ct scope.names X.env.cells) [] X.env.qual none .none (some X.env)) (fun cenv s₄=>cenv.locals=s.heap.objs.size ∧
   codeAny (model X.prog X.w) X.A (.compStart (.ListComp elt [⟨.Name x px,iter,ifs,0⟩] scope pos) 0 (.ref it) (.ref D) { cenv with scope:=relabel scope X.env }) RR s₄) E s:=by
 refine wpAny_newFunctionEnv S.nocell (by intro y hy;simp at hy) (fun h' ns sb=>⟨rfl,?_⟩) S.kind
 have hlt:∀ b∈fp,b<s.heap.objs.size:=fun b hb=>by
  obtain⟨o,e,_⟩:=T.obj 0 _ st b hb
  exact d5 e
 have I0:Inv (cI X scope x ix fp s H) [] (rW σ ix) H { s with heap:=h',toks:=s.toks+([]:List (Str×Value)).length }:=xZ S I hf hlt ns sb
 have st0:tn 0 h':=T.keep 0 _ _ st fun b hb o e=>(sb.2 b (d8 (d5 e))).trans (b6 _ e)
 obtain⟨W,⟨m0,w0⟩,turn⟩:=go
 have stat:∀ {H':Hp},(∀ b∈fp,H' b=none)→∀ b∈fp,gQ (cI X scope x ix fp s H) [] H' b:=fun hn b hb=>by
  refine⟨hn b hb,d8 (hlt b hb),fun z=>?_,.inl hb,fun y c e=>(I0.ok.exf b hb).2 y c e,fun p hp=>absurd (show p∈([]:List (Addr×Obj)) from hp) (by simp)⟩
  exact I0.ok.exfs b hb z
 have loop:codeAny (model X.prog X.w) X.A (.compLoop (.ListComp elt [⟨.Name x px,iter,ifs,0⟩] scope pos) 0 (.ref it) (.ref D) (cI X scope x ix fp s H).env) RR { s with heap:=h',toks:=s.toks+([]:List (Str×Value)).length }:=by
  refine codeAny_compLoop_tests (fun n s'=>∃ i o H',Inv (cI X scope x ix fp s H) [] (o::mE σ ix) H' s'∧tn i s'.heap∧(∀ b∈fp,H' b=none)∧W i n H') ?_ m0 ⟨0,none,H,I0,st0,fun b hb=>(hf b hb).1,w0⟩
  rintro n s3 ⟨i,o3,H3,I3,st3,fr3,w3⟩
  rcases turn i n H3 w3 with ⟨stop,qn⟩ | ⟨gone,N,hN,step⟩
  ·refine bS (T.done (cI X scope x ix fp s H) rfl rfl rfl hc i [] s3 _ H3 _ I3 (stat fr3) st3 stop) fun r s4 ⟨hr,I4⟩=>?_
   subst hr
   exact hR _ H3 s4 I4 qn
  ·refine bS (T.item (cI X scope x ix fp s H) rfl rfl rfl hc i [] s3 _ H3 (fun _ _=>False) I3 (stat fr3) st3 gone |> fun z=>wpAny_mono z (fun _ _ q=>q) fun _ _ f=>f.elim) fun r s4 ⟨u,hr,h4⟩=>?_
   subst hr
   refine sQ (a:=()) h4 fun ⟨y,H5,I5,r5,y5,st5,fr5⟩=>?_
   have I5':=I5.pinned (stat fr5) (T.obj _ _ st5)
   have hx0:(cI X scope x ix fp s H).N[0]?=some x:=rfl
   refine wpAny_assign_Name (eC I5' nd hx0 (.inl (lookup_relabel_local S.x)) r5 (fun s6 I6=>?_) (.inr (lookup_relabel_local S.x)))
   refine wpAny_mono (hi s H _ s6 _ H5 _ I6 (step y H5 y5)) (fun ok s7 ⟨H7,I7,q7⟩=>?_) fun _ _ f=>f.elim
   have again:∀ {o7:Option V} {H7:Hp} {s7:Shared},Inv (cI X scope x ix fp s H) ([]++jW fp s4.heap) (o7::mE σ ix) H7 s7→N H7→∃ m,m<n∧∃ i o H',Inv (cI X scope x ix fp s H) [] (o::mE σ ix) H' s7∧tn i s7.heap∧(∀ b∈fp,H' b=none)∧W i m H':=fun {o7 H7 s7} I7 n7=>by
    obtain⟨m',hm,w7⟩:=hN H7 n7
    refine⟨m',hm,i+1,o7,H7,I7.unpinned,T.keep _ _ _ st5 fun b hb o e=>(I7.pin (b,o) (j0 _ (j0 _ (fR hb e)))).1,fun b hb=>?_,w7⟩
    obtain⟨o,e,d⟩:=T.obj _ _ st5 b hb
    exact(I7.pin (b,o) (j0 _ (j0 _ (fR hb e)))).2.1
   cases ok with
   | false =>
    rw[if_neg (by simp)] at q7
    exact again I7 q7
   | true =>
    rw[if_pos rfl] at q7
    refine wpAny_mono (he s H _ s7 _ H7 _ I7 q7) (fun v s8 ⟨y8,H8,I8,r8,ys,hD,hz,n8⟩=>?_) fun _ _ f=>f.elim
    obtain⟨z,its,k,rv,e⟩:=I8.hok D _ hD
    have hl:s8.heap.IsList D its.toArray:=⟨_,e,rfl,k,rfl⟩
    refine bX _ s8 _ H8 (.ref D) [y8] (.ref D) [v] _ I8 rfl (.cons r8 .nil) ⟨D,ys,y8,rfl,rfl,hD,hz,n8⟩ |> fun z=>wpAny_mono z (fun _ s9 ⟨_,H9,I9,_,q9⟩=>again I9 q9) fun _ _ f=>f.elim
 exact codeAny_compStart_list loop (T.self _ 0 _ _ _ st0 loop)
end
section
variable {X:Cx}{scope:Scope}{x:Str}{px pos:Pos}{ix:List Nat}{elt iter:Expr}{ifs:List Expr}{wi:TI}{ti:TT}{te:TE}
theorem Inv.fp_upd{pins:List (Addr×Obj)}{H:Hp}{D:Addr}{o:HO}{fp:List Addr}(hf:∀ b∈fp,gQ X pins H b)(hD:∀ b∈fp,b≠D):∀ b∈fp,gQ X pins (upd H D o) b:=fun b hb =>
 ⟨by rw[aE (hD b hb)];exact(hf b hb).1,(hf b hb).2⟩
theorem Gr(S:CompSc X scope x ix)(nd:(oS X x ix).Nodup)(hc:X.calm=true)(hi:PI X (.Name x px) iter wi)(hif:∀ fp s H,sL (cI X scope x ix fp s H) ifs ti)(he:∀ fp s H,PE (cI X scope x ix fp s H) elt te)
  (hs:∀ z,foldedSetIterable iter X.env z=pure z:=by intro _;rfl):PE X (.ListComp elt [⟨.Name x px,iter,ifs,0⟩] scope pos) (Dc wi ix ti te):=by
 intro pins s σ H Q I h
 rw[eval_ListComp]
 refine wpAny_comprehension_free (use:=none) rfl hs (iL (S.cells I.ok)) S.kind S.loc (bS (hi pins s σ H _ I h) fun v s1 h1=>bS h1 fun itv s2 h2=>?_)
 obtain⟨it,fp,tn,J,H2,rfl,I2,T,st2,f2,q⟩:=h2
 refine wpAny_newObj_type ?_
 have fr:=I2.fresh
 have I3:Inv X pins σ (upd H2 s2.heap.objs.size (.lst [])) { s2 with heap:=s2.heap.push { cls:=.type "list",data:=.seq ([]:List Value).toArray } }:=I2.lnew (t':=s2.toks) .nil (l9 _)
 have hD:∀ b∈fp,b≠s2.heap.objs.size:=fun b hb=>by
  obtain⟨o,e,_⟩:=T.obj 0 _ st2 b hb
  exact d8 (d5 e)
 have f3:=Inv.fp_upd (o:=.lst []) f2 hD
 have st3:tn 0 (s2.heap.push { cls:=.type "list",data:=.seq ([]:List Value).toArray }):=T.keep 0 _ _ st2 fun b hb o e=>b6 _ e
 refine bS (qR (px:=px) (pos:=pos) (iter:=iter) (E:=X.xe) (RR:=compPost (model X.prog X.w) X.A X.xe none (EP X pins σ Q) (.ref s2.heap.objs.size) (s2.heap.push { cls:=.type "list",data:=.seq ([]:List Value).toArray }).objs.size) S hc (he fp) (hif fp) I3 T st3 f3 (q _ fr) nd ?_) fun cenv s4 ⟨e,z⟩=>?_
 ·intro σ' H' s' J' q'
  obtain⟨m,hn,_⟩:=J'.loc
  exact⟨m,hn,fun h'' sb=>⟨_,H',xX I3 f3 J' sb,(show RelV (.ref s2.heap.objs.size) _ from rfl),q'⟩⟩
 ·rw[← show cenv.locals=(s2.heap.push { cls:=.type "list",data:=.seq ([]:List Value).toArray }).objs.size from e] at z;exact z
def HB(i:Nat)(wi:TI)(ix:List Nat)(ti:TT)(te:TE):TS:=fun D σ H=>Dc wi ix ti te σ H fun v H1=>D.nx (σ.set i (some v)) H1
theorem Gz{i:Nat}{y:Str}{py spos:Pos}(hN:X.N.Nodup)(hy:X.N[i]?=some y)(hyl:X.env.scope.names.lookup y=some .local)(S:CompSc X scope x ix)(nd:(oS X x ix).Nodup)(hc:X.calm=true)(hi:PI X (.Name x px) iter wi)
  (hif:∀ fp s H,sL (cI X scope x ix fp s H) ifs ti) (he:∀ fp s H,PE (cI X scope x ix fp s H) elt te)
  (hsw:swapsWith (.ListComp elt [⟨.Name x px,iter,ifs,0⟩] scope pos) (some (.Name y py)) spos.line X.env=pure true:=by rfl)
  (hs:∀ z,foldedSetIterable iter X.env z=pure z:=by intro _;rfl):PS X (.Assign [.Name y py] (.ListComp elt [⟨.Name x px,iter,ifs,0⟩] scope pos) spos) (HB i wi ix ti te):=by
 intro pins s σ H D I h
 rw[exec_Assign_Name_used _ _ _ _ hsw]
 refine wpAny_bind (wpAny_standAt (wpAny_bind ?_))
 show wpAny _ X.A (do let _ ← comprehension (.ListComp elt [⟨.Name x px,iter,ifs,0⟩] scope pos) scope X.env _ (newList []) false (eval iter X.env) (some (assign (.Name y py) X.env))) _ _ s
 refine wpAny_bind (wpAny_mono (wpAny_comprehension_free (use:=some (assign (.Name y py) X.env)) (Q:=fun _ s'=>SP X pins D .next s') rfl hs (iL (S.cells I.ok)) S.kind S.loc (bS (hi pins s σ H _ I h) fun v s1 h1=>bS h1 fun itv s2 h2=>?_)) (fun _ s' hq=>wpAny_pure (wpAny_pure hq)) fun _ _ e=>e)
 obtain⟨it,fp,tn,J,H2,rfl,I2,T,st2,f2,q⟩:=h2
 refine wpAny_newObj_type ?_
 have fr:=I2.fresh
 have I3:Inv X pins σ (upd H2 s2.heap.objs.size (.lst [])) { s2 with heap:=s2.heap.push { cls:=.type "list",data:=.seq ([]:List Value).toArray } }:=I2.lnew (t':=s2.toks) .nil (l9 _)
 have hD:∀ b∈fp,b≠s2.heap.objs.size:=fun b hb=>by
  obtain⟨o,e,_⟩:=T.obj 0 _ st2 b hb
  exact d8 (d5 e)
 have f3:=Inv.fp_upd (o:=.lst []) f2 hD
 have st3:tn 0 (s2.heap.push { cls:=.type "list",data:=.seq ([]:List Value).toArray }):=T.keep 0 _ _ st2 fun b hb o e=>b6 _ e
 refine bS (qR (px:=px) (pos:=pos) (iter:=iter) (E:=X.xe) (RR:=compPost (model X.prog X.w) X.A X.xe (some (assign (.Name y py) X.env)) (fun _ s'=>SP X pins D .next s') (.ref s2.heap.objs.size) (s2.heap.push { cls:=.type "list",data:=.seq ([]:List Value).toArray }).objs.size) S hc (he fp) (hif fp) I3 T st3 f3 (q _ fr) nd ?_) fun cenv s4 ⟨e,z⟩=>?_
 ·intro σ' H' s' J' q'
  have neL:(s2.heap.push { cls:=.type "list",data:=.seq ([]:List Value).toArray }).objs.size≠X.env.locals:=aQU I3.lt
  have I4:Inv X pins σ H' { s' with heap:=s'.heap }:=xX I3 f3 J' (.refl ..)
  show wpAny (model X.prog X.w) X.A (assign (.Name y py) X.env (.ref s2.heap.objs.size)) _ X.xe s'
  refine wpAny_assign_Name (oE (s:=s') I4 hN hy (.inl hyl) (show RelV (.ref s2.heap.objs.size) _ from rfl) (fun s6 I6 ⟨a,sb,ha⟩=>?_) (.inr hyl))
  have ha':a≠(s2.heap.push { cls:=.type "list",data:=.seq ([]:List Value).toArray }).objs.size:=by
   rcases ha with ha | ha
   ·rw[ha];exact aQX neL
   ·obtain⟨v,z⟩:=I3.cell y a ha
    exact d8 z.lt
  obtain⟨m,hn,_⟩:=J'.loc
  refine⟨m,hn.sameBut sb (aQX ha'),fun h'' sb2=>⟨σ.set i (some (.ref s2.heap.objs.size)),H',?_,q'⟩⟩
  -- the block's dict is not ours: its change is no matter
  have I7:Inv X pins (σ.set i (some (.ref s2.heap.objs.size))) H' s6:=I6
  have hCn:H' (s2.heap.push { cls:=.type "list",data:=.seq ([]:List Value).toArray }).objs.size=none:=J'.free
  refine I7.turned (s:=s6) (t':=s6.toks) (it:=(s2.heap.push { cls:=.type "list",data:=.seq ([]:List Value).toArray }).objs.size) (fun b o hb e=>(sb2.2 b hb).trans e) hCn neL (.inr (j8 I3.sz (b9 _))) (fun y c e z=>?_) fun p hp z=>?_
  ·obtain⟨v,q⟩:=I3.cell y c e
   exact absurd z (d8 q.lt)
  ·exact absurd z (d8 (d5 (I3.pin p hp).1))
 ·rw[← show cenv.locals=(s2.heap.push { cls:=.type "list",data:=.seq ([]:List Value).toArray }).objs.size from e] at z;exact z
end
theorem jH{lo:Int}{n:Nat}{D:Addr}{Q:VK}{te:TE}{c:St}{H0:Hp}(Pv:Nat→Hp→Prop)(h0:Pv 0 H0)
  (hs:∀ i H,i<n→Pv i H→te (some (.int (lo+i))::c) H fun y H2=>∃ ys,H2 D=some (.lst ys)∧ys.length<sizeLine∧Pv (i+1) (upd H2 D (.lst (ys++[y])))) (hd:∀ H,Pv n H→Q (.ref D) H) :
  jP (Ju lo n) D Q Ja te c H0:=by
 refine⟨fun i m H'=>m=n - i∧i≤n∧Pv i H',⟨n,by simp,l9 _,h0⟩,?_⟩
 rintro i m H' ⟨rfl,hi,p⟩
 by_cases hlt:i<n
 ·refine .inr ⟨hlt,Pv (i+1),fun H'' p=>⟨n - (i+1),by omega,rfl,hlt,p⟩,fun v H2 y=>?_⟩
  obtain⟨e,y⟩:=y
  subst e y
  exact gY (B:=Pv (i+1) H2) (hs i H2 hlt p)
 ·have e:i=n:=by omega
  subst e
  exact .inl ⟨b9 _,hd H' p⟩
theorem jM{K:b5}{a:Addr}{xs:List V}{D:Addr}{Q:VK}{ti:TT}{te:TE}{c:St}{H0:Hp}(Pv:Nat→Hp→Prop)(h0:Pv 0 H0)(hl:∀ i H,i≤xs.length→Pv i H→SqL K H a xs)
  (hs:∀ i x H,xs[i]?=some x→Pv i H→ti (some x::c) H fun b H1=>if b=true then te (some x::c) H1 fun y H2=>∃ ys,H2 D=some (.lst ys)∧ys.length<sizeLine∧Pv (i+1) (upd H2 D (.lst (ys++[y]))) else Pv (i+1) H1) (hd:∀ H,Pv xs.length H→Q (.ref D) H) :
  jP (HS K a) D Q ti te c H0:=by
 refine⟨fun i m H'=>m=xs.length - i∧i≤xs.length∧Pv i H',⟨xs.length,by simp,l9 _,h0⟩,?_⟩
 rintro i m H' ⟨rfl,hi,p⟩
 have q:=hl i H' hi p
 by_cases hlt:i<xs.length
 ·refine .inr ⟨⟨xs,xs[i],q,by simp[hlt]⟩,Pv (i+1),fun H'' p=>⟨xs.length - (i+1),by omega,rfl,hlt,p⟩,fun v H2 y=>?_⟩
  obtain⟨e,y⟩:=y
  subst e
  exact hs i v H2 (y xs q) p
 ·have e:i=xs.length:=by omega
  subst e
  exact .inl ⟨⟨xs,q,b9 _⟩,hd H' p⟩
theorem eW{K:b5}{a:Addr}{xs:List V}{D:Addr}{Q:VK}{ti:TT}{te:TE}{c:St}{H0:Hp}(Pv:Nat→Hp→Prop)(h0:Pv 0 H0)(hl:∀ i H,i≤xs.length→Pv i H→SqT K H a xs)
  (hs:∀ i x H,xs[i]?=some x→Pv i H→ti (some x::c) H fun b H1=>if b=true then te (some x::c) H1 fun y H2=>∃ ys,H2 D=some (.lst ys)∧ys.length<sizeLine∧Pv (i+1) (upd H2 D (.lst (ys++[y]))) else Pv (i+1) H1) (hd:∀ H,Pv xs.length H→Q (.ref D) H) :
  jP (Kk K a) D Q ti te c H0:=by
 refine⟨fun i m H'=>m=xs.length - i∧i≤xs.length∧Pv i H',⟨xs.length,by simp,l9 _,h0⟩,?_⟩
 rintro i m H' ⟨rfl,hi,p⟩
 have q:=hl i H' hi p
 by_cases hlt:i<xs.length
 ·refine .inr ⟨⟨xs,xs[i],q,by simp[hlt]⟩,Pv (i+1),fun H'' p=>⟨xs.length - (i+1),by omega,rfl,hlt,p⟩,fun v H2 y=>?_⟩
  obtain⟨e,y⟩:=y
  subst e
  exact hs i v H2 (y xs q) p
 ·have e:i=xs.length:=by omega
  subst e
  exact .inl ⟨⟨xs,q,b9 _⟩,hd H' p⟩
def De(x:Str):It:=⟨fun i _=>i<x.cps.size,fun i H v H'=>H'=H∧∃ c,x.cps[i]?=some c∧v=.str ⟨#[c]⟩,fun i _=>i=x.cps.size⟩
theorem D_{P:Program}{w:World}{K:b5}{tg:Expr}(x:Str)(t:Tok)(T:String)(it:Addr)(hT:T="str_ascii_iterator"∨T="str_iterator"):Turn P w K tg (De x) [it] it (fun i h=>h.IsStrIter it T x t i) where
 mem:=by simp
 obj:=fun i h st b hb=>by
  have e:b=it:=by simpa using hb
  subst e
  obtain⟨o,e,c,d⟩:=st
  exact⟨o,e,fun v z=>by rw[d] at z;cases z⟩
 keep:=fun i h h' st k=>by
  obtain⟨o,e,r⟩:=st
  exact⟨o,k it (by simp) o e,r⟩
 item:=by
  intro X hP hw hK hc i pins s σ H E I hf st hg
  subst hP hw hK
  obtain⟨f0,f1,f2,f3,f4,f5⟩:=hf it (by simp)
  have hn:["enumerate","zip","dict_itemiterator","dict_reverseitemiterator","odict_iterator","itertools.zip_longest","itertools.pairwise"].contains T=false:=by rcases hT with rfl | rfl <;> decide
  have fin:∀ (v:Value) (h':Heap) (tk:Nat),SignAt x i v→h'.IsStrIter it T x t (i+1)→(∀ b o,b ∉ [it]→s.heap.get? b=some o→h'.get? b=some o) →
    ∃ u,some v=some u∧wpAny (model X.prog X.w) X.A (letOwnedTupleGo tg (.ref it) u) (fun _ s2=>∃ y H',Inv X pins σ H' s2∧RelV y u∧(De x).yld i H y H'∧s2.heap.IsStrIter it T x t (i+1)∧∀ b∈[it],H' b=none) E { s with heap:=h',toks:=tk }:=fun v h' tk hv st' kk=>by
   obtain⟨c,u,hc',rfl⟩:=hv
   have I1:Inv X pins σ H { s with heap:=h',toks:=tk }:=I.turned (fun b o hb e=>kk b o (by simpa using hb) e) f0 f1 f3 f4 f5
   obtain⟨o,e,c2,d⟩:=id st'
   exact⟨_,rfl,uK (s:={ s with heap:=h',toks:=tk }) e c2 d hn ⟨.str ⟨#[c]⟩,H,I1,⟨u,rfl⟩,⟨rfl,c,hc',rfl⟩,st',fun b hb=>(hf b hb).1⟩⟩
  rcases hT with rfl | rfl
  ·exact(aJn (prog:=X.prog) (w:=X.w) (I.ok.hd hc) it x t).item i s _ _ hg st fin
  ·exact(aJs (prog:=X.prog) (w:=X.w) (I.ok.hd hc) it x t).item i s _ _ hg st fin
 done:=by
  intro X hP hw hK hc i pins s σ H E I hf st hg
  subst hP hw hK
  obtain⟨f0,f1,f2,f3,f4,f5⟩:=hf it (by simp)
  have hi:i=x.cps.size:=hg
  subst hi
  have fin:∀ (h':Heap) (tk:Nat),(∀ b o,b ∉ [it]→s.heap.get? b=some o→h'.get? b=some o)→(none:Option Value)=none∧Inv X pins σ H { s with heap:=h',toks:=tk }:=fun h' tk kk =>
   ⟨rfl,I.turned (fun b o hb e=>kk b o (by simpa using hb) e) f0 f1 f3 f4 f5⟩
  rcases hT with rfl | rfl
  ·exact(aJn (prog:=X.prog) (w:=X.w) (I.ok.hd hc) it x t).done s _ _ st fin
  ·exact(aJs (prog:=X.prog) (w:=X.w) (I.ok.hd hc) it x t).done s _ _ st fin
 self:=fun A i s Q E st h=>by
  rcases hT with rfl | rfl
  ·exact wpAny_pyIter_striter_ascii st h
  ·exact wpAny_pyIter_striter_wide st h
section
variable {X:Cx}{tg:Expr}
def MK(tl:TE):TI:=fun σ H R=>tl σ H fun x H1=>∃ z,x=.str z∧R (De z) H1
theorem iM{l:Expr}{tl:TE}(hl:PE X l tl):PI X tg l (MK tl):=by
 intro pins s σ H R I h
 refine bS (hl pins s σ H _ I h) fun v s1 ⟨x,H1,I1,r1,q1⟩=>?_
 obtain⟨z,e,q⟩:=q1
 subst e
 obtain⟨t,rfl⟩:=r1
 refine wpAny_pyIter_strU ?_
 refine⟨s1.heap.objs.size,[s1.heap.objs.size],_,_,H1,rfl,I1.kept (t':=s1.toks) fun b o e=>b6 _ e,D_ z t (strIterType z) _ (by unfold strIterType;split <;> simp),⟨_,d9 _ rfl,rfl,rfl⟩,fun b hb=>?_,q⟩
 have e:b=s1.heap.objs.size:=by simpa using hb
 subst e
 exact I1.fpOk (b9 _) (I1.hok.fresh (b9 _))
end
abbrev S(w:List Nat):Str:=⟨w.toArray⟩
theorem kR{w:List Nat}{g:TG}{tb:TS}{D:Ends}{σ:St}{H:Hp}(Pv:Nat→St→Hp→Prop)(h0:Pv 0 σ H)
  (hs:∀ i c σ H,w[i]?=some c→Pv i σ H→g (.str (S [c])) σ H fun σ2 H2=>tb { D with nx:=Pv (i+1),ct:=Pv (i+1),bk:=D.nx } σ2 H2) (hd:∀ σ H,Pv w.length σ H→D.nx σ H) :
  ∃ W:Nat→Nat→St→Hp→Prop,(∃ m,W 0 m σ H)∧∀ i m σ H,W i m σ H →
   ((De (S w)).stop i H∧D.nx σ H)∨((De (S w)).go i H∧∃ N:St→Hp→Prop,(∀ σ' H',N σ' H'→∃ m',m' < m∧W (i+1) m' σ' H')∧∀ x H',(De (S w)).yld i H x H'→g x σ H' fun σ2 H2=>tb { D with nx:=N,ct:=N,bk:=D.nx } σ2 H2):=by
 refine⟨fun i m σ H=>m=w.length - i∧i≤w.length∧Pv i σ H,⟨w.length,by simp,l9 _,h0⟩,?_⟩
 rintro i m σ H ⟨rfl,hi,p⟩
 by_cases hlt:i<w.length
 ·refine .inr ⟨by simpa [De] using hlt,Pv (i+1),fun σ' H' p'=>⟨w.length - (i+1),by omega,rfl,hlt,p'⟩,fun x H' y=>?_⟩
  obtain⟨e,c,hc,rfl⟩:=y
  subst e
  exact hs i c σ _ (by simpa using hc) p
 ·have e:i=w.length:=by omega
  subst e
  exact .inl ⟨by simp[De],hd σ H p⟩
theorem jA{w:List Nat}{D:Addr}{Q:VK}{ti:TT}{te:TE}{c:St}{H0:Hp}(Pv:Nat→Hp→Prop)(h0:Pv 0 H0)
  (hs:∀ i k H,w[i]?=some k→Pv i H→ti (some (.str (S [k]))::c) H fun b H1=>if b=true then te (some (.str (S [k]))::c) H1 fun y H2=>∃ ys,H2 D=some (.lst ys)∧ys.length<sizeLine∧Pv (i+1) (upd H2 D (.lst (ys++[y]))) else Pv (i+1) H1) (hd:∀ H,Pv w.length H→Q (.ref D) H) :
  jP (De (S w)) D Q ti te c H0:=by
 refine⟨fun i m H'=>m=w.length - i∧i≤w.length∧Pv i H',⟨w.length,by simp,l9 _,h0⟩,?_⟩
 rintro i m H' ⟨rfl,hi,p⟩
 by_cases hlt:i<w.length
 ·refine .inr ⟨by simpa [De] using hlt,Pv (i+1),fun H'' p=>⟨w.length - (i+1),by omega,rfl,hlt,p⟩,fun v H2 y=>?_⟩
  obtain⟨e,k,hk,rfl⟩:=y
  subst e
  exact hs i k H2 (by simpa using hk) p
 ·have e:i=w.length:=by omega
  subst e
  exact .inl ⟨by simp[De],hd H' p⟩
section
variable {X:Cx}
def MI(a:Addr)(D:List (PyData×PyData)):R2:=fun x y H Q=>x=.ref a∧∃ z,y=.str z∧((∃ v,lookup (.str z) D=some (.str v)∧Q (.str v) H)∨∃ i,lookup (.str z) D=some (.int i)∧Q (.int i) H)
theorem Jp{a:Addr}{D:List (PyData×PyData)}(T:∀ h,X.K.In h→StrTab X.prog X.w h a D):Js X (MI a D):=by
 intro value slice pins s σ H x y v u Q I rx ry h hs
 obtain⟨rfl,z,rfl,q⟩:=h
 cases rx
 obtain⟨t,rfl⟩:=ry
 obtain⟨lo,kvs,hd,hf⟩:=T s.heap I.kIn
 rcases q with ⟨y,hl,q⟩ | ⟨y,hl,q⟩
 ·obtain⟨v,hv,hfl⟩:=hf.of_lookup (enc:=PyData.str) aZt hl
  exact tail_any hd.typeIs slot_dict_getitem.lookup (wpAny_getItem_of (strKind_is X.prog X.w z t) hd.mapOf hv ⟨.str y,H,I.tok _,aKZ hfl,q⟩) hs
 ·obtain⟨v,hv,hfl⟩:=hf.of_lookup (enc:=PyData.str) aZt hl
  exact tail_any hd.typeIs slot_dict_getitem.lookup (wpAny_getItem_of (strKind_is X.prog X.w z t) hd.mapOf hv ⟨.int y,H,I.tok _,aK0 hfl,q⟩) hs
def ML:V→Option Int→Option Int→Hp→VK→Prop:=fun x lo hi H Q=>∃ z,x=.str z∧z.length≤sizeLine∧Q (.str (Txt.slice z lo hi)) H
theorem jQ:Ki X ML:=by
 intro pins s σ H x v vl vu lo hi sl Q I rx hs pl pu h
 obtain⟨z,rfl,hz,q⟩:=h
 obtain⟨t,rfl⟩:=rx
 refine⟨"str",_,aXo.lookup,typeIs_str _ _ _,?_⟩
 obtain⟨o,ho,hc,hd⟩:=hs
 have fin:∀ t' k,EP X pins σ Q (.str (Txt.slice z lo hi) t') { s with toks:=k }:=fun t' k=>⟨.str (Txt.slice z lo hi),H,I.tok _,⟨t',rfl⟩,q⟩
 cases pl with
 | none =>
  cases pu with
  | none=>exact wpAny_getItem_str_slice (l:=none) (u:=none) (st:=none) ⟨o,ho,hc,hd⟩ rfl (post_val_or_str ⟨j8 (aZF z _ _) hz,fin⟩)
  | int j uj=>exact wpAny_getItem_str_slice (l:=none) (u:=some (j,uj)) (st:=none) ⟨o,ho,hc,hd⟩ rfl (post_val_or_str ⟨j8 (aZF z _ _) hz,fin⟩)
 | int i ui =>
  cases pu with
  | none=>exact wpAny_getItem_str_slice (l:=some (i,ui)) (u:=none) (st:=none) ⟨o,ho,hc,hd⟩ rfl (post_val_or_str ⟨j8 (aZF z _ _) hz,fin⟩)
  | int j uj=>exact wpAny_getItem_str_slice (l:=some (i,ui)) (u:=some (j,uj)) (st:=none) ⟨o,ho,hc,hd⟩ rfl (post_val_or_str ⟨j8 (aZF z _ _) hz,fin⟩)
theorem AZ:Ba X "str.islower" (fun x xs H Q=>∃ z,x=.str z∧xs=[]∧Q (.bl (Txt.islower z)) H):=by
 intro pins s σ H x xs v us Q I rx rs h
 obtain⟨z,rfl,rfl,q⟩:=h
 obtain⟨t,rfl⟩:=rx
 cases rs
 exact SC.islower ⟨.bl _,H,I,rfl,q⟩
theorem lL:Ba X "str.isupper" (fun x xs H Q=>∃ z,x=.str z∧xs=[]∧Q (.bl (Txt.isupper z)) H):=by
 intro pins s σ H x xs v us Q I rx rs h
 obtain⟨z,rfl,rfl,q⟩:=h
 obtain⟨t,rfl⟩:=rx
 cases rs
 exact SC.isupper ⟨.bl _,H,I,rfl,q⟩
theorem kI:Ba X "str.upper" (fun x xs H Q=>∃ z,x=.str z∧xs=[]∧Builtin.Str.tooLong (Txt.upper z).length=false∧Q (.str (Txt.upper z)) H):=by
 intro pins s σ H x xs v us Q I rx rs h
 obtain⟨z,rfl,rfl,hf,q⟩:=h
 obtain⟨t,rfl⟩:=rx
 cases rs
 exact SC.upper hf ⟨.str _,H,I.tok _,⟨_,rfl⟩,q⟩
theorem jO:Ba X "str.lower" (fun x xs H Q=>∃ z,x=.str z∧xs=[]∧Builtin.Str.tooLong (Txt.lower z).length=false∧Q (.str (Txt.lower z)) H):=by
 intro pins s σ H x xs v us Q I rx rs h
 obtain⟨z,rfl,rfl,hf,q⟩:=h
 obtain⟨t,rfl⟩:=rx
 cases rs
 exact SC.lower hf ⟨.str _,H,I.tok _,⟨_,rfl⟩,q⟩
theorem rK:∀ {zs:List Str} {us:List Value},Vals (zs.map V.str) us→StrsAre us zs
 | [],_,r=>by
  cases r
  exact .nil
 | z::zs,_,r=>by
  rw[i8] at r
  cases r with
  | cons r1 r2 =>
   obtain⟨t,rfl⟩:=r1
   exact .cons z t (rK r2)
theorem He:Ba X "str.join" (fun x xs H Q=>∃ z a zs,x=.str z∧xs=[.ref a]∧SqL X.K H a (zs.map V.str)∧(zs.map (·.length)).sum+zs.length * z.length≤16777216∧Q (.str (Txt.join z zs)) H):=by
 intro pins s σ H x xs v us Q I rx rs h
 obtain⟨z,a,zs,rfl,rfl,hq,hz,q⟩:=h
 obtain⟨t,rfl⟩:=rx
 obtain⟨u,rfl,ru⟩:=rs.one
 cases ru
 obtain⟨its,r,pl,_⟩:=I.list hq
 exact join_list pl.isList (by simpa using rK r) hz fun t' k=>⟨.str _,H,I.tok _,⟨t',rfl⟩,q⟩
end
def qA:List String:=["str","int","bool","list","tuple","NoneType","dict"]
def bZ:List String:=["list","tuple","bool","str","int"]
def iO(t c:String):Bool:=t == c || (t == "bool" && c == "int")
theorem Gu(K:b5)(c:String)(h:c∈bZ):PySem.W.kitOne K (.type "str") (.type c)=some (iO "str" c):=by
 simp only [bZ,d3,l8,or_false] at h
 rcases h with rfl | rfl | rfl | rfl | rfl <;> kernel_rfl
theorem GQ(K:b5)(c:String)(h:c∈bZ):PySem.W.kitOne K (.type "int") (.type c)=some (iO "int" c):=by
 simp only [bZ,d3,l8,or_false] at h
 rcases h with rfl | rfl | rfl | rfl | rfl <;> kernel_rfl
theorem Fo(K:b5)(c:String)(h:c∈bZ):PySem.W.kitOne K (.type "bool") (.type c)=some (iO "bool" c):=by
 simp only [bZ,d3,l8,or_false] at h
 rcases h with rfl | rfl | rfl | rfl | rfl <;> kernel_rfl
theorem EC(K:b5)(c:String)(h:c∈bZ):PySem.W.kitOne K (.type "list") (.type c)=some (iO "list" c):=by
 simp only [bZ,d3,l8,or_false] at h
 rcases h with rfl | rfl | rfl | rfl | rfl <;> kernel_rfl
theorem B5(K:b5)(c:String)(h:c∈bZ):PySem.W.kitOne K (.type "tuple") (.type c)=some (iO "tuple" c):=by
 simp only [bZ,d3,l8,or_false] at h
 rcases h with rfl | rfl | rfl | rfl | rfl <;> kernel_rfl
theorem Dm(K:b5)(c:String)(h:c∈bZ):PySem.W.kitOne K (.type "NoneType") (.type c)=some (iO "NoneType" c):=by
 simp only [bZ,d3,l8,or_false] at h
 rcases h with rfl | rfl | rfl | rfl | rfl <;> kernel_rfl
theorem Fg(K:b5)(c:String)(h:c∈bZ):PySem.W.kitOne K (.type "dict") (.type c)=some (iO "dict" c):=by
 simp only [bZ,d3,l8,or_false] at h
 rcases h with rfl | rfl | rfl | rfl | rfl <;> kernel_rfl
theorem vF(K:b5)(t c:String)(ht:t∈qA)(h:c∈bZ):PySem.W.kitOne K (.type t) (.type c)=some (iO t c):=by
 simp only [qA,d3,l8,or_false] at ht
 rcases ht with rfl | rfl | rfl | rfl | rfl | rfl | rfl
 ·exact Gu K c h
 ·exact GQ K c h
 ·exact Fo K c h
 ·exact EC K c h
 ·exact B5 K c h
 ·exact Dm K c h
 ·exact Fg K c h
section
variable {X:Cx}
inductive BTy(K:b5)(H:Hp):V→String→Prop where
 | non:BTy K H .non "NoneType"
 | bl (x:Bool):BTy K H (.bl x) "bool"
 | int (i:Int):BTy K H (.int i) "int"
 | str (x:Str):BTy K H (.str x) "str"
 | lst {a:Addr} {xs:List V} (e:SqL K H a xs):BTy K H (.ref a) "list"
 | tup {a:Addr} {xs:List V} (e:SqT K H a xs):BTy K H (.ref a) "tuple"
theorem BTy.mem{K:b5}{H:Hp}{x:V}{t:String}(h:BTy K H x t):t∈qA:=by cases h <;> decide
theorem Gw{pins:List (Addr×Obj)}{σ:St}{H:Hp}{s:Shared}{A:Around}{E:Value→Shared→Prop}{Q:Value→Shared→Prop}{x:V}{u:Value}{t c:String}(I:Inv X pins σ H s)(rx:RelV x u)(ty:BTy X.K H x t)(hc:c∈bZ)
  (h:∀ tk,Q (.bool (iO t c)) { s with toks:=tk }):wpAny (model X.prog X.w) A (call (.builtin "isinstance") [u,.type c]) Q E s:=by
 have e:=vF X.K t c ty.mem hc
 cases ty with
 | non=>cases (show u=Value.none from rx);exact aQ8 aJL I.kIn True.intro e (fun z=>nomatch z) h
 | bl y=>cases (show u=Value.bool y from rx);exact aQ8 aJM I.kIn True.intro e (fun z=>nomatch z) h
 | int i=>obtain⟨t,q⟩:=(show ∃ t,u=Value.int i t from rx);cases q;exact aQ8 aJ3 I.kIn True.intro e (fun z=>nomatch z) h
 | str y=>obtain⟨t,q⟩:=(show ∃ t,u=Value.str y t from rx);cases q;exact aQ8 aJ4 I.kIn True.intro e (fun z=>nomatch z) h
 | @lst a xs ea =>
  cases (show u=Value.ref a from rx)
  obtain⟨its,_,⟨o,n,h1,h2,_⟩,_⟩:=I.list ea
  exact aQ8 aJN I.kIn ⟨o,h1,h2⟩ e (fun z=>nomatch z) h
 | @tup a xs ea =>
  cases (show u=Value.ref a from rx)
  obtain⟨its,_,⟨o,h1,h2,_⟩,_⟩:=I.tuple ea
  exact aQ8 aZu I.kIn ⟨o,h1,h2⟩ e (fun z=>nomatch z) h
theorem AI{K:b5}{t c d:String}(ht:t∈qA)(hc:c∈bZ)(hd:d∈bZ):PySem.W.kitAny K (.type t) [.type c,.type d]=some (iO t c || iO t d):=by
 unfold PySem.W.kitAny
 rw[vF K t c ht hc]
 cases iO t c with
 | true=>rfl
 | false =>
  dsimp only
  unfold PySem.W.kitAny
  rw[vF K t d ht hd]
  cases iO t d <;> rfl
theorem Gg{pins:List (Addr×Obj)}{σ:St}{H:Hp}{s:Shared}{A:Around}{E:Value→Shared→Prop}{Q:Value→Shared→Prop}{x:V}{u:Value}{t c d:String}{p:Addr}(I:Inv X pins σ H s)(rx:RelV x u)(ty:BTy X.K H x t)(hp:H p=some (.tup [.ty c,.ty d]))(hc:c∈bZ)(hd:d∈bZ)
  (h:∀ tk,Q (.bool (iO t c || iO t d)) { s with toks:=tk }):wpAny (model X.prog X.w) A (call (.builtin "isinstance") [u,.ref p]) Q E s:=by
 have e:=AI (K:=X.K) ty.mem hc hd
 obtain⟨_,its,r,⟨ot,h1,h2,n,h3⟩,_⟩:=I.hok p _ hp
 obtain⟨u1,u2,rfl,r1,r2⟩:=r.two
 cases (show u1=Value.type c from r1)
 cases (show u2=Value.type d from r2)
 obtain⟨cl,dd,dt,sl⟩:=ot
 have h2':cl=.type "tuple":=h2
 have h3':dt=.seq [Value.type c,Value.type d].toArray n:=h3
 subst h2' h3'
 cases ty with
 | non=>cases (show u=Value.none from rx);exact aQ9 aJL I.kIn True.intro h1 e (fun z=>nomatch z) h
 | bl y=>cases (show u=Value.bool y from rx);exact aQ9 aJM I.kIn True.intro h1 e (fun z=>nomatch z) h
 | int i=>obtain⟨t,q⟩:=(show ∃ t,u=Value.int i t from rx);cases q;exact aQ9 aJ3 I.kIn True.intro h1 e (fun z=>nomatch z) h
 | str y=>obtain⟨t,q⟩:=(show ∃ t,u=Value.str y t from rx);cases q;exact aQ9 aJ4 I.kIn True.intro h1 e (fun z=>nomatch z) h
 | @lst a xs ea =>
  cases (show u=Value.ref a from rx)
  obtain⟨its,_,⟨o,n,g1,g2,_⟩,_⟩:=I.list ea
  exact aQ9 aJN I.kIn ⟨o,g1,g2⟩ h1 e (fun z=>nomatch z) h
 | @tup a xs ea =>
  cases (show u=Value.ref a from rx)
  obtain⟨its,_,⟨o,g1,g2,_⟩,_⟩:=I.tuple ea
  exact aQ9 aZu I.kIn ⟨o,g1,g2⟩ h1 e (fun z=>nomatch z) h
def Ml(K:b5):List V→Hp→VK→Prop:=fun xs H Q=>∃ x t,BTy K H x t ∧
 ((∃ c,xs=[x,.ty c]∧c∈bZ∧Q (.bl (iO t c)) H)∨∃ c d p,xs=[x,.ref p]∧H p=some (.tup [.ty c,.ty d])∧c∈bZ∧d∈bZ∧Q (.bl (iO t c || iO t d)) H)
theorem EK:dZ X (.builtin "isinstance") (Ml X.K):=by
 intro pins s σ H xs us Q I r h
 obtain⟨x,t,ty,⟨c,rfl,hc,q⟩ | ⟨c,d,p,rfl,hp,hc,hd,q⟩⟩:=h
 ·obtain⟨u,v,rfl,r1,r2⟩:=r.two
  cases (show v=Value.type c from r2)
  exact Gw I r1 ty hc fun tk=>⟨.bl _,H,I.tok _,rfl,q⟩
 ·obtain⟨u,v,rfl,r1,r2⟩:=r.two
  cases (show v=Value.ref p from r2)
  exact Gg I r1 ty hp hc hd fun tk=>⟨.bl _,H,I.tok _,rfl,q⟩
theorem dS{x:Str}{T:String}{pos:Pos}(hg:Gl X x)(hm:X.mg x=none)(hv:bootBuiltins x=some (.type T))(hn:x≠"__name__":=by decide)(hd:(x == ("__debug__":Str))=false:=by decide):PE X (.Name x pos) (tC (.ty T)):=GL hg hm hv rfl hn hd
theorem oX:∀ {bs:List Bool} {us:List Value},Vals (bs.map V.bl) us→LSm.BoolsAre us bs
 | [],_,r=>by
  cases r
  exact .nil
 | b::bs,_,r=>by
  rw[i8] at r
  cases r with
  | cons r1 r2 =>
   cases (show _=Value.bool b from r1)
   exact .cons b (oX r2)
theorem C9(hc:X.calm=true):dZ X (.builtin "all") (fun xs H Q=>∃ (a:Addr) (bs:List Bool),xs=[.ref a]∧SqL X.K H a (bs.map V.bl)∧Q (.bl (bs.all id)) H):=by
 intro pins s σ H xs us Q I r h
 obtain⟨a,bs,rfl,hq,q⟩:=h
 obtain⟨u,rfl,ru⟩:=r.one
 cases ru
 obtain⟨its,rv,pl,_⟩:=I.list hq
 have hl:=pl.isList
 have hb:=oX rv
 have hlt:a<s.heap.objs.size:=by obtain⟨_,e,_⟩:=hl;exact d5 e
 refine call_all_walk (wpAny_pyIter_list hl ?_)
 refine⟨s.heap.objs.size,[s.heap.objs.size,a],[s.heap.objs.size],its.toArray.size,_,_,fun i=>(bs[i]?).getD true,rfl,Walks.list (A:=X.A.in1) (I.ok.hd hc) _ a (d8 hlt) its.toArray,
  ⟨⟨_,d9 _ rfl,rfl,rfl⟩,hl.push _⟩,fun i v s' Q' E' hP hQ=>?_,fun h' tk hk=>?_⟩
 ·obtain⟨b,e,rfl⟩:=hb.get i v (by simpa using hP)
  simp only [e,Option.getD_some] at hQ
  exact wpAny_truthy_bool hQ
 ·have e:((List.range its.toArray.size).all fun i=>(bs[i]?).getD true)=bs.all id:=by
   rw[c8,hb.length];exact LSm.range_all bs
  rw[e]
  exact⟨.bl _,H,I.kept (t':=tk) (LSm.kept_iter hk),rfl,q⟩
end
end L2
namespace PySem
open Sem (wp)
namespace F
theorem uV:Manifest.owners.lookup (String.ofList ['d','e','s','r','e','v','e','r'].reverse)=some Manifest.sig_reversed:=by kernel_rfl
theorem slot_rvd_next:Slot "reversed" "__next__" "reversed.__next__" :=
 .of (owner:="reversed") (n:="__next__") (by rw[typeLookup_type,builtinLookup_eq_fast];kernel_rfl) (by decide +kernel) (by decide +kernel) (by decide +kernel)
  (by first | exact .inl (by decide +kernel) | exact .inr (by decide +kernel)) (by rw[isSubtype_type];kernel_rfl)
theorem entry_rvd_next:entryFor table "reversed.__next__"=some Builtin.«reversed.__next__»:=entryFor_of_tree (by kernel_rfl)
theorem args_rvd_next_1(a:Value):argsOk "reversed.__next__" ⟨[a],[]⟩:=by
 unfold argsOk;rw[signature?_of (id:="reversed.__next__") (n:=['_','_','t','x','e','n','_','_']) (o:=['d','e','s','r','e','v','e','r']) (by kernel_rfl) uV];kernel_rfl
theorem slot_rvd_iter:Slot "reversed" "__iter__" "reversed.__iter__" :=
 .of (owner:="reversed") (n:="__iter__") (by rw[typeLookup_type,builtinLookup_eq_fast];kernel_rfl) (by decide +kernel) (by decide +kernel) (by decide +kernel)
  (by first | exact .inl (by decide +kernel) | exact .inr (by decide +kernel)) (by rw[isSubtype_type];kernel_rfl)
theorem args_rvd_iter_1(a:Value):argsOk "reversed.__iter__" ⟨[a],[]⟩:=by
 unfold argsOk;rw[signature?_of (id:="reversed.__iter__") (n:=['_','_','r','e','t','i','_','_']) (o:=['d','e','s','r','e','v','e','r']) (by kernel_rfl) uV];kernel_rfl
theorem entry_rvd_iter:entryFor table "reversed.__iter__"=some Builtin.«dict_keyiterator.__iter__» :=
 entryFor_alias (id':="dict_keyiterator.__iter__") (by kernel_rfl) (by first | rfl | decide +kernel | (unfold String.splitOn;simp +decide [String.splitOnAux])) (by decide +kernel) (by kernel_rfl)
theorem sJ:Slot "reversed" "__init__" "object.__init__" :=
 .of (owner:="object") (n:="__init__") (by rw[typeLookup_type,builtinLookup_eq_fast];kernel_rfl) (by decide +kernel) (by decide +kernel) (by decide +kernel)
  (by first | exact .inl (by decide +kernel) | exact .inr (by decide +kernel)) (by rw[isSubtype_type];kernel_rfl)
theorem called_reversed:TypeCalled "reversed" "reversed.__new__" "object.__init__" :=
 ⟨by decide +kernel,by decide +kernel,⟨_,_,mro_reversed⟩,madeBy_type mro_reversed lookup_reversed_new (by decide +kernel),by decide +kernel,by rw[isSubtype_type];kernel_rfl,sJ⟩
theorem str_norev:typeLookup (.type "str") "__reversed__"=pure none:=by rw[typeLookup_type,builtinLookup_eq_fast];kernel_rfl
end F
theorem kY(x:Str)(t:Tok)(hx:¬ (x.length:Int) ≥ 2 ^ 63) :
  Meets (Builtin.«reversed.__new__» ⟨[.type "reversed",.str x t],[]⟩) (fun _ R s=>∀ tk,
   R (.ok (.ret (.ref s.heap.objs.size))) { s with heap:=s.heap.push { cls:=.type "reversed",data:=.fields #[.str x t,rawInt ((x.length:Int) - 1)] },toks:=tk }) :=
 .of_wp fun prog w A R s h=>by
  obtain⟨hp,g,d,tk,os⟩:=s
  have hsub:=F.sub_reversed_self
  have hnr:=F.str_norev
  have hsd:isSubtype (.type "str") (.type "dict")=pure false:=by rw[isSubtype_type];kernel_rfl
  have hgi:=aXo.lookup
  unfold Builtin.«reversed.__new__»
  refine wpAny_bind (wpAny_of_eq (newClass_reversed _) ?_)
  dsimp only
  refine wpAny_bind (wpAny_of_eq (a:=()) (by first | rfl | kernel_rfl) ?_)
  refine wpAny_bind (wpAny_of_eq (a:=()) (by first | rfl | kernel_rfl) ?_)
  try dsimp only
  wp_walk using P.len_str
  case hfit=>exact hx
  all_goals
   refine wpAny_bind (m:=asInt? _) (wpAny_of_eq (a:=some (x.length:Int)) rfl ?_)
   dsimp only
   refine wpAny_bind ?_
   show wpAny _ _ (newObj (.type "reversed") (.fields #[Value.str x t,rawInt ((x.length:Int) - 1)])) _ _ _
   exact wpAny_newObj_type (wpAny_pure ⟨_,rfl,h _⟩)
def Heap.IsRvd(h:Heap)(a:Addr)(x:Str)(t:Tok)(i:Int):Prop:=∃ o,h.get? a=some o∧o.cls=.type "reversed"∧o.data=.fields #[.str x t,rawInt i]
section
variable {prog:Program}{w:World}{A:Around}{E:Value→Shared→Prop}{s:Shared}
theorem Heap.IsRvd.typeIs{a:Addr}{x:Str}{t:Tok}{i:Int}(h:s.heap.IsRvd a x t i):s.TypeIs (.ref a) "reversed":=let ⟨o,ho,hc,_⟩:=h;⟨o,ho,hc⟩
theorem iH{x:Str}{t:Tok}{Q:Value→Shared→Prop}(hx:¬ (x.length:Int) ≥ 2 ^ 63)
  (h:∀ tk,Q (.ref s.heap.objs.size) { s with heap:=s.heap.push { cls:=.type "reversed",data:=.fields #[.str x t,rawInt ((x.length:Int) - 1)] },toks:=tk }):wpAny (model prog w) A (call (.type "reversed") [.str x t]) Q E s :=
 callType_new F.called_reversed (by decide) (F.typeCall_reversed_1 _) (F.newCall_reversed_1 _) (fun obj=>aZ9 obj _) F.entry_reversed_new (kY x t hx) fun tk=>⟨⟨_,d9 _ rfl,rfl⟩,h tk⟩
theorem fO{it:Addr}{x:Str}{t:Tok}{i:Int}{Q:Value→Shared→Prop}(hit:s.heap.IsRvd it x t i)(h:Q (.ref it) s):wpAny (model prog w) A (pyIter (.ref it)) Q E s:=by
 refine wpAny_pyIter_slot hit.typeIs F.slot_rvd_iter (wpAny_call_entry F.slot_rvd_iter hit.typeIs F.entry_rvd_iter ?_ (F.args_rvd_iter_1 _))
 show wpAny _ _ (ret (.ref it)) _ _ s
 exact wpAny_pure ⟨_,rfl,"reversed",_,hit.typeIs,F.slot_rvd_next.lookup,h⟩
theorem jJ{it:Addr}{x:Str}{t:Tok}{i c:Nat}{Q:Option Value→Shared→Prop}(hit:s.heap.IsRvd it x t (i:Int))(hc:x.cps[i]?=some c)(hx:(x.length:Int)<2 ^ 63)
  (hQ:∀ h' tk u,h'.IsRvd it x t ((i:Int) - 1)→Heap.SameBut it s.heap h'→Q (some (.str ⟨#[c]⟩ u)) { s with heap:=h',toks:=tk }):wpAny (model prog w) A (pyNext (.ref it)) Q E s:=by
 obtain⟨o,ho,hcl,hd⟩:=id hit
 have hi:i<x.length:=by
  have:=(y9.mp hc).1
  exact this
 unfold pyNext
 refine wpAny_bind (wpAny_attempt (wpAny_callSpecial?_slot (name:=Str.ofString "__next__") hit.typeIs F.slot_rvd_next
  (wpAny_call_entry F.slot_rvd_next hit.typeIs F.entry_rvd_next ?_ (F.args_rvd_next_1 _))))
 unfold Builtin.«reversed.__next__»
 refine wpAny_bind (wpAny_of_eq (a:=(Value.ref it,[])) rfl ?_)
 try dsimp only
 refine wpAny_bind (wpAny_field ho hd (x:=.str x t) rfl ?_)
 refine wpAny_bind (wpAny_field ho hd (x:=rawInt (i:Int)) rfl ?_)
 show wpAny _ _ (if (i:Int)<0 then _ else _) _ _ s
 rw[if_neg (by omega)]
 have hgi:=aXo.lookup
 refine wpAny_bind (wpAny_specialOf (T:="str") (typeIs_str _ _ _) hgi ?_)
 show wpAny _ _ (if (some (Value.builtin "str.__getitem__")).isNone=true then _ else _) _ _ _
 rw[if_neg (by simp)]
 refine wpAny_bind (m:=mkInt _) (wpAny_mkInt ?_)
 refine wpAny_bind (wpAny_attempt (P.getItem_str (c:=c) (by
  have e1:decide ((i:Int) < -(2 ^ 63:Int))=false:=decide_eq_false (by omega)
  have e2:decide ((i:Int) ≥ 2 ^ 63)=false:=decide_eq_false (by omega)
  rw[e1,e2,aJr]) (by rw[seqIndex_of (by omega) (by omega)];simpa using hc) ?_))
 dsimp only
 refine wpAny_bind (wpAny_field ho hd (x:=rawInt (i:Int)) rfl ?_)
 refine wpAny_bind (wpAny_setField ho hd (by simp) ?_)
 refine wpAny_pure ⟨_,rfl,wpAny_pure (hQ _ _ _ ?_ (u0 ..))⟩
 exact⟨_,t8 _ ho (aQw (aQD hd _)),(aXv ..).trans hcl,by
  rw[aQD hd];simp⟩
theorem kD{it:Addr}{x:Str}{t:Tok}{Q:Option Value→Shared→Prop}(hh:A.handled=none)(hit:s.heap.IsRvd it x t (-1))
  (hQ:∀ h',Heap.ExtBut it s.heap h'→Q none { s with heap:=h' }):wpAny (model prog w) A (pyNext (.ref it)) Q E s:=by
 obtain⟨o,ho,hcl,hd⟩:=id hit
 unfold pyNext
 refine wpAny_bind (wpAny_attempt (wpAny_callSpecial?_slot (name:=Str.ofString "__next__") hit.typeIs F.slot_rvd_next
  (wpAny_call_entry F.slot_rvd_next hit.typeIs F.entry_rvd_next ?_ (F.args_rvd_next_1 _))))
 unfold Builtin.«reversed.__next__»
 refine wpAny_bind (wpAny_of_eq (a:=(Value.ref it,[])) rfl ?_)
 try dsimp only
 refine wpAny_bind (wpAny_field ho hd (x:=.str x t) rfl ?_)
 refine wpAny_bind (wpAny_field ho hd (x:=rawInt (-1)) rfl ?_)
 show wpAny _ _ (if (-1:Int)<0 then _ else _) _ _ s
 rw[if_pos (by decide)]
 refine wpAny_bind (wpAny_rule ?_)
 refine wpAny_bind ?_
 show wpAny _ _ (setField (.ref it) 1 (rawInt (-1)) >>= fun _=>setField (.ref it) 0 .none) _ _ _
 refine wpAny_bind (wpAny_setField ho hd (by simp) ?_)
 have ho':(s.heap.update it (Obj.mapFields fun xs=>xs.setIfInBounds 1 (rawInt (-1)))).get? it=some _:=t8 _ ho (aQw (aQD hd (fun xs=>xs.setIfInBounds 1 (rawInt (-1)))))
 have hd':=aQD hd (fun xs=>xs.setIfInBounds 1 (rawInt (-1)))
 refine wpAny_setField (s:={ s with heap:=s.heap.update it (Obj.mapFields fun xs=>xs.setIfInBounds 1 (rawInt (-1))) }) ho' hd' (by simp) ?_
 have eb:Heap.ExtBut it s.heap ((s.heap.update it (Obj.mapFields fun xs=>xs.setIfInBounds 1 (rawInt (-1)))).update it (Obj.mapFields fun xs=>xs.setIfInBounds 0 .none)):=fun b ob hb e =>
  (aQq _ _ (aQX hb)).trans ((aQq _ _ (aQX hb)).trans e)
 refine wpAny_bind ?_
 show wpAny _ _ (newExc (.type "StopIteration") [] >>= _) _ _ _
 refine wpAny_bind ?_
 simp only [newExc,newTuple]
 refine wpAny_bind (wpAny_newObj_type ?_ (by size_fits))
 refine wpAny_bind (m:=firstArgMember _ _) (wpAny_of_eq (a:=Value.none) (by first | rfl | (simp only [firstArgMember];rfl)) ?_)
 refine wpAny_newObj_type ?_ (by size_fits)
 simp only [raiseNew]
 refine wpAny_bind (wpAny_handled ?_)
 first | rw[show A.in1.handled=none from hh] | rw[hh]
 refine wpAny_bind (wpAny_pure (wpAny_throw ?_))
 refine wpAny_bind (wpAny_isInstance (T:="StopIteration") (b:=true) ⟨_,d9 _ rfl,rfl⟩ isSubtype_stop ?_)
 exact wpAny_pure (hQ _ ((eb.push _).push _))
end
end PySem
namespace L2
open PySem PySem.Spec PyProof.Rows
def Kj(x:Str):It:=⟨fun i _=>i<x.cps.size,fun i H v H'=>H'=H∧∃ c,x.cps[x.cps.size - 1 - i]?=some c∧v=.str ⟨#[c]⟩,fun i _=>i=x.cps.size⟩
theorem xC{P:Program}{w:World}{K:b5}{tg:Expr}(x:Str)(t:Tok)(it:Addr)(hx:(x.length:Int)<2 ^ 63):Turn P w K tg (Kj x) [it] it (fun i h=>i≤x.cps.size∧h.IsRvd it x t ((x.cps.size:Int) - 1 - (i:Int))) where
 mem:=by simp
 obj:=fun i h st b hb=>by
  have e:b=it:=by simpa using hb
  subst e
  obtain⟨_,o,e,c,d⟩:=st
  exact⟨o,e,fun v z=>by rw[d] at z;cases z⟩
 keep:=fun i h h' st k=>by
  obtain⟨hi,o,e,r⟩:=st
  exact⟨hi,o,k it (by simp) o e,r⟩
 item:=by
  intro X hP hw hK hc i pins s σ H E I hf st hg
  subst hP hw hK
  obtain⟨f0,f1,f2,f3,f4,f5⟩:=hf it (by simp)
  obtain⟨hi,st⟩:=st
  have hg':i<x.cps.size:=hg
  have e1:(x.cps.size:Int) - 1 - (i:Int)=((x.cps.size - 1 - i:Nat):Int):=by omega
  rw[e1] at st
  have hcx:x.cps[x.cps.size - 1 - i]?=some (x.cps[x.cps.size - 1 - i]'(by omega)):=Array.getElem?_eq_getElem (by omega)
  refine jJ st hcx hx fun h' tk u st' sb=>?_
  have e2:((x.cps.size - 1 - i:Nat):Int) - 1=(x.cps.size:Int) - 1 - ((i+1:Nat):Int):=by omega
  rw[e2] at st'
  have I1:Inv X pins σ H { s with heap:=h',toks:=tk }:=I.turned (fun b o hb e=>(sb.2 b hb).trans e) f0 f1 f3 f4 f5
  obtain⟨o,e,c,d⟩:=id st'
  exact⟨_,rfl,uK (s:={ s with heap:=h',toks:=tk }) e c d (by decide) ⟨.str ⟨#[_]⟩,H,I1,⟨u,rfl⟩,⟨rfl,_,hcx,rfl⟩,⟨hg',st'⟩,fun b hb=>(hf b hb).1⟩⟩
 done:=by
  intro X hP hw hK hc i pins s σ H E I hf st hg
  subst hP hw hK
  obtain⟨f0,f1,f2,f3,f4,f5⟩:=hf it (by simp)
  have hi:i=x.cps.size:=hg
  subst hi
  have e1:(x.cps.size:Int) - 1 - ((x.cps.size:Nat):Int)=-1:=by omega
  have st':=st.2
  rw[e1] at st'
  exact kD (I.ok.hd hc) st' fun h' eb=>⟨rfl,I.turned (t':=s.toks) (fun b o hb e=>eb b o hb e) f0 f1 f3 f4 f5⟩
 self:=fun A i s Q E st h=>fO st.2 h
section
variable {X:Cx}{tg:Expr}
def MF(ta:TA):TI:=fun σ H R=>ta σ H fun vs H1=>∃ z:Str,vs=[.str z]∧z.length≤1000∧R (Kj z) H1
theorem Ii{a:Expr}{ta:TA}{p pos:Pos}(hg:Gl X "reversed")(hm:X.mg "reversed"=none)(ha:PA X [a] ta)(hs:starEach [a] X.env=[(false,eval a X.env)]:=by rfl):PI X tg (.Call (.Name "reversed" p) [a] [] pos) (MF ta):=by
 intro pins s σ H R I h
 refine Call_ (iK I hg hm boot_reversed (x9 (bS (ha pos pins s σ H _ I h) fun us s1 ⟨vs,H1,I1,r1,q1⟩=>?_) hs rfl))
 obtain⟨z,e,hz,q⟩:=q1
 subst e
 obtain⟨u,rfl,ru⟩:=r1.one
 obtain⟨t,rfl⟩:=ru
 refine iH (by omega) fun tk=>?_
 have I2:Inv X pins σ H1 { s1 with heap:=s1.heap.push { cls:=.type "reversed",data:=.fields #[.str z t,rawInt ((z.length:Int) - 1)] },toks:=tk }:=I1.kept fun b o e=>b6 _ e
 have st:(s1.heap.push { cls:=.type "reversed",data:=.fields #[.str z t,rawInt ((z.length:Int) - 1)] }).IsRvd s1.heap.objs.size z t ((z.length:Int) - 1):=⟨_,d9 _ rfl,rfl,rfl⟩
 refine fO st ?_
 refine⟨s1.heap.objs.size,[s1.heap.objs.size],_,_,H1,rfl,I2,xC z t _ (by omega),⟨l9 _,?_⟩,fun b hb=>?_,q⟩
 ·have e0:(z.cps.size:Int) - 1 - ((0:Nat):Int)=(z.length:Int) - 1:=by show (z.cps.size:Int) - 1 - ((0:Nat):Int)=(z.cps.size:Int) - 1;omega
  rw[e0];exact st
 ·have e:b=s1.heap.objs.size:=by simpa using hb
  subst e
  exact I1.fpOk (b9 _) (I1.hok.fresh (b9 _))
end
theorem qN{w:List Nat}{D:Addr}{Q:VK}{ti:TT}{te:TE}{c:St}{H0:Hp}(Pv:Nat→Hp→Prop)(h0:Pv 0 H0)
  (hs:∀ i k H,w.reverse[i]?=some k→Pv i H→ti (some (.str (S [k]))::c) H fun b H1=>if b=true then te (some (.str (S [k]))::c) H1 fun y H2=>∃ ys,H2 D=some (.lst ys)∧ys.length<sizeLine∧Pv (i+1) (upd H2 D (.lst (ys++[y]))) else Pv (i+1) H1) (hd:∀ H,Pv w.length H→Q (.ref D) H) :
  jP (Kj (S w)) D Q ti te c H0:=by
 refine⟨fun i m H'=>m=w.length - i∧i≤w.length∧Pv i H',⟨w.length,by simp,l9 _,h0⟩,?_⟩
 rintro i m H' ⟨rfl,hi,p⟩
 by_cases hlt:i<w.length
 ·refine .inr ⟨by simpa [Kj] using hlt,Pv (i+1),fun H'' p=>⟨w.length - (i+1),by omega,rfl,hlt,p⟩,fun v H2 y=>?_⟩
  obtain⟨e,k,hk,rfl⟩:=y
  subst e
  refine hs i k H2 ?_ p
  rw[aQx hlt]
  simpa using hk
 ·have e:i=w.length:=by omega
  subst e
  exact .inl ⟨by simp[Kj],hd H' p⟩
def iA:List V→List V→Bool
 | [],[]=>true
 | x::xs,y::ys=>oY x y && iA xs ys
 | _,_=>false
theorem jY:∀ {xs ys:List V},xs.length≠ys.length→iA xs ys=false
 | [],[],h=>absurd rfl h
 | [],_::_,_=>rfl
 | _::_,[],_=>rfl
 | x::xs,y::ys,h=>by unfold iA;rw[jY (by simpa using h),aZ5]
theorem qJ(n:Nat)(e:Nat→Bool):(List.range (n+1)).all e=(e 0 && (List.range n).all fun i=>e (i+1)):=by
 rw[List.range_succ_eq_map,aZd,aZv];rfl
theorem fL:∀ {xs ys:List V},xs.length=ys.length→(List.range xs.length).all (fun i=>match xs[i]?,ys[i]? with | some x,some y=>oY x y | _,_=>true)=iA xs ys
 | [],[],_=>rfl
 | [],_::_,h=>by simp at h
 | _::_,[],h=>by simp at h
 | x::xs,y::ys,h=>by
  have h':xs.length=ys.length:=by simpa using h
  rw[l7,qJ]
  unfold iA
  rw[← fL h']
  simp
theorem yZ:∀ (a b:List Str),iA (a.map V.str) (b.map V.str)=decide (a=b)
 | [],[]=>by simp[iA]
 | [],_::_=>by simp[iA]
 | _::_,[]=>by simp[iA]
 | x::xs,y::ys=>by
  have e:oY (V.str x) (V.str y)=decide (x=y):=by
   unfold oY;by_cases h:x=y <;> simp[h]
  rw[i8,i8]
  unfold iA
  rw[yZ xs ys,e]
  by_cases h:x=y <;> by_cases h2:xs=ys <;> simp[h,h2]
section
variable {X:Cx}
theorem kJ{A:Around}{s:Shared}{xs ys:List V}{us vs:List Value}(rx:Vals xs us)(ry:Vals ys vs)(fx:xs.all gC=true)(fy:ys.all gC=true) :
  ∀ (j:Nat) (h1:j<us.toArray.size) (h2:j<vs.toArray.size),SeqAt.EqAt A s us.toArray[j] vs.toArray[j] (match xs[j]?,ys[j]? with | some x,some y=>oY x y | _,_=>true):=fun j h1 h2=>by
 have hx:j<xs.length:=by rw[rx.length];simpa using h1
 have hy:j<ys.length:=by rw[ry.length];simpa using h2
 obtain⟨u,hu,ru⟩:=rx.get (b0 hx)
 obtain⟨v,hv,rv⟩:=ry.get (b0 hy)
 have eu:us.toArray[j]=u:=by
  have:us[j]?=some us.toArray[j]:=by rw[b0 (by simpa using h1)];simp
  rw[hu] at this;exact(j1 this).symm
 have ev:vs.toArray[j]=v:=by
  have:vs[j]?=some vs.toArray[j]:=by rw[b0 (by simpa using h2)];simp
  rw[hv] at this;exact(j1 this).symm
 rw[eu,ev,b0 hx,b0 hy]
 exact Ai ru rv (y1.mp fx _ (aXF hx)) (y1.mp fy _ (aXF hy))
def G0(K:b5)(neg:Bool):R2:=fun x y H Q=>∃ a b xs ys,x=.ref a∧y=.ref b∧((SqL K H a xs∧SqL K H b ys)∨(SqT K H a xs∧SqT K H b ys))∧xs.all gC=true∧ys.all gC=true∧Q (.bl (if neg then !iA xs ys else iA xs ys)) H
theorem Ip(hu:X.A.units<cLine):jL X (compareOp .Eq) (G0 X.K false):=by
 intro pins s σ H x y v u Q I rx ry h
 obtain⟨a,b,xs,ys,rfl,rfl,hq,fx,fy,q⟩:=h
 cases rx
 cases ry
 rcases hq with ⟨ha,hb⟩ | ⟨ha,hb⟩
 ·obtain⟨us,r1,p1,_⟩:=I.list ha
  obtain⟨vs,r2,p2,_⟩:=I.list hb
  by_cases hl:xs.length=ys.length
  ·refine SeqAt.eq_listAt p1.isList p2.isList (by simp;rw[← r1.length,← r2.length];exact hl) hu (kJ r1 r2 fx fy) ?_
   rw[c8,← r1.length,fL hl]
   exact⟨.bl _,H,I,rfl,q⟩
  ·refine SeqAt.eq_list_lengthsAt p1.isList p2.isList (by simp;rw[← r1.length,← r2.length];exact hl) hu ?_
   rw[jY hl] at q
   exact⟨.bl _,H,I,rfl,q⟩
 ·obtain⟨us,r1,p1,_⟩:=I.tuple ha
  obtain⟨vs,r2,p2,_⟩:=I.tuple hb
  refine aJ5 (show s.heap.IsTuple a us.toArray from p1) (show s.heap.IsTuple b vs.toArray from p2) hu (kJ r1 r2 fx fy) ?_
  refine⟨.bl _,H,I,rfl,?_⟩
  have e:((List.range (min us.toArray.size vs.toArray.size)).all (fun i=>match xs[i]?,ys[i]? with | some x,some y=>oY x y | _,_=>true) && us.toArray.size == vs.toArray.size)=iA xs ys:=by
   rw[c8,c8,← r1.length,← r2.length]
   by_cases hl:xs.length=ys.length
   ·rw[← hl,aZw,fL hl];simp
   ·rw[jY hl];simp[hl]
  rw[e]
  exact q
theorem Iq(hu:X.A.units<cLine):jL X (compareOp .NotEq) (G0 X.K true):=by
 intro pins s σ H x y v u Q I rx ry h
 obtain⟨a,b,xs,ys,rfl,rfl,hq,fx,fy,q⟩:=h
 cases rx
 cases ry
 rcases hq with ⟨ha,hb⟩ | ⟨ha,hb⟩
 ·obtain⟨us,r1,p1,_⟩:=I.list ha
  obtain⟨vs,r2,p2,_⟩:=I.list hb
  by_cases hl:xs.length=ys.length
  ·refine aXT (aK4 p1.isList p2.isList (by simp;rw[← r1.length,← r2.length];exact hl) hu (kJ r1 r2 fx fy)) ?_
   rw[c8,← r1.length,fL hl]
   exact⟨.bl _,H,I,rfl,q⟩
  ·refine aXT (aJt p1.isList p2.isList (by simp;rw[← r1.length,← r2.length];exact hl) hu) ?_
   rw[jY hl] at q
   exact⟨.bl _,H,I,rfl,q⟩
 ·obtain⟨us,r1,p1,_⟩:=I.tuple ha
  obtain⟨vs,r2,p2,_⟩:=I.tuple hb
  refine aXT (aZi (show s.heap.IsTuple a us.toArray from p1) (show s.heap.IsTuple b vs.toArray from p2) hu (kJ r1 r2 fx fy)) ?_
  refine⟨.bl _,H,I,rfl,?_⟩
  have e:((List.range (min us.toArray.size vs.toArray.size)).all (fun i=>match xs[i]?,ys[i]? with | some x,some y=>oY x y | _,_=>true) && us.toArray.size == vs.toArray.size)=iA xs ys:=by
   rw[c8,c8,← r1.length,← r2.length]
   by_cases hl:xs.length=ys.length
   ·rw[← hl,aZw,fL hl];simp
   ·rw[jY hl];simp[hl]
  rw[e]
  exact q
theorem nC(hc:X.calm=true):dZ X (.type "list") (fun xs H Q=>∃ w:List Nat,xs=[.str (S w)]∧w.length≤1000∧∀ l,H l=none→Q (.ref l) (upd H l (.lst (w.map fun c=>V.str (S [c]))))):=by
 intro pins s σ H xs us Q I r h
 obtain⟨w,rfl,hz,q⟩:=h
 obtain⟨u,rfl,ru⟩:=r.one
 obtain⟨t,rfl⟩:=ru
 have hz2:w.length≤sizeLine:=aQT (aP hz)
 refine call_list_str (I.ok.hd hc) (S w) t (fun h' tk acc c hk hl hit=>?_) (by simpa using hz2)
 have hv:Vals (w.map fun c=>V.str (S [c])) acc.toList:=by
  have hn:acc.size=w.length:=by simpa using hit.1
  have:∀ (n:Nat) (w:List Nat) (l:List Value),w.length=n→l.length=n→(∀ (j:Nat) (v:Value),l[j]?=some v→∃ (c:Nat) (u:Tok),w[j]?=some c∧v=Value.str ⟨#[c]⟩ u)→Vals (w.map fun c=>V.str (S [c])) l:=by
   intro n
   induction n with
   | zero =>
    intro w l h1 h2 _
    have e1:=r9.mp h1
    have e2:=r9.mp h2
    subst e1 e2
    exact .nil
   | succ n ih =>
    intro w l h1 h2 h3
    cases w with
    | nil=>simp at h1
    | cons c w =>
     cases l with
     | nil=>simp at h2
     | cons v l =>
      obtain⟨c',u,hc',rfl⟩:=h3 0 v rfl
      have hc'':c=c':=by simpa using hc'
      subst hc''
      exact .cons ⟨u,rfl⟩ (ih w l (by simpa using h1) (by simpa using h2) fun j v hv=>by simpa using h3 (j+1) v (by simpa using hv))
  refine this w.length w acc.toList rfl (by simpa using hn) fun j v hv=>?_
  obtain⟨c,u,hc,hv'⟩:=hit.2 j v (by simpa using hv)
  exact⟨c,u,by simpa using hc,hv'⟩
 refine⟨.ref s.heap.objs.size,_,I.laid (t':=tk) (o:=.lst (w.map fun c=>V.str (S [c]))) hk (b9 _) ⟨by rw[b7];exact hz2,acc.toList,c,hv,?_⟩,rfl,q _ I.fresh⟩
 simpa using hl
end
def mM(sc0 scope:Scope)(N:List Str)(x:Str)(ix:List Nat):Bool :=
 decide (scope.kind=.function) && scope.names.all (fun y=>decide (y.2≠.cell)) && scope.names.all (fun y=>decide (y.2=.local→scope.names.lookup y.1=some .local)) && decide (scope.names.lookup x=some .local) &&
 scope.names.all (fun y=>decide (y.2=.free→sc0.names.lookup y.1=some .cell∨sc0.names.lookup y.1=some .free)) && ix.all (fun i=>decide (i<N.length) && decide (scope.names.lookup (N.getD i "")=some .free)) && decide ((x::ix.map fun i=>N.getD i "").Nodup)
theorem iP{X:Cx}{sc0 scope:Scope}{N:List Str}{x:Str}{ix:List Nat}(h:mM sc0 scope N x ix=true)(e1:X.env.scope=sc0)(e2:X.N=N):CompSc X scope x ix∧(oS X x ix).Nodup:=by
 subst e1 e2
 simp only [mM,y7,y1,decide_eq_true_eq] at h
 obtain⟨⟨⟨⟨⟨⟨h1,h2⟩,h3⟩,h4⟩,h5⟩,h6⟩,h7⟩:=h
 exact⟨⟨h1,h2,h3,h4,h5,h6⟩,h7⟩
section
variable {prog:Program}{w:World}{A:Around}{E:Value→Shared→Prop}{s:Shared}
theorem uF{it t:Addr}{items:Array Value}(hne:t≠it):∀ (n i:Nat) (s:Shared) (Q:List Value→Shared→Prop),s.heap.IsListIter it t i→s.heap.IsList t items→i+n≤items.size →
  (∀ h',h'.IsListIter it t (i+n)→Heap.SameBut it s.heap h'→Q ((items.toList.drop i).take n) { s with heap:=h' })→wpAny (model prog w) A (draw (.ref it) n) Q E s
 | 0,i,s,Q,hit,_,_,hQ=>by
  show wpAny _ _ (pure []) Q E s
  exact wpAny_pure (by simpa using hQ s.heap hit (aK6 ..))
 | n+1,i,s,Q,hit,ht,hle,hQ=>by
  have hlt:i<items.size:=by omega
  show wpAny _ _ (pyNext (.ref it) >>= _) Q E s
  refine wpAny_bind (wpAny_pyNext_list_item hit ht (x:=items[i]) (by simp[hlt]) fun h₁ hit₁ hs₁=>?_)
  refine wpAny_bind (wpAny_holding (uF hne n (i+1) _ _ hit₁ (ht.extBut hs₁.extBut hne) (by omega) fun h₂ hit₂ hs₂=>wpAny_pure ?_))
  have hd:items.toList.drop i=items[i]::items.toList.drop (i+1):=by simp[aQS,hlt]
  have:=hQ h₂ (by rw[show i+(n+1)=i+1+n by omega];exact hit₂) (hs₁.trans hs₂)
  rw[hd,List.take_succ_cons] at this
  exact this
theorem nQ{t:Addr}{items:Array Value}{Q:List Value→Shared→Prop}(hh:A.handled=none)(ht:s.heap.IsList t items)
  (hQ:∀ h',Heap.ExtBut s.heap.objs.size s.heap h'→Q items.toList { s with heap:=h' }):wpAny (model prog w) A (unpackItems (.ref t) items.size none) Q E s:=by
 have hlt:t≠s.heap.objs.size:=by obtain⟨o,ho,_⟩:=ht;exact d8 (d5 ho)
 unfold unpackItems
 refine wpAny_bind ?_
 ·unfold notIterableAtAll
  refine wpAny_bind (wpAny_specialOf ht.typeIs slot_list_iter.lookup ?_)
  refine wpAny_pure ?_
  simp only [aQn,if_false]
  refine wpAny_bind (wpAny_holding (wpAny_pyIter_list ht ?_))
  refine wpAny_bind (wpAny_holding (uF hlt items.size 0 _ _ ⟨_,d9 _ rfl,rfl,rfl⟩ (ht.push _) (by omega) fun h₁ hit₁ hs₁=>?_))
  have hall:List.take items.size (List.drop 0 items.toList)=items.toList:=by
   rw[aJo];exact aQA (by simp)
  rw[hall]
  rw[if_neg (by simp)]
  have ht₁:h₁.IsList t items:=(ht.push _).extBut hs₁.extBut hlt
  refine wpAny_bind (wpAny_holding (wpAny_pyNext_list_end hh hit₁ ht₁ (by simp) fun h₂ he₂=>?_))
  simp only [Option.isSome_none,aQn,if_false]
  refine wpAny_pure (hQ h₂ fun b o hb e=>he₂ b o hb (hs₁.extBut b o hb (b6 _ e)))
theorem mH{env:Env}{elts:List Expr}{x1}{pos:Pos}{t:Addr}{items:Array Value}{Q:Unit→Shared→Prop}(hh:A.handled=none)(ht:s.heap.IsList t items)
  (hn:(assignEach elts env).length=items.size) (hstar:(assignEach elts env).findIdx? (·.1)=none)
  (h:∀ h',Heap.ExtBut s.heap.objs.size s.heap h'→wpAny (model prog w) A (assignInOrder ((assignEach elts env).map (·.2)) items.toList) Q E { s with heap:=h' }) :
  wpAny (model prog w) A (assign (.Tuple elts x1 pos) env (.ref t)) Q E s:=by
 rw[assign_Tuple]
 refine wpAny_bind (wpAny_standAt ?_)
 unfold unpack
 rw[hn,hstar]
 exact wpAny_bind (wpAny_holding (nQ hh ht h))
end
section
variable {X:Cx}{pos:Pos}{K:b5}
def MP(K:b5)(n:Nat)(t:JL):TG:=fun v σ H Q=>∃ a xs,v=.ref a∧(SqL K H a xs∨SqT K H a xs)∧xs.length=n∧t xs σ H Q
theorem hJ{es:List Expr}{k:Nat}{t:JL}{n:Nat}(hK:X.K=K)(hc:X.calm=true)(h:Mr X es t)
  (hn:(assignEach es X.env).length=n:=by rfl) (hst:(assignEach es X.env).findIdx? (·.1)=none:=by rfl):PG X (.Tuple es k pos) (MP K n t):=by
 subst hK
 intro pins s σ H v u Q I r hw
 obtain⟨a,xs,e1,hq,hl,hw⟩:=hw
 subst e1
 cases r
 rcases hq with hq | hq
 ·obtain⟨its,rv,ht,hz⟩:=I.list hq
  refine mH (I.ok.hd hc) ht.isList (by simp[hn,← hl,rv.length]) hst fun h' hx=>?_
  have I1:Inv X pins σ H { s with heap:=h' }:=I.kept (t':=s.toks) fun b o e=>hx b o (d8 (d5 e)) e
  exact h pins _ σ H xs _ Q I1 (by simpa using rv) hw
 ·obtain⟨its,rv,ht,hz⟩:=I.tuple hq
  refine assign_Tuple_tuple (I.ok.hd hc) ht (by simp[hn,← hl,rv.length]) hst fun h' hx=>?_
  have I1:Inv X pins σ H { s with heap:=h' }:=I.kept (t':=s.toks) fun b o e=>hx b o (d8 (d5 e)) e
  exact h pins _ σ H xs _ Q I1 (by simpa using rv) hw
end
end L2
namespace Ma
def con(c:Nat):Nat:=if 96<c then c - 32 else c+32
def cE(c:Nat):Prop:=(97≤c∧c≤100)∨(65≤c∧c≤68)
instance(c:Nat):Decidable (cE c):=by unfold cE;infer_instance
theorem aW{c:Nat}(h:cE c):con (con c)=c:=by unfold con;unfold cE at h;split <;> split <;> omega
theorem cV{c:Nat}(h:cE c):cE (con c):=by unfold con;unfold cE at *;split <;> omega
theorem wT{a b:Nat}(ha:cE a)(hb:cE b)(h:con a=con b):a=b:=by rw[← aW ha,← aW hb,h]
theorem wS{c:Nat}(h:cE c):con c≠c:=by unfold con;unfold cE at h;split <;> omega
def push(k:List Nat)(c:Nat):List Nat:=match k with
 | []=>[c]
 | x::r=>if x=con c then r else c::x::r
def PlainR:List Nat→Prop
 | []=>True
 | [_]=>True
 | a::b::r=>b≠con a∧PlainR (b::r)
def AllL(w:List Nat):Prop:=∀ c∈w,cE c
def iR(k:List Nat)(w:List Nat):List Nat:=w.foldl push k
def lay(w:List Nat):List Nat:=(iR [] w).reverse
def bR(w:List Nat):Prop:=PlainR w.reverse
def back(w:List Nat):List Nat:=(w.map con).reverse
theorem AllL.cons{c:Nat}{w:List Nat}:AllL (c::w)↔cE c∧AllL w:=by unfold AllL;simp
theorem AllL.nil:AllL []:=by unfold AllL;simp
theorem AllL.app{u w:List Nat}:AllL (u++w)↔AllL u∧AllL w:=by
 unfold AllL;constructor
 ·intro h;exact⟨fun c hc=>h c (p7 _ hc),fun c hc=>h c (j0 _ hc)⟩
 ·rintro⟨h1,h2⟩ c hc;rcases j9.mp hc with h | h;exact h1 c h;exact h2 c h
theorem AllL.rev{w:List Nat}:AllL w.reverse↔AllL w:=by unfold AllL;simp
theorem PlainR.tail{a:Nat}{r:List Nat}(h:PlainR (a::r)):PlainR r:=by
 cases r with
 | nil=>trivial
 | cons b r=>exact h.2
theorem AW{k:List Nat}{c:Nat}(hk:PlainR k):PlainR (push k c):=by
 cases k with
 | nil=>trivial
 | cons x r =>
  unfold push
  dsimp only
  split
  ·exact hk.tail
  ·rename_i h;exact⟨h,hk⟩
theorem EF{k:List Nat}{c:Nat}(hk:AllL k)(hc:cE c):AllL (push k c):=by
 cases k with
 | nil=>exact AllL.cons.mpr ⟨hc,hk⟩
 | cons x r =>
  unfold push
  dsimp only
  split
  ·exact(AllL.cons.mp hk).2
  ·exact AllL.cons.mpr ⟨hc,hk⟩
theorem gT:∀ {w k:List Nat},PlainR k→PlainR (iR k w)
 | [],_,h=>h
 | c::w,k,h=>gT (w:=w) (AW h)
theorem jF:∀ {w k:List Nat},AllL k→AllL w→AllL (iR k w)
 | [],_,h,_=>h
 | c::w,k,h,hw=>jF (w:=w) (EF h (AllL.cons.mp hw).1) (AllL.cons.mp hw).2
theorem jG(k u w:List Nat):iR k (u++w)=iR (iR k u) w:=by unfold iR;rw[aXw]
theorem hZ(k u:List Nat)(c:Nat):iR k (u++[c])=push (iR k u) c:=by rw[jG];rfl
theorem mY(k w:List Nat)(c:Nat):iR k (c::w)=iR (push k c) w:=rfl
theorem tD{k:List Nat}{c:Nat}(hk:PlainR k)(ha:AllL k)(hc:cE c):push (push k c) (con c)=k:=by
 cases k with
 | nil =>
  show (if c=con (con c) then [] else _)=[]
  rw[if_pos (aW hc).symm]
 | cons x r =>
  have hx:cE x:=(AllL.cons.mp ha).1
  by_cases e:x=con c
  ·have e1:push (x::r) c=r:=by unfold push;dsimp only;rw[if_pos e]
   rw[e1]
   cases r with
   | nil=>unfold push;dsimp only;rw[e]
   | cons y r =>
    have h1:y≠con x:=hk.1
    unfold push
    dsimp only
    rw[if_neg (by rw[← e];exact h1),e]
  ·have e1:push (x::r) c=c::x::r:=by unfold push;dsimp only;rw[if_neg e]
   rw[e1]
   unfold push
   dsimp only
   rw[if_pos (aW hc).symm]
theorem gR{w:List Nat}(h:AllL w):AllL (lay w):=AllL.rev.mpr (jF AllL.nil h)
theorem kO(w:List Nat):bR (lay w):=by unfold bR lay;rw[aQW];exact gT trivial
theorem D2(k:List Nat)(c:Nat):(push k c).length≤k.length+1:=by
 cases k with
 | nil=>simp[push]
 | cons x r =>
  unfold push
  dsimp only
  split
  ·simp;omega
  ·simp
theorem pZ:∀ (w k:List Nat),(iR k w).length≤k.length+w.length
 | [],k=>by simp[iR]
 | c::w,k=>by
  have h1:=pZ w (push k c)
  have h2:=D2 k c
  rw[mY,l7]
  omega
theorem iF(w:List Nat):(lay w).length≤w.length:=by
 unfold lay;rw[aQL];have:=pZ w [];simpa using this
theorem kP(u v:List Nat){a b:Nat}(hu:AllL u)(hb:cE b)(e:a=con b):lay (u++a::b::v)=lay (u++v):=by
 unfold lay
 have ha:cE a:=by rw[e];exact cV hb
 rw[jG,mY,mY,jG]
 have e2:b=con a:=by rw[e,aW hb]
 rw[e2,tD (gT (k:=[]) trivial) (jF AllL.nil hu) ha]
theorem iT:∀ (w k:List Nat),PlainR (w.reverse++k)→iR k w=w.reverse++k
 | [],k,_=>rfl
 | c::w,k,h=>by
  have h0:PlainR (w.reverse++(c::k)):=by simpa using h
  have e:push k c=c::k:=by
   cases k with
   | nil=>rfl
   | cons x r =>
    have h1:x≠con c:=by
     have:∀ (l:List Nat),PlainR (l++(c::x::r))→x≠con c:=by
      intro l
      induction l with
      | nil=>intro h;exact h.1
      | cons y l ih =>
       intro h
       exact ih (PlainR.tail h)
     exact this _ h0
    unfold push
    dsimp only
    rw[if_neg h1]
  rw[mY,e,iT w (c::k) h0]
  simp
theorem eU{w:List Nat}(h:bR w):lay w=w:=by
 unfold lay
 rw[iT w [] (by rw[m7];exact h)]
 simp
theorem GD(w:List Nat):lay (lay w)=lay w:=eU (kO w)
theorem GC:∀ (n:Nat) (w k:List Nat),w.length=n→PlainR k→AllL k→AllL w→iR k (lay w)=iR k w:=by
 intro n
 induction n with
 | zero =>
  intro w k hn _ _ _
  have:w=[]:=r9.mp hn
  subst this;rfl
 | succ n ih =>
  intro w k hn hk ha hw
  have hne:w≠[]:=by intro h;subst h;simp at hn
  obtain⟨u,c,rfl⟩:∃ u c,w=u++[c]:=⟨w.dropLast,w.getLast hne,(aQG hne).symm⟩
  have hu:u.length=n:=by simpa using hn
  obtain⟨hau,hac⟩:=AllL.app.mp hw
  have hc:cE c:=(AllL.cons.mp hac).1
  have ihu:=ih u k hu hk ha hau
  have hal:=jF (k:=[]) AllL.nil hau
  unfold lay at ihu ⊢
  rw[hZ,hZ,← ihu]
  cases e:iR [] u with
  | nil=>simp[push,iR]
  | cons x r =>
   rw[e] at hal
   have hx:cE x:=(AllL.cons.mp hal).1
   have har:AllL r:=(AllL.cons.mp hal).2
   by_cases h:x=con c
   ·have e1:push (x::r) c=r:=by unfold push;dsimp only;rw[if_pos h]
    rw[e1,u6,hZ]
    have e2:c=con x:=by rw[h,aW hc]
    rw[e2,tD (gT hk) (jF ha (AllL.rev.mpr har)) hx]
   ·have e1:push (x::r) c=c::x::r:=by unfold push;dsimp only;rw[if_neg h]
    rw[e1,u6,hZ]
theorem eI(u w:List Nat)(hu:AllL u)(hw:AllL w):lay (u++lay w)=lay (u++w):=by
 unfold lay
 rw[jG,jG]
 have:=GC w.length w (iR [] u) rfl (gT trivial) (jF AllL.nil hu) hw
 unfold lay at this
 rw[this]
theorem hU(u w:List Nat)(hu:AllL u):lay (lay u++w)=lay (u++w):=by
 unfold lay
 rw[jG,jG]
 have e:=iT (lay u) [] (by rw[m7];exact kO u)
 unfold lay at e
 rw[e]
 simp
theorem dN(u w:List Nat):back (u++w)=back w++back u:=by unfold back;simp
theorem dA(w:List Nat):(back w).length=w.length:=by unfold back;simp
theorem aR{w:List Nat}(h:AllL w):AllL (back w):=by
 unfold back AllL
 intro c hc
 simp only [aQM,i3] at hc
 obtain⟨a,ha,rfl⟩:=hc
 exact cV (h a ha)
theorem dU:∀ {w:List Nat},AllL w→back (back w)=w
 | [],_=>rfl
 | c::w,h=>by
  have e:back (c::w)=back w++[con c]:=by unfold back;simp
  have ih:=dU (AllL.cons.mp h).2
  rw[e,dN,ih]
  unfold back
  simp[aW (AllL.cons.mp h).1]
theorem pI:∀ (n:Nat) (w:List Nat),w.length=n→AllL w→lay (w++back w)=[]:=by
 intro n
 induction n with
 | zero =>
  intro w hn _
  have:w=[]:=r9.mp hn
  subst this;rfl
 | succ n ih =>
  intro w hn hw
  have hne:w≠[]:=by intro h;subst h;simp at hn
  obtain⟨u,c,rfl⟩:∃ u c,w=u++[c]:=⟨w.dropLast,w.getLast hne,(aQG hne).symm⟩
  obtain⟨hau,hac⟩:=AllL.app.mp hw
  have hc:cE c:=(AllL.cons.mp hac).1
  have e:u++[c]++back (u++[c])=u++c::con c::back u:=by rw[dN];simp[back]
  rw[e,kP u (back u) hau (cV hc) (aW hc).symm]
  exact ih u (by simpa using hn) hau
theorem fZ{w:List Nat}(h:AllL w):lay (w++back w)=[]:=pI _ w rfl h
theorem eX{w:List Nat}(h:AllL w):lay (back w++w)=[]:=by
 have:=fZ (aR h)
 rwa [dU h] at this
theorem oU:∀ (l:List Nat) (a b:Nat),PlainR (l++[a])→b≠con a→PlainR (l++[a,b])
 | [],a,b,_,h=>⟨h,trivial⟩
 | [x],a,b,h,h2=>⟨h.1,h2,trivial⟩
 | x::y::l,a,b,h,h2=>⟨h.1,oU (y::l) a b h.2 h2⟩
theorem lE:∀ {k:List Nat},AllL k→PlainR k→PlainR (k.map con).reverse
 | [],_,_=>trivial
 | [a],_,_=>trivial
 | a::b::r,ha,h=>by
  have ih:=lE (AllL.cons.mp ha).2 h.2
  have hA:=AllL.cons.mp ha
  have hB:=AllL.cons.mp hA.2
  rw[i8,u6] at ih ⊢
  rw[i8,u6] at *
  have e:((r.map con).reverse++[con b])++[con a]=(r.map con).reverse++[con b,con a]:=by simp
  rw[e]
  refine oU _ _ _ ih ?_
  rw[aW hB.1]
  intro e2
  exact h.1 e2.symm
theorem lH{w:List Nat}(hw:AllL w)(h:bR w):bR (back w):=by
 unfold bR back at *
 rw[aQW]
 have:=lE (AllL.rev.mpr hw) h
 rwa [aXY,aQW] at this
theorem D4:∀ (n:Nat) (w:List Nat),w.length=n→AllL w→lay (back w)=back (lay w):=by
 intro n
 induction n with
 | zero =>
  intro w hn _
  have:w=[]:=r9.mp hn
  subst this;rfl
 | succ n ih =>
  intro w hn hw
  have hne:w≠[]:=by intro h;subst h;simp at hn
  obtain⟨u,c,rfl⟩:∃ u c,w=u++[c]:=⟨w.dropLast,w.getLast hne,(aQG hne).symm⟩
  obtain⟨hau,hac⟩:=AllL.app.mp hw
  have hc:cE c:=(AllL.cons.mp hac).1
  have ihu:=ih u (by simpa using hn) hau
  have e0:back (u++[c])=[con c]++back u:=by rw[dN];simp[back]
  have hcc:AllL [con c]:=AllL.cons.mpr ⟨cV hc,AllL.nil⟩
  rw[e0,← eI [con c] (back u) hcc (aR hau),ihu]
  have hal:=jF (k:=[]) AllL.nil hau
  have hpl:=gT (w:=u) (k:=[]) trivial
  have el:lay u=(iR [] u).reverse:=rfl
  have el2:lay (u++[c])=(push (iR [] u) c).reverse:=by unfold lay;rw[hZ]
  rw[el2,el]
  cases e:iR [] u with
  | nil=>rfl
  | cons x r =>
   rw[e] at hal hpl
   have hx:cE x:=(AllL.cons.mp hal).1
   have har:AllL r:=(AllL.cons.mp hal).2
   have hbr:AllL (back r.reverse):=aR (AllL.rev.mpr har)
   have eb:back (x::r).reverse=con x::back r.reverse:=by rw[u6,dN];rfl
   rw[eb]
   have hp2:bR (back (x::r).reverse):=lH (AllL.rev.mpr hal) (by unfold bR;rw[aQW];exact hpl)
   by_cases h:x=con c
   ·have e1:push (x::r) c=r:=by unfold push;dsimp only;rw[if_pos h]
    rw[e1]
    show lay ([]++con c::con x::back r.reverse)=_
    rw[kP [] _ AllL.nil (cV hx) (by rw[aW hx,h])]
    exact eU (lH (AllL.rev.mpr har) (by unfold bR;rw[aQW];exact hpl.tail))
   ·have e1:push (x::r) c=c::x::r:=by unfold push;dsimp only;rw[if_neg h]
    rw[e1]
    have e3:back (c::x::r).reverse=[con c]++con x::back r.reverse:=by rw[u6,dN,eb];rfl
    rw[e3]
    refine eU ?_
    rw[← e3]
    refine lH (AllL.rev.mpr (AllL.cons.mpr ⟨hc,hal⟩)) ?_
    unfold bR
    rw[aQW]
    exact⟨h,hpl⟩
theorem kH{w:List Nat}(h:AllL w):lay (back w)=back (lay w):=D4 _ w rfl h
end Ma
namespace Lw
open PySem PySem.Spec PyProof.Rows L2 Ma
theorem cH(w:List Nat):(S w).length=w.length:=by simp[Str.length]
theorem lB(u w:List Nat):(S u++S w:Str)=S (u++w):=by
 show Str.append (S u) (S w)=S (u++w)
 unfold Str.append;simp
theorem Bk{u w:List Nat}(h:S u=S w):u=w:=by
 have h':u.toArray=w.toArray:=congrArg Str.cps h
 simpa using congrArg Array.toList h'
theorem gG(u w:List Nat):decide (V.str (S u)=V.str (S w))=decide (u=w):=by
 by_cases h:u=w
 ·subst h;simp
 ·rw[decide_eq_false h,decide_eq_false fun e=>h (Bk (V.str.inj e))]
theorem uE:(Str.ofString "":Str)=S []:=by decide +kernel
theorem Lk(w:List Nat):(S w).cps.toList=w:=by simp
theorem aI{n:Nat}(h:n≤100000):n≤sizeLine:=j8 h (by decide)
theorem Fi{n:Nat}(h:n≤99999):n<sizeLine:=m6 (show n<100000 by omega) (aI (b9 _))
theorem gE(w:List Nat){j:Int}(h0:0≤j)(h2:j≤w.length):Txt.slice (S w) none (some j)=S (w.take j.toNat):=by
 have:=slice_closes_toL (x:=S w) h0 (by rw[cH];exact h2)
 rw[beq_iff_eq.mp this]
 simp
theorem DO:∀ (zs:List (List Nat)),Txt.join (S []) (zs.map S)=S zs.flatten
 | []=>by unfold Txt.join;rw[aX5];rfl
 | [z]=>by unfold Txt.join;rw[aX5];simp[Str.join]
 | z::y::r=>by
  have ih:=DO (y::r)
  unfold Txt.join at ih ⊢
  rw[aX5] at ih ⊢
  rw[i8,i8]
  show (S z++S [])++Str.join (S []) (S y::r.map S)=_
  rw[i8] at ih
  rw[ih,lB,lB]
  simp
theorem Gj(zs:List (List Nat)):((zs.map S).map (·.length)).sum=zs.flatten.length:=by
 induction zs with
 | nil=>rfl
 | cons z zs ih=>simp only [i8,aQE,aQI,c6,ih,cH]
def bC(c:Nat):Bool:=decide (96<c)
theorem aU{c:Nat}(h:cE c):c=97∨c=98∨c=99∨c=100∨c=65∨c=66∨c=67∨c=68:=by unfold cE at h;omega
theorem B9{c:Nat}(h:cE c):Txt.islower (S [c])=bC c:=by
 rcases aU h with rfl | rfl | rfl | rfl | rfl | rfl | rfl | rfl <;> decide +kernel
theorem nJ{c:Nat}(h:cE c):Txt.isupper (S [c])=!bC c:=by
 rcases aU h with rfl | rfl | rfl | rfl | rfl | rfl | rfl | rfl <;> decide +kernel
theorem fW{c:Nat}(h:cE c)(hl:bC c=true):Txt.upper (S [c])=S [con c]:=by
 rcases aU h with rfl | rfl | rfl | rfl | rfl | rfl | rfl | rfl <;> first | (decide +kernel) | (exact absurd hl (by decide))
theorem Bv{c:Nat}(h:cE c)(hl:bC c=false):Txt.lower (S [c])=S [con c]:=by
 rcases aU h with rfl | rfl | rfl | rfl | rfl | rfl | rfl | rfl <;> first | (decide +kernel) | (exact absurd hl (by decide))
theorem nS(c:Nat):Builtin.Str.tooLong (S [c]).length=false:=by rw[cH];show Builtin.Str.tooLong 1=false;decide +kernel
def conTab_rows:List (Str×PyData):=[("a",.str "A"),("A",.str "a"),("b",.str "B"),("B",.str "b"),("c",.str "C"),("C",.str "c"),("d",.str "D"),("D",.str "d")]
def Ex:List (PyData×PyData):=conTab_rows.map fun p=>(PyData.str p.1,p.2)
theorem yG{c:Nat}(h:cE c):lookup (.str (S [c])) Ex=some (.str (S [con c])):=by
 rcases aU h with rfl | rfl | rfl | rfl | rfl | rfl | rfl | rfl <;> kernel_rfl
def Kp(fl:Addr)(H H':Hp):Prop:=∀ b o,H b=some o→b≠fl→H' b=some o
theorem Kp.refl(fl:Addr)(H:Hp):Kp fl H H:=fun _ _ h _=>h
theorem Kp.trans{fl:Addr}{H H1 H2:Hp}(a:Kp fl H H1)(b:Kp fl H1 H2):Kp fl H H2:=fun c o h n=>b c o (a c o h n) n
theorem _root_.L2.Same.kp{fl:Addr}{H H':Hp}(h:Same H H'):Kp fl H H':=fun b o e _=>h b o e
theorem _root_.L2.Same.new{H:Hp}{l:Addr}{o:HO}(h:H l=none):Same H (upd H l o):=fun b u e=>by rw[aE (aJ e h)];exact e
theorem _root_.L2.Same.upd{H H':Hp}{l:Addr}{o:HO}(s:Same H H')(h:H l=none):Same H (upd H' l o):=fun b u e=>by rw[aE (aJ e h)];exact s b u e
theorem _root_.L2.Same.upd'{H H':Hp}{l:Addr}{o:HO}(s:Same H H')(h:H' l=none):Same H (upd H' l o):=s.trans (Same.new h)
theorem Kp.upd{fl:Addr}{H H':Hp}{l:Addr}{o:HO}(s:Kp fl H H')(h:H l=none):Kp fl H (upd H' l o):=fun b u e n=>by rw[aE (aJ e h)];exact s b u e n
theorem Kp.self{fl:Addr}{H H':Hp}{o:HO}(s:Kp fl H H'):Kp fl H (L2.upd H' fl o):=fun b u e n=>by rw[aE n];exact s b u e n
theorem Kp.free{fl:Addr}{H H':Hp}(k:Kp fl H H'){l:Addr}(h:H' l=none)(n:l≠fl):H l=none:=by
 cases q:H l with
 | none=>rfl
 | some o=>rw[k l o q n] at h;cases h
def IsFl(H:Hp)(fl sc:Addr):Prop:=∃ (ns:List Int) (i a b c:Int),H fl=some (.lst [.ref sc,.int i,.int a,.int b,.int c])∧H sc=some (.lst (ns.map V.int))∧ns.length≤63∧0≤i∧0≤a∧0≤b
theorem IsFl.same{H H':Hp}{fl sc:Addr}(s:Same H H')(h:IsFl H fl sc):IsFl H' fl sc:=by
 obtain⟨ns,i,a,b,c,h1,h2,r⟩:=h
 exact⟨ns,i,a,b,c,s _ _ h1,s _ _ h2,r⟩
theorem IsFl.some{H:Hp}{fl sc:Addr}(h:IsFl H fl sc):(∃ o,H fl=some o)∧∃ o,H sc=some o:=by
 obtain⟨ns,i,a,b,c,h1,h2,r⟩:=h
 exact⟨⟨_,h1⟩,⟨_,h2⟩⟩
theorem IsFl.ne{H:Hp}{fl sc l:Addr}(h:IsFl H fl sc)(n:H l=none):l≠fl:=by
 obtain⟨⟨o,e⟩,_⟩:=h.some
 exact(aJ e n).symm
theorem IsFl.ne2{H:Hp}{fl sc l:Addr}(h:IsFl H fl sc)(n:H l=none):l≠sc:=by
 obtain⟨_,⟨o,e⟩⟩:=h.some
 exact(aJ e n).symm
theorem IsFl.upd{H:Hp}{fl sc l:Addr}{o:HO}(h:IsFl H fl sc)(n:H l=none):IsFl (L2.upd H l o) fl sc:=h.same (Same.new n)
theorem IsFl.set{H:Hp}{fl sc l:Addr}{o:HO}(h:IsFl H fl sc)(n:l≠fl)(n2:l≠sc):IsFl (L2.upd H l o) fl sc:=by
 obtain⟨ns,i,a,b,c,h1,h2,r⟩:=h
 exact⟨ns,i,a,b,c,by rw[aE n.symm];exact h1,by rw[aE n2.symm];exact h2,r⟩
structure Df(K:b5)(mg:Str→Option Value)(x:Str)(st:Stmt)(ps:List Str)(f:Addr)(fd:FuncData):Prop where
 F:Fun K x x st f fd
 b:Binds K fd ps []
 m:mg x=some (.ref f)
def Cl(P:Program)(w:World)(K:b5)(mg:Str→Option Value)(base:Heap)(x:Str)(ps:List Str)(n:Nat)(sp:Sp):Prop :=
 ∃ f fd,FnOk P w K mg base zJ n f fd ps sp∧mg x=some (.ref f)∧PySem.W.keepIn K (.ref f)=true∧Binds K fd ps []
theorem Df.cl{P:Program}{w:World}{K:b5}{mg:Str→Option Value}{base:Heap}{x:Str}{st:Stmt}{ps:List Str}{f:Addr}{fd:FuncData}{n:Nat}{sp:Sp}(D:Df K mg x st ps f fd)(h:FnOk P w K mg base zJ n f fd ps sp):Cl P w K mg base x ps n sp :=
 ⟨f,fd,h,D.m,D.F.kp,D.b⟩
def lets:List Nat:=[97,65,98,66,99,67,100,68]
def aK(n:Int):List Nat:=lets.take (2 * n).toNat
def OfN(n:Int)(w:List Nat):Prop:=∀ c∈w,c∈aK n
theorem aN{n:Int}{c:Nat}(h:c∈aK n):cE c:=by
 have h2:c∈lets:=u8 h
 unfold lets at h2
 simp only [d3,l8,or_false] at h2
 unfold cE
 omega
theorem OfN.all{n:Int}{w:List Nat}(h:OfN n w):AllL w:=fun c hc=>aN (h c hc)
theorem kN{n:Int}(h1:1≤n)(h4:n≤4):(aK n).length=(2 * n).toNat:=by
 unfold aK lets
 rw[j6]
 simp
 omega
def aZ(w:List Nat):List V:=w.map fun c=>V.str (S [c])
theorem lY(w:List Nat):aZ w=(w.map fun c=>S [c]).map V.str:=by unfold aZ;rw[u7];rfl
theorem oM:∀ (w:List Nat),(w.map fun c=>[c]).flatten=w
 | []=>rfl
 | c::w=>by rw[i8,aQI,oM w];rfl
theorem FG(w:List Nat):(w.map fun c=>[c]).map S=w.map fun c=>S [c]:=by rw[u7];rfl
theorem kW(w:List Nat):Txt.join (Str.ofString "") (w.map fun c=>S [c])=S w:=by
 have h:=DO (w.map fun c=>[c])
 rw[FG,oM] at h
 rw[uE]
 exact h
theorem iZ(w:List Nat)(hw:w.length≤100000):((w.map fun c=>S [c]).map (·.length)).sum+(w.map fun c=>S [c]).length * (Str.ofString "").length≤16777216:=by
 have h:=Gj (w.map fun c=>[c])
 rw[FG,oM] at h
 have e2:(Str.ofString "").length=0:=by decide +kernel
 rw[e2,Nat.mul_zero,aKT,h]
 omega
theorem cK(w:List Nat)(c:Nat):aZ (w++[c])=aZ w++[V.str (S [c])]:=by unfold aZ;simp
theorem bA(w:List Nat):(aZ w).length=w.length:=by unfold aZ;simp
theorem mI{w:List Nat}{i:Nat}{c:Nat}(h:w[i]?=some c):(aZ w)[i]?=some (.str (S [c])):=by unfold aZ;rw[c7,h];rfl
theorem Mn{w:List Nat}{i:Int}{c:Nat}(h0:0≤i)(h:w[i.toNat]?=some c):sI (S w).cps.toList i=some c:=by
 rw[Lk]
 have:=cN h
 rwa [aXJ h0] at this
theorem lM{α:Type}{xs:List α}{i:Int}{v:α}(h0:0≤i)(h:xs[i.toNat]?=some v):sI xs i=some v:=by
 have:=cN h
 rwa [aXJ h0] at this
theorem bF{w:List Nat}{i c:Nat}(h:w[i]?=some c):w.take (i+1)=w.take i++[c]:=by rw[t9,h];rfl
def DG(K:b5):Sp:=fun vs H Q _=>∃ (a:Addr) (ns:List Int),vs=[.ref a]∧SqL K H a (ns.map V.int)∧ns.length≤63∧∀ (fl sc:Addr) (H':Hp),H fl=none→Same H H'→IsFl H' fl sc→Q (.ref fl) H'
def lQ:Sp:=fun vs H Q _=>∃ (fl sc:Addr) (m:Int),vs=[.ref fl,.int m]∧IsFl H fl sc∧0<m∧m<1073741824∧∀ (d:Int) (H':Hp),0≤d→d<m→IsFl H' fl sc→Kp fl H H'→Q (.int d) H'
def jI:Sp:=fun vs H Q _=>∃ c:Nat,vs=[.str (S [c])]∧cE c∧∀ H',Same H H'→Q (.str (S [con c])) H'
def tM:Sp:=fun vs H Q _=>∃ w:List Nat,vs=[.str (S w)]∧AllL w∧w.length≤60000∧∀ H',Same H H'→Q (.str (S (lay w))) H'
def vH:Sp:=fun vs H Q _=>∃ w:List Nat,vs=[.str (S w)]∧AllL w∧w.length≤1000∧∀ H',Same H H'→Q (.str (S (back w))) H'
def kX:Sp:=fun vs H Q _=>∃ n:Int,vs=[.int n]∧1≤n∧n≤4∧∀ (l:Addr) (H':Hp),H l=none→Same H H'→H' l=some (.lst (aZ (aK n)))→Q (.ref l) H'
def AL:Sp:=fun vs H Q _=>∃ (fl sc:Addr) (n most:Int),vs=[.ref fl,.int n,.int most]∧IsFl H fl sc∧1≤n∧n≤4∧0≤most∧most≤900 ∧
 ∀ (w:List Nat) (H':Hp),OfN n w→bR w→(w.length:Int)≤most→IsFl H' fl sc→Kp fl H H'→Q (.str (S w)) H'
def BQ(K:b5):Sp:=fun vs H Q _=>∃ (a:Addr) (ns:List Int),vs=[.ref a]∧SqL K H a (ns.map V.int)∧ns.length≤63∧∀ H',Q (.bl true) H'
end Lw
namespace L2
open PySem PySem.Spec PyProof.Rows
def M5(t u:TS):TS:=fun D σ H=>∃ M:St→Hp→Prop,t { D with nx:=M } σ H∧∀ σ' H',M σ' H'→u D σ' H'
theorem iJ{X:Cx}{st:Stmt}{rest:List Stmt}{t u:TS}(h1:PS X st t)(h2:PSs X rest u):PSs X (st::rest) (M5 t u):=by
 intro pins s σ H D I ⟨M,q1,q2⟩
 refine wpAny_execs_cons (bS (h1 pins s σ H { D with nx:=M } I q1) fun f s1 q=>?_)
 cases f with
 | next =>
  obtain⟨σ',H',I',q⟩:=q
  exact h2 pins s1 σ' H' D I' (q2 σ' H' q)
 | ret v=>exact q
 | brk=>exact q
 | cont=>exact q
end L2
namespace Lw
open PySem PySem.Spec PyProof.Rows L2 Ma
def nE(x:List Nat)(c:Nat):Bool:=match x.getLast? with
 | none=>true
 | some z=>!decide ([c]=[con z])
theorem F0{n:Int}{x:List Nat}(h1:1≤n)(h4:n≤4):0<((aK n).filter (nE x)).length:=by
 have m1:97∈aK n∧65∈aK n:=by
  have:n=1∨n=2∨n=3∨n=4:=by omega
  rcases this with rfl | rfl | rfl | rfl <;> decide
 have:nE x 97=true∨nE x 65=true:=by
  unfold nE
  cases x.getLast? with
  | none=>exact .inl rfl
  | some z =>
   by_cases e:con z=97
   ·right;dsimp only;rw[e];rfl
   ·left;dsimp only;simp;omega
 rcases this with h | h
 ·exact aXV (aQl.mpr ⟨m1.1,h⟩)
 ·exact aXV (aQl.mpr ⟨m1.2,h⟩)
theorem nO{x:List Nat}{c:Nat}(hx:AllL x)(hc:cE c)(hp:bR x)(h:nE x c=true):bR (x++[c]):=by
 unfold bR at *
 rw[aXh]
 show PlainR (c::x.reverse)
 cases hq:x.reverse with
 | nil=>trivial
 | cons z r =>
  rw[hq] at hp
  refine⟨?_,hp⟩
  intro e
  have hz:x.getLast?=some z:=by
   rw[List.getLast?_eq_head?_reverse,hq];rfl
  unfold nE at h
  rw[hz] at h
  have h':¬ c=con z:=by simpa using h
  exact h' (by rw[e,aW hc])
end Lw
namespace L2
open PySem PySem.Spec PyProof.Rows
section
variable {X:Cx}{K:b5}
theorem aO(h:X.K=K):Js X (LH K):=by subst h;exact F_
theorem cG(h:X.K=K):Js X (LY K):=by subst h;exact JA
theorem EB(h:X.K=K):Ki X (KQ K):=by subst h;exact GW
theorem bM(h:X.K=K):dZ X (.builtin "len") (fun xs H Q=>∃ p ys,xs=[.ref p]∧(SqL K H p ys∨SqT K H p ys)∧Q (.int ys.length) H):=by subst h;exact vN
theorem bL(h:X.K=K):dZ X (.builtin "isinstance") (Ml K):=by subst h;exact EK
theorem rO(h:X.K=K):dZ X (.type "list") (fun xs H Q=>∃ p ys,xs=[.ref p]∧(SqL K H p ys∨SqT K H p ys)∧∀ l,H l=none→Q (.ref l) (upd H l (.lst ys))):=by subst h;exact vG
theorem bP(h:X.K=K):dZ X (.type "tuple") (fun xs H Q=>∃ p ys,xs=[.ref p]∧((SqL K H p ys∧∀ l,H l=none→Q (.ref l) (upd H l (.tup ys)))∨(SqT K H p ys∧Q (.ref p) H))):=by subst h;exact sH
theorem oC(h:X.K=K)(hc:X.calm=true):dZ X (.builtin "all") (fun xs H Q=>∃ (a:Addr) (bs:List Bool),xs=[.ref a]∧SqL K H a (bs.map V.bl)∧Q (.bl (bs.all id)) H):=by subst h;exact C9 hc
theorem mG(h:X.K=K):Ba X "str.join" (fun x xs H Q=>∃ z a zs,x=.str z∧xs=[.ref a]∧SqL K H a (zs.map V.str)∧(zs.map (·.length)).sum+zs.length * z.length≤16777216∧Q (.str (Txt.join z zs)) H):=by subst h;exact He
theorem Bi(h:X.K=K)(hu:X.A.units<cLine):jL X (compareOp .Eq) (G0 K false):=by subst h;exact Ip hu
theorem GI(h:X.K=K)(hu:X.A.units<cLine):jL X (compareOp .NotEq) (G0 K true):=by subst h;exact Iq hu
theorem Ek(h:X.K=K):jL X (compareOp .In) (Mo K false):=by subst h;exact Cr
theorem CO(h:X.K=K):jL X (compareOp .NotIn) (Mo K true):=by subst h;exact vL
theorem Eb(h:X.K=K):jL X (binaryOp .Add) (Hz K):=by subst h;exact Gv
theorem dF{tg l:Expr}{tl:TE}(h:X.K=K)(hl:PE X l tl):PI X tg l (DB K tl):=by subst h;exact GP hl
theorem fT{tg l:Expr}{tl:TE}(h:X.K=K)(hl:PE X l tl):PI X tg l (Jn K tl):=by subst h;exact Il hl
variable {o e:Expr}{es:List Expr}{to:TE}{t:TA}{name:Str}{apos cpos:Pos}{T id:String}{r:V→List V→Hp→VK→Prop}
theorem dH(h:X.K=K)(pa:PlainAttrs T)(slot:Slot T name id)(hty:typeOf (.builtin id)=pure (.type "method_descriptor"))(hm:Ba X id r)(ho:PE X o to)
  (hbase:attributeBase o name X.env (eval o X.env)=eval o X.env:=by rfl) (hline:(apos.endLine == cpos.line)=true:=by rfl):PE X (.Call (.Attribute o name apos) [] [] cpos) (L5 K T r to):=by subst h;exact J0 pa slot hty hm ho hbase hline
theorem cO(h:X.K=K)(pa:PlainAttrs T)(slot:Slot T name id)(hty:typeOf (.builtin id)=pure (.type "method_descriptor"))(hm:Ba X id r)(ho:PE X o to)(ha:PA X (e::es) t)
  (hbase:attributeBase o name X.env (eval o X.env)=eval o X.env:=by rfl)
  (hfew:((backTo cpos (starEach (e::es) X.env)).all (fun x=>!x.1) && (backToKw cpos (keywordEach [] X.env)).all (fun x=>x.1.isSome)
   && decide ((e::es).length+([]:List Keyword).length+(if ([]:List Keyword).isEmpty then 0 else 1)<30))=true:=by rfl)
  (hline:(apos.endLine == cpos.line)=true:=by rfl) (hs:starEach (e::es) X.env=(false,eval e X.env)::starEach es X.env:=by rfl) (hplain:(backTo cpos (starEach es X.env)).any (·.1)=false:=by rfl) :
  PE X (.Call (.Attribute o name apos) (e::es) [] cpos) (Nr K T r to t):=by subst h;exact LQ pa slot hty hm ho ha hbase hfew hline hs hplain
end
section
variable {X:Cx}{scope:Scope}{x:Str}{px pos:Pos}{ix:List Nat}{elt iter:Expr}{ifs:List Expr}{wi:TI}{ti:TT}{te:TE}
theorem cM{sc0:Scope}{N:List Str}(h:mM sc0 scope N x ix=true)(e1:X.env.scope=sc0)(e2:X.N=N)(hc:X.calm=true)(hi:PI X (.Name x px) iter wi)(hif:∀ fp s H,sL (cI X scope x ix fp s H) ifs ti)(he:∀ fp s H,PE (cI X scope x ix fp s H) elt te)
  (hs:∀ z,foldedSetIterable iter X.env z=pure z:=by intro _;rfl):PE X (.ListComp elt [⟨.Name x px,iter,ifs,0⟩] scope pos) (Dc wi ix ti te) :=
 Gr (iP h e1 e2).1 (iP h e1 e2).2 hc hi hif he hs
theorem lV{i:Nat}{y:Str}{py spos:Pos}{sc0:Scope}{N:List Str}(hN:X.N.Nodup)(hy:X.N[i]?=some y)(hyl:X.env.scope.names.lookup y=some .local)(h:mM sc0 scope N x ix=true)(e1:X.env.scope=sc0)(e2:X.N=N)(hc:X.calm=true)(hi:PI X (.Name x px) iter wi)
  (hif:∀ fp s H,sL (cI X scope x ix fp s H) ifs ti) (he:∀ fp s H,PE (cI X scope x ix fp s H) elt te)
  (hsw:swapsWith (.ListComp elt [⟨.Name x px,iter,ifs,0⟩] scope pos) (some (.Name y py)) spos.line X.env=pure true:=by rfl)
  (hs:∀ z,foldedSetIterable iter X.env z=pure z:=by intro _;rfl):PS X (.Assign [.Name y py] (.ListComp elt [⟨.Name x px,iter,ifs,0⟩] scope pos) spos) (HB i wi ix ti te) :=
 Gz hN hy hyl (iP h e1 e2).1 (iP h e1 e2).2 hc hi hif he hsw hs
end
end L2
namespace Lw
open PySem PySem.Spec PyProof.Rows L2 Ma
def KH(x:List Nat)(k:Nat):Prop:=∃ a b,x[k]?=some a∧x[k+1]?=some b∧a=con b
theorem uC{x:List Nat}{k:Nat}(h:KH x k):∃ a b,x=x.take k++a::b::x.drop (k+2)∧a=con b∧k+1<x.length:=by
 obtain⟨a,b,h1,h2,e⟩:=h
 obtain⟨l1,e1⟩:=a9.mp h1
 obtain⟨l2,e2⟩:=a9.mp h2
 refine⟨a,b,?_,e,l2⟩
 have q1:x.drop k=x[k]::x.drop (k+1):=aQS l1
 have q2:x.drop (k+1)=x[k+1]::x.drop (k+1+1):=aQS l2
 rw[e1] at q1
 rw[e2] at q2
 have q3:=aQP k x
 rw[q1,q2] at q3
 exact q3.symm
theorem GU{x:List Nat}{k:Nat}(hx:AllL x)(h:KH x k):lay (x.take k++x.drop (k+2))=lay x:=by
 obtain⟨a,b,e,hab,_⟩:=uC h
 have hx':AllL (x.take k++a::b::x.drop (k+2)):=by rw[← e];exact hx
 obtain⟨h1,h2⟩:=AllL.app.mp hx'
 have hb:cE b:=(AllL.cons.mp (AllL.cons.mp h2).2).1
 have:=kP (x.take k) (x.drop (k+2)) h1 hb hab
 rw[← this,← e]
theorem tU:∀ (k:List Nat),(∀ i a b,k[i]?=some a→k[i+1]?=some b→b≠con a)→PlainR k
 | [],_=>trivial
 | [_],_=>trivial
 | a::b::r,h=>⟨h 0 a b rfl rfl,tU (b::r) fun i x y h1 h2=>h (i+1) x y (by simpa using h1) (by simpa using h2)⟩
theorem jT{x:List Nat}(h:∀ k,¬ KH x k):bR x:=by
 unfold bR
 refine tU _ fun i a b h1 h2 e=>?_
 have l2:i+1<x.length:=by
  have:=(a9.mp h2).1
  simpa using this
 rw[aQx (by omega)] at h1 h2
 refine h (x.length - 1 - (i+1)) ⟨b,a,h2,?_,e⟩
 rw[show x.length - 1 - (i+1)+1=x.length - 1 - i by omega]
 exact h1
theorem dC{n:Int}{c:Nat}(h1:1≤n)(h4:n≤4)(h:c∈aK n):con c∈aK n:=by
 have:n=1∨n=2∨n=3∨n=4:=by omega
 have hL:=aU (aN h)
 rcases this with rfl | rfl | rfl | rfl <;> rcases hL with rfl | rfl | rfl | rfl | rfl | rfl | rfl | rfl <;> revert h <;> decide
theorem EY{k:List Nat}{c d:Nat}(h:d∈push k c):d∈k∨d=c:=by
 cases k with
 | nil=>right;simpa [push] using h
 | cons x r =>
  unfold push at h
  dsimp only at h
  split at h
  ·left;exact g9 _ h
  ·rcases d3.mp h with q | q
   ·exact .inr q
   ·exact .inl q
theorem Bn:∀ {w k:List Nat} {d:Nat},d∈iR k w→d∈k∨d∈w
 | [],_,_,h=>.inl h
 | c::w,k,d,h=>by
  rcases Bn (w:=w) (k:=push k c) h with q | q
  ·rcases EY q with q | q
   ·exact .inl q
   ·exact .inr (by rw[q];exact i9)
  ·exact .inr (g9 _ q)
theorem Hd{w:List Nat}{c:Nat}(h:c∈lay w):c∈w:=by
 rcases Bn (w:=w) (k:=[]) (aQM.mp h) with q | q
 ·exact nomatch q
 ·exact q
theorem OfN.back{n:Int}{w:List Nat}(h:OfN n w)(h1:1≤n)(h4:n≤4):OfN n (Ma.back w):=fun c hc=>by
 unfold Ma.back at hc
 simp only [aQM,i3] at hc
 obtain⟨a,ha,rfl⟩:=hc
 exact dC h1 h4 (h a ha)
theorem OfN.lay{n:Int}{w:List Nat}(h:OfN n w):OfN n (Ma.lay w):=fun c hc=>h c (Hd hc)
theorem OfN.app{n:Int}{u w:List Nat}(h:OfN n u)(h2:OfN n w):OfN n (u++w):=fun c hc=>(j9.mp hc).elim (h c) (h2 c)
theorem OfN.nil{n:Int}:OfN n []:=fun c hc=>nomatch hc
theorem hV:∀ (k l:List Nat),PlainR (k++l)→PlainR k
 | [],_,_=>trivial
 | [_],_,_=>trivial
 | a::b::r,l,h=>⟨h.1,hV (b::r) l h.2⟩
theorem gK:∀ (k l:List Nat),PlainR (k++l)→PlainR l
 | [],_,h=>h
 | a::r,l,h=>gK r l (PlainR.tail h)
theorem zV{x:List Nat}(h:bR x)(i:Nat):bR (x.drop i):=by
 unfold bR at *
 have e:x=x.take i++x.drop i:=(aQP i x).symm
 rw[e,aXh] at h
 exact hV _ _ h
theorem rE{x:List Nat}(h:bR x)(i:Nat):bR (x.take i):=by
 unfold bR at *
 have e:x=x.take i++x.drop i:=(aQP i x).symm
 rw[e,aXh] at h
 exact gK _ _ h
end Lw
namespace LtL
open PySem PyProof.Rows HT
open PySem.SeqAt
open PySem.AutoSeq1 (wpAny_loadPart')
open PySem.MeetsSeq PySem.MeetsSeq2 PySem.MeetsSeq3
theorem vV:∀ {us:List Value} {ns:List Int},IntsAre us ns→∀ i,i<us.length→∃ a t,us[i]?=some (.int a t)∧ns[i]?=some a
 | _,_,.nil,i,h=>by simp at h
 | _,_,.cons a t r,0,_=>⟨a,t,rfl,rfl⟩
 | _,_,.cons a t r,i+1,h=>by
  obtain⟨c,u,h1,h2⟩:=vV r i (by simpa using h)
  exact⟨c,u,by simpa using h1,by simpa using h2⟩
theorem Bb{ns:List Int}{i:Nat}{a:Int}(h:ns[i]?=some a):ns.drop i=a::ns.drop (i+1):=by
 obtain⟨hl,e⟩:=a9.mp h
 rw[aQS hl,e]
theorem GR(l b:Addr)(us vs:List Value)(n n2:Nat)(ns ms:List Int)(hi:IntsAre us ns)(hj:IntsAre vs ms)(k:Nat) :
  ∀ i:Nat,us.length - i=k→us.length=vs.length→Meets (Builtin.«list.__eq__.loop» ⟨[.ref l,.ref b,rawInt i,rawInt 0],[]⟩)
   (fun A R s=>s.heap.get? l=some { cls:=.type "list",data:=.seq us.toArray n }∧s.heap.get? b=some { cls:=.type "list",data:=.seq vs.toArray n2 }∧R (.ok (.ret (.bool (lexLt (ns.drop i) (ms.drop i))))) s):=by
 have ln:us.length=ns.length:=hi.length
 have lm:vs.length=ms.length:=hj.length
 induction k with
 | zero =>
  intro i hk hlen prog w A R s h
  obtain⟨hp,g,d,tk,os⟩:=s;obtain⟨hl,hb,h⟩:=h
  wp_walk using wpAny_loadPart' hl,wpAny_loadPart' hb
  have n1:us.toArray[((i:Nat):Int).toNat]?=none:=by simp;omega
  have n2':vs.toArray[((i:Nat):Int).toNat]?=none:=by simp;omega
  rw[n1,n2']
  wp_walk using wpAny_loadPart' hl,wpAny_loadPart' hb
  have d1:ns.drop i=[]:=by simp;omega
  have d2:ms.drop i=[]:=by simp;omega
  rw[d1,d2] at h
  have e:(decide (us.toArray.size<vs.toArray.size))=HT.lexLt [] []:=by rw[c8,c8,hlen];simp[HT.lexLt]
  show R (.ok (.ret (.bool (decide (us.toArray.size<vs.toArray.size))))) _
  rw[e]
  exact h
 | succ k ih =>
  intro i hk hlen prog w A R s h
  obtain⟨hp,g,d,tk,os⟩:=s;obtain⟨hl,hb,h⟩:=h
  obtain⟨a,t,ha,ha'⟩:=vV hi i (by omega)
  obtain⟨c,u,hc,hc'⟩:=vV hj i (by omega)
  have n1:us.toArray[((i:Nat):Int).toNat]?=some (.int a t):=by simpa using ha
  have n2':vs.toArray[((i:Nat):Int).toNat]?=some (.int c u):=by simpa using hc
  rw[Bb ha',Bb hc',lexLt_cons] at h
  wp_walk using wpAny_loadPart' hl,wpAny_loadPart' hb
  rw[n1,n2']
  have he:=aXP (A:=A.in1) (s:=⟨hp,g,d,tk,os⟩) a t c u
  refine wpAny_bind (he prog w _ _ ?_)
  cases q:(a == c) with
  | true =>
   have q':a=c:=by simpa using q
   rw[if_pos q'] at h
   wp_walk
   refine⟨plainId_quiet plain_eq_loop _,codeAny_builtin entry_eq_loop ?_⟩
   rw[aZa plain_eq_loop _]
   exact ih (i+1) (by omega) hlen prog w A R _ ⟨hl,hb,h⟩
  | false =>
   have q':¬ a=c:=by simpa using q
   rw[if_neg q'] at h
   have hri:=Dl A.in1 ⟨hp,g,d,tk,os⟩ a t c u prog w
   wp_walk using wpAny_loadPart' hl,wpAny_loadPart' hb
   rw[n1,n2']
   wp_walk using hri
   exact h
theorem list_lt(l b:Addr)(us vs:List Value)(n n2:Nat)(ns ms:List Int)(hi:IntsAre us ns)(hj:IntsAre vs ms)(hlen:us.length=vs.length) :
  Meets (Builtin.«list.__lt__» ⟨[.ref l,.ref b],[]⟩)
   (fun A R s=>s.heap.get? l=some { cls:=.type "list",data:=.seq us.toArray n }∧s.heap.get? b=some { cls:=.type "list",data:=.seq vs.toArray n2 }∧R (.ok (.ret (.bool (lexLt ns ms)))) s):=by
 intro prog w A R s h
 obtain⟨hp,g,d,tk,os⟩:=s;obtain⟨hl,hb,h⟩:=h
 have f3:=AutoSeq1.sub_list_list
 wp_walk using wpAny_loadPart' hl,wpAny_loadPart' hb
 refine⟨plainId_quiet plain_eq_loop _,codeAny_builtin entry_eq_loop ?_⟩
 rw[aZa plain_eq_loop _]
 exact GR l b us vs n n2 ns ms hi hj _ 0 rfl hlen prog w A R _ ⟨hl,hb,h⟩
end LtL
namespace L2
open PySem PySem.Spec PyProof.Rows
theorem rZ:∀ ns:List Int,HT.lexLt ns ns=false
 | []=>rfl
 | n::ns=>by rw[HT.lexLt_cons,if_pos rfl];exact rZ ns
theorem sA:∀ (a b:List Int),iA (a.map V.int) (b.map V.int)=decide (a=b)
 | [],[]=>by simp[iA]
 | [],_::_=>by simp[iA]
 | _::_,[]=>by simp[iA]
 | x::xs,y::ys=>by
  have e:oY (V.int x) (V.int y)=decide (x=y):=by
   unfold oY;by_cases h:x=y <;> simp[h]
  rw[i8,i8]
  unfold iA
  rw[sA xs ys,e]
  by_cases h:x=y <;> by_cases h2:xs=ys <;> simp[h,h2]
section
variable {X:Cx}
theorem yK(hc:X.calm=true):Ba X "str.index" (fun x xs H Q=>∃ z y,x=.str z∧xs=[.str y]∧(Builtin.Str.occurrences z y 0 z.length 1).isEmpty=false∧Q (.int (Txt.find z y)) H):=by
 intro pins s σ H x xs v us Q I rx rs h
 obtain⟨z,y,rfl,rfl,ho,q⟩:=h
 obtain⟨t,rfl⟩:=rx
 obtain⟨u,rfl,ru⟩:=rs.one
 obtain⟨t',rfl⟩:=ru
 exact index_or (I.ok.hd hc) (fun _ e=>by rw[e] at ho;cases ho) fun _ _=>⟨.int _,H,I.tok _,⟨_,rfl⟩,q⟩
theorem qW:jL X (binaryOp .Mult) (fun x y H Q=>∃ z n,x=.str z∧y=.int n∧MulOk z n∧Q (.str (Txt.mul z n)) H):=by
 intro pins s σ H x y v u Q I rx ry h
 obtain⟨z,n,rfl,rfl,hok,q⟩:=h
 obtain⟨t,rfl⟩:=rx
 obtain⟨t',rfl⟩:=ry
 exact SB.mul hok fun t' k=>⟨.str _,H,I.tok _,⟨t',rfl⟩,q⟩
end
end L2
namespace MaR
section
variable {g:Nat→Nat}{n:Nat}
def Lt(g:Nat→Nat)(n i j:Nat):Prop:=∃ l,l<n∧(∀ t,t<l→g (i+t)=g (j+t))∧g (i+l)<g (j+l)
theorem Jc(hg:∀ t,g (t % n)=g t){i j:Nat}(h:Lt g n i j):Lt g n (i % n) j:=by
 have e:∀ t,g (i % n+t)=g (i+t):=fun t=>by
  rw[← hg (i % n+t),← hg (i+t)]
  congr 1
  simp[Nat.add_mod]
 obtain⟨l,h1,h2,h3⟩:=h
 exact⟨l,h1,fun t ht=>by rw[e];exact h2 t ht,by rw[e];exact h3⟩
end
end MaR
namespace Lw
open PySem PySem.Spec PyProof.Rows L2 Ma MaR
def rk(c:Nat):Nat:=if 96<c then 2 * (c - 97) else 2 * (c - 65)+1
theorem IH{a b:Nat}(ha:cE a)(hb:cE b)(h:rk a=rk b):a=b:=by unfold rk at h;unfold cE at *;split at h <;> split at h <;> omega
def gr(x:List Nat)(t:Nat):Nat:=rk (x.getD (t % x.length) 0)
theorem E8(x:List Nat):∀ t,gr x (t % x.length)=gr x t:=fun t=>by unfold gr;rw[Nat.mod_mod]
def LeastAt(x:List Nat)(b:Nat):Prop:=(x=[]∧b=0)∨(b<x.length∧∀ j,j<x.length→¬ Lt (gr x) x.length j b)
def Ends(x:List Nat)(m:Nat):Prop:=(∀ j,j<m→2 * j+1<x.length∧x.getD j 0=con (x.getD (x.length - 1 - j) 0))∧¬ (2 * m+1<x.length∧x.getD m 0=con (x.getD (x.length - 1 - m) 0))
def uG(x:List Nat)(m:Nat):List Nat:=(x.drop m).take (x.length - 2 * m)
def kU(x:List Nat)(b:Nat):List Nat:=x.drop b++x.take b
def iE(x r:List Nat):Prop:=∃ m b,Ends x m∧LeastAt (uG x m) b∧r=kU (uG x m) b
theorem Ends.le{x:List Nat}{m:Nat}(h:Ends x m):2 * m≤x.length:=by
 cases m with
 | zero=>omega
 | succ m=>have:=(h.1 m (aXX _)).1;omega
theorem Ends.inj{x:List Nat}{m m':Nat}(h:Ends x m)(h':Ends x m'):m=m':=by
 by_cases c:m<m'
 ·exact absurd (h'.1 m c) h.2
 ·by_cases c2:m' < m
  ·exact absurd (h.1 m' c2) h'.2
  ·omega
theorem GO{x:List Nat}{m:Nat}(h:2 * m≤x.length):(uG x m).length=x.length - 2 * m:=by unfold uG;rw[j6,aQC];omega
theorem F6{x:List Nat}{m:Nat}(h:AllL x):AllL (uG x m):=fun c hc=>h c (List.mem_of_mem_drop (u8 hc))
theorem LeastAt.le{x:List Nat}{b:Nat}(h:LeastAt x b):b≤x.length:=by
 rcases h with ⟨e,rfl⟩ | ⟨h,_⟩
 ·exact l9 _
 ·omega
theorem fV{x:List Nat}{b:Nat}(h:b≤x.length):(kU x b).length=x.length:=by unfold kU;rw[c6,aQC,j6];omega
theorem vY{x:List Nat}{b t:Nat}(h:b<x.length)(ht:t<x.length):(kU x b)[t]?=some (x.getD ((b+t) % x.length) 0):=by
 unfold kU
 by_cases c:t<x.length - b
 ·rw[p6 (by rw[aQC];omega),aZx,aXZ (by omega),c5,b0 (by omega)]
  rfl
 ·rw[u5 (by rw[aQC];omega),aQC,aQV (by omega)]
  have e:(b+t) % x.length=t - (x.length - b):=by
   rw[show b+t=(t - (x.length - b))+x.length by omega,aXx,aXZ (by omega)]
  rw[e,c5,b0 (by omega)]
  rfl
def rks(x:List Nat):List Int:=x.map fun c=>((rk c:Nat):Int)
theorem pP(x:List Nat):(rks x).length=x.length:=by unfold rks;rw[b7]
theorem HF{c:Nat}(h:cE c):(Builtin.Str.occurrences (Str.ofString "aAbBcCdD") (S [c]) 0 (Str.ofString "aAbBcCdD").length 1).isEmpty=false∧Txt.find (Str.ofString "aAbBcCdD") (S [c])=((rk c:Nat):Int):=by
 rcases aU h with rfl | rfl | rfl | rfl | rfl | rfl | rfl | rfl <;> exact⟨by decide +kernel,by decide +kernel⟩
def Fz:Sp:=fun vs H Q _=>∃ x:List Nat,vs=[.str (S x)]∧AllL x∧x.length≤900∧∀ (p a:Addr) (H':Hp),H p=none→H a=none→Same H H'→H' p=some (.tup [.int (x.length:Nat),.ref a])→H' a=some (.lst ((rks x).map V.int))→Q (.ref p) H'
theorem Hg{x:List Nat}{t i:Nat}(h:i<x.length - 2 * t):(uG x t)[i]?=some (x.getD (t+i) 0):=by
 unfold uG
 rw[aQV h,aZx,c5,b0 (by omega)]
 rfl
theorem rJ(x:List Nat):uG x 0=x:=by unfold uG;simp
theorem E9(x:List Nat):kU x 0=x:=by unfold kU;simp
def Np(y:List Nat):Prop:=∀ k,k<y.length→y.getD k 0≠con (y.getD ((k+1) % y.length) 0)
theorem qO:∀ (k:List Nat),PlainR k→∀ i a b,k[i]?=some a→k[i+1]?=some b→b≠con a
 | [],_,i,a,b,h,_=>by simp at h
 | [_],_,i,a,b,_,h=>by simp at h
 | c::d::r,h,0,a,b,h1,h2=>by
  simp at h1 h2
  subst h1 h2
  exact h.1
 | c::d::r,h,i+1,a,b,h1,h2=>qO (d::r) h.2 i a b (by simpa using h1) (by simpa using h2)
theorem uZ{x:List Nat}(h:bR x){k a b:Nat}(h1:x[k]?=some a)(h2:x[k+1]?=some b):a≠con b:=by
 have l2:=(a9.mp h2).1
 refine qO x.reverse h (x.length - 1 - (k+1)) b a ?_ ?_
 ·rw[aQx (by omega),show x.length - 1 - (x.length - 1 - (k+1))=k+1 by omega];exact h2
 ·rw[aQx (by omega),show x.length - 1 - (x.length - 1 - (k+1)+1)=k by omega];exact h1
theorem rY{x:List Nat}{i:Nat}(h:i<x.length):x[i]?=some (x.getD i 0):=by rw[c5,b0 h];rfl
theorem rX{x:List Nat}(hx:AllL x){i:Nat}(h:i<x.length):cE (x.getD i 0):=hx _ (b8 (rY h))
theorem mP{x:List Nat}{t i:Nat}(h:i<x.length - 2 * t):(uG x t).getD i 0=x.getD (t+i) 0:=by
 rw[c5,Hg h];rfl
theorem Gs{x:List Nat}(hx:AllL x)(hp:bR x){t:Nat}(he:Ends x t):Np (uG x t):=fun k hk=>by
 have ml:=GO he.le
 rw[ml] at hk ⊢
 by_cases c:k+1<x.length - 2 * t
 ·rw[aXZ c,mP hk,mP c]
  exact uZ hp (rY (by omega)) (by rw[show t+k+1=t+(k+1) by omega];exact rY (by omega))
 ·have e:k+1=x.length - 2 * t:=by omega
  rw[← e,Nat.mod_self,mP hk,mP (by omega)]
  by_cases c2:k=0
  ·subst c2;exact(wS (rX hx (by omega))).symm
  ·intro q
   refine he.2 ⟨by omega,?_⟩
   rw[show x.length - 1 - t=t+k by omega,q,aKT,aW (rX hx (by omega))]
theorem mO{x:List Nat}{b t:Nat}(h:b<x.length)(ht:t<x.length):(kU x b).getD t 0=x.getD ((b+t) % x.length) 0:=by
 rw[c5,vY h ht];rfl
theorem Jt{x:List Nat}{a:Nat}(h:a<x.length)(t:Nat):gr (kU x a) t=gr x (a+t):=by
 unfold gr
 rw[fV (by omega),mO h (aQf _ (by omega)),aZW]
theorem DU{x:List Nat}(hx:AllL x)(hc:Np x){a:Nat}(h:a<x.length):Ends (kU x a) 0:=by
 refine⟨fun j hj=>absurd hj (y4 _),fun ⟨h1,h2⟩=>?_⟩
 rw[fV (by omega)] at h1 h2
 rw[mO h (by omega),mO h (by omega)] at h2
 have q:=hc ((a+(x.length - 1 - 0)) % x.length) (aQf _ (by omega))
 apply q
 have e:((a+(x.length - 1 - 0)) % x.length+1) % x.length=(a+0) % x.length:=by
  rw[aZX,show a+(x.length - 1 - 0)+1=a+0+x.length by omega,aXx]
 rw[e,h2,aW (rX hx (aQf _ (by omega)))]
theorem Iw{x:List Nat}{a i j:Nat}(h:a<x.length):Lt (gr (kU x a)) x.length i j↔Lt (gr x) x.length (a+i) (a+j):=by
 have e:∀ i t,gr (kU x a) (i+t)=gr x (a+i+t):=fun i t=>by rw[Jt h,aJu]
 constructor
 ·rintro⟨l,h1,h2,h3⟩;exact⟨l,h1,fun t ht=>by rw[← e,← e];exact h2 t ht,by rw[← e,← e];exact h3⟩
 ·rintro⟨l,h1,h2,h3⟩;exact⟨l,h1,fun t ht=>by rw[e,e];exact h2 t ht,by rw[e,e];exact h3⟩
theorem FL{g:Nat→Nat}{n i j:Nat}(hg:∀ t,g (t % n)=g t)(h:Lt g n i j):Lt g n i (j % n):=by
 have e:∀ t,g (j % n+t)=g (j+t):=fun t=>by rw[← hg (j % n+t),← hg (j+t),aZX]
 obtain⟨l,h1,h2,h3⟩:=h
 exact⟨l,h1,fun t ht=>by rw[e];exact h2 t ht,by rw[e];exact h3⟩
theorem B6{x:List Nat}{a b c:Nat}(ha:a<x.length)(hb:LeastAt x b)(hc:c<x.length)(e:(a+c) % x.length=b):LeastAt (kU x a) c:=by
 rcases hb with ⟨h0,_⟩ | ⟨hb,hm⟩
 ·subst h0;simp at ha
 ·refine .inr ⟨by rw[fV (by omega)];exact hc,fun j hj q=>?_⟩
  rw[fV (by omega)] at hj q
  have q1:=FL (E8 x) (Jc (E8 x) ((Iw ha).mp q))
  rw[e] at q1
  exact hm _ (aQf _ (by omega)) q1
theorem wA{x:List Nat}{a c b:Nat}(ha:a<x.length)(hc:c<x.length)(hb:b<x.length)(e:(a+c) % x.length=b):kU (kU x a) c=kU x b:=by
 have l1:(kU x a).length=x.length:=fV (by omega)
 refine aQt fun t=>?_
 by_cases ht:t<x.length
 ·rw[vY (by omega) (by omega),vY hb ht,l1,mO ha (aQf _ (by omega)),aZW,← e,aZX,aJu]
 ·rw[aQQ (by rw[fV (by omega)];omega),aQQ (by rw[fV (by omega)];omega)]
theorem zN:iE [] []:=⟨0,0,⟨fun j hj=>absurd hj (y4 _),fun h=>by simp at h⟩,.inl ⟨rfl,rfl⟩,rfl⟩
theorem vM(x:List Nat):kU x x.length=x:=by unfold kU;simp
theorem zA{x r:List Nat}(hx:AllL x)(hp:bR x)(h:iE x r){a:Nat}(ha:a≤r.length):iE (kU r a) r:=by
 obtain⟨m,b,he,hb,rfl⟩:=h
 have hy:=F6 (m:=m) hx
 have hc:=Gs hx hp he
 generalize uG x m=y at hb hy hc ha
 rcases id hb with ⟨rfl,rfl⟩ | ⟨hbl,hm⟩
 ·have:a=0:=by simpa [kU] using ha
  subst this
  exact zN
 ·have lr:(kU y b).length=y.length:=fV (by omega)
  have key:∀ a,a<y.length→iE (kU (kU y b) a) (kU y b):=fun a ha=>by
   rw[wA hbl ha (aQf _ (by omega)) rfl]
   have ha':(b+a) % y.length<y.length:=aQf _ (by omega)
   generalize (b+a) % y.length=a' at ha'
   have e:(a' + (b+y.length - a') % y.length) % y.length=b:=by
    rw[aZW,show a' + (b+y.length - a')=b+y.length by omega,aXx,aXZ hbl]
   have hcl:(b+y.length - a') % y.length<y.length:=aQf _ (by omega)
   refine⟨0,(b+y.length - a') % y.length,DU hy hc ha',?_,?_⟩
   ·rw[rJ];exact B6 ha' hb hcl e
   ·rw[rJ,wA ha' hcl hbl e]
  by_cases c:a<y.length
  ·exact key a c
  ·have:a=(kU y b).length:=by omega
   rw[this,vM]
   have:=key 0 (by omega)
   rwa [E9] at this
theorem Ie(w:List Nat)(n:Nat)(h1:1≤n)(h2:n≤10)(hw:w.length≤100):MulOk (S w) (n:Int):=by
 refine⟨?_,fun _ _=>?_,fun _ _=>?_⟩
 ·have e1:decide ((n:Int) < -(2 ^ 63:Int))=false:=decide_eq_false (by omega)
  have e2:decide ((n:Int) ≥ 2 ^ 63)=false:=decide_eq_false (by omega)
  rw[e1,e2];rfl
 ·rw[cH]
  have:(n=1∨n=2∨n=3∨n=4∨n=5∨n=6∨n=7∨n=8∨n=9∨n=10):=by omega
  rcases this with rfl | rfl | rfl | rfl | rfl | rfl | rfl | rfl | rfl | rfl <;> omega
 ·rw[cH,show ((n:Nat):Int).toNat=n by omega]
  have h9:w.length * n≤1000:=j8 (aXk hw h2) (by decide)
  unfold Builtin.Str.tooLong
  have h10:(1000:Nat)≤sizeLine:=aI (by decide)
  exact decide_eq_false (by omega)
end Lw
namespace L2
open PySem PySem.Spec PyProof.Rows
section
variable {X:Cx}{e:Expr}{te:TE}{lo hi:Option Expr}{stp:Expr}{tl th tk:TO}{pos p2:Pos}
def Kq(X:Cx)(r:V→Option Int→Option Int→Option Int→Hp→VK→Prop):Prop :=
 ∀ (pins:List (Addr×Obj)) (s:Shared) (σ:St) (H:Hp) (x:V) (v vl vu vk:Value) (lo hi st:Option Int) (sl:Addr) (Q:VK),Inv X pins σ H s→RelV x v→s.heap.IsSliceOf sl vl vu vk→IsPart vl lo→IsPart vu hi→IsPart vk st→r x lo hi st H Q →
  ∃ T id,typeLookup (.type T) "__getitem__"=pure (some (.builtin id))∧s.TypeIs v T∧wpAny (model X.prog X.w) X.A (getItem v (.ref sl)) (EP X pins σ Q) X.xe s
def Nk(r:V→Option Int→Option Int→Option Int→Hp→VK→Prop)(te:TE)(tl th tk:TO):TE:=fun σ H Q=>te σ H fun x H1=>tl σ H1 fun l H2=>th σ H2 fun u H3=>tk σ H3 fun k H4=>r x l u k H4 Q
theorem CQ{r:V→Option Int→Option Int→Option Int→Hp→VK→Prop}(hr:Kq X r)(he:PE X e te)(hl:PO X lo tl)(hu:PO X hi th)(hk:PO X (some stp) tk):PE X (.Subscript e (.Slice lo hi (some stp) p2) pos) (Nk r te tl th tk):=by
 intro pins s σ H Q I h
 refine Subscript_ (bS (he pins s σ H _ I h) fun v s1 ⟨x,H1,I1,r1,q1⟩=>?_)
 refine wpAny_Slice (bS (hl pins s1 σ H1 _ I1 q1) fun vl s2 ⟨l,H2,I2,pl,q2⟩=>bS (hu pins s2 σ H2 _ I2 q2) fun vu s3 ⟨u,H3,I3,pu,q3⟩=>bS (hk pins s3 σ H3 _ I3 q3) fun vk s4 ⟨k,H4,I4,pk,q4⟩=>?_)
 have I5:Inv X pins σ H4 { s4 with heap:=s4.heap.push { cls:=.type "slice",data:=.fields #[vl,vu,vk] } }:=I4.kept (t':=s4.toks) fun b ob q=>b6 _ q
 obtain⟨T,id,hT,ht,hg⟩:=hr pins { s4 with heap:=s4.heap.push { cls:=.type "slice",data:=.fields #[vl,vu,vk] } } σ H4 x v vl vu vk l u k s4.heap.objs.size Q I5 r1 (aZr ..) pl pu pk q4
 show wpAny (model X.prog X.w) X.A (subscriptTail e (.Slice lo hi (some stp) p2) v (.ref s4.heap.objs.size)) (EP X pins σ Q) X.xe { s4 with heap:=s4.heap.push { cls:=.type "slice",data:=.fields #[vl,vu,vk] } }
 exact tail_any (ops:=[v,.ref s4.heap.objs.size]) ht hT hg rfl
end
abbrev Cx.one(X:Cx):Cx:={ X with A:=X.A.in1,xe:=fun _ _=>False }
theorem Cx.Ok.one{X:Cx}(o:X.Ok):X.one.Ok :=
 ⟨o.mod,o.kind,o.glob,o.blt,o.above,o.inj,o.has,o.cab,o.hd,o.frames,o.stk,o.exf,o.bs,o.bsz,o.noex,o.exfs,o.funs,o.frf⟩
section
variable {X:Cx}{pins:List (Addr×Obj)}{σ:St}{H:Hp}{s:Shared}
theorem Inv.one(I:Inv X pins σ H s):Inv X.one pins σ H s:=⟨I.ok.one,I.os,I.bare,I.base,I.loc,I.cell,I.free,I.freeC,I.pin,I.hok,I.len⟩
theorem Inv.unone(o:X.Ok)(I:Inv X.one pins σ H s):Inv X pins σ H s:=⟨o,I.os,I.bare,I.base,I.loc,I.cell,I.free,I.freeC,I.pin,I.hok,I.len⟩
end
end L2
namespace Lw
open PySem PySem.Spec PyProof.Rows L2 Ma MaR
theorem kS(u v w:List Nat)(hu:AllL u)(hv:AllL v)(hw:AllL w):lay (u++lay v++w)=lay (u++v++w):=by
 rw[← hU (u++lay v) w (AllL.app.mpr ⟨hu,gR hv⟩),eI u v hu hv,hU (u++v) w (AllL.app.mpr ⟨hu,hv⟩)]
theorem GK{x r:List Nat}{m:Nat}(hx:AllL x)(he:Ends x m)(hr:iE x r):∃ a,a≤r.length∧uG x m=kU r a:=by
 obtain⟨m',b,he',hb,rfl⟩:=hr
 obtain rfl:=he.inj he'
 have hbl:=hb.le
 generalize uG x m=y at *
 have hl:(kU y b).length=y.length:=fV hbl
 refine⟨y.length - b,by omega,?_⟩
 have h1:(y.drop b).length=y.length - b:=aQC
 have e:kU y b=y.drop b++y.take b:=rfl
 generalize y.length - b=a at *
 rw[e]
 subst h1
 show y=(y.drop b++y.take b).drop (y.drop b).length++(y.drop b++y.take b).take (y.drop b).length
 rw[aJp,aZ6,aQP]
def lo(c:Nat):Nat:=if 96<c then c else c+32
theorem CP{c:Nat}(h:cE c):Unicode.lowerOf c=[lo c]:=by
 rcases aU h with rfl | rfl | rfl | rfl | rfl | rfl | rfl | rfl <;> decide +kernel
theorem Cm{w:List Nat}{i c:Nat}(h:cE c)(e:w[i]?=some c):Unicode.lowerAt w.toArray i=[lo c]:=by
 unfold Unicode.lowerAt
 have e2:w.toArray[i]?=some c:=by simpa using e
 rw[e2]
 have e3:((c == 0x3A3 && Unicode.endsWord w.toArray i))=false:=by
  have:(c == 0x3A3)=false:=by unfold cE at h;simp;omega
  rw[this];rfl
 simp only [e3]
 exact CP h
theorem CW{α:Type}(f:Nat→α)(w:List Nat):(w.map fun c=>[f c]).flatten=w.map f:=by
 induction w with
 | nil=>rfl
 | cons a w ih=>rw[i8,aQI,ih];rfl
theorem gS{w:List Nat}(h:AllL w):Txt.lower (S w)=S (w.map lo):=by
 unfold Txt.lower placed
 show Str.mk _=Str.mk _
 congr 1
 apply aJ6.mp
 rw[Array.toList_flatten,Array.toList_mapIdx]
 have e:(List.mapIdx (fun i c=>(Unicode.lowerAt (S w).cps i).toArray) (S w).cps.toList)=w.map fun c=>#[lo c]:=by
  refine aQt fun i=>?_
  have e1:(S w).cps.toList=w:=by simp
  have e2:(S w).cps=w.toArray:=rfl
  rw[e1,e2,List.getElem?_mapIdx,c7]
  cases hq:w[i]? with
  | none=>rfl
  | some c =>
   show some _=some _
   rw[Cm (h c (b8 hq)) hq]
 rw[e,u7]
 show (w.map fun c=>[lo c]).flatten=w.map lo
 exact CW lo w
theorem kQ(w:List Nat)(h:AllL w)(hl:w.length≤1000):Builtin.Str.tooLong (Txt.lower (S w)).length=false:=by
 rw[gS h,cH,b7]
 unfold Builtin.Str.tooLong
 have h10:(1000:Nat)≤sizeLine:=aI (by decide)
 exact decide_eq_false (by omega)
theorem FE{c:Nat}(h:cE c):c∈lets:=by rcases aU h with rfl | rfl | rfl | rfl | rfl | rfl | rfl | rfl <;> decide
end Lw
namespace PySem
open Sem (wp)
section
variable {prog:Program}{w:World}{A:Around}{E:Value→Shared→Prop}{s:Shared}
theorem iW{j t:Addr}{k:Nat}{vs:Array Value}{x:Value}{Q:Value→Shared→Prop}(hj:s.heap.IsTupleIter j t k)(ht:s.heap.IsTuple t vs)(hx:vs[k]?=some x)
  (hQ:∀ g,g.IsTupleIter j t (k+1)→Heap.SameBut j s.heap g→Q x { s with heap:=g }):wpAny (model prog w) A (Builtin.SmallTypes.nextOf (.ref j)) Q E s:=by
 obtain⟨oj,goj,cj,dj⟩:=id hj
 obtain⟨ot,got,_,m,dt⟩:=ht
 unfold Builtin.SmallTypes.nextOf
 refine wpAny_bind (wpAny_callSpecial?_slot (name:=Str.ofString "__next__") hj.typeIs aQa (wpAny_call_entry aQa hj.typeIs aXp ?_ (aXl _)))
 show wpAny _ _ (field (.ref j) 0 >>= _) _ _ s
 refine wpAny_bind (wpAny_field goj dj (x:=.ref t) rfl ?_)
 show wpAny _ _ (if (Value.ref t == Value.none)=true then _ else _) _ _ s
 rw[if_neg (by intro c;cases c)]
 show wpAny _ _ (field (.ref j) 1 >>= _) _ _ s
 refine wpAny_bind (wpAny_field goj dj (x:=.int k 0) rfl ?_)
 show wpAny _ _ (seqItems? (.ref t) >>= _) _ _ s
 refine wpAny_bind (wpAny_seqItems got dt ?_)
 simp only [aQY,hx]
 refine wpAny_bind (wpAny_setField goj dj (by simp) (wpAny_pure ⟨x,rfl,wpAny_pure (hQ _ ?_ (u0 ..))⟩))
 refine⟨_,t8 _ goj (aQw (aQD dj _)),(aXv ..).trans cj,?_⟩
 rw[aQD dj]
 simp[rawInt]
theorem oJ{j t:Addr}{k:Nat}{vs:Array Value}{Q:Value→Shared→Prop}(hh:A.handled=none)(hj:s.heap.IsTupleIter j t k)(ht:s.heap.IsTuple t vs)(hx:vs[k]?=none)
  (hE:∀ g e,Heap.ExtBut j s.heap g→(∃ o,g.get? e=some o∧o.cls=.type "StopIteration")→E (.ref e) { s with heap:=g }):wpAny (model prog w) A (Builtin.SmallTypes.nextOf (.ref j)) Q E s:=by
 obtain⟨oj,goj,cj,dj⟩:=id hj
 obtain⟨ot,got,_,m,dt⟩:=ht
 unfold Builtin.SmallTypes.nextOf
 refine wpAny_bind (wpAny_callSpecial?_slot (name:=Str.ofString "__next__") hj.typeIs aQa (wpAny_call_entry aQa hj.typeIs aXp ?_ (aXl _)))
 show wpAny _ _ (field (.ref j) 0 >>= _) _ _ s
 refine wpAny_bind (wpAny_field goj dj (x:=.ref t) rfl ?_)
 show wpAny _ _ (if (Value.ref t == Value.none)=true then _ else _) _ _ s
 rw[if_neg (by intro c;cases c)]
 show wpAny _ _ (field (.ref j) 1 >>= _) _ _ s
 refine wpAny_bind (wpAny_field goj dj (x:=.int k 0) rfl ?_)
 show wpAny _ _ (seqItems? (.ref t) >>= _) _ _ s
 refine wpAny_bind (wpAny_seqItems got dt ?_)
 simp only [aQY,hx]
 refine wpAny_bind (wpAny_rule (wpAny_bind (wpAny_setField goj dj (by simp) ?_)))
 show wpAny _ _ (newExc (.type "StopIteration") [] >>= _) _ _ _
 refine wpAny_bind ?_
 simp only [newExc,newTuple]
 refine wpAny_bind (wpAny_newObj_type ?_ (by size_fits))
 refine wpAny_bind (m:=firstArgMember _ _) (wpAny_of_eq (a:=Value.none) (by first | rfl | (simp only [firstArgMember];rfl)) ?_)
 refine wpAny_newObj_type ?_ (by size_fits)
 simp only [raiseNew]
 refine wpAny_bind (wpAny_handled ?_)
 first | rw[show A.in1.handled=none from hh] | rw[hh]
 refine wpAny_bind (wpAny_pure (wpAny_throw ?_))
 exact hE _ _ (((u0 ..).extBut.push _).push _) ⟨_,d9 _ rfl,rfl⟩
structure ZApart(z a b i j t u:Addr):Prop where
 az:a≠z
 bz:b≠z
 iz:i≠z
 jz:j≠z
 ab:a≠b
 ai:a≠i
 aj:a≠j
 bi:b≠i
 bj:b≠j
 ij:i≠j
 tz:t≠z
 tb:t≠b
 ti:t≠i
 tj:t≠j
 uz:u≠z
 ub:u≠b
 ui:u≠i
 uj:u≠j
structure ZSt(h:Heap)(z a b i j t u:Addr)(k:Nat)(f0:Value):Prop where
 zip:IsZip h z a b f0
 its:IsPair h a (.ref i) (.ref j)
 own:∃ p q,IsPair h b p q
 one:h.IsTupleIter i t k
 two:h.IsTupleIter j u k
theorem ZSt.at{h h':Heap}{z a b i j t u:Addr}{k:Nat}{f0:Value}(S:ZSt h z a b i j t u k f0)(kp:∀ c∈[z,a,b,i,j],∀ o,h.get? c=some o→h'.get? c=some o):ZSt h' z a b i j t u k f0:=by
 obtain⟨p,q,ho⟩:=S.own
 obtain⟨o1,g1,r1⟩:=S.one
 obtain⟨o2,g2,r2⟩:=S.two
 exact⟨kp z (by simp) _ S.zip,kp a (by simp) _ S.its,⟨p,q,kp b (by simp) _ ho⟩,⟨o1,kp i (by simp) _ g1,r1⟩,⟨o2,kp j (by simp) _ g2,r2⟩⟩
theorem Cn{z a b i j t u:Addr}{k:Nat}{xs ys:Array Value}{x y:Value}{Q:Value→Shared→Prop}(D:ZApart z a b i j t u)(S:ZSt s.heap z a b i j t u k .none)
  (ht:s.heap.IsTuple t xs) (hu:s.heap.IsTuple u ys) (hx:xs[k]?=some x) (hy:ys[k]?=some y)
  (hQ:∀ g,ZSt g z a b i j t u (k+1) (rawInt s.heap.objs.size)→IsPair g s.heap.objs.size x y→g.objs.size=s.heap.objs.size+1→(∀ c o,c≠z→c≠b→c≠i→c≠j→s.heap.get? c=some o→g.get? c=some o)→Q (.ref s.heap.objs.size) { s with heap:=g }) :
  wpAny (model prog w) A (Builtin.«zip.__next__» ⟨[.ref z],[]⟩) (fun fin s'=>∃ v,fin=.done (.ret v)∧Q v s') E s:=by
 obtain⟨hz,hI,⟨p,q,hO⟩,h1,h2⟩:=S
 show wpAny _ _ (field (.ref z) 2 >>= _) _ _ _
 refine wpAny_bind (wpAny_field hz rfl (x:=.bool false) rfl ?_)
 show wpAny _ _ (field (.ref z) 3 >>= _) _ _ _
 refine wpAny_bind (wpAny_field hz rfl (x:=.ref a) rfl (wpAny_bind (wpAny_seqItems hI rfl ?_)))
 show wpAny _ _ (Builtin.SmallTypes.ownedTupleIsFree (.ref z) >>= _) _ _ _
 unfold Builtin.SmallTypes.ownedTupleIsFree
 refine wpAny_bind (wpAny_bind (wpAny_field hz rfl (x:=.none) rfl (wpAny_pure ?_)))
 simp only [if_true]
 refine wpAny_bind (wpAny_rule (wpAny_bind (wpAny_field hz rfl (x:=.ref b) rfl (wpAny_bind (wpAny_setField_rec hz (by simp) fun g1 z1 e1=>?_)))))
 replace z1:IsZip g1 z a b .ellipsis:=z1
 refine wpAny_bind ?_
 simp only [aZG,aJg,aXM,aXm]
 refine wpAny_bind (wpAny_bind (wpAny_onRaise ?_))
 show wpAny _ _ (Builtin.SmallTypes.nextOf (.ref i) >>= _) _ _ _
 refine wpAny_bind (iW (h1.extBut e1.extBut D.iz) (ht.extBut e1.extBut D.tz) hx fun g2 i2 e2=>wpAny_pure ?_)
 have o2:IsPair g2 b p q:=e2.extBut _ _ D.bi (e1.extBut _ _ D.bz hO)
 refine wpAny_bind (wpAny_seqItems o2 rfl (wpAny_bind (wpAny_updateSeq_pair o2 fun g3 o3 e3=>wpAny_bind (wpAny_letGo (wpAny_pure ?_)))))
 replace o3:IsPair g3 b x q:=o3
 refine wpAny_bind (wpAny_bind (wpAny_onRaise ?_))
 show wpAny _ _ (Builtin.SmallTypes.nextOf (.ref j) >>= _) _ _ _
 have j3:=((h2.extBut e1.extBut D.jz).extBut e2.extBut D.ij.symm).extBut e3.extBut D.bj.symm
 have u3:=((hu.extBut e1.extBut D.uz).extBut e2.extBut D.ui).extBut e3.extBut D.ub
 refine wpAny_bind (iW j3 u3 hy fun g4 j4 e4=>wpAny_pure ?_)
 have o4:IsPair g4 b x q:=e4.extBut _ _ D.bj o3
 refine wpAny_bind (wpAny_seqItems o4 rfl (wpAny_bind (wpAny_updateSeq_pair o4 fun g5 o5 e5=>wpAny_bind (wpAny_letGo (wpAny_pure (wpAny_pure ?_))))))
 replace o5:IsPair g5 b x y:=o5
 refine wpAny_bind (wpAny_seqItems o5 rfl (wpAny_bind (wpAny_newTuple ?_)))
 have sz:g5.objs.size=s.heap.objs.size:=by rw[e5.1,e4.1,e3.1,e2.1,e1.1]
 have z5:IsZip g5 z a b .ellipsis:=e5.extBut _ _ D.bz.symm (e4.extBut _ _ D.jz.symm (e3.extBut _ _ D.bz.symm (e2.extBut _ _ D.iz.symm z1)))
 have kp:∀ c o,c≠z→c≠b→c≠i→c≠j→s.heap.get? c=some o→g5.get? c=some o:=fun c o c1 c2 c3 c4 e=>e5.extBut _ _ c2 (e4.extBut _ _ c4 (e3.extBut _ _ c2 (e2.extBut _ _ c3 (e1.extBut _ _ c1 e))))
 have i5:g5.IsTupleIter i t (k+1):=((i2.extBut e3.extBut D.bi.symm).extBut e4.extBut D.ij).extBut e5.extBut D.bi.symm
 have j5:g5.IsTupleIter j u (k+1):=j4.extBut e5.extBut D.bj.symm
 have lz:=d5 z5
 show wpAny _ _ (Builtin.SmallTypes.ownedTupleHandOut (.ref z) (.ref g5.objs.size) >>= _) _ _ _
 unfold Builtin.SmallTypes.ownedTupleHandOut
 have z6:IsZip (g5.push { cls:=.type "tuple",data:=.seq #[x,y] }) z a b .ellipsis:=b6 _ z5
 refine wpAny_bind (wpAny_bind (wpAny_setField_rec z6 (by simp) fun g7 z7 e7=>?_))
 replace z7:IsZip g7 z a b (rawInt g5.objs.size):=z7
 refine wpAny_setField_rec z7 (by simp) fun g8 z8 e8=>wpAny_pure ⟨_,rfl,?_⟩
 replace z8:IsZip g8 z a b (rawInt g5.objs.size):=z8
 have up:∀ c o,c≠z→g5.get? c=some o→g8.get? c=some o:=fun c o c1 e=>e8.extBut _ _ c1 (e7.extBut _ _ c1 (b6 _ e))
 have T8:IsPair g8 g5.objs.size x y:=e8.extBut _ _ (aQU lz) (e7.extBut _ _ (aQU lz) (d9 _ rfl))
 have n8:g8.objs.size=g5.objs.size+1:=by rw[e8.1,e7.1,y3]
 show Q (.ref g5.objs.size) _
 rw[sz] at z8 T8 n8 ⊢
 obtain⟨oi,goi,ri⟩:=i5
 obtain⟨oj,goj,rj⟩:=j5
 exact hQ g8 ⟨z8,up _ _ D.az (kp _ _ D.az D.ab D.ai D.aj hI),⟨x,y,up _ _ D.bz o5⟩,⟨oi,up _ _ D.iz goi,ri⟩,⟨oj,up _ _ D.jz goj,rj⟩⟩ T8 n8 fun c o c1 c2 c3 c4 e=>up c o c1 (kp c o c1 c2 c3 c4 e)
theorem Dj{z a b i j t u:Addr}{k:Nat}{xs ys:Array Value}{Q:Fin→Shared→Prop}(hh:A.handled=none)(D:ZApart z a b i j t u)(S:ZSt s.heap z a b i j t u k .none)
  (ht:s.heap.IsTuple t xs) (hu:s.heap.IsTuple u ys) (hn:xs[k]?=none∨ys[k]?=none)
  (hE:∀ g e,(∀ c o,c≠z→c≠b→c≠i→c≠j→s.heap.get? c=some o→g.get? c=some o)→(∃ o,g.get? e=some o∧o.cls=.type "StopIteration")→E (.ref e) { s with heap:=g }) :
  wpAny (model prog w) A (Builtin.«zip.__next__» ⟨[.ref z],[]⟩) Q E s:=by
 obtain⟨hz,hI,⟨p,q,hO⟩,h1,h2⟩:=S
 show wpAny _ _ (field (.ref z) 2 >>= _) _ _ _
 refine wpAny_bind (wpAny_field hz rfl (x:=.bool false) rfl ?_)
 show wpAny _ _ (field (.ref z) 3 >>= _) _ _ _
 refine wpAny_bind (wpAny_field hz rfl (x:=.ref a) rfl (wpAny_bind (wpAny_seqItems hI rfl ?_)))
 show wpAny _ _ (Builtin.SmallTypes.ownedTupleIsFree (.ref z) >>= _) _ _ _
 unfold Builtin.SmallTypes.ownedTupleIsFree
 refine wpAny_bind (wpAny_bind (wpAny_field hz rfl (x:=.none) rfl (wpAny_pure ?_)))
 simp only [if_true]
 refine wpAny_bind (wpAny_rule (wpAny_bind (wpAny_field hz rfl (x:=.ref b) rfl (wpAny_bind (wpAny_setField_rec hz (by simp) fun g1 z1 e1=>?_)))))
 replace z1:IsZip g1 z a b .ellipsis:=z1
 refine wpAny_bind ?_
 simp only [aZG,aJg,aXM,aXm]
 refine wpAny_bind (wpAny_bind (wpAny_onRaise ?_))
 show wpAny _ _ (Builtin.SmallTypes.nextOf (.ref i) >>= _) _ _ _
 cases hx:xs[k]? with
 | none =>
  refine wpAny_bind (oJ hh (h1.extBut e1.extBut D.iz) (ht.extBut e1.extBut D.tz) hx fun g2 e e2 he=>?_)
  obtain⟨oe,goe,ce⟩:=he
  have z2:IsZip g2 z a b .ellipsis:=e2 _ _ D.iz.symm z1
  have ne:e≠z:=fun c=>by subst c;rw[z2] at goe;cases goe;simp at ce
  exact wpAny_setField_rec z2 (by simp) fun g3 _ e3=>hE g3 e (fun c o c1 _ c3 _ v=>e3.extBut _ _ c1 (e2 _ _ c3 (e1.extBut _ _ c1 v))) ⟨oe,e3.extBut _ _ ne goe,ce⟩
 | some x =>
  have hy:ys[k]?=none:=by
   rcases hn with h | h
   ·rw[hx] at h;cases h
   ·exact h
  refine wpAny_bind (iW (h1.extBut e1.extBut D.iz) (ht.extBut e1.extBut D.tz) hx fun g2 i2 e2=>wpAny_pure ?_)
  have o2:IsPair g2 b p q:=e2.extBut _ _ D.bi (e1.extBut _ _ D.bz hO)
  refine wpAny_bind (wpAny_seqItems o2 rfl (wpAny_bind (wpAny_updateSeq_pair o2 fun g3 o3 e3=>wpAny_bind (wpAny_letGo (wpAny_pure ?_)))))
  refine wpAny_bind (wpAny_bind (wpAny_onRaise ?_))
  show wpAny _ _ (Builtin.SmallTypes.nextOf (.ref j) >>= _) _ _ _
  have j3:=((h2.extBut e1.extBut D.jz).extBut e2.extBut D.ij.symm).extBut e3.extBut D.bj.symm
  have u3:=((hu.extBut e1.extBut D.uz).extBut e2.extBut D.ui).extBut e3.extBut D.ub
  refine wpAny_bind (oJ hh j3 u3 hy fun g4 e e4 he=>?_)
  obtain⟨oe,goe,ce⟩:=he
  have z4:IsZip g4 z a b .ellipsis:=e4 _ _ D.jz.symm (e3.extBut _ _ D.bz.symm (e2.extBut _ _ D.iz.symm z1))
  have ne:e≠z:=fun c=>by subst c;rw[z4] at goe;cases goe;simp at ce
  exact wpAny_setField_rec z4 (by simp) fun g5 _ e5=>hE g5 e (fun c o c1 c2 c3 c4 v=>e5.extBut _ _ c1 (e4 _ _ c4 (e3.extBut _ _ c2 (e2.extBut _ _ c3 (e1.extBut _ _ c1 v))))) ⟨oe,e5.extBut _ _ ne goe,ce⟩
theorem Ar{z a b i j t u:Addr}{k:Nat}{xs ys:Array Value}{x y:Value}{Q:Option Value→Shared→Prop}(D:ZApart z a b i j t u)(S:ZSt s.heap z a b i j t u k .none)
  (ht:s.heap.IsTuple t xs) (hu:s.heap.IsTuple u ys) (hx:xs[k]?=some x) (hy:ys[k]?=some y)
  (hQ:∀ g,ZSt g z a b i j t u (k+1) (rawInt s.heap.objs.size)→IsPair g s.heap.objs.size x y→g.objs.size=s.heap.objs.size+1→(∀ c o,c≠z→c≠b→c≠i→c≠j→s.heap.get? c=some o→g.get? c=some o)→Q (some (.ref s.heap.objs.size)) { s with heap:=g }) :
  wpAny (model prog w) A (pyNext (.ref z)) Q E s:=by
 have hT:s.TypeIs (.ref z) "zip":=⟨_,S.zip,rfl⟩
 unfold pyNext
 exact wpAny_bind (wpAny_attempt (wpAny_callSpecial?_slot (name:=Str.ofString "__next__") hT aX7 (wpAny_call_entry aX7 hT aJ7 (Cn D S ht hu hx hy fun g b1 b2 b3 b4=>wpAny_pure (hQ g b1 b2 b3 b4)) (aJO _))))
theorem Ch{z a b i j t u:Addr}{k:Nat}{xs ys:Array Value}{Q:Option Value→Shared→Prop}(hh:A.handled=none)(D:ZApart z a b i j t u)(S:ZSt s.heap z a b i j t u k .none)
  (ht:s.heap.IsTuple t xs) (hu:s.heap.IsTuple u ys) (hn:xs[k]?=none∨ys[k]?=none)
  (hQ:∀ g,(∀ c o,c≠z→c≠b→c≠i→c≠j→s.heap.get? c=some o→g.get? c=some o)→Q none { s with heap:=g }):wpAny (model prog w) A (pyNext (.ref z)) Q E s:=by
 have hT:s.TypeIs (.ref z) "zip":=⟨_,S.zip,rfl⟩
 unfold pyNext
 refine wpAny_bind (wpAny_attempt (wpAny_callSpecial?_slot (name:=Str.ofString "__next__") hT aX7 (wpAny_call_entry aX7 hT aJ7 (Dj hh D S ht hu hn fun g e kp he=>?_) (aJO _))))
 obtain⟨o,go,co⟩:=he
 exact wpAny_bind (wpAny_isInstance (T:="StopIteration") (b:=true) ⟨o,go,co⟩ isSubtype_stop (wpAny_pure (hQ _ kp)))
end
abbrev Mz(h:Heap)(t:Addr):Heap:=h.push { cls:=.type "tuple_iterator",data:=.fields #[.ref t,.int 0 0] }
abbrev Mv(h:Heap)(t u:Addr):Heap:=(Mz h t).push { cls:=.type "tuple_iterator",data:=.fields #[.ref u,.int 0 0] }
abbrev Mt(h:Heap)(t u:Addr):Heap:=(Mv h t u).push { cls:=.type "tuple",data:=.seq #[.ref h.objs.size,.ref (Mz h t).objs.size] }
abbrev Mw(h:Heap)(t u:Addr):Heap:=(Mt h t u).push { cls:=.type "tuple",data:=.seq #[.none,.none] }
abbrev Km(h:Heap)(t u:Addr):Heap:=(Mw h t u).push { cls:=.type "zip",data:=.fields #[.none,.bool false,.bool false,.ref (Mv h t u).objs.size,.ref (Mt h t u).objs.size] }
theorem AY(t u:Addr)(xs ys:Array Value) :
  Meets (Builtin.«zip.__new__» ⟨[.type "zip",.ref t,.ref u],[]⟩) (fun _ R s=>s.heap.IsTuple t xs∧s.heap.IsTuple u ys∧R (.ok (.ret (.ref (Mw s.heap t u).objs.size))) { s with heap:=Km s.heap t u }) :=
 .of_wp fun prog w A R s h=>by
  obtain⟨hp,g,d,tk,os⟩:=s
  obtain⟨ht,hu,h⟩:=h
  have hsub:=sub_zip
  have hL1:Heap.IsTuple (Shared.heap ⟨hp,g,d,tk,os⟩) t xs:=ht
  have hL2:Heap.IsTuple (Shared.heap ⟨hp.push { cls:=.type "tuple_iterator",data:=.fields #[.ref t,.int 0 0] },g,d,tk,os⟩) u ys:=aK7 hu _
  wp_walk using wpAny_pyIter_tuple hL1,wpAny_pyIter_tuple hL2
  exact⟨_,rfl,h⟩
end PySem
namespace L2
open PySem PySem.Spec PyProof.Rows
section
variable {X:Cx}{pins:List (Addr×Obj)}{σ:St}{H:Hp}{s:Shared}{h':Heap}
theorem Inv.turnedN{t':Nat}{ch:List Addr}{a:Addr}{xs:List V}(I:Inv X pins σ H s)(k:∀ b o,b ∉ ch→s.heap.get? b=some o→h'.get? b=some o)(hf:∀ b∈ch,gQ X pins H b)(ha:s.heap.objs.size≤a)
  (new:ObjOk X.prog X.w (upd H a (.tup xs)) h' a (.tup xs)):Inv X pins σ (upd H a (.tup xs)) { s with heap:=h',toks:=t' }:=by
 have hn:H a=none:=I.hok.fresh ha
 have un:∀ {b u},H b=some u→upd H a (.tup xs) b=some u:=fun e=>by rw[aE (aJ e hn)];exact e
 have nch:∀ {b u},H b=some u→b ∉ ch:=fun e hb=>by rw[(hf _ hb).1] at e;cases e
 refine I.step (g':=s.gens) (d':=s.drawn) (ch:=ch) (fun b hb=>?_) (fun b o _ _ hc e _=>k b o hc e) (fun b o _ _ hc e _=>⟨o.slots,k b o hc e⟩) (fun b o _ e n=>?_) (fun b o hc e=>⟨o,k b o hc e⟩) (fun _ _ e=>un e) (fun _ _ _ e=>un e)
  (fun b ps e=>⟨#[],by rw[un e];simp⟩) (fun m hm=>?_) (fun b u e=>?_) I.bare
 ·obtain⟨f0,f1,f2,f3,f4,f5⟩:=hf b hb
  exact⟨f3,f1,f4,f5⟩
 ·rw[aE (d8 (m6 (d5 e) ha))]
  exact n
 ·obtain⟨o,es,ep,ho,r⟩:=hm
  exact⟨o,es,ep,k _ o (fun hb=>(hf _ hb).2.1 rfl) ho,r⟩
 ·by_cases hb:b=a
  ·subst hb
   rw[aB] at e
   cases e
   exact new
  ·rw[aE hb] at e
   refine(I.hok b u e).stay (fun c v hc q=>k c v ?_ q) (fun c q=>un q) fun c ys q=>un q
   rcases hc with z | z
   ·rw[z];exact nch e
   ·exact nch z
theorem Inv.turnedM{t':Nat}{ch:List Addr}(I:Inv X pins σ H s)(k:∀ b o,b ∉ ch→s.heap.get? b=some o→h'.get? b=some o)(hf:∀ b∈ch,gQ X pins H b):Inv X pins σ H { s with heap:=h',toks:=t' }:=by
 have nch:∀ {b u},H b=some u→b ∉ ch:=fun e hb=>by rw[(hf _ hb).1] at e;cases e
 refine I.step (g':=s.gens) (d':=s.drawn) (ch:=ch) (fun b hb=>?_) (fun b o _ _ hc e _=>k b o hc e) (fun b o _ _ hc e _=>⟨o.slots,k b o hc e⟩) (fun b o _ e n=>n) (fun b o hc e=>⟨o,k b o hc e⟩) (fun _ _ e=>e) (fun _ _ _ e=>e)
  (fun b ps e=>⟨#[],by rw[e];simp⟩) (fun m hm=>?_) (fun b u e=>?_) I.bare
 ·obtain⟨f0,f1,f2,f3,f4,f5⟩:=hf b hb
  exact⟨f3,f1,f4,f5⟩
 ·obtain⟨o,es,ep,ho,r⟩:=hm
  exact⟨o,es,ep,k _ o (fun hb=>(hf _ hb).2.1 rfl) ho,r⟩
 ·refine(I.hok b u e).stay (fun c v hc q=>k c v ?_ q) (fun c q=>q) fun c ys q=>q
  rcases hc with z | z
  ·rw[z];exact nch e
  ·exact nch z
end
def KO(K:b5)(t u:Addr):It :=
 ⟨fun i H=>∃ xs ys x y,SqT K H t xs∧SqT K H u ys∧xs[i]?=some x∧ys[i]?=some y,
  fun i H v H'=>∃ p x y,v=.ref p∧H p=none∧H'=upd H p (.tup [x,y])∧∀ xs ys,SqT K H t xs→SqT K H u ys→xs[i]?=some x∧ys[i]?=some y,
  fun i H=>∃ xs ys,SqT K H t xs∧SqT K H u ys∧(xs.length≤i∨ys.length≤i)⟩
theorem Dz{P:Program}{w:World}{K:b5}{es:List Expr}{x1}{pos:Pos}(z a b i j t u:Addr)(D:ZApart z a b i j t u):Turn P w K (.Tuple es x1 pos) (KO K t u) [z,a,b,i,j] z (fun k h=>ZSt h z a b i j t u k .none) where
 mem:=by simp
 obj:=fun k h st c hc=>by
  obtain⟨p,q,ho⟩:=st.own
  obtain⟨o1,g1,c1,d1⟩:=st.one
  obtain⟨o2,g2,c2,d2⟩:=st.two
  simp only [d3,l8,or_false] at hc
  rcases hc with rfl | rfl | rfl | rfl | rfl
  ·exact⟨_,st.zip,fun v e=>by cases e⟩
  ·exact⟨_,st.its,fun v e=>by cases e⟩
  ·exact⟨_,ho,fun v e=>by cases e⟩
  ·exact⟨o1,g1,fun v e=>by rw[d1] at e;cases e⟩
  ·exact⟨o2,g2,fun v e=>by rw[d2] at e;cases e⟩
 keep:=fun k h h' st kp=>st.at kp
 item:=by
  intro X hP hw hK hc k pins s σ H E I hf st hg
  subst hP hw hK
  obtain⟨xs,ys,x,y,hq1,hq2,hx,hy⟩:=hg
  obtain⟨v1,r1,p1,_⟩:=I.tuple hq1
  obtain⟨v2,r2,p2,_⟩:=I.tuple hq2
  obtain⟨ux,hux,rux⟩:=r1.get hx
  obtain⟨uy,huy,ruy⟩:=r2.get hy
  refine Ar D st (show s.heap.IsTuple t v1.toArray from p1) (show s.heap.IsTuple u v2.toArray from p2) (x:=ux) (y:=uy) (by simpa using hux) (by simpa using huy) fun g S1 hT hn kp=>⟨_,rfl,?_⟩
  refine wpAny_letOwnedTupleGo_zip S1.zip fun g2 z2 e2=>?_
  have kp2:∀ c o,c≠z→c≠b→c≠i→c≠j→s.heap.get? c=some o→g2.get? c=some o:=fun c o c1 c2 c3 c4 e=>(e2.2 c c1).trans (kp c o c1 c2 c3 c4 e)
  have nz:s.heap.objs.size≠z:=aQU (d5 st.zip)
  have hT2:IsPair g2 s.heap.objs.size ux uy:=(e2.2 _ nz).trans hT
  have hsub:∀ c∈[z,b,i,j],gQ X pins H c:=fun c hc=>hf c (by
   simp only [d3,l8,or_false] at hc ⊢
   rcases hc with h | h | h | h <;> simp[h])
  have kpn:∀ c o,c ∉ [z,b,i,j]→s.heap.get? c=some o→g2.get? c=some o:=fun c o hn e=>kp2 c o (fun q=>hn (by simp[q])) (fun q=>hn (by simp[q])) (fun q=>hn (by simp[q])) (fun q=>hn (by simp[q])) e
  have hHn:H s.heap.objs.size=none:=I.hok.fresh (b9 _)
  refine⟨.ref s.heap.objs.size,upd H s.heap.objs.size (.tup [x,y]),?_,rfl,⟨_,x,y,rfl,hHn,rfl,fun xs' ys' h1 h2=>by rw[I.tuple_inj h1 hq1,I.tuple_inj h2 hq2];exact⟨hx,hy⟩⟩,?_,fun c hc=>?_⟩
  ·exact I.turnedN (t':=s.toks) (h':=g2) kpn hsub (b9 _) ⟨by show 2≤sizeLine;decide,[ux,uy],.cons rux (.cons ruy .nil),⟨_,hT2,rfl,0,rfl⟩,⟨_,hT2,rfl⟩⟩
  ·obtain⟨p,q,ho⟩:=S1.own
   obtain⟨o1,g1,d1⟩:=S1.one
   obtain⟨o2,gg2,d2⟩:=S1.two
   exact⟨z2,(e2.2 _ D.az).trans S1.its,⟨p,q,(e2.2 _ D.bz).trans ho⟩,⟨o1,(e2.2 _ D.iz).trans g1,d1⟩,⟨o2,(e2.2 _ D.jz).trans gg2,d2⟩⟩
  ·have hce:c≠s.heap.objs.size:=by
    obtain⟨p,q,ho⟩:=st.own
    obtain⟨o1,g1,_⟩:=st.one
    obtain⟨o2,g2',_⟩:=st.two
    simp only [d3,l8,or_false] at hc
    rcases hc with rfl | rfl | rfl | rfl | rfl
    ·exact d8 (d5 st.zip)
    ·exact d8 (d5 st.its)
    ·exact d8 (d5 ho)
    ·exact d8 (d5 g1)
    ·exact d8 (d5 g2')
   rw[aE hce]
   exact(hf c hc).1
 done:=by
  intro X hP hw hK hc k pins s σ H E I hf st hg
  subst hP hw hK
  obtain⟨xs,ys,hq1,hq2,hn⟩:=hg
  obtain⟨v1,r1,p1,_⟩:=I.tuple hq1
  obtain⟨v2,r2,p2,_⟩:=I.tuple hq2
  have l1:=r1.length
  have l2:=r2.length
  refine Ch (I.ok.hd hc) D st (show s.heap.IsTuple t v1.toArray from p1) (show s.heap.IsTuple u v2.toArray from p2) (by
   rcases hn with h | h
   ·exact .inl (by simp;omega)
   ·exact .inr (by simp;omega)) fun g kp=>⟨rfl,?_⟩
  refine I.turnedM (t':=s.toks) (ch:=[z,b,i,j]) (fun c o hn e=>kp c o (fun q=>hn (by simp[q])) (fun q=>hn (by simp[q])) (fun q=>hn (by simp[q])) (fun q=>hn (by simp[q])) e) fun c hc=>hf c ?_
  simp only [d3,l8,or_false] at hc ⊢
  rcases hc with h | h | h | h <;> simp[h]
 self:=fun A k s Q E st h=>wpAny_pyIter_zip st.zip h
section
variable {X:Cx}
theorem NL(n t u:Nat)(h1:t<n)(h2:u<n):ZApart (n+4) (n+2) (n+3) n (n+1) t u :=
 ⟨(by omega:(n+2:Nat)≠n+4),(by omega:(n+3:Nat)≠n+4),(by omega:(n:Nat)≠n+4),(by omega:(n+1:Nat)≠n+4),(by omega:(n+2:Nat)≠n+3),(by omega:(n+2:Nat)≠n),(by omega:(n+2:Nat)≠n+1),(by omega:(n+3:Nat)≠n),(by omega:(n+3:Nat)≠n+1),(by omega:(n:Nat)≠n+1),
  (by omega:(t:Nat)≠n+4),(by omega:(t:Nat)≠n+3),(by omega:(t:Nat)≠n),(by omega:(t:Nat)≠n+1),(by omega:(u:Nat)≠n+4),(by omega:(u:Nat)≠n+3),(by omega:(u:Nat)≠n),(by omega:(u:Nat)≠n+1)⟩
def MM(K:b5)(ta:TA):TI:=fun σ H R=>ta σ H fun vs H1=>∃ t u,vs=[.ref t,.ref u]∧(∃ xs,SqT K H1 t xs)∧(∃ ys,SqT K H1 u ys)∧R (KO K t u) H1
theorem Cv{pins:List (Addr×Obj)}{σ:St}{H:Hp}{s:Shared}{t u:Addr}{xs ys:Array Value}{Q:Value→Shared→Prop}{E:Value→Shared→Prop}(ht:s.heap.IsTuple t xs)(hu:s.heap.IsTuple u ys)
  (h:∀ g,ZSt g (s.heap.objs.size+4) (s.heap.objs.size+2) (s.heap.objs.size+3) s.heap.objs.size (s.heap.objs.size+1) t u 0 .none→(∀ c o,s.heap.get? c=some o→g.get? c=some o)→Q (.ref (s.heap.objs.size+4)) { s with heap:=g }) :
  wpAny (model X.prog X.w) X.A (call (.type "zip") [.ref t,.ref u]) Q E s:=by
 refine callType_new F.called_zip (by decide) (F.typeCall_zip_2 _ _) (F.newCall_zip_2 _ _) (fun obj=>F.args_object_init_3 obj _ _) F.entry_zip_new (AY t u xs ys) ⟨ht,hu,?_⟩
 have n1:(Mz s.heap t).objs.size=s.heap.objs.size+1:=y3 ..
 have n2:(Mv s.heap t u).objs.size=s.heap.objs.size+2:=by rw[y3,n1]
 have n3:(Mt s.heap t u).objs.size=s.heap.objs.size+3:=by rw[y3,n2]
 have n4:(Mw s.heap t u).objs.size=s.heap.objs.size+4:=by rw[y3,n3]
 have g5:(Km s.heap t u).get? (Mw s.heap t u).objs.size=some _:=d9 _ rfl
 have g4:(Km s.heap t u).get? (Mt s.heap t u).objs.size=some _:=b6 _ (d9 _ rfl)
 have g3:(Km s.heap t u).get? (Mv s.heap t u).objs.size=some _:=b6 _ (b6 _ (d9 _ rfl))
 have g2:(Km s.heap t u).get? (Mz s.heap t).objs.size=some _:=b6 _ (b6 _ (b6 _ (d9 _ rfl)))
 have g1:(Km s.heap t u).get? s.heap.objs.size=some _:=b6 _ (b6 _ (b6 _ (b6 _ (d9 _ rfl))))
 show _∧_
 rw[n2,n3,n4] at g5
 rw[n1,n2] at g3
 rw[n3] at g4
 rw[n1] at g2
 rw[n4]
 exact⟨⟨_,g5,rfl⟩,h _ ⟨g5,g3,⟨_,_,g4⟩,⟨_,g1,rfl,rfl⟩,⟨_,g2,rfl,rfl⟩⟩ fun c o e=>b6 _ (b6 _ (b6 _ (b6 _ (b6 _ e))))⟩
theorem Ji{es:List Expr}{x1}{tpos:Pos}{a b:Expr}{ta:TA}{p pos:Pos}{K:b5}(hK:X.K=K)(hg:Gl X "zip")(hm:X.mg "zip"=none)(ha:PA X [a,b] ta)(hs:starEach [a,b] X.env=[(false,eval a X.env),(false,eval b X.env)]:=by rfl)(hs2:starEach [b] X.env=[(false,eval b X.env)]:=by rfl) :
  PI X (.Tuple es x1 tpos) (.Call (.Name "zip" p) [a,b] [] pos) (MM K ta):=by
 subst hK
 intro pins s σ H R I h
 refine Call_ (iK I hg hm boot_zip (x9 (bS (ha pos pins s σ H _ I h) fun us s1 ⟨vs,H1,I1,r1,q1⟩=>?_) (by rw[hs,hs2]) (by rw[hs2];rfl)))
 obtain⟨t,u,e,⟨xs,hx⟩,⟨ys,hy⟩,q⟩:=q1
 subst e
 obtain⟨v1,v2,rfl,rv1,rv2⟩:=LJ r1
 cases rv1
 cases rv2
 obtain⟨w1,rw1,p1,_⟩:=I1.tuple hx
 obtain⟨w2,rw2,p2,_⟩:=I1.tuple hy
 have lt:t<s1.heap.objs.size:=by obtain⟨o,e,_⟩:=p1;exact d5 e
 have lu:u<s1.heap.objs.size:=by obtain⟨o,e,_⟩:=p2;exact d5 e
 refine Cv (pins:=pins) (σ:=σ) (H:=H1) (show s1.heap.IsTuple t w1.toArray from p1) (show s1.heap.IsTuple u w2.toArray from p2) fun g st kp=>?_
 have I2:Inv X pins σ H1 { s1 with heap:=g }:=I1.kept (t':=s1.toks) kp
 have D:ZApart (s1.heap.objs.size+4) (s1.heap.objs.size+2) (s1.heap.objs.size+3) s1.heap.objs.size (s1.heap.objs.size+1) t u:=by
  exact NL _ t u lt lu
 refine wpAny_pyIter_zip st.zip ⟨s1.heap.objs.size+4,[s1.heap.objs.size+4,s1.heap.objs.size+2,s1.heap.objs.size+3,s1.heap.objs.size,s1.heap.objs.size+1],_,_,H1,rfl,I2,Dz _ _ _ _ _ t u D,st,fun c hc=>?_,q⟩
 have hle:s1.heap.objs.size≤c:=by
  simp only [d3,l8,or_false] at hc
  rcases hc with h | h | h | h | h <;> rw[h]
  ·exact aQN _ _
  ·exact aQN _ _
  ·exact aQN _ _
  ·exact b9 _
  ·exact aQN _ _
 exact I1.fpOk hle (I1.hok.fresh hle)
end
theorem Ga{K:b5}{t u:Addr}{xs ys:List V}{g:TG}{tb:TS}{D:Ends}{σ:St}{H:Hp}(Pv:Nat→St→Hp→Prop)(h0:Pv 0 σ H)(hl:∀ i σ H,i≤min xs.length ys.length→Pv i σ H→SqT K H t xs∧SqT K H u ys)
  (hs:∀ i x y p σ H,xs[i]?=some x→ys[i]?=some y→H p=none→Pv i σ H→g (.ref p) σ (upd H p (.tup [x,y])) fun σ2 H2=>tb { D with nx:=Pv (i+1),ct:=Pv (i+1),bk:=D.nx } σ2 H2) (hd:∀ σ H,Pv (min xs.length ys.length) σ H→D.nx σ H) :
  ∃ W:Nat→Nat→St→Hp→Prop,(∃ m,W 0 m σ H)∧∀ i m σ H,W i m σ H →
   ((KO K t u).stop i H∧D.nx σ H)∨((KO K t u).go i H∧∃ N:St→Hp→Prop,(∀ σ' H',N σ' H'→∃ m',m' < m∧W (i+1) m' σ' H')∧∀ x H',(KO K t u).yld i H x H'→g x σ H' fun σ2 H2=>tb { D with nx:=N,ct:=N,bk:=D.nx } σ2 H2):=by
 refine⟨fun i m σ H=>m=min xs.length ys.length - i∧i≤min xs.length ys.length∧Pv i σ H,⟨_,rfl,l9 _,h0⟩,?_⟩
 rintro i m σ H ⟨rfl,hi,p⟩
 obtain⟨q1,q2⟩:=hl i σ H hi p
 by_cases hlt:i<min xs.length ys.length
 ·have l1:i<xs.length:=by omega
  have l2:i<ys.length:=by omega
  refine .inr ⟨⟨xs,ys,xs[i],ys[i],q1,q2,by simp[l1],by simp[l2]⟩,Pv (i+1),fun σ' H' p'=>⟨min xs.length ys.length - (i+1),by omega,rfl,hlt,p'⟩,fun v H' hv=>?_⟩
  obtain⟨pp,x,y,rfl,hn,rfl,hxy⟩:=hv
  obtain⟨ex,ey⟩:=hxy xs ys q1 q2
  exact hs i x y pp σ H ex ey hn p
 ·have e:i=min xs.length ys.length:=by omega
  subst e
  refine .inl ⟨⟨xs,ys,q1,q2,?_⟩,hd σ H p⟩
  rcases Nat.le_total xs.length ys.length with h | h
  ·exact .inl (by omega)
  ·exact .inr (by omega)
section
variable {κ:Type}[DecidableEq κ]
def cZ(kvs:List (κ×V))(k:κ):Option V:=(kvs.find? fun kv=>decide (kv.1=k)).map (·.2)
def dE(kvs:List (κ×V))(k:κ)(v:V):List (κ×V) :=
 if (kvs.any fun kv=>decide (kv.1=k))=true then kvs.map (fun kv=>if kv.1=k then (kv.1,v) else kv) else kvs++[(k,v)]
theorem dJ{p:κ×V}{r:List (κ×V)}{k:κ}(e:p.1=k):cZ (p::r) k=some p.2:=by simp[cZ,aQo,e]
theorem dL{p:κ×V}{r:List (κ×V)}{k:κ}(e:¬ p.1=k):cZ (p::r) k=cZ r k:=by simp[cZ,aQo,e]
theorem jS(k:κ):∀ kvs:List (κ×V),(kvs.any fun kv=>decide (kv.1=k))=(cZ kvs k).isSome
 | []=>rfl
 | p::r=>by
  rw[aXW]
  by_cases e:p.1=k
  ·simp only [dJ e,decide_eq_true e,Bool.true_or,Option.isSome_some]
  ·rw[dL e,decide_eq_false e,Bool.false_or];exact jS k r
theorem yX(k j:κ)(y:V):∀ kvs:List (κ×V),cZ (kvs.map fun kv=>if kv.1=k then (kv.1,y) else kv) j=(cZ kvs j).map fun x=>if j=k then y else x
 | []=>rfl
 | p::r=>by
  have ih:=yX k j y r
  rw[i8]
  by_cases h:p.1=k
  ·rw[if_pos h]
   by_cases e:p.1=j
   ·rw[dJ (p:=(p.1,y)) e,dJ e,y6,if_pos (e.symm.trans h)]
   ·rw[dL (p:=(p.1,y)) e,dL e,ih]
  ·rw[if_neg h]
   by_cases e:p.1=j
   ·rw[dJ (p:=p) e,dJ e,y6,if_neg (fun z=>h (e.trans z))]
   ·rw[dL (p:=p) e,dL e,ih]
theorem tK(k j:κ)(y:V):∀ kvs:List (κ×V),cZ kvs k=none→cZ (kvs++[(k,y)]) j=if j=k then some y else cZ kvs j
 | [],_=>by
  by_cases e:k=j
  ·rw[if_pos e.symm];exact dJ (p:=(k,y)) e
  ·rw[if_neg (fun z=>e z.symm)];exact dL (p:=(k,y)) e
 | p::r,hn=>by
  rw[List.cons_append]
  have hk:¬ p.1=k:=fun z=>by rw[dJ z] at hn;cases hn
  rw[dL hk] at hn
  have ih:=tK k j y r hn
  by_cases e:p.1=j
  ·rw[dJ e,dJ e,if_neg (fun z=>hk (e.trans z))]
  ·rw[dL e,dL e,ih]
theorem Fe(kvs:List (κ×V))(k j:κ)(y:V):cZ (dE kvs k y) j=if j=k then some y else cZ kvs j:=by
 unfold dE
 by_cases a:(kvs.any fun kv=>decide (kv.1=k))=true
 ·rw[if_pos a,yX]
  rw[jS] at a
  by_cases e:j=k
  ·obtain⟨x,hx⟩:=aQg.mp a
   rw[if_pos e,e,hx,y6,if_pos rfl]
  ·rw[if_neg e]
   cases cZ kvs j with
   | none=>rfl
   | some x=>rw[y6,if_neg e]
 ·rw[if_neg a]
  refine tK k j y kvs ?_
  rw[jS] at a
  cases q:cZ kvs k with
  | none=>rfl
  | some x=>rw[q] at a;exact(a rfl).elim
theorem cX(kvs:List (κ×V))(k:κ)(v:V):(dE kvs k v).length≤kvs.length+1:=by
 unfold dE
 split
 ·rw[b7];omega
 ·rw[c6,l7,aZY];omega
theorem wY{kvs:List (κ×V)}{k:κ}(v:V)(h:cZ kvs k=none):dE kvs k v=kvs++[(k,v)]:=by
 unfold dE
 rw[jS,h]
 exact if_neg (by decide)
theorem RelO.isSome_eq{o:Option V}{u:Option Value}(r:RelO o u):o.isSome=u.isSome:=by
 cases o with
 | none=>cases u with
  | none=>rfl
  | some _=>exact(show False from r).elim
 | some _=>cases u with
  | none=>exact(show False from r).elim
  | some _=>rfl
theorem RelO.getD{o:Option V}{u:Option Value}{d:V}{d':Value}(r:RelO o u)(rd:RelV d d'):RelV (o.getD d) (u.getD d'):=by
 cases o with
 | none=>cases u with
  | none=>exact rd
  | some _=>exact(show False from r).elim
 | some _=>cases u with
  | none=>exact(show False from r).elim
  | some _=>exact r
theorem KV.val{kvs:List (κ×V)}{vs:List (κ×Value)}(r:KV kvs vs)(k:κ):RelO (cZ kvs k) (valueAt vs k):=by
 unfold KV at r
 induction r with
 | nil=>exact True.intro
 | @cons p q ps qs h t ih =>
  obtain⟨h1,h2⟩:=h
  by_cases e:p.1=k
  ·have e':q.1=k:=h1.symm.trans e
   have b:valueAt (q::qs) k=some q.2:=by simp[valueAt,aQo,e']
   rw[dJ e,b];exact h2
  ·have e':¬ q.1=k:=fun z=>e (h1.trans z)
   have b:valueAt (q::qs) k=valueAt qs k:=by simp[valueAt,aQo,e']
   rw[dL e,b];exact ih
theorem KV.any{kvs:List (κ×V)}{vs:List (κ×Value)}(r:KV kvs vs)(k:κ):(kvs.any fun kv=>decide (kv.1=k))=vs.any fun kv=>decide (kv.1=k):=by
 unfold KV at r
 induction r with
 | nil=>rfl
 | cons h t ih=>rw[aXW,aXW,ih,h.1]
theorem KV.repl{kvs:List (κ×V)}{vs:List (κ×Value)}(r:KV kvs vs)(k:κ){y:V}{u:Value}(ry:RelV y u) :
  KV (kvs.map fun kv=>if kv.1=k then (kv.1,y) else kv) (vs.map fun kv=>if kv.1=k then (kv.1,u) else kv):=by
 unfold KV at r ⊢
 induction r with
 | nil=>exact .nil
 | @cons p q ps qs h t ih =>
  rw[i8,i8]
  refine .cons ?_ ih
  obtain⟨h1,h2⟩:=h
  by_cases e:p.1=k
  ·rw[if_pos e,if_pos (h1.symm.trans e)];exact⟨h1,ry⟩
  ·rw[if_neg e,if_neg (fun z=>e (h1.trans z))];exact⟨h1,h2⟩
theorem KV.put{kvs:List (κ×V)}{vs:List (κ×Value)}(r:KV kvs vs)(k:κ){y:V}{u:Value}(ry:RelV y u):KV (dE kvs k y) (stored vs k u):=by
 unfold dE stored
 rw[r.any k]
 by_cases e:(vs.any fun kv=>decide (kv.1=k))=true
 ·rw[if_pos e,if_pos e];exact r.repl k ry
 ·rw[if_neg e,if_neg e];exact aJY r ⟨rfl,ry⟩
theorem KV.length{kvs:List (κ×V)}{vs:List (κ×Value)}(r:KV kvs vs):kvs.length=vs.length:=aQk r
end
theorem oZ{P:Program}{w:World}{k:cQ}{u:Value}(r:RelV (kV k) u):(bO P w).is k u=true:=by
 cases k with
 | inl i=>obtain⟨t,e⟩:=(show ∃ t,u=Value.int i t from r);subst e;exact zE P w i t
 | inr x=>obtain⟨t,e⟩:=(show ∃ t,u=Value.str x t from r);subst e;exact yS P w x t
theorem tH{P:Program}{w:World}:∀ {ks:List cQ} {us:List Value},Vals (ks.map kV) us→ItemsAre (bO P w) ks us
 | [],_,r=>by rw[aXO] at r;cases r;exact .nil
 | k::ks,_,r=>by
  rw[i8] at r
  cases r with
  | cons h t=>exact .cons (oZ h) (tH t)
abbrev KT(H:Hp):List (List cQ×V)→List (List cQ×Addr×Value)→Prop:=Paired fun p q=>p.1=q.1∧H q.2.1=some (.tup (p.1.map kV))∧RelV p.2 q.2.2
theorem KT.val{H:Hp}{kvs:List (List cQ×V)}{xs:List (List cQ×Addr×Value)}(r:KT H kvs xs)(k:List cQ):RelO (cZ kvs k) ((atKey xs k).map (·.2)):=by
 induction r with
 | nil=>exact True.intro
 | @cons p q ps qs h t ih =>
  obtain⟨h1,_,h2⟩:=h
  by_cases e:p.1=k
  ·have e':q.1=k:=h1.symm.trans e
   have b:atKey (q::qs) k=some q.2:=by simp[atKey,aQo,e']
   rw[dJ e,b];exact h2
  ·have e':¬ q.1=k:=fun z=>e (h1.trans z)
   have b:atKey (q::qs) k=atKey qs k:=by simp[atKey,aQo,e']
   rw[dL e,b];exact ih
theorem KT.repl{H:Hp}{kvs:List (List cQ×V)}{xs:List (List cQ×Addr×Value)}(r:KT H kvs xs)(k:List cQ){y:V}{u:Value}(ry:RelV y u) :
  KT H (kvs.map fun kv=>if kv.1=k then (kv.1,y) else kv) (xs.map (putAt k u)):=by
 induction r with
 | nil=>exact .nil
 | @cons p q ps qs h t ih =>
  rw[i8,i8]
  refine .cons ?_ ih
  obtain⟨h1,h2,h3⟩:=h
  unfold putAt
  by_cases e:p.1=k
  ·rw[if_pos e,if_pos (h1.symm.trans e)];exact⟨h1,h2,ry⟩
  ·rw[if_neg e,if_neg (fun z=>e (h1.trans z))];exact⟨h1,h2,h3⟩
theorem KT.put{H:Hp}{kvs:List (List cQ×V)}{xs:List (List cQ×Addr×Value)}(r:KT H kvs xs)(k:List cQ){b:Addr}{y:V}{u:Value}(hb:H b=some (.tup (k.map kV)))(ry:RelV y u) :
  KT H (dE kvs k y) (storedH xs k b u):=by
 have e:(kvs.any fun kv=>decide (kv.1=k))=(atKey xs k).isSome:=by
  rw[jS,(r.val k).isSome_eq,aJP]
 unfold dE storedH
 rw[e]
 by_cases q:(atKey xs k).isSome=true
 ·rw[if_pos q,if_pos q];exact r.repl k ry
 ·rw[if_neg q,if_neg q];exact aJY r ⟨rfl,hb,ry⟩
theorem KT.keeps{H H':Hp}{kvs:List (List cQ×V)}{xs:List (List cQ×Addr×Value)}(r:KT H kvs xs)(ht:∀ b ys,H b=some (.tup ys)→H' b=some (.tup ys)):KT H' kvs xs :=
 Paired.mapP r fun _ _ z=>⟨z.1,ht _ _ z.2.1,z.2.2⟩
section
variable {P:Program}{w:World}{H:Hp}{h:Heap}{a:Addr}
theorem Hx{u:HO}(ok:HOk P w H h)(e:Rd H a u):ObjOk P w H h a u:=e.ok ok
theorem qU{kvs:List (cQ×V)}(ok:HOk P w H h)(e:Rd H a (.dK kvs)):kvs.length≤sizeLine∧(a == sysModules)=false∧∃ vs,KV kvs vs∧h.DictOf (bO P w) a vs :=
 show ObjOk P w H h a (.dK kvs) from Hx ok e
theorem yD{kvs:List (cQ×V)}(ok:HOk P w H h)(e:H a=some (.dK kvs)):kvs.length≤sizeLine∧(a == sysModules)=false∧∃ vs,KV kvs vs∧h.DictOf (bO P w) a vs:=qU ok (.inl e)
theorem lJ{ks:List cQ}(ok:HOk P w H h)(e:H a=some (.tup (ks.map kV))):(tupleKind (bO P w)).is h ks a:=by
 obtain⟨_,its,r,⟨o,h1,h2,n,h3⟩,_⟩:=(show ObjOk P w H h a (.tup (ks.map kV)) from ok a _ e)
 exact⟨o,its.toArray,n,h1,h2,h3,by simpa using tH r⟩
theorem rC{kvs:List (List cQ×V)}(ok:HOk P w H h)(e:Rd H a (.dT kvs)):kvs.length≤sizeLine∧(a == sysModules)=false ∧
  ∃ xs,KT H kvs xs∧h.DictOfH (tupleKind (bO P w)) a xs:=by
 obtain⟨z,y,xs,r,o,es,ep,h1,h2,h3,h4,h5⟩:=(show ObjOk P w H h a (.dT kvs) from Hx ok e)
 refine⟨z,y,xs,r,o,es,ep,h1,h2,h3,h4,fun x hx=>?_,h5⟩
 have all:∀ {l:List (List cQ×V)} {m:List (List cQ×Addr×Value)},KT H l m→∀ x∈m,(tupleKind (bO P w)).is h x.1 x.2.1:=by
  intro l m q
  induction q with
  | nil=>intro x hx;exact nomatch hx
  | @cons p q ps qs hq t ih =>
   intro x hx
   rcases d3.mp hx with e | hx
   ·subst e
    exact lJ ok (by rw[← hq.1];exact hq.2.1)
   ·exact ih x hx
 exact all r x hx
theorem HM{kvs:List (List cQ×V)}(ok:HOk P w H h)(e:H a=some (.dT kvs)):kvs.length≤sizeLine∧(a == sysModules)=false ∧
  ∃ xs,KT H kvs xs∧h.DictOfH (tupleKind (bO P w)) a xs:=rC ok (.inl e)
end
def DGet(H:Hp)(a:Addr)(y:V)(r:Option V):Prop :=
 (∃ kvs k,Rd H a (.dK kvs)∧y=kV k∧r=cZ kvs k)∨∃ kvs k b,Rd H a (.dT kvs)∧y=.ref b∧H b=some (.tup (k.map kV))∧r=cZ kvs k
def DPut(H:Hp)(a:Addr)(y v:V)(H':Hp):Prop :=
 (∃ kvs k,H a=some (.dK kvs)∧y=kV k∧kvs.length<sizeLine∧H'=upd H a (.dK (dE kvs k v))) ∨
 ∃ kvs k b,H a=some (.dT kvs)∧y=.ref b∧H b=some (.tup (k.map kV))∧kvs.length<sizeLine∧H'=upd H a (.dT (dE kvs k v))
theorem DGet.k{H:Hp}{a:Addr}{kvs:List (cQ×V)}{k:cQ}(e:H a=some (.dK kvs)):DGet H a (kV k) (cZ kvs k):=.inl ⟨kvs,k,.inl e,rfl,rfl⟩
theorem DGet.t{H:Hp}{a b:Addr}{kvs:List (List cQ×V)}{k:List cQ}(e:H a=some (.dT kvs))(eb:H b=some (.tup (k.map kV))):DGet H a (.ref b) (cZ kvs k):=.inr ⟨kvs,k,b,.inl e,rfl,eb,rfl⟩
theorem DPut.k{H:Hp}{a:Addr}{kvs:List (cQ×V)}{k:cQ}{v:V}(e:H a=some (.dK kvs))(hl:kvs.length<sizeLine):DPut H a (kV k) v (upd H a (.dK (dE kvs k v))):=.inl ⟨kvs,k,e,rfl,hl,rfl⟩
theorem DPut.t{H:Hp}{a b:Addr}{kvs:List (List cQ×V)}{k:List cQ}{v:V}(e:H a=some (.dT kvs))(eb:H b=some (.tup (k.map kV)))(hl:kvs.length<sizeLine) :
  DPut H a (.ref b) v (upd H a (.dT (dE kvs k v))):=.inr ⟨kvs,k,b,e,rfl,eb,hl,rfl⟩
section
variable {X:Cx}{pins:List (Addr×Obj)}{σ:St}{H:Hp}{s:Shared}{a:Addr}{y v:V}{u r:Value}{o:Option V}{A:Around}{E:Value→Shared→Prop}
theorem Inv.big(I:Inv X pins σ H s):sysModules<s.heap.objs.size:=by
 have h:mainGlobals<s.heap.objs.size:=(I.mod.glob.keeps I.bk).lt
 exact Nat.lt_trans (by decide) h
theorem C4{Q:Value→Shared→Prop}(hu:A.units+1<cLine)(I:Inv X pins σ H s)(g:DGet H a y (some v))(ry:RelV y u)(h:∀ w' s',Inv X pins σ H s'→RelV v w'→Q w' s') :
  wpAny (model X.prog X.w) A (getItem (.ref a) u) Q E s:=by
 rcases g with ⟨kvs,k,e,ey,l⟩ | ⟨kvs,k,b,e,ey,eb,l⟩
 ·subst ey
  obtain⟨z,hd,vs,rel,dd⟩:=qU I.hok e
  obtain⟨w',hw,rw'⟩:=RelO.some_of (v:=v) (o:=valueAt vs k) (by rw[l];exact rel.val k)
  exact wpAny_getItem_of (oZ ry) dd.mapOf hw (h w' _ (I.tok _) rw')
 ·subst ey
  cases (show u=Value.ref b from ry)
  obtain⟨z,hd,xs,rel,dd⟩:=rC I.hok e
  obtain⟨w',hw,rw'⟩:=RelO.some_of (v:=v) (o:=(atKey xs k).map (·.2)) (by rw[l];exact rel.val k)
  obtain⟨p,hp,hp2⟩:=i6.mp hw
  refine wpAny_getItem_heap (tupleKind_room_in1 hu) (lJ I.hok eb) dd hp ?_
  rw[hp2]
  exact h w' _ (I.tok _) rw'
theorem Gm{Q:Value→Shared→Prop}(hu:A.units+1<cLine)(I:Inv X pins σ H s)(g:DGet H a y o)(ry:RelV y u)(h:∀ s',Inv X pins σ H s'→Q (.bool (!o.isSome)) s') :
  wpAny (model X.prog X.w) A (compareOp .NotIn u (.ref a)) Q E s:=by
 rcases g with ⟨kvs,k,e,ey,l⟩ | ⟨kvs,k,b,e,ey,eb,l⟩
 ·subst ey
  obtain⟨z,hd,vs,rel,dd⟩:=qU I.hok e
  refine wpAny_notIn_of (oZ ry) hd dd.mapOf ?_
  rw[← (rel.val k).isSome_eq,← l]
  exact h _ (I.tok _)
 ·subst ey
  cases (show u=Value.ref b from ry)
  obtain⟨z,hd,xs,rel,dd⟩:=rC I.hok e
  refine wpAny_notIn_heap (tupleKind_room_in1 hu) (lJ I.hok eb) hd dd ?_
  have q:=(rel.val k).isSome_eq
  rw[aJP] at q
  rw[← q,← l]
  exact h _ (I.tok _)
theorem mN{h':Heap}{t':Nat}{ob:HO}(I:Inv X pins σ H s)(mu:KC (H a))(hs:Heap.SameBut a s.heap h')(he:∃ q,h'.get? a=some q)(new:ObjOk X.prog X.w (upd H a ob) h' a ob) :
  Inv X pins σ (upd H a ob) { s with heap:=h',toks:=t' } :=
 I.write (x:=a) (e:=a) mu (.inl rfl) (fun b q hb z=>(hs.2 b hb).trans z) he new
theorem Ad{P:Program}{w:World}{H':Hp}{h':Heap}{kvs:List (cQ×V)}{vs:List (cQ×Value)}(z:kvs.length≤sizeLine)(hd:(a == sysModules)=false)(rel:KV kvs vs)(dd:h'.DictOf (bO P w) a vs) :
  ObjOk P w H' h' a (.dK kvs):=⟨z,hd,vs,rel,dd⟩
theorem Cf{H':Hp}{Q:Unit→Shared→Prop}(hu:A.units+1<cLine)(I:Inv X pins σ H s)(g:DPut H a y v H')(ry:RelV y u)(rv:RelV v r)(h:∀ s',Inv X pins σ H' s'→Q () s') :
  wpAny (model X.prog X.w) A (setItem (.ref a) u r) Q E s:=by
 rcases g with ⟨kvs,k,e,ey,l,eH⟩ | ⟨kvs,k,b,e,ey,eb,l,eH⟩
 ·subst ey eH
  obtain⟨z,hd,vs,rel,dd⟩:=yD I.hok e
  have hz:vs.length≤sizeLine:=by rw[← rel.length];exact z
  have hl:(dE kvs k v).length≤sizeLine:=by have:=cX kvs k v;omega
  refine wpAny_setItem_pairs (hsz:=hz) (oZ ry) dd fun h' dd' hs=>h _ ?_
  have he:∃ q,h'.get? a=some q:=let ⟨q,_,_,hq,_⟩:=dd';⟨q,hq⟩
  exact mN I (by rw[e];exact True.intro) hs he (Ad hl hd (rel.put k rv) dd')
 ·subst ey eH
  cases (show u=Value.ref b from ry)
  obtain⟨z,hd,xs,rel,dd⟩:=HM I.hok e
  have hz:xs.length≤sizeLine:=by rw[← aQk rel];exact z
  have hl:(dE kvs k v).length≤sizeLine:=by have:=cX kvs k v;omega
  refine wpAny_setItem_heap (hsz:=hz) (tupleKind_room_in1 hu) (lJ I.hok eb) dd fun h' dd' hs=>h _ ?_
  obtain⟨q,es,ep,hq,h2,h3,h4,_,h5⟩:=dd'
  refine mN I (by rw[e];exact True.intro) hs ⟨q,hq⟩ ⟨hl,hd,_,(rel.put k eb rv).keeps fun c ys ec=>?_,q,es,ep,hq,h2,h3,h4,h5⟩
  rw[aE (bY ec e (fun z=>nomatch z))]
  exact ec
end
def KY(i:Expr):Prop:=∀ ov iv,subscripted i false ov iv=operate [ov,iv] (getItem ov iv)
theorem GV{prog:Program}{w:World}{A:Around}{E:Value→Shared→Prop}{s:Shared}{env:Env}{value slice:Expr}{pos:Pos}{T id:String}{Q:Value→Shared→Prop}
  (hl:typeLookup (.type T) "__getitem__"=pure (some (.builtin id))) (hs:KY slice)
  (h:wpAny (model prog w) A (eval value env) (fun o s₁=>wpAny (model prog w) A (eval slice env) (fun i s₂=>s₂.TypeIs o T∧wpAny (model prog w) A (getItem o i) Q E s₂) E s₁) E s) :
  wpAny (model prog w) A (eval (.Subscript value slice pos) env) Q E s:=by
 refine Subscript_ (wpAny_mono h (fun o s₁ h₁=>wpAny_mono h₁ (fun i s₂ h₂=>?_) fun _ _ x=>x) fun _ _ x=>x)
 obtain⟨hT,h₂⟩:=h₂
 unfold subscriptTail
 refine wpAny_bind ?_
 rw[getitemInPython_of_ne hT.not_modules]
 refine wpAny_bind (wpAny_specialOf hT hl ?_)
 have fin:wpAny (model prog w) A (subscripted slice false o i) (fun r s₃=>wpAny (model prog w) A (letTemporaryGo value o r >>= fun _=>pure r) Q E s₃) E s₂:=by
  rw[hs o i]
  exact wpAny_operating (wpAny_mono h₂ (fun r s₃ h₃=>wpAny_bind (wpAny_letTemporaryGo (wpAny_pure h₃))) fun _ _ x=>x)
 first
  | exact wpAny_pure (wpAny_bind fin)
  | exact wpAny_bind (wpAny_pure (wpAny_bind fin))
  | exact wpAny_bind fin
theorem yC{X:Cx}{pins:List (Addr×Obj)}{σ:St}{H:Hp}{s:Shared}{a:Addr}{y:V}{o:Option V}(I:Inv X pins σ H s)(g:DGet H a y o):s.TypeIs (.ref a) "dict":=by
 rcases g with ⟨kvs,k,e,_,_⟩ | ⟨kvs,k,b,e,_,_,_⟩
 ·obtain⟨_,_,vs,_,dd⟩:=qU I.hok e
  exact dd.typeIs
 ·obtain⟨_,_,xs,_,dd⟩:=rC I.hok e
  exact dd.typeIs
def Lf(td ty:TE):TE:=fun σ H Q=>td σ H fun x H1=>ty σ H1 fun y H2=>∃ a v,x=.ref a∧DGet H2 a y (some v)∧Q v H2
def Bh(ty td:TE):TE:=fun σ H Q=>ty σ H fun y H1=>td σ H1 fun x H2=>∃ a o,x=.ref a∧DGet H2 a y o∧Q (.bl (!o.isSome)) H2
def L_(td ty tv:TE):TS:=fun D σ H=>tv σ H fun v H1=>td σ H1 fun x H2=>ty σ H2 fun y H3=>∃ a H4,x=.ref a∧DPut H3 a y v H4∧D.nx σ H4
section
variable {X:Cx}{o i e value:Expr}{pos pos' tpos:Pos}{td ty tv:TE}
theorem wB(hu:X.A.units+1<cLine)(ho:PE X o td)(hi:PE X i ty)(hs:KY i):PE X (.Subscript o i pos) (Lf td ty):=by
 intro pins s σ H Q I h
 refine GV PySem.F.slot_dict_getitem.lookup hs (bS (ho pins s σ H _ I h) fun u s1 ⟨x,H1,I1,rx,q1⟩=>bS (hi pins s1 σ H1 _ I1 q1) fun iv s2 ⟨y,H2,I2,ry,a,v,ex,g,q2⟩=>?_)
 subst ex
 obtain rfl:u=Value.ref a:=rx
 exact⟨yC I2 g,C4 hu I2 g ry fun w' s3 I3 rw'=>⟨v,H2,I3,rw',q2⟩⟩
theorem CK(hu:X.A.units+1<cLine)(hi:PE X i ty)(ho:PE X o td):PC X .NotIn i o (Bh ty td):=by
 intro pins s σ H Q I h
 refine bS (hi pins s σ H _ I h) fun iv s1 ⟨y,H1,I1,ry,q1⟩=>bS (ho pins s1 σ H1 _ I1 q1) fun u s2 ⟨x,H2,I2,rx,a,ov,ex,g,q2⟩=>?_
 subst ex
 obtain rfl:u=Value.ref a:=rx
 exact Gm hu I2 g ry fun s3 I3=>⟨.bl (!ov.isSome),H2,I3,rfl,q2⟩
theorem mF(hu:X.A.units+1<cLine)(ho:PE X o td)(hi:PE X i ty)(hv:PE X value tv)(hs:swapsWith value (some (.Subscript o i pos')) pos.line X.env=pure false) :
  PS X (.Assign [.Subscript o i pos'] value pos) (L_ td ty tv):=by
 intro pins s σ H D I h
 refine wpAny_Assign_Subscript (bS (hv pins s σ H _ I h) fun r s1 ⟨v,H1,I1,rv,q1⟩=>bS (ho pins s1 σ H1 _ I1 q1) fun u s2 ⟨x,H2,I2,rx,q2⟩=>bS (hi pins s2 σ H2 _ I2 q2) fun iv s3 ⟨y,H3,I3,ry,a,H4,ex,g,q3⟩=>?_) hs
 subst ex
 obtain rfl:u=Value.ref a:=rx
 exact Cf hu I3 g ry rv fun s4 I4=>⟨σ,H4,I4,q3⟩
end
theorem yB{P:Program}{w:World}{H:Hp}(h:Heap)(hb:sysModules<h.objs.size):ObjOk P w H (h.push { cls:=.type "dict",data:=.dict #[] }) h.objs.size (.dK []) :=
 ⟨l9 _,beq_eq_false_iff_ne.mpr (aQX (d8 hb)),[],.nil,aK9 h⟩
theorem E7{P:Program}{w:World}{H:Hp}(h:Heap)(hb:sysModules<h.objs.size):ObjOk P w H (h.push { cls:=.type "dict",data:=.dict #[] }) h.objs.size (.dT []) :=
 ⟨l9 _,beq_eq_false_iff_ne.mpr (aQX (d8 hb)),[],.nil,_,#[],0,d9 _ rfl,⟨rfl,rfl,rfl⟩,rfl,rfl,List.nodup_nil⟩
def Ia:TE:=fun _ H Q=>∀ p,H p=none→Q (.ref p) (upd H p (.dK []))
def J5:TE:=fun _ H Q=>∀ p,H p=none→Q (.ref p) (upd H p (.dT []))
section
variable {X:Cx}{pos:Pos}
theorem yN:PE X (.Dict [] [] pos) Ia:=fun pins s σ H Q I h =>
 wpAny_Dict_empty ⟨.ref s.heap.objs.size,_,I.laid (a:=s.heap.objs.size) (o:=.dK []) (t':=s.toks) (fun _ _ q=>b6 _ q) (b9 _) (yB s.heap I.big),rfl,h _ (I.hok.fresh (b9 _))⟩
theorem rB:PE X (.Dict [] [] pos) J5:=fun pins s σ H Q I h =>
 wpAny_Dict_empty ⟨.ref s.heap.objs.size,_,I.laid (a:=s.heap.objs.size) (o:=.dT []) (t':=s.toks) (fun _ _ q=>b6 _ q) (b9 _) (E7 s.heap I.big),rfl,h _ (I.hok.fresh (b9 _))⟩
end
def AG:List (TE×TE)→St→Hp→(List (V×V)→Hp→Prop)→Prop
 | [],_,H,Q=>Q [] H
 | (tk,tv)::r,σ,H,Q=>tk σ H fun x H1=>tv σ H1 fun y H2=>AG r σ H2 fun ps H3=>Q ((x,y)::ps) H3
abbrev VV:List (V×V)→List (Value×Value)→Prop:=Paired fun p q=>RelV p.1 q.1∧RelV p.2 q.2
def Mx(X:Cx)(pos:Pos)(keys:List (Option Expr))(values:List Expr)(trs:List (TE×TE)):Prop :=
 ∀ (pins:List (Addr×Obj)) (s:Shared) (σ:St) (H:Hp) (Q:List (V×V)→Hp→Prop),Inv X pins σ H s→AG trs σ H Q →
  wpAny (model X.prog X.w) X.A (evalPairs (pairTrees keys values X.env pos)) (fun vs s'=>∃ ps H',Inv X pins σ H' s'∧VV ps vs∧Q ps H') X.xe s
theorem FT{X:Cx}{pos:Pos}:Mx X pos [] [] []:=fun pins s σ H Q I h=>pairTrees_nil_walk ⟨[],H,I,.nil,h⟩
theorem Dy{X:Cx}{pos:Pos}{k v:Expr}{ks:List (Option Expr)}{vs:List Expr}{tk tv:TE}{trs:List (TE×TE)}(hk:PE X k tk)(hv:PE X v tv)(hr:Mx X pos ks vs trs) :
  Mx X pos (some k::ks) (v::vs) ((tk,tv)::trs):=fun pins s σ H Q I h =>
 pairTrees_cons_walk (bS (hk pins s σ H _ I h) fun u s1 ⟨x,H1,I1,rx,q1⟩=>bS (hv pins s1 σ H1 _ I1 q1) fun w2 s2 ⟨y,H2,I2,ry,q2⟩ =>
  bS (hr pins s2 σ H2 _ I2 q2) fun ws s3 ⟨ps,H3,I3,rel,q3⟩=>⟨(x,y)::ps,H3,I3,.cons ⟨rx,ry⟩ rel,q3⟩)
def rS(kvs more:List (cQ×V)):List (cQ×V):=more.foldl (fun acc kv=>dE acc kv.1 kv.2) kvs
theorem KV.merge:∀ {more:List (cQ×V)} {rs:List (cQ×Value)} {kvs:List (cQ×V)} {vs:List (cQ×Value)},KV more rs→KV kvs vs→KV (rS kvs more) (merged vs rs):=by
 intro more rs kvs vs r
 unfold KV at r
 induction r generalizing kvs vs with
 | nil=>intro q;exact q
 | @cons p q ps qs h t ih =>
  intro r0
  have e:KV (dE kvs p.1 p.2) (stored vs q.1 q.2):=by
   have:=r0.put p.1 h.2
   rw[← h.1];exact this
  exact ih e
theorem lA:∀ (more kvs:List (cQ×V)),(rS kvs more).length≤kvs.length+more.length
 | [],kvs=>by show kvs.length≤kvs.length+0;omega
 | p::r,kvs=>by
  have h1:=lA r (dE kvs p.1 p.2)
  have h2:=cX kvs p.1 p.2
  show (rS (dE kvs p.1 p.2) r).length≤_
  rw[l7];omega
theorem qQ{P:Program}{w:World}:∀ {kvs:List (cQ×V)} {ws:List (Value×Value)},VV (kvs.map fun kv=>(kV kv.1,kv.2)) ws→∃ rs,Carries (bO P w) ws rs∧KV kvs rs
 | [],_,r=>by rw[aXO] at r;cases r;exact⟨[],True.intro,.nil⟩
 | p::kvs,_,r=>by
  rw[i8] at r
  cases r with
  | @cons a b as bs h t =>
   obtain⟨rs,c,q⟩:=qQ (P:=P) (w:=w) t
   obtain⟨b1,b2⟩:=b
   exact⟨(p.1,b2)::rs,⟨oZ h.1,rfl,c⟩,.cons ⟨rfl,h.2⟩ q⟩
def Kn(trs:List (TE×TE)):TE:=fun σ H Q=>∀ p,H p=none→AG trs σ (upd H p (.dK [])) fun ps H2=>H2 p=some (.dK [])∧∃ kvs:List (cQ×V),ps=kvs.map (fun kv=>(kV kv.1,kv.2))∧kvs.length≤15∧Q (.ref p) (upd H2 p (.dK (rS [] kvs)))
theorem Hb{X:Cx}{pos:Pos}{keys:List (Option Expr)}{values:List Expr}{trs:List (TE×TE)}(h:Mx X pos keys values trs)(hall:keys.all (·.isSome)=true)(hl:keys.length=values.length)(h0:keys≠[])
  (h15:keys.length≤15):PE X (.Dict keys values pos) (Kn trs):=by
 intro pins s σ H Q I q
 have hn:=I.hok.fresh (b9 s.heap.objs.size)
 have I1:=I.laid (a:=s.heap.objs.size) (o:=.dK []) (h':=s.heap.push { cls:=.type "dict",data:=.dict #[] }) (t':=s.toks) (fun _ _ q=>b6 _ q) (b9 _) (yB s.heap I.big)
 refine wpAny_Dict_walk (knd:=bO X.prog X.w) hall hl h0 h15 (bS (h pins _ σ _ _ I1 (q _ hn)) fun ws s2 ⟨ps,H2,I2,rel,e,kvs,ep,lk,q2⟩=>?_)
 subst ep
 obtain⟨rs,c,rk⟩:=qQ (P:=X.prog) (w:=X.w) rel
 obtain⟨z,hd,vs0,r0,dd⟩:=yD I2.hok e
 cases r0
 refine⟨rs,c,dd,fun h' dd' hs=>⟨.ref s.heap.objs.size,_,?_,rfl,q2⟩⟩
 have hz:(rS [] kvs).length≤sizeLine:=by
  have h1:=lA kvs []
  rw[aZY] at h1
  rw[sizeLine_eq];omega
 have he:∃ q,h'.get? s.heap.objs.size=some q:=let ⟨q,_,_,hq,_⟩:=dd';⟨q,hq⟩
 exact mN I2 (by rw[e];exact True.intro) hs he (Ad hz hd (rk.merge .nil) dd')
structure M1(X:Cx)(o:Expr)(m:Str)(apos:Pos)(e:Expr)(cpos:Pos):Prop where
 base:attributeBase o m X.env (eval o X.env)=eval o X.env
 few:((backTo cpos (starEach [e] X.env)).all (fun x=>!x.1) && (backToKw cpos (keywordEach [] X.env)).all (fun x=>x.1.isSome)
  && decide (([e]:List Expr).length+([]:List Keyword).length+(if ([]:List Keyword).isEmpty then 0 else 1)<30))=true
 line:(apos.endLine == cpos.line)=true
 trees:backTo cpos (starEach [e] X.env)=[(false,eval e X.env)]
structure M2(X:Cx)(o:Expr)(m:Str)(apos:Pos)(e f:Expr)(cpos:Pos):Prop where
 base:attributeBase o m X.env (eval o X.env)=eval o X.env
 few:((backTo cpos (starEach [e,f] X.env)).all (fun x=>!x.1) && (backToKw cpos (keywordEach [] X.env)).all (fun x=>x.1.isSome)
  && decide (([e,f]:List Expr).length+([]:List Keyword).length+(if ([]:List Keyword).isEmpty then 0 else 1)<30))=true
 line:(apos.endLine == cpos.line)=true
 trees:backTo cpos (starEach [e,f] X.env)=[(false,eval e X.env),(false,eval f X.env)]
def KS(H:Hp)(a:Addr):Prop:=(∃ kvs,Rd H a (.dK kvs))∨∃ kvs,Rd H a (.dT kvs)
theorem wN{X:Cx}{pins:List (Addr×Obj)}{σ:St}{H:Hp}{s:Shared}{a:Addr}(I:Inv X pins σ H s)(d:KS H a) :
  s.TypeIs (.ref a) "dict"∧(∀ b,Value.ref a=.ref b→∃ ob,s.heap.get? b=some ob∧ob.dict=none)∧(a == sysModules)=false:=by
 rcases d with ⟨kvs,e⟩ | ⟨kvs,e⟩
 ·obtain⟨_,hd,vs,_,dd⟩:=qU I.hok e
  refine⟨dd.typeIs,fun b q=>?_,hd⟩
  cases q
  obtain⟨ob,_,_,h1,h2,_⟩:=dd
  exact⟨ob,h1,h2.2.1⟩
 ·obtain⟨_,hd,xs,_,dd⟩:=rC I.hok e
  refine⟨dd.typeIs,fun b q=>?_,hd⟩
  cases q
  obtain⟨ob,_,_,h1,h2,_⟩:=dd
  exact⟨ob,h1,h2.2.1⟩
section
variable {X:Cx}{pins:List (Addr×Obj)}{σ:St}{H:Hp}{s:Shared}{a:Addr}{y d:V}{u r:Value}{o:Option V}{A:Around}{E:Value→Shared→Prop}
theorem IZ{Q:Value→Shared→Prop}(hu:A.units+1<cLine)(I:Inv X pins σ H s)(g:DGet H a y o)(ry:RelV y u)(h:∀ w' s',Inv X pins σ H s'→RelV (o.getD .non) w'→Q w' s') :
  wpAny (model X.prog X.w) A (call (.builtin "dict.get") [.ref a,u]) Q E s:=by
 rcases g with ⟨kvs,k,e,ey,l⟩ | ⟨kvs,k,b,e,ey,eb,l⟩
 ·subst ey
  obtain⟨z,hd,vs,rel,dd⟩:=qU I.hok e
  refine call_meetsIn aQR dd.typeIs aQr (aZP _ _) (meets_dict_get (bO X.prog X.w) a (oZ ry) hd) ⟨_,dd.mapOf,h _ _ (I.tok _) ?_⟩
  rw[l]
  exact(rel.val k).getD rfl
 ·subst ey
  cases (show u=Value.ref b from ry)
  obtain⟨z,hd,xs,rel,dd⟩:=rC I.hok e
  refine call_meetsIn aQR dd.typeIs aQr (aZP _ _) (meetsH_dict_get (tupleKind (bO X.prog X.w)) a b hd) ⟨tupleKind_room_in1 hu,k,xs,lJ I.hok eb,dd,h _ _ (I.tok _) ?_⟩
  rw[l]
  exact(rel.val k).getD rfl
theorem JI{Q:Value→Shared→Prop}(hu:A.units+1<cLine)(I:Inv X pins σ H s)(g:DGet H a y o)(ry:RelV y u)(rd:RelV d r)(h:∀ w' s',Inv X pins σ H s'→RelV (o.getD d) w'→Q w' s') :
  wpAny (model X.prog X.w) A (call (.builtin "dict.get") [.ref a,u,r]) Q E s:=by
 rcases g with ⟨kvs,k,e,ey,l⟩ | ⟨kvs,k,b,e,ey,eb,l⟩
 ·subst ey
  obtain⟨z,hd,vs,rel,dd⟩:=qU I.hok e
  refine call_meetsIn aQR dd.typeIs aQr (aZQ _ _ _) (meets_dict_get_default (bO X.prog X.w) a (oZ ry) hd r) ⟨_,dd.mapOf,h _ _ (I.tok _) ?_⟩
  rw[l]
  exact(rel.val k).getD rd
 ·subst ey
  cases (show u=Value.ref b from ry)
  obtain⟨z,hd,xs,rel,dd⟩:=rC I.hok e
  refine call_meetsIn aQR dd.typeIs aQr (aZQ _ _ _) (meetsH_dict_get_default (tupleKind (bO X.prog X.w)) a b hd r) ⟨tupleKind_room_in1 hu,k,xs,lJ I.hok eb,dd,h _ _ (I.tok _) ?_⟩
  rw[l]
  exact(rel.val k).getD rd
end
def Jj(td ty:TE):TE:=fun σ H Q=>td σ H fun x H1=>∃ a,x=.ref a∧KS H1 a∧ty σ H1 fun y H2=>∃ o,DGet H2 a y o∧Q (o.getD .non) H2
def IW(td ty tx:TE):TE:=fun σ H Q=>td σ H fun x H1=>∃ a,x=.ref a∧KS H1 a∧ty σ H1 fun y H2=>tx σ H2 fun z H3=>∃ o,DGet H3 a y o∧Q (o.getD z) H3
section
variable {X:Cx}{o e f:Expr}{apos cpos:Pos}{td ty tx:TE}
theorem yJ(hu:X.A.units+1<cLine)(ho:PE X o td)(he:PE X e ty)(m:M1 X o "get" apos e cpos):PE X (.Call (.Attribute o "get" apos) [e] [] cpos) (Jj td ty):=by
 intro pins s σ H Q I h
 refine wpAny_Call_method m.base m.few m.line aQ0 aQR aZ7 (bS (ho pins s σ H _ I h) fun u s1 ⟨x,H1,I1,rx,a,ex,d,q1⟩=>?_)
 subst ex
 obtain rfl:u=Value.ref a:=rx
 obtain⟨t1,t2,_⟩:=wN I1 d
 refine⟨t1,t2,?_⟩
 rw[m.trees]
 refine z9 rfl (aQe (aQB (bS (he pins s1 σ H1 _ I1 q1) fun iv s2 ⟨y,H2,I2,ry,ov,g,q2⟩=>aQs ?_)))
 exact IZ hu I2 g ry fun w' s3 I3 rw'=>⟨_,H2,I3,rw',q2⟩
theorem xN(hu:X.A.units+1<cLine)(ho:PE X o td)(he:PE X e ty)(hf:PE X f tx)(m:M2 X o "get" apos e f cpos):PE X (.Call (.Attribute o "get" apos) [e,f] [] cpos) (IW td ty tx):=by
 intro pins s σ H Q I h
 refine wpAny_Call_method m.base m.few m.line aQ0 aQR aZ7 (bS (ho pins s σ H _ I h) fun u s1 ⟨x,H1,I1,rx,a,ex,d,q1⟩=>?_)
 subst ex
 obtain rfl:u=Value.ref a:=rx
 obtain⟨t1,t2,_⟩:=wN I1 d
 refine⟨t1,t2,?_⟩
 rw[m.trees]
 refine z9 rfl (aQe (aQB (bS (he pins s1 σ H1 _ I1 q1) fun iv s2 ⟨y,H2,I2,ry,q2⟩ =>
  aQB (bS (hf pins s2 σ H2 _ I2 q2) fun fv s3 ⟨z,H3,I3,rz,ov,g,q3⟩=>aQs ?_))))
 exact JI hu I3 g ry rz fun w' s4 I4 rw'=>⟨_,H3,I4,rw',q3⟩
end
def tX(xs:List V)(f:Nat→Nat)(l:List Nat):List V:=l.filterMap fun m=>xs[f m]?
theorem qF{xs:List V}{us:List Value}(r:Vals xs us)(f:Nat→Nat):∀ l:List Nat,Vals (tX xs f l) (l.filterMap fun m=>us[f m]?)
 | []=>.nil
 | m::l=>by
  have ih:=qF r f l
  unfold tX at *
  rw[aQh,aQh]
  cases hx:xs[f m]? with
  | none =>
   have:us[f m]?=none:=by
    have h1:=r.length
    have h2:=aXy.mp hx
    exact aQQ (by omega)
   rw[this]
   exact ih
  | some x =>
   obtain⟨u,hu,ru⟩:=r.get hx
   rw[hu]
   exact .cons ru ih
theorem Cd(xs:List V)(f:Nat→Nat)(l:List Nat):(tX xs f l).length≤l.length:=aZH _ _
section
variable {prog:Program}{w:World}{A:Around}{E:Value→Shared→Prop}{s:Shared}
theorem zG{sl:Addr}{vu vk:Value}{j n:Nat}{Q:Int×Int×Nat→Shared→Prop}(hs:s.heap.IsSliceOf sl .none vu vk)(pu:IsPart vu (some (j:Int)))(pk:IsPart vk (some 2))(hj:j≤n)
  (h:Q (0,2,(j+1) / 2) s):wpAny (model prog w) A (Builtin.Slice.sliceApplied (.ref sl) (pure (n:Int))) Q E s:=by
 obtain⟨os,hos,hcs,hds⟩:=id hs
 unfold Builtin.Slice.sliceApplied Builtin.Slice.sliceFields
 refine wpAny_bind (wpAny_bind (wpAny_field hos hds (x:=.none) rfl (wpAny_bind (wpAny_field hos hds (x:=vu) rfl (wpAny_bind (wpAny_field hos hds (x:=vk) rfl (wpAny_pure ?_)))))))
 refine wpAny_bind (HT.slicePart_ pk ?_)
 show wpAny _ _ (if ((2:Int) == 0)=true then _ else _) _ _ s
 rw[if_neg (by decide)]
 refine wpAny_bind (HT.slicePart_ .none (wpAny_bind (HT.slicePart_ pu (wpAny_bind (wpAny_pure ?_)))))
 show wpAny _ _ (match Builtin.Slice.sliceAdjust none (some (j:Int)) 2 (n:Int) with | (lo,hi)=>pure (lo,(2:Int),Builtin.Slice.slicePlaces lo hi 2)) _ _ s
 have e1:Builtin.Slice.sliceAdjust none (some (j:Int)) 2 (n:Int)=(0,(j:Int)):=by
  unfold Builtin.Slice.sliceAdjust
  have h1:¬ ((2:Int)<0):=by omega
  have h2:¬ ((j:Int)<0):=by omega
  simp only [if_neg h1,if_neg h2]
  congr 1
  omega
 rw[e1]
 show wpAny _ _ (pure ((0:Int),(2:Int),Builtin.Slice.slicePlaces 0 (j:Int) 2)) _ _ s
 have e2:Builtin.Slice.slicePlaces 0 (j:Int) 2=(j+1) / 2:=by
  unfold Builtin.Slice.slicePlaces
  rw[if_pos (by omega)]
  split <;> omega
 rw[e2]
 exact wpAny_pure h
theorem D9{t sl:Addr}{items:Array Value}{vu vk:Value}{j:Nat}{Q:Value→Shared→Prop}(ht:IsTup s.heap t items)(hs:s.heap.IsSliceOf sl .none vu vk)(pu:IsPart vu (some (j:Int)))(pk:IsPart vk (some 2))(hj:j≤items.size)
  (h:Q (.ref s.heap.objs.size) { s with heap:=s.heap.push { cls:=.type "tuple",data:=.seq ((List.range ((j+1) / 2)).filterMap fun m=>items.toList[2 * m]?).toArray } })
  (hsz:items.size≤sizeLine):wpAny (model prog w) A (getItem (.ref t) (.ref sl)) Q E s:=by
 have htake:sizeOk (.seq ((List.range ((j+1) / 2)).filterMap fun m=>items.toList[2 * m]?).toArray):=by
  show ((List.range ((j+1) / 2)).filterMap fun m=>items.toList[2 * m]?).toArray.size≤sizeLine
  rw[c8]
  refine j8 (aZH _ _) ?_
  rw[aXU]
  omega
 obtain⟨os,hos,hcs,hds⟩:=id hs
 have hTs:s.TypeIs (.ref sl) "slice":=⟨os,hos,hcs⟩
 unfold getItem
 try with_reducible refine wpAny_holding ?_
 first | refine wpAny_bind (wpAny_pure ?_) | skip
 refine wpAny_bind (wpAny_sequenceKey ht.typeIs (by decide) ?_)
 refine wpAny_bind (wpAny_callSpecial?_slot (name:=Str.ofString "__getitem__") ht.typeIs p9
  (wpAny_call_entry p9 ht.typeIs entry_tuple_getitem ?_ (args_tuple_getitem _ _)))
 show wpAny _ _ (Builtin.Tuple.tupleItemsOf (.ref t) >>= _) _ _ s
 refine wpAny_bind (tupleItemsOf_ ht ?_)
 refine wpAny_bind (wpAny_typeOf hTs ?_)
 rw[if_pos (by decide)]
 refine wpAny_bind (zG hs pu pk hj ?_)
 show wpAny _ _ (if ((0:Int) == 0 && (2:Int) == 1 && ((j+1) / 2) == items.size)=true then _ else _) _ _ s
 rw[if_neg (by simp)]
 have e:(fun (m:Nat)=>items[((0:Int)+(m:Int) * 2).toNat]?)=fun m=>items.toList[2 * m]?:=by
  funext m
  have:((0:Int)+(m:Int) * 2).toNat=2 * m:=by omega
  rw[this]
  simp
 rw[e]
 first
  | exact wpAny_bind (m:=Builtin.Tuple.tupleExact _) (wpAny_newObj_type (wpAny_pure ⟨_,rfl,wpAny_pure h⟩) htake)
  | exact wpAny_bind (m:=Builtin.Tuple.tupleExact _) (wpAny_newObj_type (wpAny_bind (wpAny_pure (wpAny_pure ⟨_,rfl,wpAny_pure h⟩))) htake)
  | exact wpAny_bind (wpAny_bind (m:=Builtin.Tuple.tupleExact _) (wpAny_newObj_type (wpAny_pure (wpAny_pure ⟨_,rfl,wpAny_pure h⟩)) htake))
  | exact wpAny_bind (wpAny_bind (m:=Builtin.Tuple.tupleExact _) (wpAny_newObj_type (wpAny_pure ⟨_,rfl,wpAny_pure h⟩) htake))
end
def M6(K:b5):V→Option Int→Option Int→Option Int→Hp→VK→Prop:=fun x lo hi st H Q=>∃ (a:Addr) (xs:List V) (j:Nat),x=.ref a∧SqT K H a xs∧lo=none∧hi=some (j:Int)∧st=some 2∧j≤xs.length∧∀ p,H p=none→Q (.ref p) (upd H p (.tup (tX xs (2 * ·) (List.range ((j+1) / 2)))))
theorem Dn{X:Cx}{K:b5}(hK:X.K=K):Kq X (M6 K):=by
 subst hK
 intro pins s σ H x v vl vu vk lo hi st sl Q I rx hs pl pu pk h
 obtain⟨a,xs,j,rfl,hx,rfl,rfl,rfl,hj,q⟩:=h
 cases rx
 cases pl
 obtain⟨its,r,ht,hz⟩:=I.tuple hx
 have hlen:=r.length
 refine⟨"tuple",_,p9.lookup,ht.typeIs,?_⟩
 refine D9 ht hs pu pk (by rw[c8];omega) ?_ (by rw[c8];omega)
 have rv:=qF r (2 * ·) (List.range ((j+1) / 2))
 have pl:=Cd xs (2 * ·) (List.range ((j+1) / 2))
 rw[aXU] at pl
 refine⟨.ref s.heap.objs.size,_,I.laid (t':=s.toks) (o:=.tup (tX xs (2 * ·) (List.range ((j+1) / 2)))) (fun b ob q=>b6 _ q) (b9 _) ?_,rfl,q _ (I.hok.fresh (b9 _))⟩
 refine⟨by omega,_,rv,?_⟩
 exact⟨aX3 _ _,NoD.new _ _⟩
theorem qL:∀ (n:Nat) (w:List Nat) (l:List Value),w.length=n→l.length=n→(∀ (j:Nat) (v:Value),l[j]?=some v→∃ (c:Nat) (u:Tok),w[j]?=some c∧v=Value.str ⟨#[c]⟩ u)→Vals (w.map fun c=>V.str (S [c])) l
 | 0,w,l,h1,h2,_=>by
  have e1:=r9.mp h1
  have e2:=r9.mp h2
  subst e1 e2
  exact .nil
 | n+1,[],l,h1,_,_=>by simp at h1
 | n+1,c::w,[],_,h2,_=>by simp at h2
 | n+1,c::w,v::l,h1,h2,h3=>by
  obtain⟨c',u,hc',rfl⟩:=h3 0 v rfl
  obtain rfl:c=c':=by simpa using hc'
  exact .cons ⟨u,rfl⟩ (qL n w l (by simpa using h1) (by simpa using h2) fun j v hv=>by simpa using h3 (j+1) v (by simpa using hv))
theorem sF{X:Cx}(hc:X.calm=true):dZ X (.type "tuple") (fun xs H Q=>∃ w:List Nat,xs=[.str (S w)]∧w.length≤1000∧∀ l,H l=none→Q (.ref l) (upd H l (.tup (w.map fun c=>V.str (S [c]))))):=by
 intro pins s σ H xs us Q I r h
 obtain⟨w,rfl,hz,q⟩:=h
 obtain⟨u,rfl,ru⟩:=r.one
 obtain⟨t,rfl⟩:=ru
 have hz2:w.length≤sizeLine:=aQT (aP hz)
 refine call_tuple_str (I.ok.hd hc) (S w) t (fun h' tk acc hk hit=>?_) (by simpa using hz2)
 have hn:acc.size=w.length:=by simpa using hit.1
 have hv:Vals (w.map fun c=>V.str (S [c])) acc.toList:=qL w.length w acc.toList rfl (by simpa using hn) fun j v hv=>by
  obtain⟨c,u,hc,hv'⟩:=hit.2 j v (by simpa using hv)
  exact⟨c,u,by simpa using hc,hv'⟩
 have I1:Inv X pins σ H { s with heap:=h',toks:=tk }:=I.kept hk
 refine⟨.ref h'.objs.size,_,I1.laid (t':=tk) (o:=.tup (w.map fun c=>V.str (S [c]))) (fun b o e=>b6 _ e) (b9 _) ⟨by rw[b7];exact hz2,acc.toList,hv,?_⟩,rfl,q _ (I1.hok.fresh (b9 _))⟩
 have:=aX3 h' acc
 exact⟨by simpa using this,NoD.new _ _⟩
end L2
namespace Lw
open PySem PySem.Spec PyProof.Rows L2 Ma MaR
def cF(rs:List (List Nat)):List V:=rs.map fun x=>V.str (S x)
theorem bN(rs:List (List Nat)):(cF rs).length=rs.length:=by unfold cF;rw[b7]
theorem gM{rs:List (List Nat)}{i:Nat}{v:V}(h:(cF rs)[i]?=some v):∃ x,rs[i]?=some x∧v=.str (S x):=by
 unfold cF at h
 rw[c7] at h
 cases hq:rs[i]? with
 | none=>rw[hq] at h;cases h
 | some x=>rw[hq] at h;exact⟨x,rfl,(j1 h).symm⟩
theorem lR{rs:List (List Nat)}{i:Nat}{x:List Nat}(h:rs[i]?=some x):(cF rs)[i]?=some (.str (S x)):=by unfold cF;rw[c7,h];rfl
structure RT(rs:List (List Nat))(n M:Nat):Prop where
 len:rs.length=n
 all:∀ x∈rs,AllL x
 le:∀ x∈rs,x.length≤M
def tell(rs:List (List Nat))(c:Nat):List Nat:=if bC c=true then rs.getD (c - 97) [] else back (rs.getD (c - 65) [])
def told(rs:List (List Nat))(w:List Nat):List Nat:=w.flatMap (tell rs)
def retl(rs:List (List Nat))(w:List Nat):List Nat:=lay (told rs w)
theorem nA{rs:List (List Nat)}{P:List Nat→Prop}(h0:P [])(h:∀ x∈rs,P x)(i:Nat):P (rs.getD i []):=by
 rw[c5]
 cases hq:rs[i]? with
 | none=>exact h0
 | some x=>exact h x (b8 hq)
section
variable {rs:List (List Nat)}{n M:Nat}
theorem RT.getA(r:RT rs n M)(i:Nat):AllL (rs.getD i []):=nA AllL.nil r.all i
theorem RT.getL(r:RT rs n M)(i:Nat):(rs.getD i []).length≤M:=nA (P:=fun x=>x.length≤M) (l9 _) r.le i
theorem mV(r:RT rs n M)(c:Nat):AllL (tell rs c):=by
 unfold tell
 split
 ·exact r.getA _
 ·exact aR (r.getA _)
theorem zC(r:RT rs n M)(c:Nat):(tell rs c).length≤M:=by
 unfold tell
 split
 ·exact r.getL _
 ·rw[dA];exact r.getL _
theorem xY(r:RT rs n M){c:Nat}(h:cE c):tell rs (con c)=back (tell rs c):=by
 have hc:(bC c=true∧bC (con c)=false∧con c - 65=c - 97)∨(bC c=false∧bC (con c)=true∧con c - 97=c - 65):=by
  rcases aU h with rfl | rfl | rfl | rfl | rfl | rfl | rfl | rfl <;> decide
 unfold tell
 rcases hc with ⟨h1,h2,h3⟩ | ⟨h1,h2,h3⟩
 ·rw[if_pos h1,if_neg (by rw[h2];decide),h3]
 ·rw[if_pos h2,if_neg (c:=bC c=true) (by rw[h1];decide),h3,dU (r.getA _)]
theorem kF(u v:List Nat):told rs (u++v)=told rs u++told rs v:=by unfold told;rw[aZj]
theorem dX(c:Nat)(w:List Nat):told rs (c::w)=tell rs c++told rs w:=by unfold told;rw[aQJ]
theorem wX:told rs []=[]:=rfl
theorem gZ(r:RT rs n M)(w:List Nat):AllL (told rs w):=by
 induction w with
 | nil=>exact AllL.nil
 | cons c w ih=>rw[dX];exact AllL.app.mpr ⟨mV r c,ih⟩
theorem qD(r:RT rs n M)(w:List Nat):(told rs w).length≤w.length * M:=by
 induction w with
 | nil=>simp[told]
 | cons c w ih =>
  rw[dX,c6,l7,aKS]
  have:=zC r c
  omega
theorem Fl(r:RT rs n M)(w:List Nat):AllL (retl rs w):=gR (gZ r w)
theorem Fp(r:RT rs n M)(w:List Nat):(retl rs w).length≤w.length * M:=j8 (iF _) (qD r w)
theorem CC(r:RT rs n M){w:List Nat}(h:AllL w):told rs (back w)=back (told rs w):=by
 induction w with
 | nil=>rfl
 | cons c w ih =>
  obtain⟨hc,hw⟩:=AllL.cons.mp h
  have e:back (c::w)=back w++[con c]:=by unfold back;simp
  rw[e,kF,ih hw,dX c w,dN,dX,wX,m7,xY r hc]
theorem Fx(r:RT rs n M):∀ (k:Nat) (w:List Nat),w.length=k→AllL w→lay (told rs (lay w))=lay (told rs w):=by
 intro k
 induction k using Nat.strongRecOn with
 | ind k ih =>
  intro w hk hw
  by_cases hp:∀ j,¬ KH w j
  ·rw[eU (jT hp)]
  ·obtain⟨j,hj⟩:∃ j,KH w j:=Classical.byContradiction fun c=>hp fun j hj=>c ⟨j,hj⟩
   obtain⟨a,b,e,hab,hl⟩:=uC hj
   have e1:=GU hw hj
   generalize hu:w.take j=u at *
   generalize hv:w.drop (j+2)=v at *
   have hw':AllL (u++a::b::v):=by rw[← e];exact hw
   obtain⟨ha1,ha2⟩:=AllL.app.mp hw'
   obtain⟨_,ha3⟩:=AllL.cons.mp ha2
   obtain⟨hb,ha4⟩:=AllL.cons.mp ha3
   have huv:AllL (u++v):=AllL.app.mpr ⟨ha1,ha4⟩
   have hlen:(u++v).length<k:=by
    rw[← hk,e,c6,c6,l7,l7];omega
   have q:=ih _ hlen (u++v) rfl huv
   rw[← e1,q,e,kF,kF,dX,dX,hab,xY r hb]
   have e9:told rs u++(back (tell rs b)++(tell rs b++told rs v))=told rs u++(back (tell rs b)++tell rs b)++told rs v:=by simp[l6]
   rw[e9,← kS _ _ _ (gZ r u) (AllL.app.mpr ⟨aR (mV r b),mV r b⟩) (gZ r v),eX (mV r b),m7]
theorem qY(r:RT rs n M){w:List Nat}(hw:AllL w):retl rs (lay w)=retl rs w:=Fx r _ w rfl hw
theorem CU(r:RT rs n M){w:List Nat}(hw:AllL w):retl rs (back w)=back (retl rs w):=by unfold retl;rw[CC r hw,kH (gZ r w)]
end
def bE(n:Nat):List Nat:=[97,98,99,100].take n
def cS(n:Nat):List (List Nat):=(bE n).map fun c=>[c]
theorem Gc(n:Nat):cF (cS n)=aZ (bE n):=by unfold cF cS aZ;rw[u7];rfl
theorem A9{n:Nat}(h1:1≤n)(h4:n≤4):n=1∨n=2∨n=3∨n=4:=by omega
theorem pO{n:Nat}(h1:1≤n)(h4:n≤4):RT (cS n) n 1:=by
 refine⟨?_,?_,?_⟩
 ·rcases A9 h1 h4 with rfl | rfl | rfl | rfl <;> rfl
 ·intro x hx
  obtain⟨c,hc,rfl⟩:=i3.mp hx
  intro d hd
  rw[d6.mp hd]
  have:c∈[97,98,99,100]:=u8 hc
  simp only [d3,l8,or_false] at this
  unfold cE
  omega
 ·intro x hx
  obtain⟨c,_,rfl⟩:=i3.mp hx
  exact b9 _
theorem B2{n:Nat}(h1:1≤n)(h4:n≤4){c:Nat}(h:c∈aK n):tell (cS n) c=[c]:=by
 have hL:=aU (aN h)
 rcases A9 h1 h4 with rfl | rfl | rfl | rfl <;> rcases hL with rfl | rfl | rfl | rfl | rfl | rfl | rfl | rfl <;> revert h <;> decide
theorem uX{n:Nat}(h1:1≤n)(h4:n≤4){w:List Nat}(h:OfN n w):told (cS n) w=w:=by
 induction w with
 | nil=>rfl
 | cons c w ih=>rw[dX,B2 h1 h4 (h c i9),ih fun d hd=>h d (g9 _ hd)];rfl
theorem B3{n:Nat}(h1:1≤n)(h4:n≤4){w:List Nat}(h:OfN n w)(hp:bR w):retl (cS n) w=w:=by unfold retl;rw[uX h1 h4 h,eU hp]
def bB(f s:List (List Nat)):List (List Nat):=f.map (retl s)
theorem sT(f s:List (List Nat))(i:Nat):(bB f s).getD i []=retl s (f.getD i []):=by
 unfold bB
 rw[c5,c5,c7]
 cases f[i]? <;> rfl
theorem C5{f s:List (List Nat)}{n m M L:Nat}(hf:RT f n M)(hs:RT s m L)(c:Nat):tell (bB f s) c=lay (told s (tell f c)):=by
 unfold tell
 split
 ·rw[sT];rfl
 ·rw[sT,← CU hs (hf.getA _)];rfl
theorem qB{g:Nat→List Nat}:∀ (w:List Nat),(∀ c,AllL (g c))→lay (w.flatMap fun c=>lay (g c))=lay (w.flatMap g)
 | [],_=>rfl
 | c::w,h=>by
  have ih:=qB w h
  have ha:∀ w:List Nat,AllL (w.flatMap g):=fun w d hd=>by
   obtain⟨c,_,hc⟩:=aX0.mp hd
   exact h c d hc
  have hb:∀ w:List Nat,AllL (w.flatMap fun c=>lay (g c)):=fun w d hd=>by
   obtain⟨c,_,hc⟩:=aX0.mp hd
   exact gR (h c) d hc
  rw[aQJ,aQJ,hU _ _ (h c),← eI _ _ (h c) (hb w),ih,eI _ _ (h c) (ha w)]
theorem CY(f s:List (List Nat))(w:List Nat):(w.flatMap fun c=>told s (tell f c))=told s (told f w):=by
 induction w with
 | nil=>rfl
 | cons c w ih=>rw[aQJ,dX,kF,ih]
theorem B8{f s:List (List Nat)}{n m M L:Nat}(hf:RT f n M)(hs:RT s m L)(w:List Nat):retl (bB f s) w=retl s (retl f w):=by
 rw[show retl f w=lay (told f w) from rfl,qY hs (gZ hf w)]
 unfold retl
 rw[← CY,← qB w fun c=>gZ hs _]
 congr 1
 unfold told
 congr 1
 funext c
 exact C5 hf hs c
theorem vK{f s:List (List Nat)}{n m M L:Nat}(hf:RT f n M)(hs:RT s m L):RT (bB f s) n (M * L):=by
 refine⟨by unfold bB;rw[b7];exact hf.len,fun x hx=>?_,fun x hx=>?_⟩
 ·obtain⟨y,_,rfl⟩:=i3.mp hx
  exact Fl hs y
 ·obtain⟨y,hy,rfl⟩:=i3.mp hx
  exact j8 (Fp hs y) (aXG _ (hf.le y hy))
theorem nZ{f s t:List (List Nat)}{n m k M L J:Nat}(hf:RT f n M)(hs:RT s m L)(ht:RT t k J):bB (bB f s) t=bB f (bB s t):=by
 unfold bB
 rw[u7]
 refine x8 fun x hx=>?_
 exact(B8 hs ht x).symm
theorem _root_.L2.SqT.same{K:b5}{H H':Hp}{a:Addr}{xs:List V}(s:Same H H')(h:SqT K H a xs):SqT K H' a xs:=by
 rcases h with (h | ⟨o,h⟩) | h
 ·exact .inl (.inl (s _ _ h))
 ·exact .inl (.inr ⟨o,s _ _ h⟩)
 ·exact .inr h
def lU:Sp:=fun vs H Q _=>∃ n:Nat,vs=[.int (n:Nat)]∧1≤n∧n≤4∧∀ (p:Addr) (H':Hp),H p=none→Same H H'→H' p=some (.tup (cF (cS n)))→Q (.ref p) H'
def xD(K:b5):Sp:=fun vs H Q _=>∃ (a:Addr) (rs:List (List Nat)) (n M:Nat) (w:List Nat),vs=[.ref a,.str (S w)]∧SqT K H a (cF rs)∧RT rs n M∧1≤n∧n≤4∧M≤1000∧OfN n w∧w.length≤60000∧w.length * M≤60000∧∀ H',Same H H'→Q (.str (S (retl rs w))) H'
def Ag(K:b5):Sp:=fun vs H Q _=>∃ (a b:Addr) (f s:List (List Nat)) (n M L:Nat),vs=[.ref a,.ref b]∧SqT K H a (cF f)∧SqT K H b (cF s)∧RT f n M∧RT s n L∧(∀ x∈f,OfN n x)∧1≤n∧n≤4∧M≤1000∧L≤1000∧M * L≤9000∧∀ (p:Addr) (H':Hp),H p=none→Same H H'→H' p=some (.tup (cF (bB f s)))→Q (.ref p) H'
def letV:List V:=aZ lets
theorem zO:letV.length=8:=rfl
theorem Hk{xs:List V}{i:Array Value}(h:Vals xs i.toList)(hl:xs.length≤1000):i.size≤sizeLine:=by
 have h2:xs.length=i.toList.length:=h.length
 have h3:i.toList.length=i.size:=x5
 exact aI (by omega)
theorem CD{n:Nat}(h1:1≤n)(h4:n≤4):tX letV (2 * ·) (List.range ((2 * n+1) / 2))=cF (cS n):=by
 rcases A9 h1 h4 with rfl | rfl | rfl | rfl <;> rfl
theorem A4{n i:Nat}(h4:n≤4){v:V}(h:(cF (cS n))[i]?=some v):v=.str (S [97+i])∧i<n:=by
 have hi:i<n:=by
  have:=(a9.mp h).1
  rw[bN] at this
  unfold cS bE at this
  rw[b7,j6] at this
  omega
 obtain⟨x,hx,rfl⟩:=gM h
 unfold cS bE at hx
 rw[c7,aQV hi] at hx
 have:i=0∨i=1∨i=2∨i=3:=by omega
 rcases this with rfl | rfl | rfl | rfl <;> (cases hx;exact⟨rfl,hi⟩)
theorem jU:(Str.ofString "abcd":Str)=S [97,98,99,100]:=by decide +kernel
theorem Bs{c:Nat}(h:cE c):(Builtin.Str.occurrences (Str.ofString "abcd") (S [lo c]) 0 (Str.ofString "abcd").length 1).isEmpty=false∧Txt.find (Str.ofString "abcd") (S [lo c])=((lo c - 97:Nat):Int):=by
 rcases aU h with rfl | rfl | rfl | rfl | rfl | rfl | rfl | rfl <;> exact⟨by decide +kernel,by decide +kernel⟩
theorem Ll{n c:Nat}(h:c∈aK n){l:Nat}(hl:l=n)(h1:1≤n)(h4:n≤4):lo c - 97<l:=by
 subst hl
 have hL:=aU (aN h)
 rcases A9 h1 h4 with rfl | rfl | rfl | rfl <;> rcases hL with rfl | rfl | rfl | rfl | rfl | rfl | rfl | rfl <;> revert h <;> decide
theorem EA{rs:List (List Nat)}{n:Nat}(h1:1≤n)(h4:n≤4)(h:∀ x∈rs,OfN n x)(c:Nat):OfN n (tell rs c):=by
 unfold tell
 split
 ·exact nA (P:=OfN n) OfN.nil h _
 ·exact(nA (P:=OfN n) OfN.nil h _).back (by omega) (by omega)
theorem Dp{rs:List (List Nat)}{n:Nat}(h1:1≤n)(h4:n≤4)(h:∀ x∈rs,OfN n x)(w:List Nat):OfN n (retl rs w):=by
 refine OfN.lay ?_
 intro d hd
 obtain⟨c,_,hc⟩:=aX0.mp hd
 exact EA h1 h4 h c d hc
theorem xV{f s:List (List Nat)}{n:Nat}(h1:1≤n)(h4:n≤4)(h:∀ x∈s,OfN n x):∀ x∈bB f s,OfN n x:=by
 intro x hx
 obtain⟨y,_,rfl⟩:=i3.mp hx
 exact Dp h1 h4 h y
theorem GF{n:Nat}(h1:1≤n)(h4:n≤4):∀ x∈cS n,OfN n x:=by
 intro x hx c hc
 obtain⟨d,hd,rfl⟩:=i3.mp hx
 rw[d6.mp hc]
 rcases A9 h1 h4 with rfl | rfl | rfl | rfl <;> (unfold bE at hd;simp at hd;revert hd;first | (rintro rfl;decide) | (rintro(rfl | rfl) <;> decide) | (rintro(rfl | rfl | rfl) <;> decide) | (rintro(rfl | rfl | rfl | rfl) <;> decide))
theorem Ae{fl sc p:Addr}{H H':Hp}{xs:List V}(f:IsFl H fl sc)(k:Kp fl H H')(h:H p=some (.tup xs)):H' p=some (.tup xs):=by
 obtain⟨ns,i,x,b,c,h1,_⟩:=f
 exact k _ _ h fun e=>by rw[e,h1] at h;cases h
end Lw
namespace PySem
section
variable {prog:Program}{w:World}{A:Around}{R:Result→Shared→Prop}{s:Shared}
theorem yU{elt target iter:Expr}{ifs:List Expr}{scope:Scope}{pos:Pos}{it acc:Value}{env:Env}(I:Nat→Shared→Prop)
  (turn:∀ n s,I n s→wpAny (model prog w) A (pyNext it) (fun r s₁=>match r with
   | none=>R (.ok .next) s₁
   | some v=>wpAny (model prog w) A (letOwnedTupleGo target it v) (fun _ s₂=>wpAny (model prog w) A (assign target env v) (fun _ s₂ =>
     wpAny (model prog w) A (forIn ifs true fun c r=>if r=true then do let ok ← isTrue c env (eval c env);pure (ForInStep.yield ok) else pure (ForInStep.yield r)) (fun ok s₃ =>
      if ok=true then wpAny (model prog w) A (eval elt env) (fun x s₄=>wpAny (model prog w) A (call (.builtin "list.append") [acc,x]) (fun _ s₅=>∃ m,m<n∧I m s₅) (fun _ _=>False) s₄) (fun _ _=>False) s₃
      else ∃ m,m<n∧I m s₃) (fun _ _=>False) s₂) (fun _ _=>False) s₂) (fun _ _=>False) s₁) (fun _ _=>False) s)
  (n:Nat) (h:I n s):codeAny (model prog w) A (.compLoop (.ListComp elt [⟨target,iter,ifs,0⟩] scope pos) 0 it acc env) R s:=by
 refine codeAny_loop rfl I (fun n s hI=>?_) n h
 show wpAny _ A ((compTurn (.ListComp elt [⟨target,iter,ifs,0⟩] scope pos) 0 it acc env).onRaise (fun x=>do noteFrame x env;theTreesLotGoes x)) _ _ s
 refine wpAny_noted ?_
 rw[compTurn_list]
 refine wpAny_bind (wpAny_standAt (wpAny_bind (wpAny_mono (turn n s hI) (fun r s₁ h₁=>?_) fun _ _ f=>f.elim)))
 cases r with
 | none=>exact wpAny_pure h₁
 | some v =>
  refine wpAny_bind (wpAny_mono h₁ (fun _ s₁ h₁=>?_) fun _ _ f=>f.elim)
  refine wpAny_bind (wpAny_mono h₁ (fun _ s₂ h₂=>wpAny_bind (wpAny_mono h₂ (fun ok s₃ h₃=>?_) fun _ _ f=>f.elim)) fun _ _ f=>f.elim)
  cases ok with
  | false=>exact wpAny_pure ⟨rfl,h₃⟩
  | true=>exact wpAny_bind (wpAny_bind (wpAny_mono h₃ (fun x s₄ h₄=>wpAny_bind (wpAny_mono h₄ (fun _ s₅ h₅=>wpAny_pure (wpAny_pure ⟨rfl,h₅⟩)) fun _ _ f=>f.elim)) fun _ _ f=>f.elim))
end
end PySem
namespace L2
open PySem PySem.Spec PyProof.Rows
end L2
namespace L2
open PySem PySem.Spec PyProof.Rows PySem.Calls
end L2
namespace PySem
open Sem (wp)
end PySem
namespace L2
open PySem PySem.Spec PyProof.Rows
def JF(x:Str):It :=
 ⟨fun i _=>i<x.cps.size,fun i H v H'=>∃ p c,v=.ref p∧H p=none∧H'=upd H p (.tup [.int (i:Nat),.str ⟨#[c]⟩])∧x.cps[i]?=some c,fun i _=>i=x.cps.size⟩
theorem uT{prog:Program}{w:World}{A:Around}(hh:A.handled=none)(it:Addr)(x:Str)(t:Tok)(T:String)(hT:T="str_ascii_iterator"∨T="str_iterator") :
  Draws prog w A it [it] x.cps.size (fun i v=>∃ c u,x.cps[i]?=some c∧v=.str ⟨#[c]⟩ u) (fun i h=>h.IsStrIter it T x t i):=by
 rcases hT with rfl | rfl
 ·exact Draws.strAscii hh it x t
 ·exact Draws.strWide hh it x t
theorem CH{P:Program}{w:World}{K:b5}{es:List Expr}{x1}{pos:Pos}(x:Str)(t:Tok)(T:String)(e it:Addr)(hne:e≠it)(hT:T="str_ascii_iterator"∨T="str_iterator") :
  Turn P w K (.Tuple es x1 pos) (JF x) [e,it] e (fun i h=>(∃ old,IsEnum h e it ((i:Nat):Int) old)∧h.IsStrIter it T x t i) where
 mem:=by simp
 obj:=fun i h st b hb=>by
  obtain⟨⟨old,he⟩,o,g,c,d⟩:=st
  simp only [d3,l8,or_false] at hb
  rcases hb with rfl | rfl
  ·exact⟨_,he,fun v z=>by cases z⟩
  ·exact⟨o,g,fun v z=>by rw[d] at z;cases z⟩
 keep:=fun i h h' st k=>by
  obtain⟨⟨old,he⟩,o,g,r⟩:=st
  exact⟨⟨old,k e (by simp) _ he⟩,o,k it (by simp) o g,r⟩
 item:=by
  intro X hP hw hK hc i pins s σ H E I hf st hg
  subst hP hw hK
  obtain⟨⟨old,he⟩,hs⟩:=st
  have hei:e ∉ [it]:=by simpa using hne
  have DD:=uT (prog:=X.prog) (w:=X.w) (A:=X.A.in1) (I.ok.hd hc) it x t T hT
  refine wpAny_pyNext_enum_itemD DD he hs hg hne hei fun v h1 tk hv ho hs1 hT1 hz1 kp=>⟨_,rfl,?_⟩
  obtain⟨c,u,hc',rfl⟩:=hv
  refine wpAny_letOwnedTupleGo_enum ho fun h2 he2 e2=>?_
  have ne:s.heap.objs.size≠e:=aQU (d5 he)
  have hT2:h2.get? s.heap.objs.size=some { cls:=.type "tuple",data:=.seq #[.int i tk,.str ⟨#[c]⟩ u] }:=(e2.2 _ ne).trans hT1
  have hHn:H s.heap.objs.size=none:=I.hok.fresh (b9 _)
  have kpn:∀ b o,b ∉ [e,it]→s.heap.get? b=some o→h2.get? b=some o:=fun b o hn q=>(e2.2 b fun z=>hn (by simp[z])).trans (kp b o (fun z=>hn (by simp[z])) (fun z=>hn (by simp[z])) q)
  refine⟨.ref s.heap.objs.size,upd H s.heap.objs.size (.tup [.int (i:Nat),.str ⟨#[c]⟩]),?_,rfl,⟨_,c,rfl,hHn,rfl,hc'⟩,⟨⟨_,by simpa using he2⟩,?_⟩,fun b hb=>?_⟩
  ·exact I.turnedN (t':=tk+1) (h':=h2) kpn hf (b9 _) ⟨by show 2≤sizeLine;decide,[.int i tk,.str ⟨#[c]⟩ u],.cons ⟨_,rfl⟩ (.cons ⟨_,rfl⟩ .nil),⟨_,hT2,rfl,0,rfl⟩,⟨_,hT2,rfl⟩⟩
  ·obtain⟨o,g,r⟩:=hs1
   exact⟨o,(e2.2 it hne.symm).trans g,r⟩
  ·have hce:b≠s.heap.objs.size:=by
    obtain⟨o1,g1,_⟩:=hs
    simp only [d3,l8,or_false] at hb
    rcases hb with rfl | rfl
    ·exact d8 (d5 he)
    ·exact d8 (d5 g1)
   rw[aE hce]
   exact(hf b hb).1
 done:=by
  intro X hP hw hK hc i pins s σ H E I hf st hg
  subst hP hw hK
  obtain⟨⟨old,he⟩,hs⟩:=st
  have hi:i=x.cps.size:=hg
  subst hi
  have DD:=uT (prog:=X.prog) (w:=X.w) (A:=X.A.in1) (I.ok.hd hc) it x t T hT
  refine wpAny_pyNext_enum_endD DD he hs fun h1 e1=>⟨rfl,?_⟩
  exact I.turnedM (t':=s.toks) (ch:=[e,it]) (fun b o hn q=>e1 b o (fun z=>hn (by simp[z])) q) hf
 self:=fun A i s Q E st h=>by
  obtain⟨⟨old,he⟩,_⟩:=st
  exact wpAny_pyIter_enum he h
section
variable {X:Cx}
def Ky(ta:TA):TI:=fun σ H R=>ta σ H fun vs H1=>∃ z,vs=[.str z]∧R (JF z) H1
theorem Bf{es:List Expr}{x1}{tpos:Pos}{a:Expr}{ta:TA}{p pos:Pos}(hg:Gl X "enumerate")(hm:X.mg "enumerate"=none)(ha:PA X [a] ta)(hs:starEach [a] X.env=[(false,eval a X.env)]:=by rfl) :
  PI X (.Tuple es x1 tpos) (.Call (.Name "enumerate" p) [a] [] pos) (Ky ta):=by
 intro pins s σ H R I h
 refine Call_ (iK I hg hm boot_enumerate (x9 (bS (ha pos pins s σ H _ I h) fun us s1 ⟨vs,H1,I1,r1,q1⟩=>?_) hs rfl))
 obtain⟨z,e,q⟩:=q1
 subst e
 obtain⟨u,rfl,ru⟩:=r1.one
 obtain⟨t,rfl⟩:=ru
 refine call_enumerate_str fun h' he hit hz kp=>?_
 have I2:Inv X pins σ H1 { s1 with heap:=h' }:=I1.kept (t':=s1.toks) kp
 have hne:s1.heap.objs.size+1≠s1.heap.objs.size:=by omega
 refine wpAny_pyIter_enum he ⟨s1.heap.objs.size+1,[s1.heap.objs.size+1,s1.heap.objs.size],_,_,H1,rfl,I2,CH z t (strIterType z) _ _ hne (by unfold strIterType;split <;> simp),⟨⟨_,he⟩,hit⟩,fun b hb=>?_,q⟩
 have hle:s1.heap.objs.size≤b:=by
  simp only [d3,l8,or_false] at hb
  rcases hb with h | h <;> rw[h]
  ·exact aQN _ _
  ·exact b9 _
 exact I1.fpOk hle (I1.hok.fresh hle)
end
theorem zH{w:List Nat}{g:TG}{tb:TS}{D:Ends}{σ:St}{H:Hp}(Pv:Nat→St→Hp→Prop)(h0:Pv 0 σ H)
  (hs:∀ i c p σ H,w[i]?=some c→H p=none→Pv i σ H→g (.ref p) σ (upd H p (.tup [.int (i:Nat),.str (S [c])])) fun σ2 H2=>tb { D with nx:=Pv (i+1),ct:=Pv (i+1),bk:=D.nx } σ2 H2) (hd:∀ σ H,Pv w.length σ H→D.nx σ H) :
  ∃ W:Nat→Nat→St→Hp→Prop,(∃ m,W 0 m σ H)∧∀ i m σ H,W i m σ H →
   ((JF (S w)).stop i H∧D.nx σ H)∨((JF (S w)).go i H∧∃ N:St→Hp→Prop,(∀ σ' H',N σ' H'→∃ m',m' < m∧W (i+1) m' σ' H')∧∀ x H',(JF (S w)).yld i H x H'→g x σ H' fun σ2 H2=>tb { D with nx:=N,ct:=N,bk:=D.nx } σ2 H2):=by
 refine⟨fun i m σ H=>m=w.length - i∧i≤w.length∧Pv i σ H,⟨w.length,by simp,l9 _,h0⟩,?_⟩
 rintro i m σ H ⟨rfl,hi,p⟩
 by_cases hlt:i<w.length
 ·refine .inr ⟨by simpa [JF] using hlt,Pv (i+1),fun σ' H' p'=>⟨w.length - (i+1),by omega,rfl,hlt,p'⟩,fun x H' y=>?_⟩
  obtain⟨pp,c,rfl,hn,rfl,hc⟩:=y
  exact hs i c pp σ H (by simpa using hc) hn p
 ·have e:i=w.length:=by omega
  subst e
  exact .inl ⟨by simp[JF],hd σ H p⟩
section
variable {prog:Program}{w:World}{A:Around}{E:Value→Shared→Prop}{s:Shared}
theorem An{t sl:Addr}{items:Array Value}{vl vu:Value}{lo hi:Option Int}{Q:Value→Shared→Prop}(ht:IsTup s.heap t items)(hs:s.heap.IsSliceOf sl vl vu .none)(pl:IsPart vl lo)(pu:IsPart vu hi)
  (h1:HT.sIx items.size 0 lo=0) (h2:HT.sIx items.size items.size hi=items.size)
  (h:Q (.ref t) s):wpAny (model prog w) A (getItem (.ref t) (.ref sl)) Q E s:=by
 obtain⟨os,hos,hcs,hds⟩:=id hs
 have hTs:s.TypeIs (.ref sl) "slice":=⟨os,hos,hcs⟩
 unfold getItem
 try with_reducible refine wpAny_holding ?_
 first | refine wpAny_bind (wpAny_pure ?_) | skip
 refine wpAny_bind (wpAny_sequenceKey ht.typeIs (by decide) ?_)
 refine wpAny_bind (wpAny_callSpecial?_slot (name:=Str.ofString "__getitem__") ht.typeIs p9
  (wpAny_call_entry p9 ht.typeIs entry_tuple_getitem ?_ (args_tuple_getitem _ _)))
 show wpAny _ _ (Builtin.Tuple.tupleItemsOf (.ref t) >>= _) _ _ s
 refine wpAny_bind (tupleItemsOf_ ht ?_)
 refine wpAny_bind (wpAny_typeOf hTs ?_)
 rw[if_pos (by decide)]
 refine wpAny_bind (HT.sliceApplied_gen hs pl pu ?_)
 rw[h1,h2]
 show wpAny _ _ (if (((0:Nat):Int) == 0 && (1:Int) == 1 && (items.size - 0) == items.size)=true then _ else _) _ _ s
 rw[if_pos (by simp)]
 refine wpAny_bind ?_
 unfold Builtin.Tuple.tupleIsExact
 refine wpAny_bind (wpAny_typeOf ht.typeIs (wpAny_pure ?_))
 rw[if_pos (by decide)]
 exact wpAny_bind (wpAny_rule (wpAny_pure ⟨_,rfl,wpAny_pure h⟩))
end
def MS(K:b5):V→Option Int→Option Int→Hp→VK→Prop:=fun x lo hi H Q=>∃ (a:Addr) (xs:List V) (j:Nat),x=.ref a∧SqT K H a xs∧lo=none∧hi=some (j:Int)∧j≤xs.length ∧
 (j<xs.length→∀ p,H p=none→Q (.ref p) (upd H p (.tup (xs.take j))))∧(j=xs.length→Q (.ref a) H)
theorem Gb{X:Cx}{K:b5}(hK:X.K=K):Ki X (MS K):=by
 subst hK
 intro pins s σ H x v vl vu lo hi sl Q I rx hs pl pu h
 obtain⟨a,xs,j,rfl,hx,rfl,rfl,hj,q1,q2⟩:=h
 have e0:HT.sIx xs.length 0 none=0:=rfl
 have e1:HT.sIx xs.length xs.length (some (j:Int))=j:=by
  unfold HT.sIx
  simp only
  rw[if_neg (by omega)]
  simp
  omega
 rcases Nat.lt_or_ge j xs.length with hlt | hge
 ·refine JK pins s σ H _ v vl vu _ _ sl Q I rx hs pl pu ⟨a,xs,rfl,hx,fun z=>?_,?_⟩
  ·rw[e1] at z;omega
  ·have e:mU xs none (some (j:Int))=xs.take j:=by
    unfold mU
    rw[e1,e0]
    simp
   rw[e]
   exact q1 hlt
 ·have ej:j=xs.length:=by omega
  cases rx
  obtain⟨its,r,ht,hz⟩:=I.tuple hx
  have hlen:its.toArray.size=xs.length:=by rw[c8];exact r.length.symm
  refine⟨"tuple",_,p9.lookup,ht.typeIs,?_⟩
  exact An ht hs pl pu (by rw[hlen];exact e0) (by rw[hlen,e1];exact ej) ⟨.ref a,H,I,rfl,q2 ej⟩
end L2
namespace L2
open PySem PySem.W PyProof.Rows
def KTr(lt:Nat→Nat→Bool)(n:Nat){α:Type}:KasT α→(α→Prop)→Prop
 | .ret a,Q=>Q a
 | .ask i j k,Q=>i<n∧j<n∧KTr lt n (k (lt i j)) Q
theorem KTr.bind{lt:Nat→Nat→Bool}{n:Nat}{α β:Type}{f:α→KasT β}{Q:β→Prop}:∀ {t:KasT α},KTr lt n t (fun a=>KTr lt n (f a) Q)→KTr lt n (t.bind f) Q
 | .ret a,h=>h
 | .ask i j k,h=>⟨h.1,h.2.1,KTr.bind h.2.2⟩
theorem KTr.wp{lt:Nat→Nat→Bool}{n:Nat}{α:Type}{cmp:Nat→Nat→(Bool→Shared→Prop)→Shared→Prop}{Ok:Shared→Prop}
  (hc:∀ i j C s,i<n→j<n→Ok s→(∀ s',Ok s'→C (lt i j) s')→cmp i j C s) {Q:α→Prop} {R:α→Shared→Prop} (hq:∀ a s,Q a→Ok s→R a s):∀ {t:KasT α} {s:Shared},KTr lt n t Q→Ok s→t.kasWp cmp R s
 | .ret a,s,h,o=>hq a s h o
 | .ask i j k,s,h,o=>hc i j _ s h.1 h.2.1 o fun s' o'=>KTr.wp hc hq h.2.2 o'
structure TotLt(lt:Nat→Nat→Bool):Prop where
 asym:∀ i j,lt i j=true→lt j i=false
 tr:∀ i j k,lt j i=false→lt k j=false→lt k i=false
section
variable {lt:Nat→Nat→Bool}{n:Nat}
theorem TotLt.irr(T:TotLt lt)(i:Nat):lt i i=false:=by
 cases h:lt i i with
 | false=>rfl
 | true=>have:=T.asym i i h;rw[h] at this;cases this
def PermN(n:Nat)(p:Array Nat):Prop:=p.Perm (List.toArray (List.range n))
theorem PermN.size{p:Array Nat}(h:PermN n p):p.size=n:=by
 have:=(aQb.mp h).length_eq
 simpa using this
theorem PermN.below{p:Array Nat}(h:PermN n p){i:Nat}(hi:i<n):p.getD i 0<n:=by
 have hs:=h.size
 have e:p.getD i 0=p[i]'(by omega):=by simp[Array.getD,show i<p.size by omega]
 rw[e]
 have hm:p[i]'(by omega)∈p:=Array.getElem_mem _
 have:p[i]'(by omega)∈(List.toArray (List.range n)):=h.mem_iff.mp hm
 simpa using this
theorem lT{p q:Array Nat}{i j:Nat}(h:p[i]?=q[j]?):p.getD i 0=q.getD j 0:=by
 rw[aXq,aXq,h]
theorem BK{p:Array Nat}{i j:Nat}(hj:j≤p.size)(k:Nat):(kas_rev p i j).getD k 0=if i≤k∧k<j then p.getD (i+j - 1 - k) 0 else p.getD k 0:=by
 have:=getElem?_mirror_all (i:=i) hj k
 unfold kas_rev
 split
 ·rename_i h;rw[if_pos h] at this;exact lT this
 ·rename_i h;rw[if_neg h] at this;exact lT this
theorem PermN.rev{p:Array Nat}(h:PermN n p)(i j:Nat):PermN n (kas_rev p i j):=(mirror_perm p i j _).trans h
theorem PermN.bub{p:Array Nat}(h:PermN n p)(k d:Nat):PermN n (bubble p k d):=(bubble_perm p k d).trans h
def jR(lt:Nat→Nat→Bool)(p:Array Nat)(m:Nat):Prop:=∀ i j,i≤j→j<m→lt (p.getD j 0) (p.getD i 0)=false
def lC(lt:Nat→Nat→Bool)(p:Array Nat)(m:Nat):Prop:=∀ i j,i≤j→j<m→lt (p.getD i 0) (p.getD j 0)=false
def Mu(lt:Nat→Nat→Bool)(p:Array Nat)(m q:Nat):Prop:=∀ i j,m≤i+q+1→i<m→m≤j+q+1→j<m→lt (p.getD i 0) (p.getD j 0)=false
theorem AF(T:TotLt lt){p:Array Nat}(g:PermN n p){Q:Nat→Prop}:∀ (f m:Nat),1≤m→m+f=n→jR lt p m →
  (∀ m',m≤m'→m'≤n→jR lt p m'→(m'=n∨lt (p.getD m' 0) (p.getD (m' - 1) 0)=true)→Q m')→KTr lt n (kas_asc p f m) Q
 | 0,m,h1,h2,hs,hq=>hq m (b9 _) (by omega) hs (.inl (by omega))
 | f+1,m,h1,h2,hs,hq=>by
  refine⟨g.below (by omega),g.below (by omega),?_⟩
  cases hc:lt (p.getD m 0) (p.getD (m - 1) 0) with
  | true=>exact hq m (b9 _) (by omega) hs (.inr hc)
  | false =>
   refine AF T g f (m+1) (by omega) (by omega) (fun i j hij hj=>?_) fun m' hm=>hq m' (by omega)
   by_cases e:j=m
   ·subst e
    by_cases e2:i=j
    ·subst e2;exact T.irr _
    ·exact T.tr _ _ _ (hs i (j - 1) (by omega) (by omega)) hc
   ·exact hs i j hij (by omega)
theorem Co(T:TotLt lt){p q:Array Nat}{m:Nat}(h:lC lt p m)(e1:∀ i,i<m→lt (q.getD i 0) (p.getD i 0)=false)(e2:∀ i,i<m→lt (p.getD i 0) (q.getD i 0)=false):lC lt q m:=fun i j hij hj =>
 T.tr _ _ _ (e2 j hj) (T.tr _ _ _ (h i j hij hj) (e1 i (by omega)))
theorem nG(T:TotLt lt){p:Array Nat}(g:PermN n p){m q k:Nat}(hm:m≤n)(hq:q+1≤m)(hmk:m≤k)(h:lC lt p k)(e:Mu lt p m q):lC lt (kas_rev p (m - (q+1)) m) k:=by
 have hs:=g.size
 have rd:=BK (p:=p) (i:=m - (q+1)) (j:=m) (by omega)
 refine Co T h (fun i hi=>?_) fun i hi=>?_
 ·rw[rd]
  split
  ·exact e _ _ (by omega) (by omega) (by omega) (by omega)
  ·exact T.irr _
 ·rw[rd]
  split
  ·exact e _ _ (by omega) (by omega) (by omega) (by omega)
  ·exact T.irr _
theorem pL(T:TotLt lt){Q:Array Nat×Nat×Nat→Prop}:∀ (f:Nat) (p:Array Nat) (m q:Nat),PermN n p→1≤m→q+1≤m→m+f=n→lC lt p m→Mu lt p m q →
  (∀ p' m' q',PermN n p'→1≤m'→m'≤n→q' + 1≤m'→lC lt p' m'→Mu lt p' m' q'→Q (p',m',q'))→KTr lt n (kas_desc f p m q) Q
 | 0,p,m,q,g,h1,hq,h2,hn,he,k=>k p m q g h1 (by omega) hq hn he
 | f+1,p,m,q,g,h1,hq,h2,hn,he,k=>by
  refine⟨g.below (by omega),g.below (by omega),?_⟩
  cases hc:lt (p.getD m 0) (p.getD (m - 1) 0) with
  | true =>
   have hn1:lC lt p (m+1):=fun i j hij hj=>by
    by_cases e:j=m
    ·subst e
     by_cases e2:i=j
     ·subst e2;exact T.irr _
     ·exact T.tr _ _ _ (T.asym _ _ hc) (hn i (j - 1) (by omega) (by omega))
    ·exact hn i j hij (by omega)
   have z0:∀ (p:Array Nat) (m:Nat),Mu lt p (m+1) 0:=fun p m i j hi hi2 hj hj2=>by
    have e1:i=m:=by omega
    have e2:j=m:=by omega
    rw[e1,e2];exact T.irr _
   show KTr lt n (if q > 0 then _ else _) Q
   split
   ·exact pL T f _ (m+1) 0 (g.rev _ _) (by omega) (by omega) (by omega) (nG T g (by omega) hq (by omega) hn1 he) (z0 _ _) k
   ·exact pL T f p (m+1) 0 g (by omega) (by omega) (by omega) hn1 (z0 _ _) k
  | false =>
   refine⟨g.below (by omega),g.below (by omega),?_⟩
   cases hd:lt (p.getD (m - 1) 0) (p.getD m 0) with
   | true=>exact k p m q g h1 (by omega) hq hn he
   | false =>
    refine pL T f p (m+1) (q+1) g (by omega) (by omega) (by omega) (fun i j hij hj=>?_) (fun i j hi hi2 hj hj2=>?_) k
    ·by_cases e:j=m
     ·subst e
      by_cases e2:i=j
      ·subst e2;exact T.irr _
      ·exact T.tr _ _ _ hd (hn i (j - 1) (by omega) (by omega)) |> fun z=>by
        first | exact z | exact T.tr _ _ _ hc (hn i (j - 1) (by omega) (by omega))
     ·exact hn i j hij (by omega)
    ·by_cases e:i=m
     ·subst e
      by_cases e2:j=i
      ·subst e2;exact T.irr _
      ·exact T.tr _ _ _ (he j (i - 1) (by omega) (by omega) (by omega) (by omega) |> fun z=>he (i - 1) j (by omega) (by omega) (by omega) (by omega)) hc
     ·by_cases e2:j=m
      ·subst e2
       exact T.tr _ _ _ hd (he i (j - 1) (by omega) (by omega) (by omega) (by omega))
      ·exact he i j (by omega) (by omega) (by omega) (by omega)
theorem yR(T:TotLt lt){p:Array Nat}(g:PermN n p){m:Nat}(h1:1≤m)(hm:m≤n)(hn:lC lt p m){Q:Nat×Array Nat→Prop}
  (k:∀ p' m',PermN n p'→1≤m'→m'≤n→jR lt p' m'→Q (m',p')):KTr lt n (kas_tail3 m n p) Q:=by
 unfold kas_tail3
 have hs:=g.size
 have rd:=BK (p:=p) (i:=0) (j:=m) (by omega)
 refine KTr.bind (AF T (g.rev 0 m) (n - m) m h1 (by omega) (fun i j hij hj=>?_) fun m' hm' hn' so _=>k _ m' (g.rev 0 m) (by omega) hn' so)
 rw[rd,rd,if_pos ⟨by omega,by omega⟩,if_pos ⟨by omega,by omega⟩]
 exact hn _ _ (by omega) (by omega)
theorem pE(T:TotLt lt){p:Array Nat}(g:PermN n p){m:Nat}(hm:m+1≤n)(hn:lC lt p (m+1)){Q:Nat×Array Nat→Prop}
  (k:∀ p' m',PermN n p'→1≤m'→m'≤n→jR lt p' m'→Q (m',p')):KTr lt n (kas_descPart m n p) Q:=by
 unfold kas_descPart
 refine KTr.bind (pL T (n - (m+1)) p (m+1) 0 g (by omega) (by omega) (by omega) hn (fun i j hi hi2 hj hj2=>?_) fun p' m' q' g' h1 h2 hq hn' he=>?_)
 ·have e1:i=m:=by omega
  have e2:j=m:=by omega
  rw[e1,e2];exact T.irr _
 ·show KTr lt n (if q' > 0 then _ else _) Q
  split
  ·exact yR T (g'.rev _ _) h1 h2 (nG T g' h2 hq (b9 _) hn' he) k
  ·exact yR T g' h1 h2 hn' k
theorem EU(T:TotLt lt){p:Array Nat}(g:PermN n p)(h1:1≤n){Q:Nat×Array Nat→Prop}
  (k:∀ p' m',PermN n p'→1≤m'→m'≤n→jR lt p' m'→Q (m',p')):KTr lt n (kas_count n p) Q:=by
 unfold kas_count
 have hs:=g.size
 refine KTr.bind (AF T g (n - 1) 1 (b9 _) (by omega) (fun i j hij hj=>?_) fun m hm hn so hor=>?_)
 ·have e1:i=j:=by omega
  rw[e1];exact T.irr _
 ·split
  ·exact k p m g hm hn so
  ·rename_i hne
   have hne':m≠n:=fun e=>hne (by rw[e];simp)
   have hlt:lt (p.getD m 0) (p.getD (m - 1) 0)=true:=by
    rcases hor with e | e
    ·exact absurd e hne'
    ·exact e
   split
   ·rename_i hm1
    refine⟨g.below (by omega),g.below (by omega),?_⟩
    cases hc:lt (p.getD 0 0) (p.getD (m - 1) 0) with
    | true=>exact k p m g hm hn so
    | false =>
     have all:∀ i j,i<m→j<m→lt (p.getD i 0) (p.getD j 0)=false:=fun i j hi hj =>
      T.tr _ _ _ (so j (m - 1) (by omega) (by omega)) (T.tr _ _ _ hc (so 0 i (by omega) hi))
     have hn1:lC lt p (m+1):=fun i j hij hj=>by
      by_cases e:j=m
      ·subst e
       by_cases e2:i=j
       ·subst e2;exact T.irr _
       ·exact T.tr _ _ _ (T.asym _ _ hlt) (all i (j - 1) (by omega) (by omega))
      ·exact all i j (by omega) (by omega)
     have hr:=nG T g (q:=m - 1) hn (by omega) (aQp m) hn1 (fun i j _ hi _ hj=>all i j hi hj)
     rw[show m - (m - 1+1)=0 by omega] at hr
     exact pE T (g.rev 0 m) (by omega) hr k
   ·rename_i hm1
    have e1:m=1:=by omega
    subst e1
    refine pE T g (by omega) (fun i j hij hj=>?_) k
    by_cases e:i=j
    ·subst e;exact T.irr _
    ·have e1:i=0:=by omega
     have e2:j=1:=by omega
     rw[e1,e2]
     exact T.asym _ _ hlt
theorem qX(T:TotLt lt){p:Array Nat}(g:PermN n p){k:Nat}(hk:k<n)(so:jR lt p k){Q:Nat→Prop}:∀ (f l r:Nat),l≤r→r≤k→r - l≤f→(∀ i,i<l→lt (p.getD k 0) (p.getD i 0)=false)→(∀ i,r≤i→i<k→lt (p.getD k 0) (p.getD i 0)=true) →
  (∀ l',l'≤k→(∀ i,i<l'→lt (p.getD k 0) (p.getD i 0)=false)→(∀ i,l'≤i→i<k→lt (p.getD k 0) (p.getD i 0)=true)→Q l')→KTr lt n (kas_place p k f l r) Q
 | 0,l,r,h1,h2,h3,ha,hb,q=>q l (by omega) ha fun i hi=>hb i (by omega)
 | f+1,l,r,h1,h2,h3,ha,hb,q=>by
  show KTr lt n (if l ≥ r then _ else _) Q
  split
  ·exact q l (by omega) ha fun i hi=>hb i (by omega)
  ·refine⟨g.below hk,g.below (by omega),?_⟩
   cases hc:lt (p.getD k 0) (p.getD ((l+r) / 2) 0) with
   | true =>
    refine qX T g hk so f l ((l+r) / 2) (by omega) (by omega) (by omega) ha (fun i hi hik=>?_) q
    cases hz:lt (p.getD k 0) (p.getD i 0) with
    | true=>rfl
    | false =>
     have:=T.tr _ _ _ (so ((l+r) / 2) i hi hik) hz
     rw[hc] at this;cases this
   | false =>
    refine qX T g hk so f ((l+r) / 2+1) r (by omega) h2 (by omega) (fun i hi=>?_) hb q
    exact T.tr _ _ _ (so i ((l+r) / 2) (by omega) (by omega)) hc
theorem FR{p:Array Nat}{k l:Nat}(hk:k<p.size)(hl:l≤k)(i:Nat):(bubble p k (k - l)).getD i 0=if i=l then p.getD k 0 else if l<i∧i≤k then p.getD (i - 1) 0 else p.getD i 0:=by
 have:=getElem?_bubble hk (k - l) (by omega) i
 rw[show k - (k - l)=l by omega] at this
 by_cases h:i=l
 ·rw[if_pos h] at this ⊢;exact lT this
 ·rw[if_neg h] at this ⊢
  by_cases h2:l<i∧i≤k
  ·rw[if_pos h2] at this ⊢;exact lT this
  ·rw[if_neg h2] at this ⊢;exact lT this
theorem DR(T:TotLt lt){Q:Array Nat→Prop}:∀ (f:Nat) (p:Array Nat) (k:Nat),PermN n p→k+f=n→jR lt p k→(∀ p',PermN n p'→jR lt p' n→Q p')→KTr lt n (kas_bin f p k) Q
 | 0,p,k,g,h,so,q=>q p g (by rw[← h];exact so)
 | f+1,p,k,g,h,so,q=>by
  have hs:=g.size
  refine KTr.bind (qX T g (by omega) so k 0 k (by omega) (b9 _) (by omega) (fun i hi=>absurd hi (y4 _)) (fun i h1 h2=>absurd h2 (by omega)) fun l hl ha hb=>?_)
  refine DR T f _ (k+1) (g.bub _ _) (by omega) (fun i j hij hj=>?_) q
  have rd:=FR (p:=p) (k:=k) (l:=l) (by omega) hl
  rw[rd,rd]
  by_cases e1:i=j
  ·subst e1;exact T.irr _
  ·by_cases cj:j=l
   ·rw[if_pos cj,if_neg (by omega),if_neg (by omega)]
    exact ha i (by omega)
   ·rw[if_neg cj]
    by_cases ci:i=l
    ·rw[if_pos ci,if_pos (by omega)]
     exact T.asym _ _ (hb (j - 1) (by omega) (by omega))
    ·rw[if_neg ci]
     split <;> split
     ·exact so _ _ (by omega) (by omega)
     ·exact so _ _ (by omega) (by omega)
     ·exact so _ _ (by omega) (by omega)
     ·exact so _ _ (by omega) (by omega)
theorem GE(T:TotLt lt)(h1:1≤n):KTr lt n (kas_sort n) fun p=>PermN n p∧jR lt p n:=by
 unfold kas_sort
 refine KTr.bind (EU T (aJh _) h1 fun p m g h2 h3 so=>?_)
 show KTr lt n (if m<n then _ else _) _
 split
 ·rw[show max m 1=m by omega]
  exact DR T (n - m) p m g (by omega) so fun p' g' so'=>⟨g',so'⟩
 ·rename_i h
  have e:m=n:=by omega
  subst e
  exact⟨g,so⟩
end
end L2
namespace L2
open PySem PySem.W PySem.Spec PyProof.Rows
def nN(x y:Int×List Int):Bool:=if x.1=y.1 then HT.lexLt x.2 y.2 else decide (x.1<y.1)
def rQ(H:Hp)(v:V)(k:Int×List Int):Prop:=∃ (p a:Addr),v=.ref p∧H p=some (.tup [.int k.1,.ref a])∧H a=some (.lst (k.2.map V.int))
theorem Go{X:Cx}{pins:List (Addr×Obj)}{σ:St}{H:Hp}{s:Shared}(hu:X.A.units+8<cLine)(I:Inv X pins σ H s){v y:V}{u z:Value}{k m:Int×List Int}(hv:rQ H v k)(hw:rQ H y m)(ru:RelV v u)(rz:RelV y z)
  (hl:k.1=m.1→k.2.length=m.2.length) {Q:Bool→Shared→Prop} {E:Value→Shared→Prop} (h:Q (nN k m) s):wpAny (model X.prog X.w) X.A (keyLt' (tuples' true) u z) Q E s:=by
 obtain⟨L,ns⟩:=k
 obtain⟨M,ms⟩:=m
 obtain⟨p,a,rfl,hp,ha⟩:=hv
 obtain⟨q,c,rfl,hq,hc⟩:=hw
 cases ru
 cases rz
 obtain⟨_,ip,rp,⟨op,gp1,gp2,np,gp3⟩,_⟩:=I.hok p _ hp
 obtain⟨_,iq,rq,⟨oq,gq1,gq2,nq,gq3⟩,_⟩:=I.hok q _ hq
 obtain⟨u1,u2,rfl,r1,r2⟩:=rp.two
 obtain⟨w1,w2,rfl,r3,r4⟩:=rq.two
 obtain⟨t1,rfl⟩:=r1
 obtain⟨t3,rfl⟩:=r3
 cases r2
 cases r4
 obtain⟨_,us,n1,ru,gu⟩:=I.hok a _ ha
 obtain⟨_,vs,n2,rv,gv⟩:=I.hok c _ hc
 have lus:us.length=ns.length:=by rw[← ru.length,b7]
 have lvs:vs.length=ms.length:=by rw[← rv.length,b7]
 have hla:s.heap.IsList a us.toArray:=⟨_,gu,rfl,n1,rfl⟩
 have hlc:s.heap.IsList c vs.toArray:=⟨_,gv,rfl,n2,rfl⟩
 have fl:∀ zs:List Int,(zs.map V.int).all gC=true:=fun zs=>by rw[aZv];exact y1.mpr fun _ _=>rfl
 have hu1:X.A.in1.units<cLine:=by unfold Around.in1;show X.A.units+1<cLine;omega
 have hu0:X.A.units<cLine:=by omega
 have hiu:=qI ru
 have hiv:=qI rv
 refine kat_lt gp1 gp3 gq1 gq3 ?_
 refine kat_cons ((aXP L t1 M t3 (A:=X.A) (s:=s)) X.prog X.w _ _ ?_)
 show KatGo _ _ _ _ _ _ _ _ _ _ (L == M) s
 by_cases e:L=M
 ·subst e
  have hlen:ns.length=ms.length:=hl rfl
  have h':Q (HT.lexLt ns ms) s:=by
   have:nN (L,ns) (L,ms)=HT.lexLt ns ms:=by unfold nN;rw[if_pos rfl]
   rw[← this];exact h
  rw[show (L == L)=true from by simp]
  refine kat_yes ?_
  have heq:SeqAt.EqAt X.A s (.ref a) (.ref c) (decide (ns=ms)):=by
   by_cases hac:a=c
   ·subst hac
    rw[ha] at hc
    have e1:ns=ms:=by
     have:=HO.lst.inj (j1 hc)
     exact(List.map_inj_right (fun x y h=>V.int.inj h)).mp this
    rw[decide_eq_true e1]
    exact aJe _
   ·have z:=SeqAt.RcAt.lists (A:=X.A) hla hlc (by simp;omega) hu0 (kJ (A:=X.A.in1) (s:=s) ru rv (fl ns) (fl ms))
    rw[c8,← ru.length,fL (by rw[b7,b7];exact hlen),sA] at z
    exact aZy hac z
  refine kat_cons (heq X.prog X.w _ _ ?_)
  show KatGo _ _ _ _ _ _ _ _ _ _ (decide (ns=ms)) s
  by_cases e2:ns=ms
  ·rw[decide_eq_true e2]
   refine kat_yes (kat_nil ?_)
   rw[e2,rZ] at h'
   exact h'
  ·rw[decide_eq_false e2]
   refine kat_no (kat_one _ _ ?_)
   exact richCompare_meets_room (op:=.Lt) ⟨_,gu,rfl⟩ ⟨_,gv,rfl⟩ PySem.F.slot_list_lt PySem.F.entry_list_lt (PySem.F.args_list_lt_2 _ _) (LtL.list_lt a c us vs n1 n2 ns ms hiu hiv (by omega))
    ⟨gu,gv,show Value.bool (HT.lexLt ns ms)≠Value.notImplemented∧PySem.W.BoolBack Q (.bool (HT.lexLt ns ms)) s from ⟨(fun x=>nomatch x),h'⟩⟩ hu0
 ·have h':Q (decide (L<M)) s:=by
   have:nN (L,ns) (M,ms)=decide (L<M):=by unfold nN;rw[if_neg e]
   rw[← this];exact h
  rw[show (L == M)=false from by simpa using e]
  exact kat_no (oneLt_int h')
section
variable {X:Cx}{pins:List (Addr×Obj)}{σ:St}{H:Hp}{s:Shared}{h':Heap}
theorem Inv.adopt{t':Nat}{D:Addr}{xs:List V}(I:Inv X pins σ H s)(k:∀ b o,b≠D→s.heap.get? b=some o→h'.get? b=some o)(hf:gQ X pins H D)
  (new:ObjOk X.prog X.w (upd H D (.lst xs)) h' D (.lst xs)):Inv X pins σ (upd H D (.lst xs)) { s with heap:=h',toks:=t' }:=by
 obtain⟨f0,f1,f2,f3,f4,f5⟩:=hf
 have un:∀ {b u},H b=some u→upd H D (.lst xs) b=some u:=fun e=>by rw[aE (aJ e f0)];exact e
 have nch:∀ {b u},H b=some u→b≠D:=fun e=>aJ e f0
 refine I.step (g':=s.gens) (d':=s.drawn) (ch:=[D]) (fun b hb=>?_) (fun b o _ _ hc e _=>k b o (by simpa using hc) e) (fun b o _ _ hc e _=>⟨o.slots,k b o (by simpa using hc) e⟩) (fun b o hc e n=>?_) (fun b o hc e=>⟨o,k b o (by simpa using hc) e⟩) (fun _ _ e=>un e) (fun _ _ _ e=>un e)
  (fun b ps e=>⟨#[],by rw[un e];simp⟩) (fun m hm=>?_) (fun b u e=>?_) I.bare
 ·have e:b=D:=by simpa using hb
  subst e
  exact⟨f3,f1,f4,f5⟩
 ·rw[aE (by simpa using hc)]
  exact n
 ·obtain⟨o,es,ep,ho,r⟩:=hm
  exact⟨o,es,ep,k _ o (fun z=>f1 z.symm) ho,r⟩
 ·by_cases hb:b=D
  ·subst hb
   rw[aB] at e
   cases e
   exact new
  ·rw[aE hb] at e
   refine(I.hok b u e).stay (fun c v hc q=>k c v ?_ q) (fun c q=>un q) fun c ys q=>un q
   rcases hc with z | z
   ·rw[z];exact hb
   ·exact nch z
end
def J9(K:b5)(sp:Sp)(ta:TA):TE:=fun σ H Q=>ta σ H fun vs H1=>∃ (l:Addr) (xs:List V) (kz:List (Int×List Int)) (Pv:Addr→Nat→List V→Hp→Prop),vs=[.ref l]∧SqL K H1 l xs∧xs.length<64∧kz.length=xs.length ∧
 (∀ (i j:Nat) (a b:Int×List Int),kz[i]?=some a→kz[j]?=some b→a.1=b.1→a.2.length=b.2.length)∧TotLt (fun i j=>nN (kz.getD i (0,[])) (kz.getD j (0,[]))) ∧
 (∀ S,H1 S=none→Pv S 0 [] (upd H1 S (.lst []))) ∧
 (∀ S i ks H,Pv S i ks H→∀ y,xs[i]?=some y→sp [y] H (fun v H2=>H2 S=some (.lst ks)∧ks.length=i∧Pv S (i+1) (ks++[v]) (upd H2 S (.lst (ks++[v])))) E0) ∧
 (∀ S ks H,Pv S xs.length ks H→H S=some (.lst ks)∧ks.length=xs.length∧(∀ (i:Nat) (v:V) (k:Int×List Int),ks[i]?=some v→kz[i]?=some k→rQ H v k) ∧
  ∀ p:Array Nat,PermN xs.length p→jR (fun i j=>nN (kz.getD i (0,[])) (kz.getD j (0,[]))) p xs.length→∀ D,upd H S (.lst []) D=none→Q (.ref D) (upd (upd H S (.lst [])) D (.lst (p.toList.map fun i=>xs.getD i .non))))
section
variable {X:Cx}{k:Nat}{f:Addr}{fd:FuncData}{ps:List Str}{sp:Sp}
theorem BZ{pins:List (Addr×Obj)}{σ:St}{S:Addr}{xs:List V}{Pv:Nat→List V→Hp→Prop}{body:Value→PUnit→Sem (ForInStep PUnit)}{E:Value→Shared→Prop}
  (F:FnOk X.prog X.w X.K X.mg X.base zJ k f fd ps sp) (hr:Room k X.one.one.A) (hb:Binds X.K fd ps []) (h64:xs.length<64)
  (hbody:∀ x (s:Shared) (R:ForInStep PUnit→Shared→Prop),wpAny (model X.prog X.w) X.one.one.A (call (.ref f) [x]) (fun kv s'=>wpAny (model X.prog X.w) X.one.one.A (Builtin.List.listUpdate (.ref S) (·.push kv)) (fun _ s''=>R (.yield ⟨⟩) s'') E s') (fun _ _=>False) s→wpAny (model X.prog X.w) X.one.one.A (body x ⟨⟩) R E s)
  (hst:∀ i ks H,Pv i ks H→∀ y,xs[i]?=some y→sp [y] H (fun v H2=>H2 S=some (.lst ks)∧ks.length=i∧Pv (i+1) (ks++[v]) (upd H2 S (.lst (ks++[v])))) E0) :
  ∀ (r:List V) (us:List Value) (i:Nat) (ks:List V) (s:Shared) (H:Hp),Vals r us→xs.drop i=r→i+r.length=xs.length→Inv X.one.one pins σ H s→Pv i ks H →
   wpAny (model X.prog X.w) X.one.one.A (forIn us PUnit.unit body) (fun _ s'=>∃ ks H',Inv X.one.one pins σ H' s'∧Pv xs.length ks H') E s
 | [],us,i,ks,s,H,rv,hd,hl,I,pv=>by
  cases rv
  rw[aXm]
  have:i=xs.length:=by simpa using hl
  subst this
  exact wpAny_pure ⟨ks,H,I,pv⟩
 | y::r,us,i,ks,s,H,rv,hd,hl,I,pv=>by
  cases rv with
  | cons ru rr =>
   rename_i u us
   have hy:xs[i]?=some y:=by
    have:=congrArg List.head? hd
    rw[List.head?_drop] at this
    exact this
   rw[aXM]
   refine wpAny_bind (hbody _ _ _ (wpAny_mono (wF (X:=X.one.one) F hr hb .nil fX I (.cons ru .nil) (hst i ks H pv y hy)) (fun kv s1 hq=>?_) fun _ _ e=>e))
   obtain⟨v,H1,I1,rk,eS,hkl,pv1⟩:=hq
   obtain⟨z,its,n,rks,hlk,eo⟩:=I1.lstM eS
   rw[l7] at hl
   have h64':its.length<64:=by omega
   refine listUpdate_at eo rfl ?_ (by rw[c8,sizeLine_eq];omega) (j8 (aZD (Array.size_push ..)) (by rw[c8,sizeLine_eq];omega))
   have I2:=I1.lset (t':=s1.toks) (its':=its++[kv]) (ys:=ks++[v]) (f:=(·.push kv)) eS eo (by simp) (rks.append (.cons rk .nil)) (by rw[c6,aQO,sizeLine_eq];omega)
   exact BZ F hr hb h64 hbody hst r us (i+1) (ks++[v]) _ _ rr (by rw[← List.drop_drop,hd];rfl) (by omega) I2 pv1
theorem AK{kz:List (Int×List Int)}{i:Nat}(h:i<kz.length):kz[i]?=some (kz.getD i (0,[])):=by
 rw[c5,b0 h];rfl
theorem rN{pins:List (Addr×Obj)}{σ:St}{H:Hp}{s:Shared}(I:Inv X pins σ H s):∀ (ks:List V) (us:List Value),Vals ks us→(∀ v∈ks,∃ q,rQ H v q)→∃ fs,PySem.W.KatTups s.heap us fs∧fs.length=us.length∧∀ v∈fs,∃ i t,v=Value.int i t
 | [],us,r,_=>by
  cases r
  exact⟨[],.nil,rfl,fun v hv=>(nomatch hv)⟩
 | v::ks,us,r,h=>by
  cases r with
  | cons r1 r2 =>
   obtain⟨fs,t,hl,hi⟩:=rN I ks _ r2 fun y hy=>h y (g9 _ hy)
   obtain⟨q,p,a,rfl,hp,ha⟩:=h v (i9 ..)
   cases r1
   obtain⟨_,ip,rp,⟨op,gp1,gp2,np,gp3⟩,_⟩:=I.hok p _ hp
   obtain⟨u1,u2,rfl,r1,r2⟩:=rp.two
   obtain⟨t1,rfl⟩:=r1
   refine⟨Value.int q.1 t1::fs,.cons gp1 gp2 gp3 (by simp) t,by simp[hl],fun y hy=>?_⟩
   rcases d3.mp hy with rfl | hy
   ·exact⟨_,_,rfl⟩
   ·exact hi y hy
theorem vW{xs:List V}{us:List Value}(r:Vals xs us)(i:Nat)(h:i<xs.length):RelV (xs.getD i .non) (us.getD i Value.none):=by
 obtain⟨u,hu,ru⟩:=r.get (b0 h)
 rw[c5,c5,hu,b0 h]
 exact ru
theorem tL{xs:List V}{us:List Value}(r:Vals xs us):∀ l:List Nat,(∀ i∈l,i<xs.length)→Vals (l.map fun i=>xs.getD i .non) (l.map fun i=>us.getD i Value.none)
 | [],_=>.nil
 | i::l,h=>.cons (vW r i (h i (i9 ..))) (tL r l fun j hj=>h j (g9 _ hj))
theorem Hh(us vs:List Value)(h:us.length=vs.length):(us.toArray.zip vs.toArray).map (·.2)=vs.toArray:=by
 apply aJ6.mp
 rw[Array.toList_map,ksk_zip]
 simp only [aXi]
 rw[List.map_snd_zip (by omega)]
theorem AT(vs:List Value):List.toArray ((List.toArray (List.range vs.length)).toList.map fun i=>vs.getD i Value.none)=vs.toArray:=by
 congr 1
 refine aQt fun i=>?_
 by_cases h:i<vs.length
 ·simp[h]
 ·simp[h]
theorem DF{pins:List (Addr×Obj)}{σ:St}{H:Hp}{s:Shared}{S D:Addr}{e1:Nat}{ks xs:List V}{vs:List Value}{kz:List (Int×List Int)}{P:PySem.Fin→Shared→Prop}{E:Value→Shared→Prop}(hu:X.one.one.A.units+8<cLine)
  (I:Inv X.one.one (pins++[(D,seqObj "list" #[] e1)]) σ H s) (hf:gQ X.one.one pins H D) (eS:H S=some (.lst ks)) (rx:Vals xs vs) (hl:ks.length=xs.length) (h64:xs.length<64) (hkl:kz.length=xs.length)
  (hk:∀ (i:Nat) (v:V) (q:Int×List Int),ks[i]?=some v→kz[i]?=some q→rQ H v q)
  (hlen:∀ (i j:Nat) (a b:Int×List Int),kz[i]?=some a→kz[j]?=some b→a.1=b.1→a.2.length=b.2.length) (T:TotLt (fun i j=>nN (kz.getD i (0,[])) (kz.getD j (0,[]))))
  (h:∀ (p:Array Nat) (s':Shared),PermN xs.length p→jR (fun i j=>nN (kz.getD i (0,[])) (kz.getD j (0,[]))) p xs.length→Inv X.one.one pins σ (upd (upd H S (.lst [])) D (.lst (p.toList.map fun i=>xs.getD i .non))) s'→P (.done (.ret .none)) s') :
  wpAny (model X.prog X.w) X.one.one.A (Builtin.List.listItems (.ref S) >>= fun keys=>ksk_end D false vs.toArray e1 (.ref S) keys) P E s:=by
 obtain⟨z,us,n,ru,hlu,eo⟩:=I.lstM eS
 have lx:=rx.length
 have hD:s.heap.get? D=some (seqObj "list" #[] e1):=(I.pin (D,seqObj "list" #[] e1) (j0 _ (j0 _ (aQi _)))).1
 refine wpAny_bind (listItems_at eo rfl ?_)
 -- the last steps: the keys' list is emptied,the sorted one is laid
 have tail:∀ (st:SortSt) (p:Array Nat) (s1:Shared),Inv X.one.one (pins++[(D,seqObj "list" #[] e1)]) σ H s1→(arrOf st).map (·.2)=List.toArray (p.toList.map fun i=>vs.getD i Value.none)→failedOf st=none→PermN xs.length p →
   jR (fun i j=>nN (kz.getD i (0,[])) (kz.getD j (0,[]))) p xs.length→wpAny (model X.prog X.w) X.one.one.A (ksk_tail D false e1 (.ref S) st) P E s1:=fun st p s1 I1 hout hfl hp hso=>by
  obtain⟨z1,us1,n1,ru1,hlu1,eo1⟩:=I1.lstM eS
  have I2:=I1.lset (t':=s1.toks) (its':=[]) (ys:=[]) (f:=fun _=>#[]) eS eo1 rfl .nil (l9 _)
  have hD1:s1.heap.get? D=some (seqObj "list" #[] e1):=(I1.pin (D,seqObj "list" #[] e1) (j0 _ (j0 _ (aQi _)))).1
  have hD2:(s1.heap.update S (Obj.mapSeq fun _=>(#[]:Array Value))).get? D=some (seqObj "list" #[] e1):=(I2.pin (D,seqObj "list" #[] e1) (j0 _ (j0 _ (aQi _)))).1
  have hps:p.toList.length=xs.length:=by rw[x5];exact hp.size
  have hpb:∀ i∈p.toList,i<xs.length:=fun i hi=>by
   have:=(aQb.mp hp).mem_iff.mp hi
   simpa using this
  unfold ksk_tail
  try dsimp only
  rw[hout]
  refine wpAny_bind (listUpdate_at eo1 rfl ?_ (by rw[c8,sizeLine_eq];omega) (l9 _))
  refine wpAny_bind (wpAny_letGo ?_)
  refine wpAny_bind (seqEpoch_at hD2 rfl ?_)
  simp only [aQn,if_false]
  refine wpAny_bind (listUpdate_at hD2 rfl ?_ (l9 _) (by show (List.toArray (p.toList.map fun i=>vs.getD i Value.none)).size≤_;rw[c8,b7,hps,sizeLine_eq];omega))
  rw[hfl]
  simp only [bne_self_eq_false,aQn,if_false]
  refine wpAny_pure (h p _ hp hso ?_)
  have rv:=tL rx p.toList hpb
  have I3:=I2.unpinned
  have f2:gQ X.one.one pins (upd H S (.lst [])) D:=⟨by rw[aE (aJ eS hf.1).symm];exact hf.1,hf.2⟩
  have sb:=u0 (s1.heap.update S (Obj.mapSeq fun _=>(#[]:Array Value))) D (Obj.mapSeq fun _=>List.toArray (p.toList.map fun i=>vs.getD i Value.none))
  refine I3.adopt (t':=s1.toks) (D:=D) (fun b o hb e=>(sb.2 b hb).trans e) f2 ⟨by rw[b7,hps,sizeLine_eq];omega,_,_,rv,get?_update_seq hD2 fun _=>List.toArray (p.toList.map fun i=>vs.getD i Value.none)⟩
 unfold ksk_end
 try dsimp only
 simp only [aQn,if_false]
 by_cases h2:xs.length<2
 ·have h2':vs.toArray.size<2:=by rw[c8];omega
  rw[if_pos h2',if_pos h2']
  refine wpAny_bind (wpAny_pure ?_)
  show wpAny _ _ (pure ((),SortSt.mk' general' (us.toArray.zip vs.toArray) #[] 7 none) >>= _) _ _ _
  refine wpAny_bind (wpAny_pure ?_)
  refine tail _ (List.toArray (List.range xs.length)) s I ?_ rfl (aJh _) (fun i j hij hj=>?_)
  ·show (us.toArray.zip vs.toArray).map (·.2)=_
   rw[Hh us vs (by omega),lx,AT]
  ·have e:i=j:=by omega
   rw[e];exact T.irr _
 ·have h2':¬ vs.toArray.size<2:=by rw[c8];omega
  rw[if_neg h2',if_neg h2']
  have lu:us.length=vs.length:=by omega
  obtain⟨fs,ht,hfl,hfi⟩:=rN I ks us ru fun v hv=>by
   obtain⟨i,hi⟩:=p8 hv
   have hi':i<ks.length:=(a9.mp hi).1
   exact⟨_,hk i v _ hi (AK (by omega))⟩
  refine wpAny_bind (PySem.W.kat_kind (T:=.type "int") ht (by omega) (fun v hv=>?_) (by decide) ?_)
  ·obtain⟨i,t,rfl⟩:=hfi v hv
   exact .now
  ·have hsort:=KTr.wp (cmp:=PySem.W.kas_ask X.prog X.w X.one.one.A (tuples' true) us) (Ok:=Inv X.one.one (pins++[(D,seqObj "list" #[] e1)]) σ H) (fun i j C s' hi hj o k'=>?_) (R:=fun p s'=>(PermN xs.length p∧jR (fun i j=>nN (kz.getD i (0,[])) (kz.getD j (0,[]))) p xs.length)∧Inv X.one.one (pins++[(D,seqObj "list" #[] e1)]) σ H s') (fun a s' q o=>⟨q,o⟩) (GE T (n:=xs.length) (by omega)) I
   ·refine wpAny_bind (wpAny_mono (PySem.W.kat_run (Q:=fun st s'=>∃ p:Array Nat,arrOf st=p.map (PySem.W.kas_item (us.toArray.zip vs.toArray))∧failedOf st=none∧(PermN xs.length p∧jR (fun i j=>nN (kz.getD i (0,[])) (kz.getD j (0,[]))) p xs.length)∧Inv X.one.one (pins++[(D,seqObj "list" #[] e1)]) σ H s')
     lu (by omega) (by omega) (fun p st s' _ a2 a3 a4=>⟨p,a2,a3,a4⟩) (by rw[← lx];exact hsort)) ?_ fun _ _ x=>x)
    rintro⟨⟨⟩,st⟩ s1 ⟨p,har,hfl1,⟨hp,hso⟩,I1⟩
    exact tail st p s1 I1 (PySem.W.kat_snds lu har) hfl1 hp hso
   ·have e1':ks[i]?=some (ks.getD i .non):=by rw[c5,b0 (by omega)];rfl
    have e2':ks[j]?=some (ks.getD j .non):=by rw[c5,b0 (by omega)];rfl
    have z1:=AK (kz:=kz) (i:=i) (by omega)
    have z2:=AK (kz:=kz) (i:=j) (by omega)
    exact Go hu o (hk i _ _ e1' z1) (hk j _ _ e2' z2) (vW ru i (by omega)) (vW ru j (by omega)) (hlen i j _ _ z1 z2) (k' s' o)
theorem Dg{pins:List (Addr×Obj)}{σ:St}{Q:VK}{l:Addr}{xs:List V}{kz:List (Int×List Int)}{Pv:Addr→Nat→List V→Hp→Prop}{s:Shared}{H:Hp}
  (F:FnOk X.prog X.w X.K X.mg X.base zJ k f fd ps sp) (hr:Room (k+2) X.A) (hu:X.one.one.A.units+8<cLine) (hb:Binds X.K fd ps []) (I:Inv X pins σ H s) (hq:SqL X.K H l xs) (h64:xs.length<64) (hkl:kz.length=xs.length)
  (hlen:∀ (i j:Nat) (a b:Int×List Int),kz[i]?=some a→kz[j]?=some b→a.1=b.1→a.2.length=b.2.length) (T:TotLt (fun i j=>nN (kz.getD i (0,[])) (kz.getD j (0,[]))))
  (h0:∀ S,H S=none→Pv S 0 [] (upd H S (.lst [])))
  (hst:∀ S i ks H,Pv S i ks H→∀ y,xs[i]?=some y→sp [y] H (fun v H2=>H2 S=some (.lst ks)∧ks.length=i∧Pv S (i+1) (ks++[v]) (upd H2 S (.lst (ks++[v])))) E0)
  (hend:∀ S ks H,Pv S xs.length ks H→H S=some (.lst ks)∧ks.length=xs.length∧(∀ (i:Nat) (v:V) (k:Int×List Int),ks[i]?=some v→kz[i]?=some k→rQ H v k) ∧
   ∀ p:Array Nat,PermN xs.length p→jR (fun i j=>nN (kz.getD i (0,[])) (kz.getD j (0,[]))) p xs.length→∀ D,upd H S (.lst []) D=none→Q (.ref D) (upd (upd H S (.lst [])) D (.lst (p.toList.map fun i=>xs.getD i .non)))) :
  wpAny (model X.prog X.w) X.A (call (.builtin "sorted") [.ref l] [(Str.ofString "key",.ref f)]) (EP X pins σ Q) X.xe s:=by
 obtain⟨vs,rx,pl,hz⟩:=I.list hq
 have lx:=rx.length
 refine call_function_entry_kw kind_sorted plain_sorted entry_sorted (ksk_s1 _ _) ?_
 unfold Builtin.«sorted»
 refine wpAny_bind (m:=checkCount "sorted" 1 1 _) (wpAny_pure ?_)
 refine wpAny_bind (collect_list pl.isList ?_ (by rw[sizeLine_eq];omega))
 refine wpAny_bind (wpAny_newList ?_ (by rw[sizeLine_eq];omega))
 have hsz:((s.heap.push (seqObj "list" #[] 0)).update s.heap.objs.size (Obj.mapSeq (·++vs.toArray))).objs.size=s.heap.objs.size+1:=by
  rw[aZI,size_push']
 have hoL:(((s.heap.push (seqObj "list" #[] 0)).update s.heap.objs.size (Obj.mapSeq (·++vs.toArray))).push (seqObj "list" vs.toArray 0)).get? (s.heap.objs.size+1)=some (seqObj "list" vs.toArray 0):=by
  rw[← hsz];exact d9 _ rfl
 have keep:∀ b o,s.heap.get? b=some o→(((s.heap.push (seqObj "list" #[] 0)).update s.heap.objs.size (Obj.mapSeq (·++vs.toArray))).push (seqObj "list" vs.toArray 0)).get? b=some o:=fun b o q=>by
  have hlt:b<s.heap.objs.size:=d5 q
  rw[aJQ _ _ _ (by rw[hsz];exact d8 (aJR hlt)),y2 _ _ _ _ (d8 hlt),aJQ _ _ _ (d8 hlt)]
  exact q
 show wpAny _ _ _ _ _ { s with heap:=((s.heap.push (seqObj "list" #[] 0)).update s.heap.objs.size (Obj.mapSeq (·++vs.toArray))).push (seqObj "list" vs.toArray 0) }
 rw[hsz]
 have I0:Inv X.one.one pins σ H { s with heap:=((s.heap.push (seqObj "list" #[] 0)).update s.heap.objs.size (Obj.mapSeq (·++vs.toArray))).push (seqObj "list" vs.toArray 0) }:=I.one.one.kept (t':=s.toks) keep
 have fD:gQ X.one.one pins H (s.heap.objs.size+1):=I.one.one.fpOk (aQp _) (I.hok.fresh (aQp _))
 generalize ((s.heap.push (seqObj "list" #[] 0)).update s.heap.objs.size (Obj.mapSeq (·++vs.toArray))).push (seqObj "list" vs.toArray 0)=hA at hoL keep I0
 generalize s.heap.objs.size+1=D at hoL fD
 refine wpAny_bind (wpAny_holding (wpAny_call_entry_kw slot_list_sort ⟨_,hoL,rfl⟩ entry_list_sort ?body (ksk_l1 _ _)))
 case body =>
  show wpAny (model X.prog X.w) X.A.in1.in1 (Builtin.«list.sort» ⟨[.ref D],[(Str.ofString "key",.ref f)]⟩) _ _ _
  rw[ksk_t1]
  obtain⟨f0,f1,f2,f3,f4,f5⟩:=id fD
  have s1:=u0 hA D (Obj.mapSeq fun _=>(#[]:Array Value))
  obtain⟨e1,ho1⟩:∃ e1,(hA.update D (Obj.mapSeq fun _=>(#[]:Array Value))).get? D=some (seqObj "list" #[] e1):=⟨_,get?_update_seq hoL fun _=>#[]⟩
  have I1:Inv X.one.one pins σ H { s with heap:=hA.update D (Obj.mapSeq fun _=>(#[]:Array Value)) }:=I0.turned (t':=s.toks) (fun b o hb e=>(s1.2 b hb).trans e) f0 f1 f3 f4 f5
  unfold ksk_tree
  refine wpAny_bind (listItems_at hoL rfl ?_)
  refine wpAny_bind (listUpdate_at hoL rfl ?_ (by rw[c8,sizeLine_eq];omega) (l9 _))
  refine wpAny_bind (seqEpoch_at ho1 rfl ?_)
  refine wpAny_bind (wpAny_newTuple ?_ (by show vs.length≤_;rw[sizeLine_eq];omega))
  refine wpAny_bind (wpAny_newList ?_ (l9 _))
  refine wpAny_holding ?_
  show wpAny (model X.prog X.w) X.one.one.A _ _ _ { s with heap:=((hA.update D (Obj.mapSeq fun _=>(#[]:Array Value))).push (seqObj "tuple" vs.toArray 0)).push (seqObj "list" #[] 0) }
  generalize hA.update D (Obj.mapSeq fun _=>(#[]:Array Value))=hB at ho1 I1
  have I2:Inv X.one.one pins σ H { s with heap:=hB.push (seqObj "tuple" vs.toArray 0) }:=I1.kept (t':=s.toks) fun b o e=>b6 _ e
  have ho2:(hB.push (seqObj "tuple" vs.toArray 0)).get? D=some (seqObj "list" #[] e1):=b6 _ ho1
  generalize hB.push (seqObj "tuple" vs.toArray 0)=hC at ho2 I2
  have fS:H hC.objs.size=none:=I2.hok.fresh (b9 _)
  have I3:Inv X.one.one pins σ (upd H hC.objs.size (.lst [])) { s with heap:=hC.push (seqObj "list" #[] 0) }:=I2.lnew (t':=s.toks) (its:=[]) (ys:=[]) .nil (l9 _)
  have ho3:(hC.push (seqObj "list" #[] 0)).get? D=some (seqObj "list" #[] e1):=b6 _ ho2
  have hDS:D≠hC.objs.size:=d8 (d5 ho2)
  have fD3:gQ X.one.one pins (upd H hC.objs.size (.lst [])) D:=⟨by rw[aE hDS];exact f0,fD.2⟩
  have I4:=I3.pinned (fp:=[D]) (fun b hb=>by rw[d6.mp hb];exact fD3) (fun b hb=>by rw[d6.mp hb];exact⟨_,ho3,fun v z=>by cases z⟩)
  have epn:jW [D] (hC.push (seqObj "list" #[] 0))=[(D,seqObj "list" #[] e1)]:=by unfold jW;simp[ho3]
  have I5:Inv X.one.one (pins++[(D,seqObj "list" #[] e1)]) σ (upd H hC.objs.size (.lst [])) { s with heap:=hC.push (seqObj "list" #[] 0) }:=by rw[← epn];exact I4
  generalize hC.objs.size=S at fS I5 hDS
  unfold ksk_rest
  refine wpAny_bind (wpAny_rule ?_)
  first
   | rw[List.forIn_toArray]
   | (rw[← aZz];simp only [aXi])
   | rw[← aZz]
  refine wpAny_bind (wpAny_mono (BZ (X:=X) (pins:=pins++[(D,seqObj "list" #[] e1)]) (S:=S) (Pv:=Pv S) F hr.in1.in1 hb h64 (fun x s' R hx=>?_) (hst S) xs vs 0 [] _ _ rx rfl (by simp) I5 (h0 S fS)) (fun _ s' hd=>?_) fun _ _ x=>x)
  ·refine wpAny_bind (wpAny_attempt (wpAny_mono hx (fun kv s'' hk=>?_) fun _ _ hF=>hF.elim))
   try dsimp only
   exact wpAny_bind (wpAny_mono hk (fun _ s3 h3=>wpAny_pure h3) fun _ _ x=>x)
  ·obtain⟨ks,H',I6,pv⟩:=hd
   obtain⟨eS,hkl2,hka,hfin⟩:=hend S ks H' pv
   have pD:=(I6.pin (D,seqObj "list" #[] e1) (j0 _ (j0 _ (aQi _)))).2.1
   refine DF (X:=X) (pins:=pins) (D:=D) (kz:=kz) hu I6 ⟨pD,fD.2⟩ eS rx hkl2 h64 hkl hka hlen T fun p s4 hp hso I7=>?_
   exact⟨_,rfl,wpAny_pure ⟨_,rfl,⟨.ref D,_,(I7.unone I.ok.one).unone I.ok,rfl,hfin p hp hso D (by rw[aE (aJ eS pD).symm];exact pD)⟩⟩⟩
theorem D8{K:b5}{e:Expr}{ta:TA}{kn:Str}{p kp kpos pos:Pos}(hK:X.K=K)(F:FnOk X.prog X.w X.K X.mg X.base zJ k f fd ps sp)(hr:Room (k+2) X.A)(hb:Binds X.K fd ps [])
  (hg:Gl X "sorted") (hm:X.mg "sorted"=none) (hgk:Gl X kn) (hmk:X.mg kn=some (.ref f)) (ha:PA X [e] ta) (hkd:(kn == ("__debug__":Str))=false:=by decide)
  (hall:(backToKw pos (keywordEach [⟨some (Str.ofString "key"),.Name kn kp,kpos⟩] X.env)).all (·.1.isSome)=true:=by rfl) (hks:(backToKw pos (keywordEach [⟨some (Str.ofString "key"),.Name kn kp,kpos⟩] X.env)).filterMap (·.1)=[Str.ofString "key"]:=by rfl)
  (hs:backTo pos (starEach [e] X.env)=[(false,eval e X.env)]:=by rfl) (hkw:(backToKw pos (keywordEach [⟨some (Str.ofString "key"),.Name kn kp,kpos⟩] X.env)).any (·.1.isNone)=false:=by rfl) :
  PE X (.Call (.Name "sorted" p) [e] [⟨some (Str.ofString "key"),.Name kn kp,kpos⟩] pos) (J9 K sp ta):=by
 subst hK
 intro pins s σ H Q I h
 refine wpAny_Call_Name_kw (iK I hg hm boot_sorted ?_ (by decide) (by decide))
 refine callWith_kw (bS (ha pos pins s σ H _ I h) fun us s1 ⟨vs,H1,I1,r1,q1⟩=>?_) (by rw[hs];rfl) (by rw[hs];rfl) hall hkw
 obtain⟨l,xs,kz,Pv,rfl,hq,h64,hkl,hlen,T,h0,hst,hend⟩:=q1
 have hpk:PK X [⟨some (Str.ofString "key"),.Name kn kp,kpos⟩] (Fk (tC (.ref f)) Au):=FU (eR (v:=.ref f) hgk hmk rfl hkd) J4
 refine bS (hpk pos pins s1 σ H1 (fun zs H2=>zs=[.ref f]∧H2=H1) I1 ⟨rfl,rfl⟩) fun ks s2 ⟨zs,H2,I2,r2,e2,e3⟩=>?_
 subst e2 e3
 obtain⟨u,rfl,ru⟩:=mZ r1
 obtain⟨kf,rfl,rk⟩:=mZ r2
 cases ru
 cases rk
 rw[hks]
 have hu:X.one.one.A.units+8<cLine:=by
  have:=hr.units
  show X.A.units+1+1+8<cLine
  omega
 exact Dg F hr hu hb I2 hq h64 hkl hlen T h0 hst hend
end
end L2
namespace PySem
open Sem (wp)
end PySem
namespace L2
open PySem PySem.Spec PyProof.Rows
def Hi(z:Str):Value→Bool
 | .str w _=>w == z
 | _=>false
theorem zI(z:Str):∀ {ws:List Str} {us:List Value},Vals (ws.map V.str) us→us.countP (Hi z)=ws.countP (· == z)∧∀ u∈us,∃ w t,u=Value.str w t
 | [],us,r=>by
  cases r
  exact⟨rfl,fun u hu=>(nomatch hu)⟩
 | w::ws,us,r=>by
  rw[i8] at r
  cases r with
  | cons r1 r2 =>
   obtain⟨t,rfl⟩:=r1
   obtain⟨h1,h2⟩:=zI z r2
   refine⟨?_,fun u hu=>?_⟩
   ·rw[aJ8,aJ8,h1]
    rfl
   ·rcases d3.mp hu with rfl | hu
    ·exact⟨_,_,rfl⟩
    ·exact h2 u hu
end L2
namespace Lw
open PySem PySem.Spec PyProof.Rows L2 Ma MaR
def mT(x:List Nat):Int×List Int:=((x.length:Nat),rks x)
theorem xG:∀ {a b:List Int},a.length=b.length→HT.lexLt a b=true→HT.lexLt b a=false
 | [],[],_,h=>by cases h
 | x::a,y::b,hl,h=>by
  rw[HT.lexLt_cons] at h ⊢
  by_cases e:x=y
  ·subst e
   rw[if_pos rfl] at h ⊢
   exact xG (by simpa using hl) h
  ·rw[if_neg e] at h
   rw[if_neg (fun z=>e z.symm)]
   have:=of_decide_eq_true h
   exact decide_eq_false (by omega)
theorem E1:∀ {a b c:List Int},a.length=b.length→b.length=c.length→HT.lexLt b a=false→HT.lexLt c b=false→HT.lexLt c a=false
 | [],[],[],_,_,_,h=>h
 | x::a,y::b,z::c,h1,h2,h3,h4=>by
  rw[HT.lexLt_cons] at h3 h4 ⊢
  by_cases e:y=x
  ·subst e
   rw[if_pos rfl] at h3
   by_cases e2:z=y
   ·subst e2
    rw[if_pos rfl] at h4 ⊢
    exact E1 (by simpa using h1) (by simpa using h2) h3 h4
   ·rw[if_neg e2] at h4 ⊢
    exact h4
  ·rw[if_neg e] at h3
   have q1:=of_decide_eq_false h3
   by_cases e2:z=y
   ·subst e2
    rw[if_neg e]
    exact h3
   ·rw[if_neg e2] at h4
    have q2:=of_decide_eq_false h4
    rw[if_neg (by omega)]
    exact decide_eq_false (by omega)
def FH(k:Int×List Int):Prop:=k.1=(k.2.length:Nat)
theorem FC{a b:Int×List Int}(ha:FH a)(hb:FH b)(h:nN a b=true):nN b a=false:=by
 unfold nN at h ⊢
 unfold FH at ha hb
 by_cases e:a.1=b.1
 ·rw[if_pos e] at h
  rw[if_pos e.symm]
  exact xG (by omega) h
 ·rw[if_neg e] at h
  rw[if_neg (fun z=>e z.symm)]
  have:=of_decide_eq_true h
  exact decide_eq_false (by omega)
theorem Ir{a b c:Int×List Int}(ha:FH a)(hb:FH b)(hc:FH c)(h1:nN b a=false)(h2:nN c b=false):nN c a=false:=by
 unfold nN at h1 h2 ⊢
 unfold FH at ha hb hc
 by_cases e:b.1=a.1
 ·rw[if_pos e] at h1
  by_cases e2:c.1=b.1
  ·rw[if_pos e2] at h2
   rw[if_pos (e2.trans e)]
   exact E1 (by omega) (by omega) h1 h2
  ·rw[if_neg e2] at h2
   rw[if_neg (by omega)]
   have:=of_decide_eq_false h2
   exact decide_eq_false (by omega)
 ·rw[if_neg e] at h1
  have q1:=of_decide_eq_false h1
  by_cases e2:c.1=b.1
  ·rw[if_neg (by omega)]
   exact decide_eq_false (by omega)
  ·rw[if_neg e2] at h2
   have q2:=of_decide_eq_false h2
   rw[if_neg (by omega)]
   exact decide_eq_false (by omega)
theorem iU(x:List Nat):FH (mT x):=by
 unfold FH mT
 rw[pP]
theorem oF(ws:List (List Nat))(i:Nat):(ws.map mT).getD i (0,[])=mT (ws.getD i []):=by
 rw[c5,c7,c5]
 cases ws[i]? with
 | none=>rfl
 | some x=>rfl
theorem ER(ws:List (List Nat)):TotLt (fun i j=>nN ((ws.map mT).getD i (0,[])) ((ws.map mT).getD j (0,[]))):=by
 refine⟨fun i j h=>?_,fun i j k h1 h2=>?_⟩
 ·simp only [oF] at h ⊢
  exact FC (iU _) (iU _) h
 ·simp only [oF] at h1 h2 ⊢
  exact Ir (iU _) (iU _) (iU _) h1 h2
def DS(x y:List Nat):Prop:=nN (mT y) (mT x)=false
theorem Ay{ws:List (List Nat)}{p:Array Nat}(h:PermN ws.length p):(p.toList.map fun i=>ws.getD i []).Perm ws:=by
 have h1:=(aQb.mp h).map fun i=>ws.getD i []
 have e:(List.range ws.length).map (fun i=>ws.getD i [])=ws:=by
  refine aQt fun i=>?_
  by_cases hi:i<ws.length
  ·simp[hi]
  ·simp[hi]
 simp only [aXi] at h1
 rw[e] at h1
 exact h1
theorem wC{ws:List (List Nat)}{p:Array Nat}{n:Nat}(hn:ws.length=n)(h:PermN n p)(so:jR (fun i j=>nN ((ws.map mT).getD i (0,[])) ((ws.map mT).getD j (0,[]))) p n):(p.toList.map fun i=>ws.getD i []).Pairwise DS:=by
 rw[List.pairwise_iff_getElem]
 intro i j hi hj hij
 have hs:=h.size
 rw[b7,x5] at hi hj
 have:=so i j (by omega) (by omega)
 simp only [oF] at this
 unfold DS
 rw[aX1,aX1]
 have e1:p.getD i 0=p.toList[i]'(by rw[x5];exact hi):=by simp[Array.getD,hi]
 have e2:p.getD j 0=p.toList[j]'(by rw[x5];exact hj):=by simp[Array.getD,hj]
 rw[← e1,← e2]
 exact this
theorem Ds(ws:List (List Nat))(l:List Nat)(h:∀ i∈l,i<ws.length):(l.map fun i=>(cF ws).getD i .non)=cF (l.map fun i=>ws.getD i []):=by
 unfold cF
 rw[u7]
 refine x8 fun i hi=>?_
 have:=h i hi
 simp[c5,this]
theorem _root_.L2.SqL_same{K:b5}{H H':Hp}{a:Addr}{xs:List V}(s:Same H H')(h:SqL K H a xs):SqL K H' a xs:=by
 rcases h with (h | ⟨o,h⟩) | h
 ·exact .inl (.inl (s _ _ h))
 ·exact .inl (.inr ⟨o,s _ _ h⟩)
 ·exact .inr h
theorem Be:∀ {x y:List Nat},AllL x→AllL y→rks x=rks y→x=y
 | [],[],_,_,_=>rfl
 | [],_::_,_,_,h=>by simp[rks] at h
 | _::_,[],_,_,h=>by simp[rks] at h
 | a::x,b::y,hx,hy,h=>by
  obtain⟨e1,e2⟩:=List.cons.inj (show ((rk a:Nat):Int)::rks x=((rk b:Nat):Int)::rks y from h)
  rw[IH (AllL.cons.mp hx).1 (AllL.cons.mp hy).1 (by omega),Be (AllL.cons.mp hx).2 (AllL.cons.mp hy).2 e2]
theorem Ew:∀ {a b:List Int},a.length=b.length→HT.lexLt a b=false→HT.lexLt b a=false→a=b
 | [],[],_,_,_=>rfl
 | x::a,y::b,hl,h1,h2=>by
  rw[HT.lexLt_cons] at h1 h2
  by_cases e:x=y
  ·subst e
   rw[if_pos rfl] at h1 h2
   rw[Ew (by simpa using hl) h1 h2]
  ·rw[if_neg e] at h1
   rw[if_neg (fun z=>e z.symm)] at h2
   have:=of_decide_eq_false h1
   have:=of_decide_eq_false h2
   omega
theorem Fs{x y:List Nat}(hx:AllL x)(hy:AllL y)(h1:DS x y)(h2:DS y x):x=y:=by
 unfold DS nN mT at h1 h2
 dsimp only at h1 h2
 by_cases e:x.length=y.length
 ·rw[if_pos (by omega)] at h1 h2
  exact Be hx hy (Ew (by rw[pP,pP,e]) h2 h1)
 ·rw[if_neg (by omega)] at h1 h2
  have:=of_decide_eq_false h1
  have:=of_decide_eq_false h2
  omega
theorem tP:∀ {ps qs:List (List Nat)},(∀ x∈ps,AllL x)→ps.Perm qs→ps.Pairwise DS→qs.Pairwise DS→ps=qs
 | [],qs,_,h,_,_=>by rw[List.nil_perm.mp h]
 | x::ps,[],_,h,_,_=>by exact absurd h.length_eq (by simp)
 | x::ps,y::qs,ha,h,h1,h2=>by
  have hy:y∈x::ps:=h.mem_iff.mpr i9
  have hx:x∈y::qs:=h.mem_iff.mp i9
  obtain⟨p1,p2⟩:=aJA.mp h1
  obtain⟨q1,q2⟩:=aJA.mp h2
  have e:x=y:=by
   rcases d3.mp hy with e | m1
   ·exact e.symm
   ·rcases d3.mp hx with e | m2
    ·exact e
    ·exact Fs (ha x i9) (ha y hy) (p1 y m1) (q1 x m2)
  subst e
  rw[tP (fun z hz=>ha z (g9 _ hz)) (List.perm_cons _ |>.mp h) p2 q2]
theorem xS{x:List Nat}{d e:Nat}{j:Nat}(h:j<x.length):(d::x++[e]).getD (j+1) 0=x.getD j 0:=by
 rw[c5,c5]
 show ((d::(x++[e]))[j+1]?).getD 0=_
 rw[aQ1,p6 h]
theorem uY{x:List Nat}{d e:Nat}:(d::x++[e]).getD (x.length+1) 0=e:=by
 rw[c5]
 show ((d::(x++[e]))[x.length+1]?).getD 0=_
 rw[aQ1,u5 (b9 _)]
 simp
theorem mC(x:List Nat)(d e:Nat):(d::x++[e]).length=x.length+2:=by simp
theorem wrap_pair{x:List Nat}{d:Nat}{j:Nat}:(2 * (j+1)+1<(d::x++[con d]).length∧(d::x++[con d]).getD (j+1) 0=con ((d::x++[con d]).getD ((d::x++[con d]).length - 1 - (j+1)) 0))↔(2 * j+1<x.length∧x.getD j 0=con (x.getD (x.length - 1 - j) 0)):=by
 rw[mC]
 by_cases c:2 * j+1<x.length
 ·rw[xS (by omega),show x.length+2 - 1 - (j+1)=(x.length - 1 - j)+1 by omega,xS (by omega)]
  constructor
  ·rintro⟨_,h⟩;exact⟨c,h⟩
  ·rintro⟨_,h⟩;exact⟨by omega,h⟩
 ·constructor
  ·rintro⟨h,_⟩;omega
  ·rintro⟨h,_⟩;omega
theorem vD{x:List Nat}{d m:Nat}(hd:cE d):Ends (d::x++[con d]) (m+1)↔Ends x m:=by
 unfold Ends
 constructor
 ·rintro⟨h1,h2⟩
  exact⟨fun j hj=>wrap_pair.mp (h1 (j+1) (by omega)),fun h=>h2 (wrap_pair.mpr h)⟩
 ·rintro⟨h1,h2⟩
  refine⟨fun j hj=>?_,fun h=>h2 (wrap_pair.mp h)⟩
  cases j with
  | zero =>
   rw[mC,show x.length+2 - 1 - 0=x.length+1 by omega,uY,aW hd]
   exact⟨by omega,rfl⟩
  | succ j=>exact wrap_pair.mpr (h1 j (by omega))
theorem EG{x:List Nat}{d:Nat}(hd:cE d):¬ Ends (d::x++[con d]) 0:=fun h=>h.2 (by
 rw[mC,show x.length+2 - 1 - 0=x.length+1 by omega,uY,aW hd]
 exact⟨by omega,rfl⟩)
theorem yH{x:List Nat}{d e m:Nat}:uG (d::x++[e]) (m+1)=(x.drop m).take (x.length - 2 * m)∨x.length<2 * m:=by
 by_cases c:x.length<2 * m
 ·exact .inr c
 ·left
  unfold uG
  rw[mC]
  show List.take (x.length+2 - 2 * (m+1)) (List.drop (m+1) (d::(x++[e])))=_
  rw[List.drop_succ_cons,List.drop_append_of_le_length (by omega),List.take_append_of_le_length (by rw[aQC];omega)]
  congr 1
  omega
theorem sW{x r:List Nat}{d:Nat}(hd:cE d):iE (d::x++[con d]) r↔iE x r:=by
 constructor
 ·rintro⟨m,b,h1,h2,h3⟩
  cases m with
  | zero=>exact absurd h1 (EG hd)
  | succ m =>
   have he:=(vD hd).mp h1
   have hm:uG (d::x++[con d]) (m+1)=uG x m:=by
    rcases yH (x:=x) (d:=d) (e:=con d) (m:=m) with h | h
    ·exact h
    ·have:=he.le;omega
   rw[hm] at h2 h3
   exact⟨m,b,he,h2,h3⟩
 ·rintro⟨m,b,h1,h2,h3⟩
  have hm:uG (d::x++[con d]) (m+1)=uG x m:=by
   rcases yH (x:=x) (d:=d) (e:=con d) (m:=m) with h | h
   ·exact h
   ·have:=h1.le;omega
  refine⟨m+1,b,(vD hd).mpr h1,?_,?_⟩
  ·rw[hm];exact h2
  ·rw[hm];exact h3
theorem Af{x:List Nat}{c:Nat}(hp:bR x)(h:∀ d t,x=d::t→c≠con d):bR (c::x):=by
 refine jT fun k=>?_
 rintro⟨a,b,h1,h2,e⟩
 cases k with
 | zero =>
  cases x with
  | nil=>simp at h2
  | cons d t =>
   simp at h1 h2
   subst h1 h2
   exact h d t rfl e
 | succ k=>exact uZ hp (by simpa using h1) (by simpa using h2) e
theorem vB{x r:List Nat}(hx:AllL x)(hp:bR x)(he:Ends x 0)(hr:iE x r){a:Nat}(ha:a≤x.length):iE (kU x a) r:=by
 obtain⟨b,hb,e⟩:=GK hx he hr
 rw[rJ] at e
 have hl:x.length=r.length:=by rw[e,fV hb]
 by_cases h0:r.length=0
 ·have e1:r=[]:=r9.mp h0
  have e2:x=[]:=r9.mp (by omega)
  have:a=0:=by rw[e2] at ha;simpa using ha
  rw[e1,e2,this]
  exact zN
 ·by_cases hae:a<r.length
  ·by_cases hbe:b<r.length
   ·rw[e,wA hbe hae (aQf _ (by omega)) rfl]
    exact zA hx hp hr (aQT (aQf _ (by omega)))
   ·have:b=r.length:=by omega
    rw[e,this,vM]
    exact zA hx hp hr (by omega)
  ·have:a=x.length:=by omega
   rw[this,vM]
   exact hr
theorem E_{x r:List Nat}{c:Nat}(hx:AllL x)(hp:bR x)(hc:cE c)(hr:iE x r):iE (lay (c::x++[con c])) r:=by
 have hcc:=cV hc
 cases x with
 | nil =>
  have e:lay (c::[]++[con c])=[]:=fZ (w:=[c]) (fun d hd=>by rw[d6.mp hd];exact hc)
  rw[e];exact hr
 | cons d t =>
  obtain⟨hd,ht⟩:=AllL.cons.mp hx
  have pt:bR t:=zV hp 1
  by_cases hdc:d=con c
  ·-- the letter falls away at the begin
   have e1:lay (c::(d::t)++[con c])=lay (t++[con c]):=kP [] (t++[con c]) AllL.nil hd (by rw[hdc,aW hc])
   rw[e1]
   by_cases hlast:∃ t',t=t'++[c]
   ·obtain⟨t',rfl⟩:=hlast
    have ht':=(AllL.app.mp ht).1
    have e2:lay (t'++[c]++[con c])=lay (t'++[]):=by
     rw[l6]
     exact kP t' [] ht' hcc (by rw[aW hc])
    rw[e2,m7,eU (by have:=rE pt t'.length;rwa [aZ6] at this)]
    have hr':iE (con c::t'++[con (con c)]) r:=by rw[aW hc,← hdc];exact hr
    exact(sW hcc).mp hr'
   ·have hok:nE t (con c)=true:=by
     unfold nE
     cases hq:t.getLast? with
     | none=>rfl
     | some z =>
      simp only [aJS,decide_eq_false_iff_not]
      intro hz
      have hz':con c=con z:=by simpa using hz
      obtain⟨t',ht'⟩:=aXz.mp hq
      have hzL:cE z:=ht z (by rw[ht'];simp)
      exact hlast ⟨t',by rw[ht',wT hc hzL hz']⟩
    rw[eU (nO ht hcc pt hok)]
    have e3:t++[con c]=kU (d::t) 1:=by unfold kU;rw[hdc];rfl
    rw[e3]
    refine vB hx hp ⟨fun j hj=>absurd hj (y4 _),?_⟩ hr (by simp)
    rintro⟨h1,h2⟩
    have hne:t≠[]:=by rintro rfl;simp at h1
    apply hlast
    refine⟨t.dropLast,?_⟩
    have hl:(d::t).getD ((d::t).length - 1 - 0) 0=t.getLast hne:=by
     rw[c5,List.getLast_eq_getElem]
     have h3:(d::t).length - 1 - 0=(t.length - 1)+1:=by
      have:=aZk.mpr hne
      simp;omega
     rw[h3,aQ1,b0 (by have:=aZk.mpr hne;omega)]
     rfl
    rw[hl] at h2
    have h4:con c=con (t.getLast hne):=by rw[← hdc];exact h2
    have h5:=wT hc (ht _ (List.getLast_mem hne)) h4
    conv=>lhs;rw[← aQG hne,← h5]
  ·have pz:bR (c::d::t):=Af hp fun d' t' e=>by
    cases e
    intro h
    exact hdc (by rw[h,aW hd])
   by_cases hlast:∃ t',d::t=t'++[c]
   ·obtain⟨t',ht'⟩:=hlast
    have ha':AllL t':=(AllL.app.mp (by rw[← ht'];exact hx)).1
    have e2:lay (c::(d::t)++[con c])=lay (c::t'++[]):=by
     have:c::(d::t)++[con c]=(c::t')++c::con c::[]:=by rw[ht'];simp
     rw[this]
     exact kP (c::t') [] (AllL.cons.mpr ⟨hc,ha'⟩) hcc (by rw[aW hc])
    have pz':bR (c::t'):=by
     have:c::t'=(c::d::t).take (t'.length+1):=by rw[ht'];simp
     rw[this];exact rE pz _
    rw[e2,m7,eU pz']
    have e3:c::t'=kU (d::t) t'.length:=by unfold kU;rw[ht',aJp,aZ6];rfl
    rw[e3]
    refine vB hx hp ⟨fun j hj=>absurd hj (y4 _),?_⟩ hr (by rw[ht'];simp)
    rintro⟨h1,h2⟩
    have hl:(d::t).getD ((d::t).length - 1 - 0) 0=c:=by
     rw[ht',c6,c5,u5 (by simp)]
     simp
    rw[hl] at h2
    exact hdc h2
   ·have hok:nE (c::d::t) (con c)=true:=by
     unfold nE
     have hq:(c::d::t).getLast?=(d::t).getLast?:=by rw[List.getLast?_cons_cons]
     rw[hq]
     cases hq2:(d::t).getLast? with
     | none=>rfl
     | some z =>
      simp only [aJS,decide_eq_false_iff_not]
      intro hz
      have hz':con c=con z:=by simpa using hz
      obtain⟨t',ht'⟩:=aXz.mp hq2
      have hzL:cE z:=hx z (by rw[ht'];simp)
      exact hlast ⟨t',by rw[ht',wT hc hzL hz']⟩
    have pw:=nO (AllL.cons.mpr ⟨hc,hx⟩) hcc pz hok
    rw[eU pw]
    exact(sW hc).mpr hr
theorem CG{x r:List Nat}(hx:AllL x)(hp:bR x)(hr:iE x r):∀ g:List Nat,AllL g→iE (lay (g++x++back g)) r
 | [],_=>by
  have e:([]:List Nat)++x++back []=x:=by unfold back;simp
  rw[e,eU hp];exact hr
 | c::g,h=>by
  obtain⟨hc,hg⟩:=AllL.cons.mp h
  have ih:=CG hx hp hr g hg
  have hm:AllL (g++x++back g):=AllL.app.mpr ⟨AllL.app.mpr ⟨hg,hx⟩,aR hg⟩
  have e:c::g++x++back (c::g)=[c]++(g++x++back g)++[con c]:=by
   have:back (c::g)=back g++[con c]:=by unfold back;simp
   rw[this];simp[l6]
  have h1:AllL [c]:=fun d hd=>by rw[d6.mp hd];exact hc
  have h2:AllL [con c]:=fun d hd=>by rw[d6.mp hd];exact cV hc
  rw[e,← kS _ _ _ h1 hm h2]
  exact E_ (gR hm) (kO _) hc ih
def eP(n:Nat)(g:List Nat):List (List Nat):=(bE n).map fun c=>lay (g++[c]++back g)
theorem cU{c:Nat}(h:cE c):AllL [c]:=fun d hd=>by rw[d6.mp hd];exact h
theorem iG{n c:Nat}(h:c∈bE n):cE c:=by
 have:c∈[97,98,99,100]:=u8 h
 simp only [d3,l8,or_false] at this
 unfold cE
 omega
theorem gB{g w:List Nat}(hg:AllL g)(hw:AllL w):AllL (g++w++back g):=AllL.app.mpr ⟨AllL.app.mpr ⟨hg,hw⟩,aR hg⟩
theorem cC{n:Nat}(h4:n≤4):(bE n).length=n:=by unfold bE;rw[j6];simp;omega
theorem mW{n:Nat}{g:List Nat}(h4:n≤4)(hg:AllL g):RT (eP n g) n (2 * g.length+1):=by
 refine⟨by unfold eP;rw[b7,cC h4],fun x hx=>?_,fun x hx=>?_⟩
 ·obtain⟨c,hc,rfl⟩:=i3.mp hx
  exact gR (gB hg (cU (iG hc)))
 ·obtain⟨c,hc,rfl⟩:=i3.mp hx
  have:=iF (g++[c]++back g)
  rw[c6,c6,dA,aQO] at this
  omega
theorem mR{n c:Nat}(h1:1≤n)(h4:n≤4)(h:c∈aK n):(bC c=true∧(bE n)[c - 97]?=some c)∨(bC c=false∧(bE n)[c - 65]?=some (con c)):=by
 have hL:=aU (aN h)
 rcases A9 h1 h4 with rfl | rfl | rfl | rfl <;> rcases hL with rfl | rfl | rfl | rfl | rfl | rfl | rfl | rfl <;> revert h <;> decide
theorem Cy{g:List Nat}{c:Nat}(hg:AllL g):back (g++[c]++back g)=g++[con c]++back g:=by
 rw[dN,dN,dU hg]
 have:back [c]=[con c]:=rfl
 rw[this,l6]
theorem CN{n:Nat}{g:List Nat}(h1:1≤n)(h4:n≤4)(hg:AllL g){c:Nat}(h:c∈aK n):tell (eP n g) c=lay (g++[c]++back g):=by
 have hL:=aN h
 unfold tell eP
 rcases mR h1 h4 h with ⟨h2,h3⟩ | ⟨h2,h3⟩
 ·rw[if_pos h2,c5,c7,h3];rfl
 ·rw[if_neg (by rw[h2];decide),c5,c7,h3]
  show back (lay (g++[con c]++back g))=_
  rw[← kH (gB hg (cU (cV hL))),Cy hg,aW hL]
theorem tY{g:List Nat}(hg:AllL g):∀ w:List Nat,AllL w→lay (w.flatMap fun c=>g++[c]++back g)=lay (g++w++back g)
 | [],_=>by
  rw[m7,fZ hg];rfl
 | c::w,h=>by
  obtain⟨hc,hw⟩:=AllL.cons.mp h
  have ih:=tY hg w hw
  have ha:AllL (w.flatMap fun c=>g++[c]++back g):=fun d hd=>by
   obtain⟨e,he,hd'⟩:=aX0.mp hd
   exact gB hg (cU (hw e he)) d hd'
  have h1:=gB hg (cU hc)
  rw[aQJ,← eI _ _ h1 ha,ih,eI _ _ h1 (gB hg hw)]
  have e:g++[c]++back g++(g++w++back g)=(g++[c])++(back g++g)++(w++back g):=by simp[l6]
  have e2:g++c::w++back g=(g++[c])++(w++back g):=by simp[l6]
  rw[e,e2,← kS _ _ _ (AllL.app.mpr ⟨hg,cU hc⟩) (AllL.app.mpr ⟨aR hg,hg⟩) (AllL.app.mpr ⟨hw,aR hg⟩),eX hg,m7]
theorem jB{f g:Nat→List Nat}:∀ {w:List Nat},(∀ c∈w,f c=g c)→w.flatMap f=w.flatMap g
 | [],_=>rfl
 | c::w,h=>by rw[aQJ,aQJ,h c i9,jB fun d hd=>h d (g9 _ hd)]
theorem CS{n:Nat}{g w:List Nat}(h1:1≤n)(h4:n≤4)(hg:AllL g)(hw:OfN n w):retl (eP n g) w=lay (g++w++back g):=by
 rw[← tY hg w hw.all]
 unfold retl told
 have e:w.flatMap (tell (eP n g))=w.flatMap fun c=>lay (if cE c then g++[c]++back g else []):=by
  refine jB fun c hc=>?_
  rw[CN h1 h4 hg (hw c hc),if_pos (aN (hw c hc))]
 rw[e,qB w fun c=>by
  by_cases q:cE c
  ·rw[if_pos q];exact gB hg (cU q)
  ·rw[if_neg q];exact AllL.nil]
 congr 1
 refine jB fun c hc=>?_
 rw[if_pos (aN (hw c hc))]
theorem dM{n c:Nat}(h1:1≤n)(h4:n≤4)(h:c∈bE n):c∈aK n:=GF h1 h4 [c] (i3.mpr ⟨c,h,rfl⟩) c (d6.mpr rfl)
theorem rV{n:Nat}{g:List Nat}(h1:1≤n)(h4:n≤4)(hg:OfN n g):∀ x∈eP n g,OfN n x:=fun x hx=>by
 obtain⟨c,hc,rfl⟩:=i3.mp hx
 refine OfN.lay (OfN.app (OfN.app hg fun d hd=>?_) (hg.back (by omega) (by omega)))
 rw[d6.mp hd]
 exact dM h1 h4 hc
theorem uJ{n:Nat}{g:List Nat}(h1:1≤n)(h4:n≤4)(hg:OfN n g):bB (eP n g) (eP n (back g))=cS n:=by
 have ga:=hg.all
 have hb:=hg.back (by omega:(1:Int)≤(n:Int)) (by omega)
 unfold bB eP cS
 rw[u7]
 refine x8 fun c hc=>?_
 have hcL:=iG hc
 have h9:=gB ga (cU hcL)
 show retl (eP n (back g)) (lay (g++[c]++back g))=[c]
 rw[qY (mW h4 hb.all) h9,CS h1 h4 hb.all (OfN.app (OfN.app hg fun d hd=>by rw[d6.mp hd];exact dM h1 h4 hc) hb),dU ga]
 have e:back g++(g++[c]++back g)++g=[]++(back g++g)++([c]++(back g++g)):=by simp[l6]
 have hbg:AllL (back g++g):=AllL.app.mpr ⟨aR ga,ga⟩
 rw[e,← kS _ _ _ AllL.nil hbg (AllL.app.mpr ⟨cU hcL,hbg⟩),eX ga]
 have e2:[]++[]++([c]++(back g++g))=[c]++(back g++g)++[]:=by simp
 rw[e2,← kS _ _ _ (cU hcL) hbg AllL.nil,eX ga]
 exact eU trivial
def zF:Sp:=fun vs H Q _=>∃ (n:Nat) (g:List Nat),vs=[.int (n:Nat),.str (S g)]∧1≤n∧n≤4∧AllL g∧g.length≤400∧∀ (p:Addr) (H':Hp),H p=none→Same H H'→H' p=some (.tup (cF (eP n g)))→Q (.ref p) H'
theorem EO{n i:Nat}(hv:(cF (cS n))[i]?=some (.str (S [97+i]))):(bE n)[i]?=some (97+i):=by
 obtain⟨x,hx,ex⟩:=gM hv
 have ex':=Bk (V.str.inj ex)
 unfold cS at hx
 rw[c7] at hx
 cases hq:(bE n)[i]? with
 | none=>rw[hq] at hx;cases hx
 | some c=>rw[hq] at hx;cases hx;simpa using ex'.symm
theorem RT.mono{rs:List (List Nat)}{n M L:Nat}(h:RT rs n M)(hl:M≤L):RT rs n L:=⟨h.len,h.all,fun x hx=>j8 (h.le x hx) hl⟩
def tF(c:Nat)(sd:List Nat)(d:Nat):List Nat:=if d=lo c then [d] else (if con d∈sd then [con c] else [])++[d]++(if d∈sd then [c] else [])
def jK(n c:Nat)(sd:List Nat):List (List Nat):=(bE n).map (tF c sd)
theorem Dv(d:Nat)(sd:List Nat):Ed (.str (S [d])) (aZ sd)=decide (d∈sd):=by
 unfold Ed aZ
 rw[aQ7,aZJ,decide_eq_true_iff]
 constructor
 ·rintro⟨v,hv,he⟩
  obtain⟨e,hm,rfl⟩:=i3.mp hv
  have h2:decide (S [e]=S [d])=true:=he
  have:=Bk (of_decide_eq_true h2)
  have h3:e=d:=by simpa using this
  rw[← h3];exact hm
 ·intro h
  refine⟨_,i3.mpr ⟨d,h,rfl⟩,?_⟩
  show decide (S [d]=S [d])=true
  exact decide_eq_true rfl
theorem sR(sd:List Nat):(aZ sd).all gC=true:=by
 rw[y1]
 intro v hv
 obtain⟨x,_,rfl⟩:=i3.mp hv
 rfl
def IsChg(H:Hp)(p:Addr)(c:Nat)(sd:List Nat):Prop:=∃ q,H p=some (.tup [.str (S [c]),.ref q])∧H q=some (.tup (aZ sd))
theorem IsChg.same{H H':Hp}{p:Addr}{c:Nat}{sd:List Nat}(h:IsChg H p c sd)(s:Same H H'):IsChg H' p c sd:=by
 obtain⟨q,h1,h2⟩:=h
 exact⟨q,s _ _ h1,s _ _ h2⟩
theorem Hc(c:Nat)(sd:List Nat)(d:Nat):(tF c sd d).length≤3:=by
 unfold tF
 split
 ·simp
 ·rw[c6,c6]
  split <;> split <;> simp
theorem F7{c d:Nat}{sd:List Nat}(hc:cE c)(hd:cE d):AllL (tF c sd d):=by
 unfold tF
 split
 ·exact cU hd
 ·refine AllL.app.mpr ⟨AllL.app.mpr ⟨?_,cU hd⟩,?_⟩
  ·split
   ·exact cU (cV hc)
   ·exact AllL.nil
  ·split
   ·exact cU hc
   ·exact AllL.nil
theorem Gp{n c d:Nat}{sd:List Nat}(h1:1≤n)(h4:n≤4)(hc:c∈aK n)(hd:d∈aK n):OfN n (tF c sd d):=by
 have one:∀ {e:Nat},e∈aK n→OfN n [e]:=fun he z hz=>by rw[d6.mp hz];exact he
 unfold tF
 split
 ·exact one hd
 ·refine OfN.app (OfN.app ?_ (one hd)) ?_
  ·split
   ·exact one (dC (by omega) (by omega) hc)
   ·exact OfN.nil
  ·split
   ·exact one hc
   ·exact OfN.nil
theorem BW{n c:Nat}{sd:List Nat}(h4:n≤4)(hc:cE c):RT (jK n c sd) n 3:=by
 refine⟨by unfold jK;rw[b7,cC h4],fun x hx=>?_,fun x hx=>?_⟩
 ·obtain⟨d,hd,rfl⟩:=i3.mp hx
  exact F7 hc (iG hd)
 ·obtain⟨d,hd,rfl⟩:=i3.mp hx
  exact Hc c sd d
theorem zL{n c:Nat}{sd:List Nat}(h1:1≤n)(h4:n≤4)(hc:c∈aK n):∀ x∈jK n c sd,OfN n x:=fun x hx=>by
 obtain⟨d,hd,rfl⟩:=i3.mp hx
 exact Gp h1 h4 hc (dM h1 h4 hd)
theorem fU{n d:Nat}(h:d∈bE n):bC d=true:=by
 have:d∈[97,98,99,100]:=u8 h
 simp only [d3,l8,or_false] at this
 unfold bC
 exact decide_eq_true (by omega)
theorem Jg{c d:Nat}:decide (V.str (S [d])=V.str (S [lo c]))=decide (d=lo c):=by
 rw[gG]
 by_cases h:d=lo c
 ·rw[h,decide_eq_true rfl,decide_eq_true rfl]
 ·rw[decide_eq_false h,decide_eq_false (by simpa using h)]
theorem HG(w:List Nat)(b:Bool):Txt.mul (S w) (if b=true then 1 else 0)=S (if b=true then w else []):=by
 cases b with
 | true =>
  show Txt.mul (S w) 1=S w
  unfold Txt.mul
  rw[if_neg (by decide),if_pos (by rfl)]
 | false =>
  show Txt.mul (S w) 0=S []
  unfold Txt.mul
  rw[if_pos (by decide)]
  rfl
theorem By(c:Nat)(b:Bool):MulOk (S [c]) (if b=true then 1 else 0):=by
 cases b with
 | true=>exact Ie [c] 1 (by decide) (by decide) (by simp)
 | false =>
  refine⟨by decide,fun h=>?_,fun h=>?_⟩
  ·exact absurd h (by decide)
  ·exact absurd h (by decide)
def xI:Sp:=fun vs H Q _=>∃ (n:Nat) (p:Addr) (c:Nat) (sd:List Nat),vs=[.int (n:Nat),.ref p]∧1≤n∧n≤4∧IsChg H p c sd∧cE c∧(∀ d∈sd,cE d)∧∀ (t:Addr) (H':Hp),H t=none→Same H H'→H' t=some (.tup (cF (jK n c sd)))→Q (.ref t) H'
end Lw
namespace L2
open PySem PySem.Spec PyProof.Rows
section
variable {prog:Program}{w:World}{A:Around}{E:Value→Shared→Prop}{s:Shared}
theorem CF{it d:Addr}{i n ep:Nat}{o:Obj}{es:Array DictEntry}{e:DictEntry}{Q:Fin→Shared→Prop}(hit:s.heap.IsKeyIter it d i es.size ep)(hd:s.heap.get? d=some o)(dt:o.data=.dict es ep)(he:es[i]?=some e)
  (hQ:∀ g,g.IsKeyIter it d (i+1) es.size ep→Heap.SameBut it s.heap g→Q (.done (.ret e.key)) { s with heap:=g }) :
  wpAny (model prog w) A (Builtin.«dict_keyiterator.__next__» ⟨[.ref it],[]⟩) Q E s:=by
 obtain⟨oi,go,co,do'⟩:=id hit
 have hT:s.TypeIs (.ref it) "dict_keyiterator":=⟨_,go,co⟩
 show wpAny _ _ (Builtin.Dict_items.slot0 "__next__" ⟨[.ref it],[]⟩ >>= _) _ _ _
 rw[show Builtin.Dict_items.slot0 "__next__" ⟨[.ref it],[]⟩=pure (.ref it) from rfl]
 refine wpAny_bind (wpAny_pure (wpAny_bind ?_))
 show wpAny _ _ (_ >>= _) _ _ _
 refine wpAny_bind ?_
 refine wpAny_bind (wpAny_typeNameOfWhole_keyiter hT (wpAny_pure ?_))
 rw[show (if Builtin.Dict_items.ownsTuple "dict_keyiterator"=true then 2 else 0)=0 from rfl]
 refine wpAny_bind (wpAny_fieldsOf go do' ?_)
 show wpAny _ _ (if (Value.ref d == Value.none)=true then _ else _) _ _ _
 rw[if_neg (by intro c;cases c)]
 refine wpAny_bind (wpAny_pure (wpAny_bind (wpAny_dictEntries hd dt ?_)))
 dsimp only
 rw[if_neg (by simp)]
 refine wpAny_bind (wpAny_pure (wpAny_bind (wpAny_dictEpoch hd dt ?_)))
 rw[if_neg (by simp)]
 refine wpAny_pure ?_
 dsimp only
 rw[if_neg (by omega),aQY,he]
 dsimp only
 refine wpAny_bind (wpAny_bind (wpAny_typeNameOfWhole_keyiter hT (wpAny_pure ?_)))
 rw[show (if Builtin.Dict_items.ownsTuple "dict_keyiterator"=true then 2 else 0)=0 from rfl]
 refine wpAny_bind (wpAny_isOneOf_keyiter hT ?_)
 refine wpAny_bind (wpAny_setField go do' (by simp) ?_)
 have gu:(s.heap.update it (Obj.mapFields fun x=>x.setIfInBounds (0+1) (rawInt ((i:Int)+1)))).IsKeyIter it d (i+1) es.size ep:=by
  refine⟨_,t8 _ go (aQw (aQD do' _)),(aXv ..).trans co,?_⟩
  rw[aQD do' _]
  rfl
 have sb:Heap.SameBut it s.heap (s.heap.update it (Obj.mapFields fun x=>x.setIfInBounds (0+1) (rawInt ((i:Int)+1)))):=u0 ..
 have hT2:Shared.TypeIs { s with heap:=s.heap.update it (Obj.mapFields fun x=>x.setIfInBounds (0+1) (rawInt ((i:Int)+1))) } (.ref it) "dict_keyiterator":=by
  obtain⟨o2,g2,c2,_⟩:=gu
  exact⟨_,g2,c2⟩
 refine wpAny_bind (wpAny_holding (wpAny_bind (wpAny_isOneOf_keyiter hT2 ?_)))
 refine wpAny_pure (wpAny_pure ?_)
 exact hQ _ gu sb
theorem DC{it d:Addr}{i n ep:Nat}{o:Obj}{es:Array DictEntry}{Q:Fin→Shared→Prop}(hh:A.handled=none)(hit:s.heap.IsKeyIter it d i es.size ep)(hd:s.heap.get? d=some o)(dt:o.data=.dict es ep)(he:es[i]?=none)
  (hE:∀ g e,Heap.ExtBut it s.heap g→(∃ o,g.get? e=some o∧o.cls=.type "StopIteration")→E (.ref e) { s with heap:=g }) :
  wpAny (model prog w) A (Builtin.«dict_keyiterator.__next__» ⟨[.ref it],[]⟩) Q E s:=by
 obtain⟨oi,go,co,do'⟩:=id hit
 have hT:s.TypeIs (.ref it) "dict_keyiterator":=⟨_,go,co⟩
 show wpAny _ _ (Builtin.Dict_items.slot0 "__next__" ⟨[.ref it],[]⟩ >>= _) _ _ _
 rw[show Builtin.Dict_items.slot0 "__next__" ⟨[.ref it],[]⟩=pure (.ref it) from rfl]
 refine wpAny_bind (wpAny_pure (wpAny_bind ?_))
 show wpAny _ _ (_ >>= _) _ _ _
 refine wpAny_bind ?_
 refine wpAny_bind (wpAny_typeNameOfWhole_keyiter hT (wpAny_pure ?_))
 rw[show (if Builtin.Dict_items.ownsTuple "dict_keyiterator"=true then 2 else 0)=0 from rfl]
 refine wpAny_bind (wpAny_fieldsOf go do' ?_)
 show wpAny _ _ (if (Value.ref d == Value.none)=true then _ else _) _ _ _
 rw[if_neg (by intro c;cases c)]
 refine wpAny_bind (wpAny_pure (wpAny_bind (wpAny_dictEntries hd dt ?_)))
 dsimp only
 rw[if_neg (by simp)]
 refine wpAny_bind (wpAny_pure (wpAny_bind (wpAny_dictEpoch hd dt ?_)))
 rw[if_neg (by simp)]
 refine wpAny_pure ?_
 dsimp only
 rw[if_neg (by omega),aQY,he]
 dsimp only
 refine wpAny_bind (wpAny_bind (wpAny_typeNameOfWhole_keyiter hT (wpAny_pure ?_)))
 rw[show (if Builtin.Dict_items.ownsTuple "dict_keyiterator"=true then 2 else 0)=0 from rfl]
 refine wpAny_bind (wpAny_setField go do' (by simp) ?_)
 refine wpAny_bind ?_
 simp only [newExc,newTuple]
 refine wpAny_bind (wpAny_newObj_type ?_ (by size_fits))
 refine wpAny_bind (m:=firstArgMember _ _) (wpAny_of_eq (a:=Value.none) (by first | rfl | (simp only [firstArgMember];rfl)) ?_)
 refine wpAny_newObj_type ?_ (by size_fits)
 simp only [raiseNew]
 refine wpAny_bind (wpAny_handled ?_)
 first | rw[show A.in1.handled=none from hh] | rw[hh]
 refine wpAny_bind (wpAny_pure (wpAny_throw ?_))
 exact hE _ _ (((u0 ..).extBut.push _).push _) ⟨_,d9 _ rfl,rfl⟩
theorem AA{it d:Addr}{i n ep:Nat}{o:Obj}{es:Array DictEntry}{e:DictEntry}{Q:Option Value→Shared→Prop}(hit:s.heap.IsKeyIter it d i es.size ep)(hd:s.heap.get? d=some o)(dt:o.data=.dict es ep)(he:es[i]?=some e)
  (hQ:∀ g,g.IsKeyIter it d (i+1) es.size ep→Heap.SameBut it s.heap g→Q (some e.key) { s with heap:=g }):wpAny (model prog w) A (pyNext (.ref it)) Q E s:=by
 have hT:s.TypeIs (.ref it) "dict_keyiterator":=let ⟨_,go,co,_⟩:=hit;⟨_,go,co⟩
 unfold pyNext
 exact wpAny_bind (wpAny_attempt (wpAny_callSpecial?_slot (name:=Str.ofString "__next__") hT aQH (wpAny_call_entry aQH hT aXc (CF (n:=0) hit hd dt he fun g b1 b2=>⟨_,rfl,wpAny_pure (hQ g b1 b2)⟩) (aX8 _))))
theorem Cw{it d:Addr}{i n ep:Nat}{o:Obj}{es:Array DictEntry}{Q:Option Value→Shared→Prop}(hh:A.handled=none)(hit:s.heap.IsKeyIter it d i es.size ep)(hd:s.heap.get? d=some o)(dt:o.data=.dict es ep)(he:es[i]?=none)
  (hQ:∀ g,Heap.ExtBut it s.heap g→Q none { s with heap:=g }):wpAny (model prog w) A (pyNext (.ref it)) Q E s:=by
 have hT:s.TypeIs (.ref it) "dict_keyiterator":=let ⟨_,go,co,_⟩:=hit;⟨_,go,co⟩
 unfold pyNext
 refine wpAny_bind (wpAny_attempt (wpAny_callSpecial?_slot (name:=Str.ofString "__next__") hT aQH (wpAny_call_entry aQH hT aXc (DC (n:=0) hh hit hd dt he fun g e kp hx=>?_) (aX8 _))))
 obtain⟨o,go,co⟩:=hx
 exact wpAny_bind (wpAny_isInstance (T:="StopIteration") (b:=true) ⟨o,go,co⟩ isSubtype_stop (wpAny_pure (hQ _ kp)))
end
section
variable {X:Cx}{pins:List (Addr×Obj)}{σ:St}{H:Hp}{s:Shared}
theorem Inv.swap{d:Addr}{u u':HO}(I:Inv X pins σ H s)(e:H d=some u)(nt:∀ xs,u≠.tup xs)(nf:(∀ o v,u≠.frz o v)∨∀ o v,X.H₀ d≠some (.frz o v))(nb:∀ ps,u≠.tbl ps)(no:∀ x,u≠.own x)
  (new:ObjOk X.prog X.w (upd H d u') s.heap d u'):Inv X pins σ (upd H d u') s:=by
 have ne:∀ {b:Addr},H b=none→b≠d:=fun h z=>by rw[z,e] at h;cases h
 have tp:∀ b xs,H b=some (.tup xs)→upd H d u' b=some (.tup xs):=fun b xs h=>by
  rw[aE (fun z=>by rw[z,e] at h;exact nt xs (j1 h))];exact h
 refine⟨I.ok,I.os,I.bare,⟨I.base.keep,I.base.slot,fun b o h n hx=>?_,I.base.there,fun b xs h=>tp b xs (I.base.tups b xs h),fun b o v h=>?_,fun b ps h=>?_⟩,I.loc,I.cell,?_,fun x c h=>?_,fun p hp=>?_,fun b v h=>?_,I.len⟩
 ·have:=I.base.free b o h n hx
  rw[aE (ne this)];exact this
 ·have h1:=I.base.frzs b o v h
  rw[aE]
  ·exact h1
  ·intro z
   subst z
   rcases nf with nf | nf
   ·rw[e] at h1;exact nf o v (j1 h1)
   ·exact nf o v h
 ·obtain⟨more,h1⟩:=I.base.tbls b ps h
  refine⟨more,?_⟩
  rw[aE]
  ·exact h1
  ·intro z
   subst z
   rw[e] at h1
   exact nb _ (j1 h1)
 ·rw[aE (ne I.free)];exact I.free
 ·rw[aE (ne (I.freeC x c h))];exact I.freeC x c h
 ·obtain⟨h1,h2,h3⟩:=I.pin p hp
  exact⟨h1,by rw[aE (ne h2)];exact h2,h3⟩
 ·by_cases hb:b=d
  ·subst hb
   rw[aB] at h
   cases h
   exact new
  ·rw[aE hb] at h
   refine(I.hok b v h).stay (fun _ _ _ q=>q) (fun c q=>?_) tp
   rw[aE (fun z=>by rw[z,e] at q;exact no b (j1 q))];exact q
end
theorem Dt{prog:Program}{w:World}{A:Around}{E:Value→Shared→Prop}{s:Shared}{d:Addr}{o:Obj}{es:Array DictEntry}{ep:Nat}{Q:Value→Shared→Prop}(hn:(d == sysModules)=false)(hd:s.heap.get? d=some o)(ho:o.ExactDict)(dt:o.data=.dict es ep)
  (h:Q (.ref s.heap.objs.size) { s with heap:=s.heap.push { cls:=.type "dict_keyiterator",data:=.fields #[.ref d,.int 0 0,.int es.size 0,.int ep 0] } }):wpAny (model prog w) A (pyIter (.ref d)) Q E s:=by
 have hT:s.TypeIs (.ref d) "dict":=⟨_,hd,ho.1⟩
 refine wpAny_pyIter_slot hT aJ9 (wpAny_call_entry aJ9 hT F.entry_dict_iter ?_ (F.args_dict_iter_1 _))
 unfold Builtin.«dict.__iter__» Builtin.Dict.dictSlotNone Builtin.Dict.notOrdered
 rw[if_pos (by decide)]
 refine wpAny_bind (wpAny_bind (wpAny_bind (wpAny_typeOf hT ?_)))
 rw[if_neg (by decide)]
 refine wpAny_pure ?_
 rw[show slotArgs "__iter__" 0 ⟨[.ref d],[]⟩=pure (.ref d,[]) from rfl]
 refine wpAny_bind (wpAny_pure (wpAny_pure (wpAny_bind (wpAny_pure (wpAny_bind ?_)))))
 unfold Builtin.Dict.showsAll
 rw[hn]
 refine wpAny_pure (wpAny_bind (wpAny_dictEntries hd dt (wpAny_bind (wpAny_dictEpoch hd dt (wpAny_bind ?_)))))
 unfold newFields
 refine wpAny_newObj_type (wpAny_pure ⟨_,rfl,"dict_keyiterator",_,⟨_,d9 _ rfl,rfl⟩,aQH.lookup,?_⟩) (by size_fits)
 exact h
theorem wQ:∀ {ns:List Int} {us:List Value},Vals (ns.map V.int) us→us.length=ns.length∧∀ (i:Nat) (v:Value),us[i]?=some v→∃ t,v=Value.int ((ns[i]?).getD 0) t
 | [],us,r=>by
  cases r
  exact⟨rfl,fun i v h=>by simp at h⟩
 | n::ns,us,r=>by
  rw[i8] at r
  cases r with
  | cons r1 r2 =>
   obtain⟨t,rfl⟩:=r1
   obtain⟨h1,h2⟩:=wQ r2
   refine⟨by rw[l7,l7,h1],fun i v h=>?_⟩
   cases i with
   | zero=>exact⟨t,by simpa using h.symm⟩
   | succ i=>simpa using h2 i v (by simpa using h)
end L2
namespace Lw
open PySem PySem.Spec PyProof.Rows L2 Ma MaR
abbrev GZ(K:b5)(sp:Sp)(vs:List V)(H1:Hp)(Q:VK):Prop:=∃ (l:Addr) (xs:List V) (kz:List (Int×List Int)) (Pv:Addr→Nat→List V→Hp→Prop),vs=[.ref l]∧SqL K H1 l xs∧xs.length<64∧kz.length=xs.length ∧
 (∀ (i j:Nat) (a b:Int×List Int),kz[i]?=some a→kz[j]?=some b→a.1=b.1→a.2.length=b.2.length)∧TotLt (fun i j=>nN (kz.getD i (0,[])) (kz.getD j (0,[]))) ∧
 (∀ S,H1 S=none→Pv S 0 [] (upd H1 S (.lst []))) ∧
 (∀ S i ks H,Pv S i ks H→∀ y,xs[i]?=some y→sp [y] H (fun v H2=>H2 S=some (.lst ks)∧ks.length=i∧Pv S (i+1) (ks++[v]) (upd H2 S (.lst (ks++[v])))) E0) ∧
 (∀ S ks H,Pv S xs.length ks H→H S=some (.lst ks)∧ks.length=xs.length∧(∀ (i:Nat) (v:V) (k:Int×List Int),ks[i]?=some v→kz[i]?=some k→rQ H v k) ∧
  ∀ p:Array Nat,PermN xs.length p→jR (fun i j=>nN (kz.getD i (0,[])) (kz.getD j (0,[]))) p xs.length→∀ D,upd H S (.lst []) D=none→Q (.ref D) (upd (upd H S (.lst [])) D (.lst (p.toList.map fun i=>xs.getD i .non))))
theorem Ec{K:b5}{H:Hp}{Q:VK}{l:Addr}{ws:List (List Nat)}(hq:SqL K H l (cF ws))(h64:ws.length<64)(hall:∀ x∈ws,AllL x∧x.length≤900)
  (k:∀ (D:Addr) (ws':List (List Nat)) (H':Hp),H D=none→Same H H'→H' D=some (.lst (cF ws'))→ws'.Perm ws→ws'.Pairwise DS→Q (.ref D) H'):GZ K Fz [.ref l] H Q:=by
 refine⟨l,cF ws,ws.map mT,fun S i ks H1=>H S=none∧Same H H1∧H1 S=some (.lst ks)∧ks.length=i∧∀ (j:Nat) (v:V) (x:List Nat),ks[j]?=some v→ws[j]?=some x→∃ p a:Addr,v=.ref p∧a≠S∧H1 p=some (.tup [.int (mT x).1,.ref a])∧H1 a=some (.lst ((mT x).2.map V.int)),rfl,hq,by rw[bN];exact h64,by rw[bN,b7],fun i j a b ha hb e=>?_,ER ws,fun S hS=>⟨hS,Same.new hS,aB,rfl,fun j v x hv=>by simp at hv⟩,?_,?_⟩
 ·rw[c7] at ha hb
  obtain⟨x,_,rfl⟩:=i6.mp ha
  obtain⟨y,_,rfl⟩:=i6.mp hb
  have h1:=iU x
  have h2:=iU y
  unfold FH at h1 h2
  omega
 ·rintro S i ks H1 ⟨hS,s1,eS,hkl,hks⟩ y hy
  obtain⟨x,hx,rfl⟩:=gM hy
  obtain⟨hxa,hxl⟩:=hall x (b8 hx)
  refine⟨x,rfl,hxa,hxl,fun p a H2 hp ha s2 ep ea=>⟨s2 _ _ eS,hkl,hS,(s1.trans s2).upd hS,aB,by rw[c6,hkl];rfl,fun j v z hv hz=>?_⟩⟩
  have hpS:p≠S:=(aJ eS hp).symm
  have haS:a≠S:=(aJ eS ha).symm
  by_cases hj:j<ks.length
  ·rw[p6 hj] at hv
   obtain⟨p',a',e0,e1,e2,e3⟩:=hks j v z hv hz
   refine⟨p',a',e0,e1,?_,?_⟩
   ·rw[aE (bY e2 eS (by intro z;cases z))];exact s2 _ _ e2
   ·rw[aE e1];exact s2 _ _ e3
  ·have ej:j=ks.length:=by
    have:=(a9.mp hv).1
    rw[c6,aQO] at this
    omega
   subst ej
   rw[hkl] at hz
   rw[hx] at hz
   cases hz
   have ev:v=.ref p:=by simpa using hv.symm
   subst ev
   exact⟨p,a,rfl,haS,by rw[aE hpS];exact ep,by rw[aE haS];exact ea⟩
 ·rintro S ks H1 ⟨hS,s1,eS,hkl,hks⟩
  refine⟨eS,hkl,fun i v q hv hq2=>?_,fun p hp so D hD=>?_⟩
  ·rw[c7] at hq2
   obtain⟨x,hx,rfl⟩:=i6.mp hq2
   obtain⟨p,a,e0,_,e2,e3⟩:=hks i v x hv hx
   exact⟨p,a,e0,e2,e3⟩
  ·rw[bN] at hp so
   have hb:∀ i∈p.toList,i<ws.length:=fun i hi=>by
    have:=(aQb.mp hp).mem_iff.mp hi
    simpa using this
   rw[Ds ws p.toList hb]
   have sS:Same H (upd H1 S (.lst [])):=s1.upd hS
   exact k D _ _ (sS.free hD) (sS.upd' hD) aB (Ay hp) (wC rfl hp so)
end Lw
namespace L2
open PySem PySem.Spec PyProof.Rows
section
variable {prog:Program}{w:World}{A:Around}{E:Value→Shared→Prop}{s:Shared}
theorem AD{d:Addr}{o:Obj}{Q:Value→Shared→Prop}(hn:(d == sysModules)=false)(hd:s.heap.get? d=some o)(ho:o.ExactDict)
  (h:Q (.ref s.heap.objs.size) { s with heap:=s.heap.push { cls:=.type "dict_items",data:=.fields #[.ref d] } }):wpAny (model prog w) A (call (.builtin "dict.items") [.ref d]) Q E s:=by
 have hT:s.TypeIs (.ref d) "dict":=⟨_,hd,ho.1⟩
 refine wpAny_call_entry F.slot_dict_items hT F.entry_dict_items ?_ (F.args_dict_items_1 _)
 unfold Builtin.«dict.items» Builtin.Dict.noArgs Builtin.Dict.notOrdered
 rw[if_pos (by decide)]
 refine wpAny_bind (wpAny_bind (wpAny_bind (wpAny_typeOf hT ?_)))
 rw[if_neg (by decide)]
 refine wpAny_pure (wpAny_bind ?_)
 rw[show Builtin.Dict.nameIsSure "items" ⟨[.ref d],[]⟩ (!(⟨[.ref d],[]⟩:Args).kw.isEmpty || (⟨[.ref d],[]⟩:Args).pos.length != 1)=pure () from rfl]
 refine wpAny_pure (wpAny_bind ?_)
 rw[show selfOnly (toString "dict."++toString "items") ⟨[.ref d],[]⟩=pure (.ref d) from rfl]
 refine wpAny_pure (wpAny_pure (wpAny_bind ?_))
 unfold Builtin.Dict.showsAll
 rw[hn]
 refine wpAny_pure (wpAny_bind ?_)
 unfold newFields
 exact wpAny_newObj_type (wpAny_pure ⟨_,rfl,h⟩) (by size_fits)
end
end L2
namespace Lw
open PySem PySem.Spec PyProof.Rows L2 Ma MaR
section
variable {c:Nat}{sd:List Nat}
theorem Fj{c e:Nat}(hc:cE c)(he:cE e)(hl:bC e=true):e=lo c↔e=c∨e=con c:=by
 rcases aU hc with rfl | rfl | rfl | rfl | rfl | rfl | rfl | rfl <;> rcases aU he with rfl | rfl | rfl | rfl | rfl | rfl | rfl | rfl <;> revert hl <;> decide
end
end Lw
namespace L2
open PySem PySem.Spec PyProof.Rows
end L2
namespace Lw
open PySem PySem.Spec PyProof.Rows L2 Ma MaR
theorem tO{n:Nat}(h1:1≤n)(h4:n≤4):letV.take (2 * n)=aZ (aK n):=by
 rcases A9 h1 h4 with rfl | rfl | rfl | rfl <;> rfl
def D6(K:b5):Sp:=fun vs H Q _=>∃ n:Nat,vs=[.int (n:Nat)]∧1≤n∧n≤4∧∀ (p:Addr) (H':Hp),Same H H'→SqT K H' p (aZ (aK n))→Q (.ref p) H'
end Lw
namespace L2
open PySem PySem.Spec PyProof.Rows
abbrev A1:List Value:=[.type "ValueError",.type "Exception",.type "BaseException",.type "object"]
structure XCl(K:b5)(C f:Addr):Prop where
 ex:∃ (nm q:Str) (N L:Addr) (bs:List Value) (sn:List Str) (sub:List Value) (ab:Bool) (col:Option Bool) (dd:Option Addr) (k0 k1 k2 k3 k5:Option Value),
  K.lookup C=some (excClassObj nm q C N bs (.ref L::A1) true sn sub ab col dd k0 k1 k2 k3 k5 "ValueError.__new__")∧PySem.W.tailIn K A1 (.ref L::A1)=true
 sa:PySem.W.findIn K (.ref C) "__setattr__"=some (some (.builtin "object.__setattr__"))
 ga:PySem.W.findIn K (.ref C) "__getattribute__"=some (some (.builtin "BaseException.__getattribute__"))
 gh:PySem.W.findIn K (.ref C) "__getattr__"=some none
 init:PySem.W.findIn K (.ref C) "__init__"=some (some (.ref f))
 fn:PySem.W.isFn K (.ref f)=true
 kp:PySem.W.keepIn K (.ref C)=true
section
variable {prog:Program}{w:World}{A:Around}{E:Value→Shared→Prop}{K:b5}{C f:Addr}{h:Heap}{g:Array GenState}{d:Drawn}{t:Nat}{os:OsState}
abbrev Jx(C t:Addr):Obj:={ cls:=.ref C,data:=.fields #[.ref t,.none,.none,.none,.bool false,.none] }
abbrev Ic(rest:List Value):Obj:={ cls:=.type "tuple",data:=.seq rest.toArray }
abbrev rH(h:Heap)(C:Addr)(rest:List Value):Heap:=(h.push (Ic rest)).push (Jx C h.objs.size)
theorem At{rest:List Value}{b:Addr}{o:Obj}(e:h.get? b=some o):(rH h C rest).get? b=some o:=b6 _ (b6 _ e)
theorem yE{rest:List Value}:(rH h C rest).get? (h.objs.size+1)=some (Jx C h.objs.size):=by
 have:=d9 (h.push (Ic rest)) (o:=Jx C h.objs.size) rfl
 rwa [y3] at this
theorem Ck(X:K.In h)(c:XCl K C f){rest:List Value}{Q:Fin→Shared→Prop}(hrest:rest.length≤sizeLine)
  (hq:wpAny (model prog w) A (call (.ref f) (.ref (h.objs.size+1)::rest)) (fun r s'=>r=.none∧Q (.done (.ret (.ref (h.objs.size+1)))) s') E ⟨rH h C rest,g,d,t,os⟩) :
  wpAny (model prog w) A (Builtin.«type.__call__» ⟨.ref C::rest,[]⟩) Q E ⟨h,g,d,t,os⟩:=by
 obtain⟨nm,q,N,L,bs,sn,sub,ab,col,dd,k0,k1,k2,k3,k5,hk,ht⟩:=c.ex
 have kC:=X _ _ hk
 have T:=PySem.W.tail_of_in X ht
 have X1:K.In (rH h C rest):=X.keeps fun b o e=>At e
 have kC1:=X1 _ _ hk
 have kG:=yE (h:=h) (C:=C) (rest:=rest)
 have hcC:(Value.ref C::Value.ref L::A1).contains (.ref C)=true:=by simp
 have L1:=aQd (M:=model prog w) X1 c.init
 repeat (first | with_reducible refine wpAny_loadPart_at kC ?_ | with_reducible refine wpAny_madeBy_exc kC ?_ | wp_step)
 refine codeAny_call_builtin_code (aJB _ aXI.quiet) (wpAny_check_new_subT aXI T kC ?_)
 refine codeAny_exc_new_subT aXI T kC ?_ hrest
 show wpAny _ _ _ _ _ _
 unfold isInstance
 repeat (first | with_reducible refine wpAny_loadPart_at kG ?_ | (with_reducible refine wpAny_isSubtype_exc kC1 ?_;rw[hcC]) | wp_step)
 refine(show wpAny _ _ (typeLookup (.ref C) _) _ _ _ from L1 _ _ _ _ (fun _ _ e=>e) ?_)
 refine wpAny_holding (wpAny_bind ((aJc X1 _ (beq_iff_eq.mp c.fn)).here ?_))
 refine wpAny_bind (wpAny_mono hq (fun r s' hr=>?_) fun _ _ z=>z)
 obtain⟨rfl,hQ⟩:=hr
 wp_walk
 exact hQ
theorem DW(X:K.In h)(c:XCl K C f){rest:List Value}{Q:Value→Shared→Prop}(hrest:rest.length≤sizeLine)
  (hq:wpAny (model prog w) (A.under (.builtin "type.__call__" ⟨.ref C::rest,[]⟩)) (call (.ref f) (.ref (h.objs.size+1)::rest)) (fun r s'=>r=.none∧Q (.ref (h.objs.size+1)) s') E ⟨rH h C rest,g,d,t,os⟩) :
  wpAny (model prog w) A (call (.ref C) rest) Q E ⟨h,g,d,t,os⟩:=by
 obtain⟨nm,q,N,L,bs,sn,sub,ab,col,dd,k0,k1,k2,k3,k5,hk,ht⟩:=c.ex
 have kC:=X _ _ hk
 have f1:=tc_lookup
 have f2:=tc_bind (.ref C)
 have hT:(⟨h,g,d,t,os⟩:Shared).TypeIs (.ref C) "type":=⟨_,kC,rfl⟩
 refine wpAny_call (codeAny_of_tree (show wpAny _ _ (callAny (.ref C) _) _ _ _ from ?_))
 repeat (any_goals (first | assumption | with_reducible refine wpAny_loadPart_at kC ?_ | wp_step))
 refine⟨rfl,?_⟩
 exact codeAny_call_builtin_at (aJB _ (by decide +kernel)) entry_typeCall (wpAny_check_type_call_sub kC (Ck X c hrest hq))
end
section
variable {prog:Program}{w:World}{A:Around}{E:Value→Shared→Prop}{K:b5}{C f a:Addr}{s:Shared}{vs:Array Value}{sl:Array (Option Value)}{name:Str}{v:Value}
theorem Lp{R:Result→Shared→Prop}{tk:Tok}(X:K.In s.heap)(c:XCl K C f)(hx:s.heap.get? a=some ⟨.ref C,none,.fields vs,sl⟩)(hn:PySem.W.findIn K (.ref C) name=some none)
  (hR:∀ h' tk',h'.Ns1 s.heap.objs.size (fun y=>if y=name then some v else none)→h'.get? a=some ⟨.ref C,some s.heap.objs.size,.fields vs,sl⟩→(∀ b o,b≠a→s.heap.get? b=some o→h'.get? b=some o) →
   R (.ok (.ret .none)) { s with heap:=h',toks:=tk' }):codeAny (model prog w) A (.call (.builtin "object.__setattr__") ⟨[.ref a,.str name tk,v],[]⟩) R s:=by
 have SF:=PySem.F.store_object
 obtain⟨nm,q,N,L,bs,sn,sub,ab,col,dd,k0,k1,k2,k3,k5,hk,ht⟩:=c.ex
 have kC:=X _ _ hk
 have I:PySem.W.InstAt s.heap a ⟨.ref C,none,.fields vs,sl⟩ C none:=⟨hx,rfl,rfl,True.intro⟩
 have hc:PySem.W.clsIn K C=some { name:=nm,bases:=bs,mro:=.ref C::.ref L::A1,ns:=N,qualname:=q,hasDict:=true,slotNames:=sn,subclasses:=sub,abstract:=ab,collection:=col,hasDel:=false }:=by
  unfold PySem.W.clsIn
  rw[hk]
 have ls:PySem.W.Looks (model prog w) s.heap (isInstance (.ref a) (.type "object")) true:=I.type.andThen (aXK X (by unfold PySem.W.mroIn;rw[hc];rfl))
 refine codeAny_call_builtin SF.slot.plain SF.entry (@aJC (model prog w) _ _ s "object.__setattr__" "object" "__setattr__" (.ref a) [.str name tk,v] [] _ SF.kind SF.split ls (SF.args (.ref a) (.str name tk) v) ?_)
 have hm:PySem.W.Looks (model prog w) s.heap (mroOf (.ref C)) (.ref C::.ref L::A1):=(aXg X hc).andThen .now
 rw[PySem.W.osa_eq,refuse_eq]
 refine wpAny_bind (wpAny_bind (I.type.here (wpAny_bind (hm.here ?_))))
 rw[refuseLoop_ref,refuseLoop_ref,PySem.F.store_ValueError.passes]
 refine wpAny_pure (wpAny_bind (I.type.here (wpAny_bind ((aQd X hn).here (wpAny_bind (wpAny_pure ?_))))))
 refine wpAny_bind (wpAny_pure (wpAny_bind (wpAny_bind (wpAny_loadPart hx (wpAny_bind ((aXg X hc).here ?_))))))
 have hx1:(s.heap.push { cls:=.type "dict",data:=.dict #[] }).get? a=some ⟨.ref C,none,.fields vs,sl⟩:=b6 _ hx
 have hxs:a≠s.heap.objs.size:=d8 (d5 hx)
 refine wpAny_bind (wpAny_alloc ?_)
 refine wpAny_bind (wpAny_update hx1 (wpAny_pure (wpAny_bind (wpAny_pure (wpAny_bind ?_)))))
 have e1:=(y2 (s.heap.push { cls:=.type "dict",data:=.dict #[] }) s.heap.objs.size a (fun o=>{ o with dict:=some s.heap.objs.size }) hxs.symm).trans (Heap.get?_push_at rfl rfl)
 have e2:((s.heap.push { cls:=.type "dict",data:=.dict #[] }).update a fun o=>{ o with dict:=some s.heap.objs.size }).Ns s.heap.objs.size (fun _=>none):=⟨_,#[],_,e1,rfl,fun e he=>absurd he (by simp),fun _=>rfl⟩
 refine wpAny_nsSet1 (aJK e2) fun h' hn' hs=>?_
 obtain⟨oD,es,ep,hoD,hdD,hcD⟩:=hn'.count (Within.cons name v Within.nil)
 refine wpAny_bind (wpAny_lookBehind hoD (by rw[hdD];exact pastItsLine_dict (j8 hcD (by rw[l7,aZY,sizeLine_eq];omega))) ?_)
 refine wpAny_pure (hR h' _ ?_ ?_ fun b o hb e=>?_)
 ·obtain⟨o',es',ep',q1,q2,q3,q4,q5⟩:=hn'
  exact⟨o',es',ep',q1,q2,q3,q4,fun y=>by rw[q5 y]⟩
 ·exact(hs.2 a hxs).trans (t8 _ hx1 rfl)
 ·exact(hs.2 b (d8 (d5 e))).trans ((y2 _ _ _ _ hb).trans (b6 _ e))
end
def XA(C:Addr)(dx:Option Addr)(a:Addr):HO:=.ext fun h=>∃ vs sl,h.get? a=some ⟨.ref C,dx,.fields vs,sl⟩∧vs[1]?=some Value.none
def XR(H:Hp)(a C:Addr)(dx:Option Addr):Prop:=∃ φ,H a=some (.ext φ)∧∀ h,φ h→∃ vs sl,h.get? a=some ⟨.ref C,dx,.fields vs,sl⟩
theorem XR.of{H:Hp}{a C:Addr}{dx:Option Addr}(e:H a=some (XA C dx a)):XR H a C dx:=⟨_,e,fun _ ⟨vs,sl,q,_⟩=>⟨vs,sl,q⟩⟩
theorem XA.ok{P:Program}{w:World}{H:Hp}{h:Heap}{a C:Addr}{dx:Option Addr}{vs:Array Value}{sl:Array (Option Value)}(e:h.get? a=some ⟨.ref C,dx,.fields vs,sl⟩)(q:vs[1]?=some Value.none):ObjOk P w H h a (XA C dx a) :=
 ⟨⟨vs,sl,e,q⟩,⟨_,e⟩,fun h1 h2 ⟨vs',sl',e',q'⟩ k=>⟨vs',sl',k _ e',q'⟩⟩
theorem XA.ne{C a:Addr}{dx:Option Addr}:(∀ xs,XA C dx a≠.tup xs)∧(∀ x,XA C dx a≠.own x):=⟨fun _ z=>(by unfold XA at z;cases z),fun _ z=>(by unfold XA at z;cases z)⟩
section
variable {X:Cx}{pins:List (Addr×Obj)}{σ:St}{H:Hp}{s:Shared}{C f a:Addr}
theorem Inv.xmade(I:Inv X pins σ H s)(C:Addr)(us:List Value):Inv X pins σ (upd H (s.heap.objs.size+1) (XA C none (s.heap.objs.size+1))) { s with heap:=rH s.heap C us }:=by
 have I1:=I.kept (h':=s.heap.push (Ic us)) (t':=s.toks) fun b u q=>b6 _ q
 exact I1.laid (a:=s.heap.objs.size+1) (o:=XA C none (s.heap.objs.size+1)) (t':=s.toks) (fun b u q=>b6 _ q) (aZD (y3 _ _)) (XA.ok yE rfl)
theorem Inv.xput{h':Heap}{tk':Nat}{name:Str}{y:V}{v:Value}{vs:Array Value}{sl:Array (Option Value)}(I:Inv X pins σ H s)(e:H a=some (XA C none a))(ry:RelV y v)
  (n1:h'.Ns1 s.heap.objs.size (fun z=>if z=name then some v else none)) (n2:h'.get? a=some ⟨.ref C,some s.heap.objs.size,.fields vs,sl⟩) (q1:vs[1]?=some Value.none) (k:∀ b o,b≠a→s.heap.get? b=some o→h'.get? b=some o) :
  Inv X pins σ (upd (upd H s.heap.objs.size (.xd [(name,y)])) a (XA C (some s.heap.objs.size) a)) { s with heap:=h',toks:=tk' }:=by
 have hd:=I.hok.fresh (b9 s.heap.objs.size)
 have nd:s.heap.objs.size≠a:=fun z=>by rw[z] at hd;rw[hd] at e;cases e
 have na:∀ b,H b=none→b≠a:=fun b n z=>by rw[z,e] at n;cases n
 have nb:∀ b u,H b=some u→b≠s.heap.objs.size:=fun b u q z=>by rw[z,hd] at q;cases q
 have nt:∀ b u,H b=some u→(∀ C dx,u≠XA C dx a)→b≠a:=fun b u q z r=>by rw[r,e] at q;cases q;exact z _ _ rfl
 have go:∀ b u,H b=some u→b≠a→upd (upd H s.heap.objs.size (.xd [(name,y)])) a (XA C (some s.heap.objs.size) a) b=some u:=fun b u q z=>by rw[aE z,aE (nb b u q)];exact q
 have tn:∀ xs C' dx,(HO.tup xs)≠XA C' dx a:=fun xs C' dx z=>XA.ne.1 xs z.symm
 refine I.un ⟨fun b u q n _ _=>k b u (na b n) q,fun b u q n _ _=>⟨u.slots,k b u (na b n) q⟩,fun b u q n _=>?_,fun b u q _=>?_,fun b xs q=>go b _ q (nt b _ q fun _ _ z=>tn xs _ _ z),fun b u xs q=>go b _ q (nt b _ q fun _ _ z=>(by unfold XA at z;cases z)),
  fun b ps q=>⟨#[],by rw[go b _ q (nt b _ q fun _ _ z=>(by unfold XA at z;cases z))];simp⟩⟩ ?_
 ·rw[aE (na b n),aE (d8 (d5 q))];exact n
 ·by_cases z:b=a
  ·subst z;exact⟨_,n2⟩
  ·exact⟨u,k b u z q⟩
 ·intro b u q
  by_cases z:b=a
  ·subst z;rw[aB] at q;cases q;exact XA.ok n2 q1
  ·rw[aE z] at q
   by_cases z2:b=s.heap.objs.size
   ·subst z2;rw[aB] at q;cases q
    refine⟨_,n1,fun g=>?_⟩
    show RelO (List.lookup g [(name,y)]) (if g=name then some v else none)
    by_cases hg:g=name
    ·subst hg;simp only [List.lookup,BEq.rfl,if_true];exact ry
    ·have:(g == name)=false:=by simpa using hg
     simp only [List.lookup,this,if_neg hg];exact True.intro
   ·rw[aE z2] at q
    refine(I.hok b u q).stay (fun c w' hc r=>k c w' ?_ r) (fun c r=>go c _ r (nt c _ r fun _ _ z=>XA.ne.2 _ z.symm)) fun c xs r=>go c _ r (nt c _ r fun _ _ z=>tn xs _ _ z)
    rcases hc with hc | hc
    ·rw[hc];exact z
    ·exact nt c _ hc fun _ _ z=>XA.ne.2 _ z.symm
end
def HY(C:Addr)(sp:Sp)(t:TA):TE:=fun σ H Q=>t σ H fun vs H1=>vs.length≤1000∧∀ x,H1 x=none→sp (.ref x::vs) (upd H1 x (XA C none x)) (fun v H2=>v=.non∧Q (.ref x) H2) E0
def HI(K:b5)(ta tv:TE)(f:Str):TS:=fun D σ H=>tv σ H fun y H1=>ta σ H1 fun x H2=>∃ a C g,x=.ref a∧H2 a=some (XA C none a)∧XCl K C g∧PySem.W.findIn K (.ref C) f=some none ∧
 ∀ dx,H2 dx=none→dx≠a→D.nx σ (upd (upd H2 dx (.xd [(f,y)])) a (XA C (some dx) a))
section
variable {X:Cx}{k:Nat}{f C:Addr}{fd:FuncData}{ps:List Str}{sp:Sp}{x m:Str}{p pos pos' apos:Pos}{e o value:Expr}{es:List Expr}{ta tv:TE}{t:TA}
theorem C1{pins:List (Addr×Obj)}{σ:St}{H:Hp}{s:Shared}{Q:VK}{us:List Value}{vs:List V}(c:XCl X.K C f)(F:FnOk X.prog X.w X.K X.mg X.base zJ k f fd ps sp)(hr:Room (k+1) X.A)(hb:Binds X.K fd ps [])
  (I:Inv X pins σ H s) (r:Vals vs us) (hz:vs.length≤1000) (h:∀ x,H x=none→sp (.ref x::vs) (upd H x (XA C none x)) (fun v H2=>v=.non∧Q (.ref x) H2) E0) :
  wpAny (model X.prog X.w) X.A (call (.ref C) us) (EP X pins σ Q) X.xe s:=by
 have hq:=h (s.heap.objs.size+1) (I.hok.fresh (aQp _))
 have I2:=I.xmade C us
 have r2:Vals (V.ref (s.heap.objs.size+1)::vs) (Value.ref (s.heap.objs.size+1)::us):=.cons rfl r
 have hl:(Value.ref (s.heap.objs.size+1)::us++[]).length=ps.length:=by
  have e:=r2.length
  rw[F.len _ _ _ _ hq] at e
  rw[m7]
  exact e.symm
 have hb2:=hb { s with heap:=rH s.heap C us } (Value.ref (s.heap.objs.size+1)::us) I2.kIn hl
 rw[m7] at hb2
 obtain⟨hh,g,d,tk,os⟩:=s
 refine DW (K:=X.K) I.kIn c (by rw[← r.length,sizeLine_eq];omega) (wpAny_call (codeAny_mono (F.run _ X.stack _ _ ⟨Value.ref (hh.objs.size+1)::us,[]⟩ (Value.ref (hh.objs.size+1)::us) _ _ E0 (hr.make C us [])
  (I2.env0.make C us []) hb2 r2 hq) fun r s' hq'=>?_))
 cases r with
 | error e=>exact False.elim hq'
 | ok fl =>
  cases fl with
  | ret u =>
   obtain⟨v,H',I3,rv,ev,q3⟩:=I2.after hq'
   subst ev
   exact⟨rv,⟨V.ref _,H',I3,rfl,q3⟩⟩
  | next=>exact False.elim hq'
  | brk=>exact False.elim hq'
  | cont=>exact False.elim hq'
theorem DM(c:XCl X.K C f)(F:FnOk X.prog X.w X.K X.mg X.base zJ k f fd ps sp)(hr:Room (k+1) X.A)(hg:Gl X x)(hm:X.mg x=some (.ref C))(hb:Binds X.K fd ps [])
  (ha:PA X (e::es) t) (hdb:(x == ("__debug__":Str))=false:=by decide) (he:starEach (e::es) X.env=(false,eval e X.env)::starEach es X.env:=by rfl) (hpl:(backTo pos (starEach es X.env)).any (·.1)=false:=by rfl) :
  PE X (.Call (.Name x p) (e::es) [] pos) (HY C sp t):=by
 intro pins s σ H Q I h
 refine wpAny_Call_Name_kw (lX I hg hm ?_ hdb)
 refine aQm (h₀:=X.base) I.ok.mod.kin c.kp (bS (ha pos pins s σ H _ I h) fun us s1 ⟨vs,H1,I1,r,hz,q⟩=>⟨I1.kIn,?_⟩) he hpl
 exact C1 c F hr hb I1 r hz q
theorem FY{nm:Str}(ha:PE X o ta)(hv:PE X value tv)(hs:swapsWith value (some (.Attribute o nm pos')) pos.line X.env=pure false):PS X (.Assign [.Attribute o nm pos'] value pos) (HI X.K ta tv nm):=by
 intro pins s σ H D I h
 refine plainObj_wpAny_Assign_Attribute (bS (hv pins s σ H _ I h) fun u s1 ⟨y,H1,I1,ry,q⟩=>bS (ha pins s1 σ H1 _ I1 q) fun ov s2 ⟨x,H2,I2,rx,a,C,g,ex,ea,c,n,q2⟩=>?_) hs
 subst ex
 obtain rfl:ov=Value.ref a:=rx
 obtain⟨⟨vs,sl,e1,e2⟩,_⟩:=I2.hok a _ ea
 have hd:=I2.hok.fresh (b9 s2.heap.objs.size)
 refine aJJ (od:=none) I2.kIn (⟨e1,rfl,rfl,True.intro⟩:PySem.W.InstAt s2.heap a _ C none) c.sa (Lp I2.kIn c e1 n fun h' tk' k1 k2 k3=>?_)
 exact⟨σ,_,I2.xput ea ry k1 k2 e2 k3,q2 _ hd fun z=>by rw[z,ea] at hd;cases hd⟩
end
section
variable {prog:Program}{w:World}{A:Around}{E:Value→Shared→Prop}{K:b5}{C f a:Addr}{ox:Obj}{od:Option Obj}{s:Shared}{name:Str}{v:Value}{tk:Tok}
theorem DH{M:Model}{h:Heap}(X:K.In h)(c:XCl K C f)(I:PySem.W.InstAt h a ox C od):PySem.W.Looks M h (isInstance (.ref a) (.type "BaseException")) true:=by
 obtain⟨nm,q,N,L,bs,sn,sub,ab,col,dd,k0,k1,k2,k3,k5,hk,ht⟩:=c.ex
 have hc:PySem.W.clsIn K C=some { name:=nm,bases:=bs,mro:=.ref C::.ref L::A1,ns:=N,qualname:=q,hasDict:=true,slotNames:=sn,subclasses:=sub,abstract:=ab,collection:=col,hasDel:=false }:=by
  unfold PySem.W.clsIn;rw[hk]
 exact I.type.andThen (aXK X (by unfold PySem.W.mroIn;rw[hc];rfl))
theorem E4{R:Result→Shared→Prop}(X:K.In s.heap)(c:XCl K C f)(I:PySem.W.InstAt s.heap a ox C od)
  (h:wpAny (model prog w) A.in1 (Builtin.«object.__getattribute__» ⟨[.ref a,.str name tk],[]⟩) (fun fin s'=>match fin with | .done f=>R (.ok f) s' | .again c'=>c'.quiet=true∧codeAny (model prog w) A c' R s') (fun e s'=>R (.error e) s') s) :
  codeAny (model prog w) A (.call (.builtin "BaseException.__getattribute__") ⟨[.ref a,.str name tk],[]⟩) R s :=
 codeAny_call_builtin aXu.ga.plain PySem.F.entry_bexc_ga (@aJC (model prog w) _ _ s "BaseException.__getattribute__" "BaseException" "__getattribute__" (.ref a) [.str name tk] [] _ (by decide +kernel) (by decide +kernel) (DH X c I) (PySem.F.args_bexc_ga (.ref a) (.str name tk)) h)
theorem KD{R:Result→Shared→Prop}(X:K.In s.heap)(c:XCl K C f)(I:PySem.W.InstAt s.heap a ox C od)(hf:PySem.W.findObj K C od name=some (.value v))(h:R (.ok (.ret v)) s) :
  codeAny (model prog w) A (.call (.builtin "BaseException.__getattribute__") ⟨[.ref a,.str name tk],[]⟩) R s:=by
 refine E4 X c I ?_
 have L0:=I.type (M:=model prog w)
 have L1:=aJD (M:=model prog w) X I hf
 unfold Builtin.«object.__getattribute__»
 refine wpAny_bind (wpAny_pure (wpAny_bind (wpAny_pure (wpAny_bind (L0.here (wpAny_bind (L1.here ?_)))))))
 exact wpAny_pure h
theorem LN{R:Result→Shared→Prop}(X:K.In s.heap)(c:XCl K C f)(I:PySem.W.InstAt s.heap a ox C od)(hf:PySem.W.findObj K C od "__class__"=some (.bind (.builtin "getset_descriptor.__get__") (.builtin "object.__class__")))
  (hm:PySem.W.mroIn K C (.type "object")=some true) (h:R (.ok (.ret (.ref C))) s) :
  codeAny (model prog w) A (.call (.builtin "BaseException.__getattribute__") ⟨[.ref a,.str "__class__" tk],[]⟩) R s:=by
 refine E4 X c I ?_
 have L0:=I.type (M:=model prog w)
 have L1:=aJD (M:=model prog w) X I hf
 unfold Builtin.«object.__getattribute__»
 refine wpAny_bind (wpAny_pure (wpAny_bind (wpAny_pure (wpAny_bind (L0.here (wpAny_bind (L1.here ?_)))))))
 show wpAny _ _ (holding [.builtin "object.__class__"] (call (.builtin "getset_descriptor.__get__") [.builtin "object.__class__",.ref a,.ref C]) >>= ret) _ _ _
 exact wpAny_bind (wpAny_holding (wpAny_call (PySem.W.class_get X I hm (wpAny_pure h))))
theorem LZ{fill expr:Bool}{Q:Value→Shared→Prop}(X:K.In s.heap)(c:XCl K C f)(I:PySem.W.InstAt s.heap a ox C od)(hv:PySem.W.handedIn v=true)
  (h:∀ R:Result→Shared→Prop,R (.ok (.ret v)) s→codeAny (model prog w) A (.call (.builtin "BaseException.__getattribute__") ⟨[.ref a,.str name tk],[]⟩) R s) (hq:Q v s) :
  wpAny (model prog w) A (getAttrBy (.ref a) (.str name tk) fill expr) Q E s:=by
 have L0:=I.type (M:=model prog w)
 have L1:=aQd (M:=model prog w) X c.ga
 have L2:=aQd (M:=model prog w) X c.gh
 have n0:(Value.builtin "BaseException.__getattribute__" == Value.builtin "object.__getattribute__")=false:=by decide +kernel
 have n1:(onTheHeap (Value.ref C) && Value.builtin "BaseException.__getattribute__" == Value.builtin "object.__getattribute__")=false:=by rw[n0,aZ5]
 have n2:(expr && onTheHeap (Value.builtin "BaseException.__getattribute__"))=false:=by cases expr <;> rfl
 unfold getAttrBy
 refine wpAny_holding (wpAny_bind (L0.here (wpAny_bind (L1.here ?_))))
 dsimp only
 rw[if_neg (by rw[n1];exact j2)]
 unfold getAttrByItsOwn hookBefore callGetattribute
 rw[n2]
 refine wpAny_bind (show wpAny _ _ (typeLookup (.ref C) "__getattr__") _ _ _ from L2.here (wpAny_bind (wpAny_attempt (wpAny_holding ?_))))
 show wpAny _ _ (boundAndCalled (.builtin "BaseException.__getattribute__") (.ref a) (.str name tk)) _ _ _
 unfold boundAndCalled
 rw[aXu.ga.bind]
 refine wpAny_bind (wpAny_pure (wpAny_call (h _ ?_)))
 show wpAny _ _ (handedOut v) _ _ _
 exact PySem.W.handed_on hv hq
theorem IE{expr:Bool}{Q:Value→Shared→Prop}(X:K.In s.heap)(c:XCl K C f)(I:PySem.W.InstAt s.heap a ox C od)(hf:PySem.W.findObj K C od name=some (.value v))(hv:PySem.W.handedIn v=true)(hq:Q v { s with toks:=s.toks+1 }) :
  wpAny (model prog w) A (getAttr (.ref a) name expr) Q E s:=by
 unfold getAttr
 exact wpAny_bind (wpAny_mkText (LZ (s:={ s with toks:=s.toks+1 }) X c I hv (fun R r=>KD (s:={ s with toks:=s.toks+1 }) X c I hf r) hq))
theorem FS{Q:Option Value→Shared→Prop}(X:K.In s.heap)(c:XCl K C f)(I:PySem.W.InstAt s.heap a ox C od)(hf:PySem.W.findObj K C od "__class__"=some (.bind (.builtin "getset_descriptor.__get__") (.builtin "object.__class__")))
  (hm:PySem.W.mroIn K C (.type "object")=some true) (hq:Q (some (.ref C)) { s with toks:=s.toks+1 }):wpAny (model prog w) A (getAttr? (.ref a) "__class__") Q E s:=by
 unfold getAttr? getAttrBy?
 refine wpAny_bind (wpAny_mkText (wpAny_bind (wpAny_attempt (LZ (v:=.ref C) (s:={ s with toks:=s.toks+1 }) X c I rfl (fun R r=>LN (s:={ s with toks:=s.toks+1 }) X c I hf hm r) ?_))))
 exact wpAny_pure hq
structure XIs(K:b5)(C:Addr):Prop where
 ha:PySem.W.findIn K (.ref C) "__class__"=some (some (.builtin "object.__class__"))
 hn:PySem.W.specialIn K (.builtin "object.__class__") "__get__"=some (some (.builtin "getset_descriptor.__get__"))
 tk:PySem.W.takesIn K (.builtin "object.__class__")=some true
theorem EE(c:XCl K C f)(i:XIs K C):PySem.W.KitX K (.ref a) (.ref C) (fun h=>∃ ox od,PySem.W.InstAt h a ox C od):=by
 obtain⟨nm,q,N,L,bs,sn,sub,ab,col,dd,k0,k1,k2,k3,k5,hk,ht⟩:=c.ex
 have hc:PySem.W.clsIn K C=some { name:=nm,bases:=bs,mro:=.ref C::.ref L::A1,ns:=N,qualname:=q,hasDict:=true,slotNames:=sn,subclasses:=sub,abstract:=ab,collection:=col,hasDel:=false }:=by
  unfold PySem.W.clsIn;rw[hk]
 have hm:PySem.W.mroIn K C (.type "object")=some true:=by unfold PySem.W.mroIn;rw[hc];rfl
 refine⟨fun M h X I=>?_,fun M h X I=>?_,fun h tp d2 its n sl X htp=>?_,fun X I k=>?_⟩
 ·obtain⟨ox,od,I⟩:=I;exact I.type
 ·intro A' Q' E' s' k z
  unfold isType loadHead
  exact wpAny_bind (wpAny_loadPart (k _ _ (X _ _ hk)) (wpAny_pure z))
 ·refine Bool.eq_false_iff.mpr fun z=>?_
  have e:C=tp:=aJv (beq_iff_eq.mp z)
  subst e
  have z:=congrArg Obj.data (j1 ((X _ _ hk).symm.trans htp))
  cases z
 ·obtain⟨ox,od,I⟩:=I
  refine FS X c I ?_ hm k
  unfold PySem.W.findObj
  rw[hc,aJa,i.ha,aJa]
  simp[i.hn,i.tk]
end
section
variable {X:Cx}{pins:List (Addr×Obj)}{σ:St}{H:Hp}{s:Shared}{a C f dx:Addr}{D:Option Addr}
theorem XR.inst(I:Inv X pins σ H s)(r:XR H a C D)(hd:∀ d,D=some d→∃ o,s.heap.get? d=some o):∃ vs sl od,PySem.W.InstAt s.heap a ⟨.ref C,D,.fields vs,sl⟩ C od∧∀ d,D=some d→s.heap.get? d=od:=by
 obtain⟨φ,e,k⟩:=r
 obtain⟨p,_,_⟩:=I.hok a _ e
 obtain⟨vs,sl,e1⟩:=k _ p
 cases D with
 | none=>exact⟨vs,sl,none,⟨e1,rfl,rfl,True.intro⟩,fun _ z=>nomatch z⟩
 | some d =>
  obtain⟨o,ho⟩:=hd d rfl
  exact⟨vs,sl,some o,⟨e1,rfl,rfl,ho⟩,fun _ z=>by cases z;exact ho⟩
def KB(K:b5):List V→Hp→VK→Prop:=fun xs H Q=>∃ (a C f:Addr) (D:Option Addr) (y:V) (c:Value) (b:Bool),xs=[.ref a,y]∧RelV y c∧XR H a C D∧(∀ d,D=some d→∃ fs,H d=some (.xd fs))∧XCl K C f∧XIs K C∧PySem.W.kitOne K (.ref C) c=some b∧Q (.bl b) H
theorem DP:dZ X (.builtin "isinstance") (KB X.K):=by
 intro pins s σ H xs us Q I r h
 obtain⟨a,C,f,D,y,c,b,rfl,ry,xr,xd,xc,xi,e,q⟩:=h
 obtain⟨u,v,rfl,r1,r2⟩:=r.two
 cases (show u=Value.ref a from r1)
 have hd:∀ d,D=some d→∃ o,s.heap.get? d=some o:=fun d z=>by
  obtain⟨fs,hf⟩:=xd d z
  obtain⟨mA,⟨o,_,_,e,_⟩,_⟩:=(show ObjOk X.prog X.w H s.heap d (.xd fs) from I.hok d _ hf)
  exact⟨o,e⟩
 obtain⟨vs,sl,od,J,_⟩:=xr.inst I hd
 have hcv:v=c:=by cases y <;> first | exact(show v=_ from r2).trans (show c=_ from ry).symm | exact False.elim (by obtain⟨t,z⟩:=ry;subst z;cases e)
 subst hcv
 exact aQ8 (EE xc xi) I.kIn ⟨_,_,J⟩ e (fun z=>nomatch z) fun tk=>⟨.bl b,H,I.tok _,rfl,q⟩
def Hn(K:b5)(ta:TE)(nm:Str):TE:=fun σ H Q=>ta σ H fun x H1=>∃ a C f dx fs v,x=.ref a∧XR H1 a C (some dx)∧XCl K C f∧PySem.W.findIn K (.ref C) nm=some none∧H1 dx=some (.xd fs)∧fs.lookup nm=some v∧Q v H1
theorem Gh{e:Expr}{nm:Str}{pos:Pos}{ta:TE}(he:PE X e ta)(hb:attributeBase e nm X.env (eval e X.env)=eval e X.env):PE X (.Attribute e nm pos) (Hn X.K ta nm):=by
 intro pins s σ H Q I h
 refine Bt hb (bS (he pins s σ H _ I h) fun u s1 ⟨x,H1,I1,rx,a,C,f,dx,fs,v,ex,xr,xc,hn,hd,l,q⟩=>?_)
 subst ex
 obtain rfl:u=Value.ref a:=rx
 obtain⟨mA,n1,rA⟩:=(show ObjOk X.prog X.w H1 s1.heap dx (.xd fs) from I1.hok dx _ hd)
 obtain⟨od,ho,hl⟩:=uM n1
 obtain⟨vs,sl,od',J,hod⟩:=xr.inst I1 (fun d z=>by cases z;exact⟨od,ho⟩)
 have e1:od'=some od:=(hod dx rfl).symm.trans ho
 subst e1
 obtain⟨w1,hu,ru⟩:=RelO.some_of (v:=v) (o:=mA nm) (by rw[← l];exact rA nm)
 obtain⟨nm',q',N,L,bs,sn,sub,ab,col,dd,k0,k1,k2,k3,k5,hk,ht⟩:=xc.ex
 have hh:PySem.W.hasDictIn X.K C=true:=by unfold PySem.W.hasDictIn PySem.W.clsIn;rw[hk];rfl
 exact IE I1.kIn xc J (aZf hh hn rfl (by rw[hl,hu])) (uS ru) ⟨v,H1,I1.tok _,ru,q⟩
end
def XB(C:Addr)(D:Option Addr)(a:Addr):HO:=.ext fun h=>∃ vs sl,h.get? a=some ⟨.ref C,D,.fields vs,sl⟩
theorem XR.ofB{H:Hp}{a C:Addr}{D:Option Addr}(e:H a=some (XB C D a)):XR H a C D:=⟨_,e,fun _ q=>q⟩
theorem Cq{o:Obj}{vs:Array Value}{f:Array Value→Array Value}(hd:o.data=.fields vs):Obj.mapFields f o={ o with data:=.fields (f vs) }:=by
 cases o
 simp only at hd
 subst hd
 rfl
structure Noted(S:List Addr)(a:Addr)(oe:Obj)(fl:Value)(h h':Heap):Prop where
 at':∃ vs T oT ts,h'.get? a=some { oe with data:=.fields vs }∧vs[1]?=some (.ref T)∧T≠a∧h.objs.size≤T∧h'.get? T=some oT∧oT.data=.fields ts∧ts[3]?=some fl
 keep:∀ b o,b≠a→b ∉ S→h.get? b=some o→h'.get? b=some o
 slot:∀ b o,b≠a→h.get? b=some o→∃ sl,h'.get? b=some { o with slots:=sl }
section
variable {M:Model}{A:Around}{E:Value→Shared→Prop}{s:Shared}{base:Heap}{env:Env}{outer:List Env}{L a:Addr}{oe:Obj}{vs:Array Value}
theorem wW{head:Value}{hadNext:Bool}{Q:Unit→Shared→Prop}(hf:A.frames=some (env::outer))(ff:s.heap.FunFrames base (env::outer))(hL:env.frame=some L)(he:s.heap.get? a=some oe)(hd:oe.data=.fields vs)(h1:1<vs.size)
  (hQ:∀ h',Noted (wV (env::outer)) a oe (rawInt L) s.heap h'→Q () { s with heap:=h' }) :
  wpAny M A (do
   let x ← PySem.frameOf env
   let pl ← entryPlaceOf L hadNext
   let b ← EntryCells.newEntry head x .none (rawInt L) .none pl
   setField (.ref a) 1 b) Q E s:=by
 have hna:a ∉ wV (env::outer):=fun z=>by
  obtain⟨_,o,e,n⟩:=ff.mem z
  rw[he] at e
  cases e
  exact n _ hd
 refine wpAny_bind (wpAny_frameOf_fun hf ff hL fun h1' so=>wpAny_bind (wpAny_entryPlaceOf fun pl hpl=>?_))
 have he1:h1'.get? a=some oe:=(so.2.1 a hna).trans he
 unfold EntryCells.newEntry newFields
 refine wpAny_bind (wpAny_newObj_type ?_ ?_)
 ·have he2:(h1'.push { cls:=.type "traceback",data:=.fields ([head,.ref L,.none,rawInt L,.none]++if pl.isEmpty=true then List.replicate 6 .none else pl).toArray }).get? a=some oe:=b6 _ he1
  refine wpAny_setField he2 hd h1 (hQ _ ?_)
  have hsz:h1'.objs.size=s.heap.objs.size:=so.1
  have hne:h1'.objs.size≠a:=aQU (d5 he1)
  have hself:=t8 (Obj.mapFields fun x=>x.setIfInBounds 1 (.ref h1'.objs.size)) he2 (by rw[Cq hd];rfl)
  rw[Cq hd] at hself
  refine⟨⟨vs.setIfInBounds 1 (.ref h1'.objs.size),h1'.objs.size,{ cls:=.type "traceback",data:=.fields ([head,.ref L,.none,rawInt L,.none]++if pl.isEmpty=true then List.replicate 6 .none else pl).toArray },_,?_,?_,hne,by omega,?_,rfl,?_⟩,fun b o hb hn e=>?_,fun b o hb e=>?_⟩
  ·exact hself
  ·simp[h1]
  ·rw[y2 _ _ _ _ hne]
   exact d9 _ rfl
  ·simp
  ·rw[y2 _ _ _ _ hb]
   exact b6 _ ((so.2.1 b hn).trans e)
  ·obtain⟨sl,q⟩:=so.2.2 b o e
   exact⟨sl,by rw[y2 _ _ _ _ hb];exact b6 _ q⟩
 ·rcases hpl with rfl | ⟨x1,x2,x3,x4,c9,b10,_,rfl⟩ <;> simp[sizeOk,sizeLine_eq]
def IL(h:Heap)(a:Addr)(vs:Array Value):Prop:=vs[1]?=some .none∨∃ T oT ts,vs[1]?=some (.ref T)∧T≠a∧h.get? T=some oT∧oT.data=.fields ts∧ts[3]?=some .none
theorem Aa{Q:Unit→Shared→Prop}(hf:A.frames=some (env::outer))(ff:s.heap.FunFrames base (env::outer))(hL:env.frame=some L)(he:s.heap.get? a=some oe)(hd:oe.data=.fields vs)(hh:IL s.heap a vs)
  (hQ:∀ h',Noted (wV (env::outer)) a oe (rawInt L) s.heap h'→Q () { s with heap:=h' }):wpAny M A (noteFrame (.ref a) env) Q E s:=by
 have h1:1<vs.size:=by
  rcases hh with q | ⟨T,oT,ts,q,_⟩ <;> exact(y9.mp q).1
 unfold noteFrame
 rw[hL]
 dsimp only
 rcases hh with q | ⟨T,oT,ts,q,hT,hg,hdt,h3⟩
 ·refine wpAny_bind (wpAny_field he hd q ?_)
  exact wW hf ff hL he hd h1 hQ
 ·refine wpAny_bind (wpAny_field he hd q ?_)
  refine wpAny_bind (wpAny_field hg hdt h3 ?_)
  refine wpAny_bind (wpAny_setField hg hdt (y9.mp h3).1 ?_)
  have hs:ts.setIfInBounds 3 Value.none=ts:=by
   obtain⟨hl,he⟩:=y9.mp h3
   refine Array.ext (by simp) fun i h1 h2=>?_
   rw[Array.getElem_setIfInBounds]
   ·split
    ·rename_i z;subst z;exact he.symm
    ·rfl
  have hself:=t8 (Obj.mapFields fun x=>x.setIfInBounds 3 .none) hg (by rw[Cq hdt];rfl)
  have hfx:Obj.mapFields (fun x=>x.setIfInBounds 3 Value.none) oT=oT:=by
   rw[Cq hdt,hs,← hdt]
  rw[hfx] at hself
  have kp:∀ b,(s.heap.update T (Obj.mapFields fun x=>x.setIfInBounds 3 .none)).get? b=s.heap.get? b:=fun b=>by
   by_cases z:b=T
   ·rw[z,hself,hg]
   ·exact y2 _ _ _ _ z
  refine wW (s:={ s with heap:=s.heap.update T (Obj.mapFields fun x=>x.setIfInBounds 3 .none) }) (base:=base) hf ?_ hL ((kp a).trans he) hd h1 fun h' n=>hQ h' ?_
  ·exact aKX (fun b o e _=>⟨o,(kp b).trans e,rfl⟩) ff
  ·obtain⟨⟨vs',T',oT',ts',n1,n2,n3,n4,n5,n6,n7⟩,n8,n9⟩:=n
   refine⟨⟨vs',T',oT',ts',n1,n2,n3,?_,n5,n6,n7⟩,fun b o hb hn e=>n8 b o hb hn ((kp b).trans e),fun b o hb e=>n9 b o hb ((kp b).trans e)⟩
   have e:=aZI s.heap T (Obj.mapFields fun x=>x.setIfInBounds 3 Value.none)
   exact e ▸ n4
end
def XE(C:Addr)(D:Option Addr)(a:Addr)(u:HO):Prop:=u=XA C D a∨u=XB C D a
theorem XE.ext{C a:Addr}{D:Option Addr}{u:HO}(h:XE C D a u):∃ φ,u=.ext φ∧∀ h,φ h→∃ vs sl,h.get? a=some ⟨.ref C,D,.fields vs,sl⟩:=by
 rcases h with rfl | rfl
 ·exact⟨_,rfl,fun _ ⟨vs,sl,q,_⟩=>⟨vs,sl,q⟩⟩
 ·exact⟨_,rfl,fun _ q=>q⟩
theorem XB.ok{P:Program}{w:World}{H:Hp}{h:Heap}{a C:Addr}{D:Option Addr}{vs:Array Value}{sl:Array (Option Value)}(e:h.get? a=some ⟨.ref C,D,.fields vs,sl⟩):ObjOk P w H h a (XB C D a) :=
 ⟨⟨vs,sl,e⟩,⟨_,e⟩,fun h1 h2 ⟨vs',sl',e'⟩ k=>⟨vs',sl',k _ e'⟩⟩
section
variable {X:Cx}{pins:List (Addr×Obj)}{σ:St}{H:Hp}{s:Shared}{C f a:Addr}{D:Option Addr}{h':Heap}
theorem Inv.xobj{u:HO}(I:Inv X pins σ H s)(e:H a=some u)(x:XE C D a u):∃ vs sl,s.heap.get? a=some ⟨.ref C,D,.fields vs,sl⟩:=by
 obtain⟨φ,rfl,k⟩:=x.ext
 obtain⟨p,_,_⟩:=I.hok a _ e
 exact k _ p
theorem Inv.noted{u:HO}{vs:Array Value}{sl:Array (Option Value)}{fl:Value}(I:Inv X pins σ H s)(e:H a=some u)(x:XE C D a u)(ho:s.heap.get? a=some ⟨.ref C,D,.fields vs,sl⟩)(n:Noted (wV X.stack) a ⟨.ref C,D,.fields vs,sl⟩ fl s.heap h') :
  Inv X pins σ (upd H a (XB C D a)) { s with heap:=h' }:=by
 obtain⟨φ,rfl,_⟩:=x.ext
 obtain⟨⟨vs',T,oT,ts,n1,n2,n3,n4,n5,n6,n7⟩,kp,sk⟩:=n
 have na:∀ b,H b=none→b≠a:=fun b n z=>by rw[z,e] at n;cases n
 have nt:∀ b u,H b=some u→(∀ φ,u≠.ext φ)→b≠a:=fun b u q z r=>by rw[r,e] at q;cases q;exact z _ rfl
 have go:∀ b u,H b=some u→b≠a→upd H a (XB C D a) b=some u:=fun b u q z=>by rw[aE z];exact q
 refine I.call (g':=s.gens) (d':=s.drawn) (t':=s.toks) (ch:=[]) ⟨fun b o q n hb _=>kp b o (na b n) hb q,fun b o q n _ _=>sk b o (na b n) q,fun b o q n _=>by rw[aE (na b n)];exact n,fun b o q _=>?_,
  fun b xs q=>go b _ q (nt b _ q fun _ z=>nomatch z),fun b o xs q=>go b _ q (nt b _ q fun _ z=>nomatch z),fun b ps q=>⟨#[],by rw[go b _ q (nt b _ q fun _ z=>nomatch z)];simp⟩⟩ ?_ I.bare (fun b z=>absurd z (by simp))
 ·by_cases z:b=a
  ·subst z;exact⟨_,n1⟩
  ·obtain⟨sl',q'⟩:=sk b o z q;exact⟨_,q'⟩
 ·intro b u q
  by_cases z:b=a
  ·subst z;rw[aB] at q;cases q;exact XB.ok n1
  ·rw[aE z] at q
   refine(I.hok b u q).stay (fun c w' hc r=>kp c w' ?_ (fun hm=>?_) r) (fun c r=>go c _ r (nt c _ r fun _ z=>nomatch z)) fun c xs r=>go c _ r (nt c _ r fun _ z=>nomatch z)
   ·rcases hc with hc | hc
    ·rw[hc];exact z
    ·exact nt c _ hc fun _ z=>nomatch z
   ·have:=I.stkFree c hm
    rcases hc with hc | hc
    ·rw[hc,q] at this;cases this
    ·rw[hc] at this;cases this
def Flies(X:Cx)(pins:List (Addr×Obj))(H:Hp)(h:Heap)(a:Addr)(fl:Value):Prop :=
 ∃ o vs T oT ts,h.get? a=some o∧o.data=.fields vs∧vs[1]?=some (.ref T)∧T≠a∧gQ X pins H T∧h.get? T=some oT∧oT.data=.fields ts∧ts[3]?=some fl
theorem Flies.head{h:Heap}(f:Flies X pins H h a .none){o:Obj}{vs:Array Value}(e:h.get? a=some o)(d:o.data=.fields vs):IL h a vs:=by
 obtain⟨o',vs',T,oT,ts,q1,q2,q3,q4,_,q5,q6,q7⟩:=f
 rw[e] at q1;cases q1
 rw[d] at q2;cases q2
 exact .inr ⟨T,oT,ts,q3,q4,q5,q6,q7⟩
theorem Inv.flown{Q:Unit→Shared→Prop}{M:Model}{A:Around}{E:Value→Shared→Prop}{fl:Value}(I:Inv X pins σ H s)(ff:Flies X pins H s.heap a fl)
  (hQ:∀ s',Inv X pins σ H s'→Flies X pins H s'.heap a .none→s'.heap.objs.size=s.heap.objs.size→Q () s'):wpAny M A (setFlight (.ref a) none) Q E s:=by
 obtain⟨o,vs,T,oT,ts,q1,q2,q3,q4,fp,q5,q6,q7⟩:=ff
 refine wpAny_setFlight_none q1 q2 q3 q5 q6 (y9.mp q7).1 ?_
 have hl:=(y9.mp q7).1
 obtain⟨f0,f1,f2,f3,f4,f5⟩:=id fp
 refine hQ _ (I.turned (t':=s.toks) (it:=T) (fun b o hb e=>(y2 _ _ _ _ hb).trans e) f0 f1 f3 f4 f5) ⟨o,vs,T,{ oT with data:=.fields (ts.setIfInBounds 3 .none) },ts.setIfInBounds 3 .none,(y2 _ _ _ _ q4.symm).trans q1,q2,q3,q4,fp,?_,rfl,by simp[hl]⟩ (aZI _ _ _)
 rw[t8 _ q5 (by rw[Cq q6];rfl),Cq q6]
theorem Inv.note{Q:Unit→Shared→Prop}{M:Model}{E:Value→Shared→Prop}{u:HO}{L:Addr}{A:Around}(I:Inv X pins σ H s)(e:H a=some u)(x:XE C D a u)(hA:A.frames=some X.stack)(hst:X.stack=X.env::X.outer)(hL:X.env.frame=some L)
  (hh:∀ vs sl,s.heap.get? a=some ⟨.ref C,D,.fields vs,sl⟩→IL s.heap a vs)
  (hQ:∀ h',Inv X pins σ (upd H a (XB C D a)) { s with heap:=h' }→(∃ o vs T oT ts,h'.get? a=some o∧o.data=.fields vs∧vs[1]?=some (.ref T)∧T≠a∧s.heap.objs.size≤T∧h'.get? T=some oT∧oT.data=.fields ts∧ts[3]?=some (rawInt L))→Q () { s with heap:=h' }) :
  wpAny M A (noteFrame (.ref a) X.env) Q E s:=by
 obtain⟨vs,sl,ho⟩:=I.xobj e x
 have st:=I.stack
 rw[hst] at hA st
 refine Aa hA st hL ho rfl (hh vs sl ho) fun h' n=>hQ h' (I.noted e x ho (by rw[hst];exact n)) ?_
 obtain⟨⟨vs',T,oT,ts,n1,n2,n3,n4,n5,n6,n7⟩,_,_⟩:=n
 exact⟨_,vs',T,oT,ts,n1,rfl,n2,n3,n4,n5,n6,n7⟩
end
def HE(P:Program)(w:World):zR:=fun outer H s E e s'=>∃ (a C:Addr) (D:Option Addr) (H':Hp),e=.ref a∧s'.os=s.os∧AllBare s'.gens∧Un (wV outer) [] H H' s.heap s'.heap∧HOk P w H' s'.heap∧H' a=some (XB C D a) ∧
 (∃ o vs T oT ts,s'.heap.get? a=some o∧o.data=.fields vs∧vs[1]?=some (.ref T)∧T≠a∧s.heap.objs.size≤T∧H' T=none∧s'.heap.get? T=some oT∧oT.data=.fields ts∧ts[3]?=some Value.none)∧E (.ref C) D H'
def Ac(X:Cx)(E:XK):Prop:=∀ (pins:List (Addr×Obj)) (σ:St) (H:Hp) (s:Shared) (a C:Addr) (D:Option Addr),Inv X pins σ H s→H a=some (XA C D a)→E (.ref C) D (upd H a (XB C D a))→X.xe (.ref a) s
theorem AM{P:Program}{w:World}{K:b5}{mg:Str→Option Value}{base:Heap}{N:List Str}{qual:Str}{scope:Scope}{f:Addr}{cd:Value}{A:Around}{outer:List Env}{s0:Shared}{H0:Hp}{E:XK}
  : Ac (xJ (HE P w) P w K mg base N qual scope f cd A outer s0 H0 E) E:=by
 intro pins σ H s a C D I e q
 show wpAny (model P w) _ (leaving _ (.ref a)) _ _ s
 unfold leaving
 refine wpAny_bind (I.note e (.inl rfl) I.ok.frames rfl rfl (fun vs sl ho=>?_) fun h' J fl=>?_)
 ·obtain⟨⟨vs',sl',h1,h2⟩,_,_⟩:=I.hok a _ e
  rw[ho] at h1
  cases h1
  exact .inl h2
 ·obtain⟨o,vs,T,oT,ts,q1,q2,q3,q4,q5,q6,q7,q8⟩:=fl
  have hTn:upd H a (XB C D a) T=none:=by rw[aE q4];exact I.hok.fresh q5
  refine J.flown ⟨o,vs,T,oT,ts,q1,q2,q3,q4,I.fpOk q5 hTn,q6,q7,q8⟩ fun s' J' fl' _=>?_
  obtain⟨o',vs',T',oT',ts',r1,r2,r3,r4,r5,r6,r7,r8⟩:=fl'
  exact⟨a,C,D,_,rfl,J'.os,J'.bare,J'.base,J'.hok,aB,⟨o',vs',T',oT',ts',r1,r2,r3,r4,r5.2.2.2.1.elim (fun z=>nomatch z) id,r5.1,r6,r7,r8⟩,q⟩
def Fq(K:b5)(E:XK)(te:TE):TS:=fun D σ H=>te σ H fun x H1=>∃ (a C f:Addr) (d:Option Addr),x=.ref a∧H1 a=some (XA C d a)∧XCl K C f∧(∀ dx,d=some dx→∃ fs,H1 dx=some (.xd fs))∧E (.ref C) d (upd H1 a (XB C d a))
theorem DN{X:Cx}{E:XK}{e:Expr}{te:TE}{pos:Pos}(hc:X.calm=true)(hr:Ac X E)(he:PE X e te):PS X (.Raise (some e) none pos) (Fq X.K E te):=by
 intro pins s σ H D I h
 rw[arm_exec_Raise]
 refine wpAny_bind (wpAny_standAt ?_)
 show wpAny _ _ (raiseStmt X.env (some (do let v ← eval e X.env;standAt pos;pure v)) none) _ _ s
 unfold raiseStmt
 refine wpAny_bind (wpAny_bind (bS (he pins s σ H _ I h) fun u s1 ⟨x,H1,I1,rx,a,C,f,d,ex,ea,c,xd,q⟩=>?_))
 subst ex
 obtain rfl:u=Value.ref a:=rx
 refine wpAny_bind (wpAny_standAt (wpAny_pure (wpAny_bind (wpAny_pure ?_))))
 have hd:∀ dx,d=some dx→∃ o,s1.heap.get? dx=some o:=fun dx z=>by
  obtain⟨fs,hf⟩:=xd dx z
  obtain⟨mA,⟨o,_,_,e,_⟩,_⟩:=(show ObjOk X.prog X.w H1 s1.heap dx (.xd fs) from I1.hok dx _ hf)
  exact⟨o,e⟩
 obtain⟨vs,sl,od,J,_⟩:=(XR.of ea).inst I1 hd
 have ho:=J.1
 obtain⟨⟨vs',sl',h1,h2⟩,_,_⟩:=I1.hok a _ ea
 rw[ho] at h1
 cases h1
 have LI:=DH (M:=model X.prog X.w) I1.kIn c J
 have LT:=J.type (M:=model X.prog X.w)
 have nty:∀ {A:Around} {Q:Bool→Shared→Prop} {E:Value→Shared→Prop},Q false s1→wpAny (model X.prog X.w) A (isType (.ref a)) Q E s1:=fun q=>by
  unfold isType loadHead
  exact wpAny_bind (wpAny_loadPart ho (wpAny_pure q))
 refine wpAny_bind (wpAny_holding ?_)
 unfold excFromValue
 refine wpAny_bind (show wpAny _ _ (isExcClass (.ref a)) _ _ _ from ?_)
 unfold isExcClass
 refine wpAny_bind (nty (wpAny_pure ?_))
 refine wpAny_bind (LI.here (wpAny_pure ?_))
 refine wpAny_bind (nty ?_)
 refine wpAny_bind (show wpAny _ _ (raisedInstance (.ref a)) _ _ _ from ?_)
 unfold raisedInstance
 obtain⟨nm,q',N,L,bs,sn,sub,ab,col,dd,k0,k1,k2,k3,k5,hk,ht⟩:=c.ex
 have kC:=I1.kIn _ _ hk
 refine wpAny_bind (LT.here (wpAny_bind (wpAny_typeOf (T:="type") ⟨_,kC,rfl⟩ ?_)))
 rw[if_pos (by first | exact BEq.rfl | decide +kernel)]
 refine wpAny_pure (wpAny_bind ?_)
 unfold setFlight
 refine wpAny_bind (wpAny_field ho rfl h2 (wpAny_pure ?_))
 exact wpAny_raiseNew_none (I1.ok.hd hc) (hr pins σ H1 s1 a C d I1 ea q)
section
variable {X:Cx}{pins:List (Addr×Obj)}{σ:St}{H:Hp}{s:Shared}
theorem C0{M:Model}{A:Around}{E:Value→Shared→Prop}{i:Nat}{x:Str}{v:V}{Q:Unit→Shared→Prop}(I:Inv X pins σ H s)(hN:X.N.Nodup)(hi:X.N[i]?=some x)(hk:X.env.scope.names.lookup x=some .local)(hv:σ[i]?=some (some v))
  (h:∀ s',Inv X pins (σ.set i none) H s'→Q () s'):wpAny M A (unbindName X.env x) Q E s:=by
 obtain⟨m,hn,hl⟩:=id I.loc
 have hcls:(X.env.scope.kind == .class || (X.env.scope.kind == .module && X.env.locals != X.env.globals))=false:=by rw[I.ok.kind];rfl
 have hiσ:i<σ.length:=by rw[I.len];exact(a9.mp hi).1
 obtain⟨u,r,q⟩:=hl i x v hi hv (.inl hk)
 have hm:m x=some u:=by
  rcases q with ⟨k,e⟩ | ⟨k,c,e,z⟩
  ·exact e
  ·rcases k with k | k <;> (have k':X.env.scope.names.lookup x=_:=k;rw[hk] at k';cases k')
 refine wpAny_unbindName_local hk hn hm hcls fun h' u' hn' hs=>?_
 obtain⟨oL,_,_,hoL,_⟩:=id hn
 have tracked:HOk X.prog X.w H h':=fun b ob e=>by
  refine(I.hok b ob e).stay (fun c w' hc q=>(hs.2 c ?_).trans q) (fun _ q=>q) fun _ _ q=>q
  rintro rfl
  rcases hc with rfl | hc
  ·rw[I.free] at e;cases e
  ·rw[I.free] at hc;cases hc
 refine h _ ⟨I.ok,I.os,I.bare,⟨fun b o e n hb hx=>?_,fun b o e n hb hx=>?_,I.base.free,fun b o e hx=>?_,I.base.tups,I.base.frzs,I.base.tbls⟩,⟨_,hn',fun j y v' e1 e2 e3=>?_⟩,fun y c e=>?_,I.free,I.freeC,fun p hp=>?_,tracked,by simpa using I.len⟩
 ·exact(hs.2 b (d8 (m6 (d5 e) I.ok.above))).trans (I.base.keep b o e n hb hx)
 ·obtain⟨sl,e1⟩:=I.base.slot b o e n hb hx
  exact⟨sl,(hs.2 b (d8 (m6 (d5 e) I.ok.above))).trans e1⟩
 ·obtain⟨o',e1⟩:=I.base.there b o e hx
  exact⟨o',(hs.2 b (d8 (m6 (d5 e) I.ok.above))).trans e1⟩
 ·by_cases hj:j=i
  ·subst hj
   rw[y0 hiσ] at e2
   cases e2
  ·rw[aQF (aQX hj)] at e2
   obtain⟨u',r',q⟩:=hl j y v' e1 e2 e3
   refine⟨u',r',?_⟩
   rcases q with ⟨k,e⟩ | ⟨k,c,e,z⟩
   ·refine .inl ⟨k,?_⟩
    have:y≠x:=fun e=>hj (qZ hN e1 (e ▸ hi))
    simp[this,e]
   ·exact .inr ⟨k,c,e,z.sameBut hs (I.cne y c e)⟩
 ·obtain⟨w',z⟩:=I.cell y c e
  exact⟨w',z.sameBut hs (I.cne y c e)⟩
 ·obtain⟨e,n,ne,nf,d⟩:=I.pin p hp
  exact⟨(hs.2 p.1 ne).trans e,n,ne,nf,d⟩
theorem JV{H:Hp}{a:Addr}{o:HO}(h:H a=some o):upd H a o=H:=by
 funext b
 by_cases z:b=a
 ·rw[z,aB,h]
 ·rw[aE z]
def oR(X:Cx)(pins:List (Addr×Obj))(xe:Value→Shared→Prop):Cx:={ X with pn:=X.pn++pins,xe:=xe }
theorem Inv.toTry{xe:Value→Shared→Prop}(I:Inv X pins σ H s):Inv (oR X pins xe) [] σ H s :=
 ⟨⟨I.ok.mod,I.ok.kind,I.ok.glob,I.ok.blt,I.ok.above,I.ok.inj,I.ok.has,I.ok.cab,I.ok.hd,I.ok.frames,I.ok.stk,I.ok.exf,I.ok.bs,I.ok.bsz,I.ok.noex,I.ok.exfs,I.ok.funs,I.ok.frf⟩,I.os,I.bare,I.base,I.loc,I.cell,I.free,I.freeC,
  fun p hp=>I.pin p (by simpa [oR] using hp),I.hok,I.len⟩
theorem Inv.ofTry{xe:Value→Shared→Prop}{ps:List (Addr×Obj)}(I:Inv (oR X pins xe) ps σ H s):Inv X pins σ H s :=
 ⟨⟨I.ok.mod,I.ok.kind,I.ok.glob,I.ok.blt,I.ok.above,I.ok.inj,I.ok.has,I.ok.cab,I.ok.hd,I.ok.frames,I.ok.stk,I.ok.exf,I.ok.bs,I.ok.bsz,I.ok.noex,I.ok.exfs,I.ok.funs,I.ok.frf⟩,I.os,I.bare,I.base,I.loc,I.cell,I.free,I.freeC,
  fun p hp=>I.pin p (p7 _ hp),I.hok,I.len⟩
def rF(X:Cx)(a:Addr)(xe:Value→Shared→Prop):Cx:={ X with A:=X.A.mark (some (.ref a)),calm:=false,xe:=xe }
theorem Inv.toMark{a:Addr}{xe:Value→Shared→Prop}(I:Inv X pins σ H s):Inv (rF X a xe) pins σ H s :=
 ⟨⟨I.ok.mod,I.ok.kind,I.ok.glob,I.ok.blt,I.ok.above,I.ok.inj,I.ok.has,I.ok.cab,(fun z=>nomatch z),I.ok.frames,I.ok.stk,I.ok.exf,I.ok.bs,I.ok.bsz,I.ok.noex,I.ok.exfs,I.ok.funs,I.ok.frf⟩,I.os,I.bare,I.base,I.loc,I.cell,I.free,I.freeC,I.pin,I.hok,I.len⟩
theorem Inv.ofMark{a:Addr}{xe:Value→Shared→Prop}(hd:X.calm=true→X.A.handled=none)(I:Inv (rF X a xe) pins σ H s):Inv X pins σ H s :=
 ⟨⟨I.ok.mod,I.ok.kind,I.ok.glob,I.ok.blt,I.ok.above,I.ok.inj,I.ok.has,I.ok.cab,hd,I.ok.frames,I.ok.stk,I.ok.exf,I.ok.bs,I.ok.bsz,I.ok.noex,I.ok.exfs,I.ok.funs,I.ok.frf⟩,I.os,I.bare,I.base,I.loc,I.cell,I.free,I.freeC,I.pin,I.hok,I.len⟩
end
def Nt(X:Cx)(pins:List (Addr×Obj))(EX:St→XK):Value→Shared→Prop:=fun e s'=>∃ (σ:St) (H:Hp) (a C:Addr) (D:Option Addr),e=.ref a∧Inv X pins σ H s'∧H a=some (XB C D a)∧Flies X pins H s'.heap a .none∧EX σ (.ref C) D H
def mS(CX:zR)(X:Cx)(EX:St→XK):Prop:=∀ (pins:List (Addr×Obj)) (σ:St) (H:Hp) (s:Shared) (e:Value) (s':Shared),Inv X pins σ H s→CX X.stack H s (EX σ) e s'→X.xe e s'
theorem Aw{X:Cx}{pins:List (Addr×Obj)}{EX:St→XK}:mS (HE X.prog X.w) (oR X pins (Nt X pins EX)) EX:=by
 rintro ps σ H s e s' I ⟨a,C,D,H',rfl,os,bare,un,hok,ea,⟨o,vs,T,oT,ts,q1,q2,q3,q4,q5,q6,q7,q8,q9⟩,q⟩
 have J:=I.call' (ch:=[]) os un hok bare (fun b z=>absurd z (by simp))
 exact⟨σ,H',a,C,D,rfl,J.ofTry,ea,⟨o,vs,T,oT,ts,q1,q2,q3,q4,I.ofTry.fpOk q5 q6,q7,q8,q9⟩,q⟩
def DV(sp:Sp)(dvs:List V)(EX:St→XK)(t:TA):TE:=fun σ H Q=>t σ H fun vs H1=>sp (vs++dvs) H1 Q (EX σ)
section
variable {X:Cx}{CX:zR}{k:Nat}{f C:Addr}{fd:FuncData}{ps:List Str}{sp:Sp}{dvs:List V}{ds:List Value}{EX:St→XK}{x m:Str}{p pos apos:Pos}{e o:Expr}{es:List Expr}{ta:TE}{t:TA}
theorem Bz{pins:List (Addr×Obj)}{σ:St}{H:Hp}{s:Shared}{Q:VK}{us:List Value}{vs:List V}(F:FnOk X.prog X.w X.K X.mg X.base CX k f fd ps sp)(hr:Room k X.A)(hb:Binds X.K fd ps ds)(hd:Vals dvs ds)(hx:mS CX X EX)
  (I:Inv X pins σ H s) (r:Vals vs us) (h:sp (vs++dvs) H Q (EX σ)):wpAny (model X.prog X.w) X.A (call (.ref f) us) (EP X pins σ Q) X.xe s:=by
 have r2:Vals (vs++dvs) (us++ds):=r.append hd
 have hl:(us++ds).length=ps.length:=by rw[← r2.length];exact F.len _ _ _ _ h
 refine wpAny_call (codeAny_mono (F.run X.A X.stack s H ⟨us,[]⟩ (us++ds) (vs++dvs) Q (EX σ) hr I.env0 (hb s us I.kIn hl) r2 h) fun r s' hq=>?_)
 cases r with
 | error e=>exact hx pins σ H s e s' I hq
 | ok fl =>
  cases fl with
  | ret u=>exact I.after hq
  | next=>exact False.elim hq
  | brk=>exact False.elim hq
  | cont=>exact False.elim hq
end
structure XUn(K:b5)(C L:Addr):Prop where
 up:PySem.W.mroIn K C (.ref L)=some true
 ex:PySem.W.mroIn K L (.type "BaseException")=some true
 cl:∃ cd dd sl,K.lookup L=some ⟨.type "type",dd,.cls cd,sl⟩
theorem GX{prog:Program}{w:World}{A:Around}{E:Value→Shared→Prop}{K:b5}{C L a:Addr}{ox:Obj}{od:Option Obj}{s:Shared}{Q:Bool→Shared→Prop}(X:K.In s.heap)(J:PySem.W.InstAt s.heap a ox C od)(u:XUn K C L)(hQ:Q true s) :
  wpAny (model prog w) A (excMatches (.ref a) (.ref L)) Q E s:=by
 obtain⟨cd,dd,sl,hk⟩:=u.cl
 have kL:=X _ _ hk
 have LT:=J.type (M:=model prog w)
 have L1:=aXK (M:=model prog w) X u.ex
 have L2:=aXK (M:=model prog w) X u.up
 unfold excMatches
 refine wpAny_bind (wpAny_isInstance (T:="type") (b:=false) ⟨_,kL,rfl⟩ (by first | rfl | with_unfolding_all rfl) ?_)
 refine wpAny_bind (wpAny_pure ?_)
 refine wpAny_bind ?_
 simp only [aXM,aXm]
 refine wpAny_bind ?_
 unfold isExcClass isType loadHead
 refine wpAny_bind (wpAny_bind (wpAny_bind (wpAny_loadPart kL (wpAny_pure (L1.here (wpAny_pure (wpAny_pure ?_)))))))
 refine wpAny_bind (LT.here (wpAny_bind (wpAny_bind (wpAny_bind (L2.here (wpAny_pure (wpAny_pure (wpAny_pure ?_))))))))
 exact hQ
def HL(i:Nat)(D:Ends):Ends:={ nx:=fun σ H=>D.nx (σ.set i none) H,rt:=D.rt,bk:=fun σ H=>D.bk (σ.set i none) H,ct:=fun σ H=>D.ct (σ.set i none) H }
def Mc(K:b5)(L:Addr)(i:Nat)(tb:(St→XK)→TS)(ts:TS):TS:=fun D σ H=>∃ EX:St→XK,tb EX D σ H ∧
 ∀ (σ1:St) (H1:Hp) (a C:Addr) (d:Option Addr),H1 a=some (XB C d a)→EX σ1 (.ref C) d H1→(∃ f,XCl K C f)∧XUn K C L∧(∀ dx,d=some dx→∃ fs,H1 dx=some (.xd fs))∧ts (HL i D) (σ1.set i (some (.ref a))) H1
theorem Jo{X:Cx}{L F:Addr}{i:Nat}{n x:Str}{body suite:List Stmt}{b₀:Stmt}{hpos pos tpos:Pos}{tb:(St→XK)→TS}{ts:TS}(hst:X.stack=X.env::X.outer)(hF:X.env.frame=some F)(hN:X.N.Nodup)(hi:X.N[i]?=some n)
  (hk:X.env.scope.names.lookup n=some .local) (hg:Gl X x) (hm:X.mg x=some (.ref L))
  (hb:∀ (pins:List (Addr×Obj)) (xe:Value→Shared→Prop) (EX:St→XK),mS (HE X.prog X.w) (oR X pins xe) EX→PSs (oR X pins xe) body (tb EX))
  (hs:∀ (a:Addr) (xe:Value→Shared→Prop),PSs (rF X a xe) (b₀::suite) ts) (hdb:(x == ("__debug__":Str))=false:=by decide) :
  PS X (.Try body [.ExceptHandler (some (.Name x tpos)) (some n) (b₀::suite) hpos] [] [] pos) (Mc X.K L i tb ts):=by
 intro pins s σ H D I h
 obtain⟨EX,hb',hh⟩:=h
 refine wpAny_Try_except ?_
 have B:=hb pins (Nt X pins EX) EX Aw [] s σ H D I.toTry hb'
 refine wpAny_mono B (fun fl s1 q=>?_) (fun e s1 q=>?_)
 ·cases fl with
  | next =>
   obtain⟨σ',H',J,q⟩:=q
   exact wpAny_pure ⟨σ',H',J.ofTry,q⟩
  | brk =>
   obtain⟨σ',H',J,q⟩:=q
   exact⟨σ',H',J.ofTry,q⟩
  | cont =>
   obtain⟨σ',H',J,q⟩:=q
   exact⟨σ',H',J.ofTry,q⟩
  | ret u =>
   obtain⟨v,σ',H',J,r,q⟩:=q
   exact⟨v,σ',H',J.ofTry,r,q⟩
 ·obtain⟨σ1,H1,a,C,d,rfl,I1,ea,fl,q⟩:=q
  obtain⟨⟨f,c⟩,un,xd,sq⟩:=hh σ1 H1 a C d ea q
  refine I1.note ea (.inr rfl) I1.ok.frames hst hF (fun vs sl ho=>fl.head ho rfl) fun h' I2 nt=>?_
  rw[JV ea] at I2
  obtain⟨o,vs,T,oT,ts',q1,q2,q3,q4,q5,q6,q7,q8⟩:=nt
  refine I2.flown ⟨o,vs,T,oT,ts',q1,q2,q3,q4,I1.fpOk q5 (I1.hok.fresh q5),q6,q7,q8⟩ fun s3 I3 fl3 _=>?_
  refine wpAny_handleBy_cons ?_ (by intro z;cases z)
  refine codeAny_handlers_test ?_
  have hd:∀ dx,d=some dx→∃ o,s3.heap.get? dx=some o:=fun dx z=>by
   obtain⟨fs,hf⟩:=xd dx z
   obtain⟨mA,⟨o,_,_,e,_⟩,_⟩:=(show ObjOk X.prog X.w H1 s3.heap dx (.xd fs) from I3.hok dx _ hf)
   exact⟨o,e⟩
  obtain⟨vs3,sl3,od,J,_⟩:=(XR.ofB ea).inst I3 hd
  refine lX (X:=rF X a (fun _ _=>True)) I3.toMark hg hm ?_ hdb
  refine GX I3.kIn J un ?_
  show codeAny _ _ _ _ _
  refine codeAny_handlers_suite_as ?_
  refine I3.flown fl3 fun s5 I5 fl5 _=>?_
  refine eC I5 hN hi (.inl hk) (v:=.ref a) rfl (fun s6 I6=>?_) (.inr hk)
  refine wpAny_mono (hs a _ pins s6 _ H1 (HL i D) I6.toMark sq) (fun fl s7 q=>?_) fun _ _ z=>z
  have fin:∀ (σ':St) (H':Hp) (Q':Shared→Prop),Inv X pins σ' H' s7→(∀ s9,Inv X pins (σ'.set i none) H' s9→Q' s9) →
    wpAny (model X.prog X.w) X.A (do bindName X.env n .none;unbindBehindTheSuite X.env n hpos) (fun _ s9=>Q' s9) X.xe s7:=fun σ' H' Q' I7' k=>by
   have hiσ:i<σ'.length:=by rw[I7'.len];exact(a9.mp hi).1
   refine wpAny_bind (wpAny_bindName (eC I7' hN hi (.inl hk) (v:=.non) rfl (fun s8 I8=>?_) (.inr hk)))
   unfold unbindBehindTheSuite
   refine wpAny_onRaise (C0 I8 hN hi hk (v:=.non) (by rw[y0 hiσ]) fun s9 I9=>k s9 ?_)
   rw[List.set_set] at I9
   exact I9
  cases fl with
  | next =>
   obtain⟨σ',H',J,q⟩:=q
   exact fin σ' H' _ (J.ofMark I.ok.hd) fun s9 I9=>⟨_,H',I9,q⟩
  | brk =>
   obtain⟨σ',H',J,q⟩:=q
   exact fin σ' H' _ (J.ofMark I.ok.hd) fun s9 I9=>⟨_,H',I9,q⟩
  | cont =>
   obtain⟨σ',H',J,q⟩:=q
   exact fin σ' H' _ (J.ofMark I.ok.hd) fun s9 I9=>⟨_,H',I9,q⟩
  | ret u =>
   obtain⟨v,σ',H',J,r,q⟩:=q
   exact fin σ' H' _ (J.ofMark I.ok.hd) fun s9 I9=>⟨v,_,H',I9,r,q⟩
section
variable {X:Cx}
def Ho(K:b5):List V→Hp→VK→Prop:=fun xs H Q=>∃ (a C f tp:Addr) (D:Option Addr) (ys:List V) (cs:List Value) (b:Bool),xs=[.ref a,.ref tp]∧H tp=some (.tup ys)∧Vals ys cs∧(∀ us,Vals ys us→us=cs)∧XR H a C D∧(∀ d,D=some d→∃ fs,H d=some (.xd fs))∧XCl K C f∧XIs K C ∧
 PySem.W.kitAny K (.ref C) cs=some b∧Q (.bl b) H
theorem Cu:dZ X (.builtin "isinstance") (Ho X.K):=by
 intro pins s σ H xs us Q I r h
 obtain⟨a,C,f,tp,D,ys,cs,b,rfl,et,rc,uc,xr,xd,xc,xi,e,q⟩:=h
 obtain⟨u,v,rfl,r1,r2⟩:=r.two
 cases (show u=Value.ref a from r1)
 cases (show v=Value.ref tp from r2)
 have hd:∀ d,D=some d→∃ o,s.heap.get? d=some o:=fun d z=>by
  obtain⟨fs,hf⟩:=xd d z
  obtain⟨mA,⟨o,_,_,e,_⟩,_⟩:=(show ObjOk X.prog X.w H s.heap d (.xd fs) from I.hok d _ hf)
  exact⟨o,e⟩
 obtain⟨vs,sl,od,J,_⟩:=xr.inst I hd
 obtain⟨_,its,ri,ht,_⟩:=(show ObjOk X.prog X.w H s.heap tp (.tup ys) from I.hok tp _ et)
 obtain rfl:=uc its ri
 obtain⟨⟨c0,d0,da,s0⟩,ho,hc,n,hdd⟩:=ht
 simp only at hc hdd
 subst hc hdd
 exact aQ9 (EE xc xi) I.kIn ⟨_,_,J⟩ ho e (fun z=>nomatch z) fun tk=>⟨.bl b,H,I.tok _,rfl,q⟩
theorem nY:∀ (l:List Addr),Vals (l.map V.ref) (l.map Value.ref)∧∀ us,Vals (l.map V.ref) us→us=l.map Value.ref
 | []=>⟨.nil,fun us r=>by cases r;rfl⟩
 | a::l=>⟨.cons rfl (nY l).1,fun us r=>by
  cases r with
  | cons h t =>
   obtain rfl:=(nY l).2 _ t
   rw[show _=Value.ref a from h]
   rfl⟩
end
theorem Fun.okX{P:Program}{w:World}{K:b5}{mg:Str→Option Value}{base:Heap}{x qual:Str}{st:Stmt}{f:Addr}{fd:FuncData}{N ps:List Str}{k:Nat}{sp:Sp}(F:Fun K x qual st f fd)(S:FnScope N ps (aG st))(len:∀ vs H Q E,sp vs H Q E→vs.length=ps.length)
  (hbody:∀ (cdv:Value) (A:Around) (outer:List Env) (s:Shared) (H:Hp) (vs:List V) (Q:VK) (E:XK),Room k (A.deeper (envOfC qual (aG st) s.heap.objs.size f cdv))→sp vs H Q E →
   ∃ t,PSs (xJ (HE P w) P w K mg base N qual (aG st) f cdv A outer s H E) (dO st) t∧t { nx:=fun _ H'=>Q .non H',rt:=Q } (mQ N vs) H):FnOk P w K mg base (HE P w) (k+1) f fd ps sp:=by
 obtain⟨oc,od,kV,doc,pm,an,cdv,ct,osl,rfl,lk,hcd⟩:=F.ex
 refine Hy lk hcd S len fun A outer s H vs Q E hr hsp=>?_
 obtain⟨t,h,q⟩:=hbody cdv A outer s H vs Q E hr hsp
 exact⟨t,h,q⟩
def Jy(C:Addr)(fld:Str):Sp:=fun vs H Q _=>∃ (a:Addr) (v:V),vs=[.ref a,v]∧H a=some (XA C none a)∧∀ dx,H dx=none→dx≠a→Q .non (upd (upd H dx (.xd [(fld,v)])) a (XA C (some dx) a))
section
variable {X:Cx}{K:b5}
theorem zS(h:X.K=K):dZ X (.builtin "isinstance") (Ho K):=by subst h;exact Cu
theorem uI(h:X.K=K):dZ X (.builtin "isinstance") (KB K):=by subst h;exact DP
theorem FA{e:Expr}{nm:Str}{pos:Pos}{ta:TE}(h:X.K=K)(he:PE X e ta)(hb:attributeBase e nm X.env (eval e X.env)=eval e X.env):PE X (.Attribute e nm pos) (Hn K ta nm):=by subst h;exact Gh he hb
theorem CB{E:XK}{e:Expr}{te:TE}{pos:Pos}(h:X.K=K)(hc:X.calm=true)(hr:Ac X E)(he:PE X e te):PS X (.Raise (some e) none pos) (Fq K E te):=by subst h;exact DN hc hr he
theorem Fb{nm:Str}{pos pos':Pos}{o value:Expr}{ta tv:TE}(h:X.K=K)(ha:PE X o ta)(hv:PE X value tv)(hs:swapsWith value (some (.Attribute o nm pos')) pos.line X.env=pure false):PS X (.Assign [.Attribute o nm pos'] value pos) (HI K ta tv nm):=by subst h;exact FY ha hv hs
theorem FO{L F:Addr}{i:Nat}{n x:Str}{body suite:List Stmt}{b₀:Stmt}{hpos pos tpos:Pos}{tb:(St→XK)→TS}{ts:TS}(h:X.K=K)(hst:X.stack=X.env::X.outer)(hF:X.env.frame=some F)(hN:X.N.Nodup)(hi:X.N[i]?=some n)
  (hk:X.env.scope.names.lookup n=some .local) (hg:Gl X x) (hm:X.mg x=some (.ref L))
  (hb:∀ (pins:List (Addr×Obj)) (xe:Value→Shared→Prop) (EX:St→XK),mS (HE X.prog X.w) (oR X pins xe) EX→PSs (oR X pins xe) body (tb EX))
  (hs:∀ (a:Addr) (xe:Value→Shared→Prop),PSs (rF X a xe) (b₀::suite) ts) (hdb:(x == ("__debug__":Str))=false:=by decide) :
  PS X (.Try body [.ExceptHandler (some (.Name x tpos)) (some n) (b₀::suite) hpos] [] [] pos) (Mc K L i tb ts):=by subst h;exact Jo hst hF hN hi hk hg hm hb hs hdb
end
theorem Cs{K:b5}:PySem.W.tailIn K A1 A1=true:=by
 unfold PySem.W.tailIn
 rw[aZl]
 exact .inl (beq_iff_eq.mpr rfl)
theorem Gf{K:b5}{nm q:Str}{L N:Addr}{bs bm:List Value}{hd:Bool}{sn:List Str}{sub:List Value}{ab:Bool}{col:Option Bool}{dd:Option Addr}{k0 k1 k2 k3 k5:Option Value}{id:String}
  (h:K.lookup L=some (excClassObj nm q L N bs bm hd sn sub ab col dd k0 k1 k2 k3 k5 id)) (o:PySem.W.nsOkIn K N=true) (i:PySem.W.nsIn K N "__init__"=some none):PySem.W.tailIn K A1 (.ref L::A1)=true:=by
 unfold PySem.W.tailIn
 rw[aZl]
 right
 dsimp only
 rw[h]
 dsimp only
 rw[o,i,Cs]
 rfl
def JO(s:Stmt):Stmt:=match s with
 | .ClassDef _ _ _ (d::_) _ _ _ _ _ _ _=>d
 | _=>.Pass ⟨0,0,0,0⟩
end L2
namespace Lw
open PySem PySem.Spec PyProof.Rows L2
def Mp(P:Program)(w:World)(K:b5)(mg:Str→Option Value)(base:Heap)(x:Str)(ps:List Str)(n:Nat)(sp:Sp):Prop :=
 ∃ f fd,FnOk P w K mg base (HE P w) n f fd ps sp∧mg x=some (.ref f)∧PySem.W.keepIn K (.ref f)=true∧Binds K fd ps []
theorem Df.clX{P:Program}{w:World}{K:b5}{mg:Str→Option Value}{base:Heap}{x:Str}{st:Stmt}{ps:List Str}{f:Addr}{fd:FuncData}{n:Nat}{sp:Sp}(D:Df K mg x st ps f fd)(h:FnOk P w K mg base (HE P w) n f fd ps sp):Mp P w K mg base x ps n sp :=
 ⟨f,fd,h,D.m,D.F.kp,D.b⟩
end Lw
namespace L2
open PySem PySem.Spec PyProof.Rows
end L2
namespace Lw
open PySem PySem.Spec PyProof.Rows L2 Ma MaR
end Lw
namespace L2
open PySem PySem.Spec PyProof.Rows
end L2
namespace Lw
open PySem PySem.Spec PyProof.Rows L2
end Lw
namespace L2
open PySem PySem.Spec PyProof.Rows
end L2
namespace Lw
open PySem PySem.Spec PyProof.Rows L2 Ma MaR
theorem pX(K:b5)(H:Hp){v:V}(h:gC v=true):∃ t,BTy K H v t∧iO t "list"=false∧iO t "tuple"=false:=by
 cases v with
 | non=>exact⟨_,.non,by decide,by decide⟩
 | bl b=>exact⟨_,.bl b,by decide,by decide⟩
 | int i=>exact⟨_,.int i,by decide,by decide⟩
 | str x=>exact⟨_,.str x,by decide,by decide⟩
 | _=>exact absurd (show false=true from h) j2
end Lw
namespace L2
open PySem PySem.Spec PyProof.Rows
end L2
namespace Lw
open PySem PySem.Spec PyProof.Rows L2 Ma MaR
end Lw
namespace L2
open PySem PySem.Spec PyProof.Rows
end L2
namespace LtL
open PySem PyProof.Rows HT
open PySem.SeqAt
open PySem.AutoSeq1 (wpAny_loadPart')
open PySem.MeetsSeq PySem.MeetsSeq2 PySem.MeetsSeq3
end LtL
namespace L2
open PySem PySem.Spec PyProof.Rows
end L2
namespace Lw
open PySem PySem.Spec PyProof.Rows L2 Ma MaR
end Lw
namespace L2
open PySem PySem.Spec PyProof.Rows
end L2
namespace Lw
open PySem PySem.Spec PyProof.Rows L2 Ma MaR
theorem qP:∀ (w:List Nat) (i:Nat),(aZ w).eraseIdx i=aZ (w.eraseIdx i)
 | [],_=>rfl
 | _::_,0=>rfl
 | c::w,i+1=>by
  show V.str (S [c])::(aZ w).eraseIdx i=V.str (S [c])::aZ (w.eraseIdx i)
  rw[qP w i]
end Lw
namespace PySem
open Sem (wp)
end PySem
namespace L2
open PySem PySem.Spec PyProof.Rows
end L2
namespace Lw
open PySem PySem.Spec PyProof.Rows L2 Ma MaR
structure Exch(n:Nat)(cs:List Nat):Prop where
 len:cs.length=n
 mem:∀ c∈cs,c∈aK n
 perm:(cs.map lo).Perm (bE n)
def bU(cs:List Nat):List (List Nat):=cs.map fun c=>[c]
def BI:Sp:=fun vs H Q _=>∃ (fl sc:Addr) (n:Nat),vs=[.ref fl,.int (n:Nat)]∧IsFl H fl sc∧1≤n∧n≤4∧∀ (p:Addr) (cs:List Nat) (H':Hp),H p=none→Exch n cs→RT (bU cs) n 1→(∀ x∈bU cs,OfN n x)→H' p=some (.tup (cF (bU cs)))→IsFl H' fl sc→Kp fl H H'→Q (.ref p) H'
theorem zW{d:Nat}(hd:cE d)(h:bC d=true):lo d=d:=((Fj hd hd h).mpr (.inl rfl)).symm
theorem JX{d:Nat}(hd:cE d)(h:bC d=true):lo (con d)=d:=((Fj (cV hd) hd h).mpr (.inr (aW hd).symm)).symm
theorem zU{ls:List Nat}{i d:Nat}(h:ls[i]?=some d):(d::ls.eraseIdx i).Perm ls:=by
 induction ls generalizing i with
 | nil=>simp at h
 | cons a ls ih =>
  cases i with
  | zero=>simp at h;subst h;exact aJq _
  | succ i =>
   have:=ih (i:=i) (by simpa using h)
   show (d::a::ls.eraseIdx i).Perm (a::ls)
   exact(List.Perm.swap a d _).trans (this.cons a)
end Lw
namespace L2
open PySem PySem.Spec PyProof.Rows
end L2
namespace Lw
open PySem PySem.Spec PyProof.Rows L2 Ma MaR
def pG(c:Nat):Nat:=if bC c=true then c - 97 else c - 65
def gX(cs:List Nat)(c:Nat):Nat:=if bC c=true then cs.getD (pG c) 0 else con (cs.getD (pG c) 0)
theorem Kd{n c:Nat}(h1:1≤n)(h4:n≤4)(h:c∈aK n):pG c<n:=by
 have hL:=aU (aN h)
 rcases A9 h1 h4 with rfl | rfl | rfl | rfl <;> rcases hL with rfl | rfl | rfl | rfl | rfl | rfl | rfl | rfl <;> revert h <;> decide
theorem FJ{c d:Nat}(hc:cE c)(hd:cE d)(h:pG c=pG d):c=d∨c=con d:=by
 rcases aU hc with rfl | rfl | rfl | rfl | rfl | rfl | rfl | rfl <;> rcases aU hd with rfl | rfl | rfl | rfl | rfl | rfl | rfl | rfl <;> revert h <;> decide
theorem gN{d:Nat}(hd:cE d):lo (con d)=lo d:=by
 rcases aU hd with rfl | rfl | rfl | rfl | rfl | rfl | rfl | rfl <;> decide
theorem sX{n:Nat}(h1:1≤n)(h4:n≤4):(bE n).Nodup:=by
 rcases A9 h1 h4 with rfl | rfl | rfl | rfl <;> decide
section
variable {n:Nat}{cs:List Nat}(h1:1≤n)(h4:n≤4)(e:Exch n cs)
include h1 h4 e
theorem Exch.at{c:Nat}(h:c∈aK n):∃ d,cs[pG c]?=some d∧d∈aK n∧gX cs c=if bC c=true then d else con d:=by
 have hi:=Kd h1 h4 h
 have hl:pG c<cs.length:=by rw[e.len];exact hi
 refine⟨cs[pG c],b0 hl,e.mem _ (aXF hl),?_⟩
 unfold gX
 rw[c5,b0 hl]
 rfl
theorem Exch.tell{c:Nat}(h:c∈aK n):tell (bU cs) c=[gX cs c]:=by
 obtain⟨d,hd,_,hg⟩:=e.at h1 h4 h
 have e0:(bU cs).getD (pG c) []=[d]:=by
  unfold bU
  rw[c5,c7,hd]
  rfl
 unfold Lw.tell
 rw[hg]
 by_cases q:bC c=true
 ·rw[if_pos q,if_pos q]
  unfold pG at e0
  rw[if_pos q] at e0
  exact e0
 ·rw[if_neg q,if_neg q]
  unfold pG at e0
  rw[if_neg q] at e0
  rw[e0]
  rfl
theorem Exch.gmem{c:Nat}(h:c∈aK n):gX cs c∈aK n:=by
 obtain⟨d,_,hm,hg⟩:=e.at h1 h4 h
 rw[hg]
 split
 ·exact hm
 ·exact dC (by omega) (by omega) hm
theorem Exch.gcon{c:Nat}(h:c∈aK n):gX cs (con c)=con (gX cs c):=by
 have hc:=aN h
 have q:(bC c=true∧bC (con c)=false∧pG (con c)=pG c)∨(bC c=false∧bC (con c)=true∧pG (con c)=pG c):=by
  rcases aU hc with rfl | rfl | rfl | rfl | rfl | rfl | rfl | rfl <;> decide
 obtain⟨d,hd,hm,hg⟩:=e.at h1 h4 h
 have e1:cs.getD (pG c) 0=d:=by rw[c5,hd];rfl
 unfold gX
 rcases q with ⟨a,b,c'⟩ | ⟨a,b,c'⟩
 ·rw[c',e1,if_neg (by rw[b];decide),if_pos a]
 ·rw[c',e1,if_pos b,if_neg (by rw[a];decide),aW (aN hm)]
theorem Exch.ginj{c d:Nat}(hc:c∈aK n)(hd:d∈aK n)(h:gX cs c=gX cs d):c=d:=by
 obtain⟨x,hx,xm,gx⟩:=e.at h1 h4 hc
 obtain⟨y,hy,ym,gy⟩:=e.at h1 h4 hd
 have lx:lo (gX cs c)=lo x:=by rw[gx];split <;> first | rfl | exact gN (aN xm)
 have ly:lo (gX cs d)=lo y:=by rw[gy];split <;> first | rfl | exact gN (aN ym)
 have nd:(cs.map lo).Nodup:=(e.perm.nodup_iff).mpr (sX h1 h4)
 have ei:pG c=pG d:=by
  have q1:(cs.map lo)[pG c]?=some (lo x):=by rw[c7,hx];rfl
  have q2:(cs.map lo)[pG d]?=some (lo x):=by rw[c7,hy,← lx,h,ly];rfl
  have l1:pG c<(cs.map lo).length:=(a9.mp q1).1
  exact(List.getElem?_inj l1 nd).mp (q1.trans q2.symm)
 rcases FJ (aN hc) (aN hd) ei with z | z
 ·exact z
 ·exfalso
  rw[z,e.gcon h1 h4 hd] at h
  exact wS (aN (e.gmem h1 h4 hd)) h
theorem Exch.told{x:List Nat}(hx:OfN n x):told (bU cs) x=x.map (gX cs):=by
 induction x with
 | nil=>rfl
 | cons c x ih=>rw[dX,e.tell h1 h4 (hx c i9),ih fun d hd=>hx d (g9 _ hd)];rfl
theorem Exch.plain{x:List Nat}(hx:OfN n x)(hp:bR x):bR (x.map (gX cs)):=by
 unfold bR at *
 rw[← aXY]
 have:∀ y:List Nat,(∀ c∈y,c∈aK n)→PlainR y→PlainR (y.map (gX cs)):=by
  intro y
  induction y with
  | nil=>intro _ _;trivial
  | cons a y ih =>
   intro hm hq
   cases y with
   | nil=>trivial
   | cons b y =>
    refine⟨fun z=>hq.1 ?_,ih (fun c hc=>hm c (g9 _ hc)) hq.2⟩
    have ham:=hm a (by simp)
    rw[← e.gcon h1 h4 ham] at z
    exact e.ginj h1 h4 (hm b (by simp)) (dC (by omega) (by omega) ham) z
 exact this _ (fun c hc=>hx c (aQM.mp hc)) hp
theorem Exch.retl{x:List Nat}(hx:OfN n x)(hp:bR x):retl (bU cs) x=x.map (gX cs):=by
 unfold Lw.retl
 rw[e.told h1 h4 hx,eU (e.plain h1 h4 hx hp)]
end
def nK(c:Nat)(sd:List Nat):List Nat:=sd.map fun d=>if d=c then con c else d
structure GoodB(n c:Nat)(sd:List Nat):Prop where
 let':c∈aK n
 side:∀ d∈sd,d∈aK n
 ord:sd.Pairwise fun a b=>rk a<rk b
 has:c∈sd
 hasn:¬ con c∈sd
theorem jE{c d:Nat}{sd:List Nat}(h:c∈sd):d∈nK c sd↔d=con c∨(d∈sd∧d≠c):=by
 unfold nK
 rw[i3]
 constructor
 ·rintro⟨a,ha,e⟩
  by_cases q:a=c
  ·rw[if_pos q] at e;exact .inl e.symm
  ·rw[if_neg q] at e;subst e;exact .inr ⟨ha,q⟩
 ·rintro(rfl | ⟨a,b⟩)
  ·exact⟨c,h,if_pos rfl⟩
  ·exact⟨d,a,if_neg b⟩
theorem F9{c:Nat}{sd:List Nat}(hc:cE c)(hn:¬ con c∈sd):nK (con c) (nK c sd)=sd:=by
 unfold nK
 rw[u7]
 refine(x8 fun d hd=>?_).trans (aJZ sd)
 show (if (if d=c then con c else d)=con c then con (con c) else (if d=c then con c else d))=d
 by_cases q:d=c
 ·rw[if_pos q,if_pos rfl,aW hc,q]
 ·have q2:¬ d=con c:=fun z=>hn (z ▸ hd)
  rw[if_neg q,if_neg q2]
theorem Bl{c d:Nat}(hc:cE c)(hd:cE d)(h1:d≠c)(h2:d≠con c):(rk d<rk c↔rk d<rk (con c))∧(rk c<rk d↔rk (con c)<rk d):=by
 rcases aU hc with rfl | rfl | rfl | rfl | rfl | rfl | rfl | rfl <;> rcases aU hd with rfl | rfl | rfl | rfl | rfl | rfl | rfl | rfl <;> revert h1 h2 <;> decide
theorem GoodB.back{n c:Nat}{sd:List Nat}(h1:1≤n)(h4:n≤4)(g:GoodB n c sd):GoodB n (con c) (nK c sd):=by
 have hc:=aN g.let'
 have hcn:con c∈aK n:=dC (by omega) (by omega) g.let'
 refine⟨hcn,fun d hd=>?_,?_,(jE g.has).mpr (.inl rfl),fun z=>?_⟩
 ·rcases(jE g.has).mp hd with rfl | ⟨h,_⟩
  ·exact hcn
  ·exact g.side d h
 ·unfold nK
  rw[aJT]
  refine aZK (fun {a b} ha hb hab=>?_) g.ord
  have na:a≠con c:=fun z=>g.hasn (z ▸ ha)
  have nb:b≠con c:=fun z=>g.hasn (z ▸ hb)
  by_cases qa:a=c
  ·by_cases qb:b=c
   ·subst qa;subst qb;exact absurd hab (aQZ _)
   ·subst qa
    rw[if_pos rfl,if_neg qb]
    exact(Bl hc (aN (g.side b hb)) qb nb).2.mp hab
  ·by_cases qb:b=c
   ·subst qb
    rw[if_neg qa,if_pos rfl]
    exact(Bl hc (aN (g.side a ha)) qa na).1.mp hab
   ·rw[if_neg qa,if_neg qb];exact hab
 ·rw[aW hc] at z
  rcases(jE g.has).mp z with z | ⟨_,z⟩
  ·exact wS hc z.symm
  ·exact z rfl
theorem lW{n c:Nat}{sd:List Nat}(h1:1≤n)(h4:n≤4){d:Nat}(hd:d∈aK n):tell (jK n c sd) d=if bC d=true then tF c sd d else back (tF c sd (con d)):=by
 unfold tell jK
 rcases mR h1 h4 hd with ⟨a,b⟩ | ⟨a,b⟩
 ·rw[if_pos a,if_pos a,c5,c7,b];rfl
 ·rw[if_neg (by rw[a];decide),if_neg (by rw[a];decide),c5,c7,b];rfl
def AB(c d:Nat)(p q:Bool):List Nat:=if d=lo c then [d] else (if p=true then [con c] else [])++[d]++(if q=true then [c] else [])
theorem HK(c:Nat)(sd:List Nat)(d:Nat):tF c sd d=AB c d (decide (con d∈sd)) (decide (d∈sd)):=by
 unfold tF AB
 simp only [decide_eq_true_eq]
theorem vS:∀ c∈lets,∀ d∈[97,98,99,100],∀ p q:Bool,lay ((AB c d p q).flatMap fun e=>if e=c∨e=con c then [e] else if bC e=true then AB (con c) e p q else back (AB (con c) (con e) p q))=[d]:=by decide +kernel
theorem Jb{c d e:Nat}{p q:Bool}(h:e∈AB c d p q):e=d∨e=c∨e=con c:=by
 unfold AB at h
 split at h
 ·exact .inl (d6.mp h)
 ·rcases j9.mp h with h | h
  ·rcases j9.mp h with h | h
   ·split at h
    ·exact .inr (.inr (d6.mp h))
    ·cases h
   ·exact .inl (d6.mp h)
  ·split at h
   ·exact .inr (.inl (d6.mp h))
   ·cases h
theorem iY{c:Nat}(hc:cE c):(lo c=c∧bC c=true)∨(lo c=con c∧bC c=false):=by
 rcases aU hc with rfl | rfl | rfl | rfl | rfl | rfl | rfl | rfl <;> decide
theorem oG(c:Nat)(sd:List Nat):tF c sd (lo c)=[lo c]:=by unfold tF;rw[if_pos rfl]
theorem tE{n c:Nat}{sd:List Nat}(h1:1≤n)(h4:n≤4)(g:GoodB n c sd):bB (jK n c sd) (jK n (con c) (nK c sd))=cS n:=by
 have hc:=aN g.let'
 unfold bB jK cS
 rw[u7]
 refine x8 fun d hd=>?_
 show retl (jK n (con c) (nK c sd)) (tF c sd d)=[d]
 have hdl:d∈aK n:=dM h1 h4 hd
 have hdL:=aN hdl
 have hlow:bC d=true:=fU hd
 by_cases q:d=lo c
 ·-- the change's own letter
  subst q
  rw[oG]
  unfold retl told
  rw[aQJ,List.flatMap_nil,m7,lW h1 h4 hdl,if_pos hlow,← gN hc,oG,gN hc]
  rcases aU hc with rfl | rfl | rfl | rfl | rfl | rfl | rfl | rfl <;> decide
 ·have n1:d≠c:=by
   intro z;subst z
   rcases iY hc with ⟨a,_⟩ | ⟨_,b⟩
   ·exact q a.symm
   ·rw[b] at hlow;cases hlow
  have n2:d≠con c:=by
   intro z;subst z
   exact q (by rw[← gN hc,zW (cV hc) hlow])
  have n3:con d≠c:=fun z=>n2 (by rw[← z,aW hdL])
  have n4:con d≠con c:=fun z=>n1 (by rw[← aW hdL,z,aW hc])
  have e1:decide (d∈nK c sd)=decide (d∈sd):=decide_eq_decide.mpr ⟨fun z=>((jE g.has).mp z).elim (fun z=>absurd z n2) (·.1),fun z=>(jE g.has).mpr (.inr ⟨z,n1⟩)⟩
  have e2:decide (con d∈nK c sd)=decide (con d∈sd):=decide_eq_decide.mpr ⟨fun z=>((jE g.has).mp z).elim (fun z=>absurd z n4) (·.1),fun z=>(jE g.has).mpr (.inr ⟨z,n3⟩)⟩
  have key:=vS c (FE hc) d (by unfold bE at hd;exact u8 hd) (decide (con d∈sd)) (decide (d∈sd))
  unfold retl told
  rw[HK,← key]
  congr 1
  refine jB fun e he=>?_
  rcases Jb he with rfl | z | z
  ·rw[if_neg (fun z=>z.elim n1 n2),if_pos hlow,lW h1 h4 hdl,if_pos hlow,HK,e1,e2]
  ·subst z
   rw[if_pos (.inl rfl),lW h1 h4 g.let']
   rcases iY hc with ⟨a,b⟩ | ⟨a,b⟩
   ·rw[if_pos b]
    have:=oG (con e) (nK e sd)
    rw[gN hc,a] at this
    exact this
   ·rw[if_neg (by rw[b];decide)]
    have:=oG (con e) (nK e sd)
    rw[gN hc,a] at this
    rw[this]
    show [con (con e)]=[e]
    rw[aW hc]
  ·subst z
   rw[if_pos (.inr rfl),lW h1 h4 (dC (by omega) (by omega) g.let')]
   rcases iY hc with ⟨a,b⟩ | ⟨a,b⟩
   ·have b':bC (con c)=false:=by rcases aU hc with rfl | rfl | rfl | rfl | rfl | rfl | rfl | rfl <;> revert b <;> decide
    rw[if_neg (by rw[b'];decide),aW hc]
    have:=oG (con c) (nK c sd)
    rw[gN hc,a] at this
    rw[this]
    rfl
   ·have b':bC (con c)=true:=by rcases aU hc with rfl | rfl | rfl | rfl | rfl | rfl | rfl | rfl <;> revert b <;> decide
    rw[if_pos b']
    have:=oG (con c) (nK c sd)
    rw[gN hc,a] at this
    exact this
theorem xE{c:Nat}{sd:List Nat}(hs:sd.Nodup)(h:c∈sd):(nK c sd).Perm ((sd.filter fun d=>decide (d≠c))++[con c]):=by
 induction sd with
 | nil=>cases h
 | cons a sd ih =>
  obtain⟨hn,hs'⟩:=p0.mp hs
  by_cases q:a=c
  ·subst q
   have e1:nK a (a::sd)=con a::sd:=by
    show (if a=a then con a else a)::(sd.map fun d=>if d=a then con a else d)=_
    rw[if_pos rfl]
    congr 1
    refine(x8 fun d hd=>?_).trans (aJZ sd)
    have q2:¬ d=a:=fun z=>hn (z ▸ hd)
    rw[if_neg q2];rfl
   have e2:((a::sd).filter fun d=>decide (d≠a))=sd:=by
    rw[aZR (by simp)]
    exact List.filter_eq_self.mpr fun d hd=>decide_eq_true fun z=>hn (z ▸ hd)
   rw[e1,e2]
   exact List.perm_append_comm (l₁:=[con a])
  ·have e1:nK c (a::sd)=a::nK c sd:=by
    show (if a=c then con c else a)::_=_
    rw[if_neg q];rfl
   rw[e1,aZS (by simpa using q)]
   exact(ih hs' ((d3.mp h).resolve_left fun z=>q z.symm)).cons a
def zP(cs:List Nat)(d:Nat):Nat:=if d∈cs then 97+cs.idxOf d else 65+cs.idxOf (con d)
def xB(n:Nat)(cs:List Nat):List Nat:=(bE n).map (zP cs)
theorem pY{n i:Nat}(h1:1≤n)(h4:n≤4)(h:i<n):97+i∈aK n∧65+i∈aK n∧bC (97+i)=true∧bC (65+i)=false∧pG (97+i)=i∧pG (65+i)=i∧97+i∈bE n∧lo (97+i)=97+i∧lo (65+i)=97+i:=by
 rcases A9 h1 h4 with rfl | rfl | rfl | rfl <;> (have:i=0∨i=1∨i=2∨i=3:=by omega) <;> rcases this with rfl | rfl | rfl | rfl <;> first | omega | decide
theorem Ff{n d:Nat}(h1:1≤n)(h4:n≤4)(h:d∈bE n):(bE n)[pG d]?=some d:=by
 have hd:=dM h1 h4 h
 have hl:=fU h
 rcases mR h1 h4 hd with ⟨a,b⟩ | ⟨a,b⟩
 ·unfold pG;rw[if_pos a];exact b
 ·rw[a] at hl;cases hl
theorem wZ:∀ {l m:List Nat},l.Nodup→l ⊆ m→m.length≤l.length→l.Perm m
 | [],m,_,_,h=>by
  have:m=[]:=r9.mp (Nat.le_zero.mp h)
  rw[this]
 | a::l,m,nd,sub,h=>by
  obtain⟨hn,nd'⟩:=p0.mp nd
  have ha:a∈m:=sub i9
  have hp:=List.perm_cons_erase ha
  refine((wZ nd' (fun x hx=>?_) ?_).cons a).trans hp.symm
  ·have q:x≠a:=fun z=>hn (z ▸ hx)
   exact(aZb q).mpr (sub (g9 _ hx))
  ·rw[aZL ha]
   rw[l7] at h
   omega
section
variable {n:Nat}{cs:List Nat}(h1:1≤n)(h4:n≤4)(e:Exch n cs)
include h1 h4 e
theorem Exch.has{d:Nat}(h:d∈bE n):d∈cs∨con d∈cs:=by
 obtain⟨c,hc,z⟩:=i3.mp (e.perm.mem_iff.mpr h)
 have hcL:=aN (e.mem c hc)
 rcases iY hcL with ⟨a,_⟩ | ⟨a,_⟩
 ·exact .inl (by rw[← z,a];exact hc)
 ·exact .inr (by rw[← z,a,aW hcL];exact hc)
theorem Exch.bk{d:Nat}(h:d∈bE n):zP cs d∈aK n∧gX cs (zP cs d)=d:=by
 have hd:=aN (dM h1 h4 h)
 unfold zP
 by_cases q:d∈cs
 ·rw[if_pos q]
  have hi:cs.idxOf d<cs.length:=aXD q
  obtain⟨a1,a2,a3,a4,a5,a6,a7,a8⟩:=pY h1 h4 (i:=cs.idxOf d) (by rw[← e.len];exact hi)
  refine⟨a1,?_⟩
  unfold gX
  rw[if_pos a3,a5,c5,b0 hi]
  exact aXr hi
 ·rw[if_neg q]
  have q2:con d∈cs:=(e.has h1 h4 h).resolve_left q
  have hi:cs.idxOf (con d)<cs.length:=aXD q2
  obtain⟨a1,a2,a3,a4,a5,a6,a7,a8⟩:=pY h1 h4 (i:=cs.idxOf (con d)) (by rw[← e.len];exact hi)
  refine⟨a2,?_⟩
  unfold gX
  rw[if_neg (by rw[a4];decide),a6,c5,b0 hi]
  show con (cs[cs.idxOf (con d)])=d
  rw[aXr hi,aW hd]
theorem Exch.xB_len:(xB n cs).length=n:=by unfold xB;rw[b7,cC h4]
theorem Exch.xB_at{d:Nat}(h:d∈bE n):gX (xB n cs) d=zP cs d:=by
 unfold gX xB
 rw[if_pos (fU h),c5,c7,Ff h1 h4 h]
 rfl
theorem Exch.back:Exch n (xB n cs):=by
 have hm:∀ c∈xB n cs,c∈aK n:=fun c hc=>by
  obtain⟨d,hd,rfl⟩:=i3.mp hc
  exact(e.bk h1 h4 hd).1
 refine⟨e.xB_len h1 h4,hm,?_⟩
 -- the lower letters of the way back are each but once
 have nd:((xB n cs).map lo).Nodup:=by
  unfold xB
  rw[u7]
  refine aK8 _ (fun a b (hab:a∈bE n∧b∈bE n∧a≠b)=>?_) (aZK (fun {a b} ha hb hab=>⟨ha,hb,hab⟩) (sX h1 h4))
  obtain⟨ha,hb,hab⟩:=hab
  intro z
  obtain⟨ma,ga⟩:=e.bk h1 h4 ha
  obtain⟨mb,gb⟩:=e.bk h1 h4 hb
  have:zP cs a=zP cs b∨zP cs a=con (zP cs b):=by
   have hz:lo (zP cs a)=lo (zP cs b):=z
   have La:=aN ma
   have Lb:=aN mb
   rcases iY La with ⟨x,_⟩ | ⟨x,_⟩ <;> rcases iY Lb with ⟨y,_⟩ | ⟨y,_⟩ <;> rw[x,y] at hz
   ·exact .inl hz
   ·exact .inr hz
   ·exact .inr (by rw[← hz,aW La])
   ·exact .inl (by rw[← aW La,hz,aW Lb])
  rcases this with w | w
  ·exact hab (by rw[← ga,← gb,w])
  ·have h0:a=con b:=by rw[← ga,w,e.gcon h1 h4 mb,gb]
   have la:=fU ha
   have lb:=fU hb
   have Lb:=aN (dM h1 h4 hb)
   rw[h0] at la
   revert la lb
   rcases aU Lb with rfl | rfl | rfl | rfl | rfl | rfl | rfl | rfl <;> decide
 have sub:((xB n cs).map lo) ⊆ bE n:=fun x hx=>by
  obtain⟨c,hc,rfl⟩:=i3.mp hx
  have:=hm c hc
  have hL:=aN this
  revert this
  rcases A9 h1 h4 with rfl | rfl | rfl | rfl <;> rcases aU hL with rfl | rfl | rfl | rfl | rfl | rfl | rfl | rfl <;> decide
 exact wZ nd sub (by rw[b7,e.xB_len h1 h4,cC h4];exact b9 _)
theorem Exch.gg{c:Nat}(h:c∈aK n):gX cs (gX (xB n cs) c)=c:=by
 have b:=e.back h1 h4
 have hL:=aN h
 rcases mR h1 h4 h with ⟨a,q⟩ | ⟨a,q⟩
 ·have hd:c∈bE n:=b8 q
  rw[e.xB_at h1 h4 hd,(e.bk h1 h4 hd).2]
 ·have hd:con c∈bE n:=b8 q
  have hk:=e.bk h1 h4 hd
  have e1:gX (xB n cs) c=con (zP cs (con c)):=by
   rw[← e.xB_at h1 h4 hd,b.gcon h1 h4 h,aW (aN (b.gmem h1 h4 h))]
  rw[e1,e.gcon h1 h4 hk.1,hk.2,aW hL]
theorem Exch.gg'{c:Nat}(h:c∈aK n):gX (xB n cs) (gX cs c)=c:=by
 have b:=e.back h1 h4
 have hm:=e.gmem h1 h4 h
 exact e.ginj h1 h4 (b.gmem h1 h4 hm) h (e.gg h1 h4 hm)
end
theorem Exch.ext{n:Nat}{cs ds:List Nat}(h1:1≤n)(h4:n≤4)(e:Exch n cs)(f:Exch n ds)(h:∀ c∈bE n,gX cs c=gX ds c):cs=ds:=by
 refine aJb (by rw[e.len,f.len]) fun i hi hj=>?_
 obtain⟨a1,a2,a3,a4,a5,a6,a7,a8⟩:=pY h1 h4 (i:=i) (by rw[← e.len];exact hi)
 have:=h _ a7
 unfold gX at this
 rw[if_pos a3,if_pos a3,a5,c5,c5,b0 hi,b0 hj] at this
 exact this
theorem Exch.xx{n:Nat}{cs:List Nat}(h1:1≤n)(h4:n≤4)(e:Exch n cs):xB n (xB n cs)=cs:=by
 have b:=e.back h1 h4
 refine(b.back h1 h4).ext h1 h4 e fun c hc=>?_
 have hcl:=dM h1 h4 hc
 have hm:=e.gmem h1 h4 hcl
 refine b.ginj h1 h4 ((b.back h1 h4).gmem h1 h4 hcl) hm ?_
 rw[b.gg h1 h4 hcl,e.gg' h1 h4 hcl]
theorem Exch.thenB{n:Nat}{cs:List Nat}(h1:1≤n)(h4:n≤4)(e:Exch n cs):bB (bU cs) (bU (xB n cs))=cS n:=by
 have b:=e.back h1 h4
 unfold bB bU cS
 rw[u7]
 refine aJb (by rw[b7,b7,e.len,cC h4]) fun i hi hj=>?_
 rw[b7] at hi
 obtain⟨a1,a2,a3,a4,a5,a6,a7,a8⟩:=pY h1 h4 (i:=i) (by rw[← e.len];exact hi)
 rw[aX1,aX1]
 show Lw.retl (bU (xB n cs)) [cs[i]]=[(bE n)[i]'(by rw[b7] at hj;exact hj)]
 have hm:=e.mem _ (aXF hi)
 rw[b.retl h1 h4 (fun c hc=>by rw[d6.mp hc];exact hm) (by unfold bR;exact trivial)]
 have g1:gX cs (97+i)=cs[i]:=by
  unfold gX
  rw[if_pos a3,a5,c5,b0 hi]
  rfl
 have g2:=e.gg' h1 h4 a1
 rw[g1] at g2
 have g3:=Ff h1 h4 a7
 rw[a5] at g3
 show [gX (xB n cs) cs[i]]=_
 rw[g2,(a9.mp g3).2]
structure IvS(n:Nat)(st bk:List (List Nat)):Prop where
 rt:RT st n 3∧∀ x∈st,OfN n x
 bt:RT bk n 3∧∀ x∈bk,OfN n x
 there:bB st bk=cS n
 back:bB bk st=cS n
theorem Gi{n c:Nat}{sd:List Nat}(h1:1≤n)(h4:n≤4)(g:GoodB n c sd):IvS n (jK n c sd) (jK n (con c) (nK c sd)):=by
 have hc:=aN g.let'
 have b:=g.back h1 h4
 refine⟨⟨BW h4 hc,zL h1 h4 g.let'⟩,⟨BW h4 (cV hc),zL h1 h4 b.let'⟩,tE h1 h4 g,?_⟩
 have:=tE h1 h4 b
 rw[aW hc,F9 hc g.hasn] at this
 exact this
theorem mB{n:Nat}{cs:List Nat}(e:Exch n cs):RT (bU cs) n 1∧∀ x∈bU cs,OfN n x:=by
 have ho:∀ x∈bU cs,OfN n x:=fun x hx=>by
  obtain⟨c,hc,rfl⟩:=i3.mp hx
  exact fun d hd=>by rw[d6.mp hd];exact e.mem c hc
 refine⟨⟨by unfold bU;rw[b7,e.len],fun x hx=>(ho x hx).all,fun x hx=>?_⟩,ho⟩
 obtain⟨c,hc,rfl⟩:=i3.mp hx
 exact b9 _
theorem D5{n:Nat}{cs:List Nat}(h1:1≤n)(h4:n≤4)(e:Exch n cs):IvS n (bU cs) (bU (xB n cs)):=by
 have b:=e.back h1 h4
 refine⟨⟨(mB e).1.mono (by decide),(mB e).2⟩,⟨(mB b).1.mono (by decide),(mB b).2⟩,e.thenB h1 h4,?_⟩
 have:=b.thenB h1 h4
 rw[e.xx h1 h4] at this
 exact this
theorem DX{n:Nat}{f:List (List Nat)}(h1:1≤n)(h4:n≤4)(ho:∀ x∈f,OfN n x)(hp:∀ x∈f,bR x):bB f (cS n)=f:=by
 unfold bB
 exact(x8 fun x hx=>B3 h1 h4 (ho x hx) (hp x hx)).trans (aJZ f)
theorem rG(f s:List (List Nat)):∀ x∈bB f s,bR x:=fun x hx=>by
 obtain⟨y,_,rfl⟩:=i3.mp hx
 exact kO _
theorem sB(n:Nat):∀ x∈cS n,bR x:=fun x hx=>by
 obtain⟨c,_,rfl⟩:=i3.mp hx
 exact trivial
end Lw
namespace PySem
open Sem (wp)
section
variable {prog:Program}{w:World}{K:Type}[DecidableEq K]{knd:KeyKind prog w K}{A:Around}{E:Value→Shared→Prop}{s:Shared}
theorem CL{d:Addr}{kvs:List (K×Value)}{k:K}{key dflt:Value}{Q:Value→Shared→Prop}(hkey:knd.is k key=true)(hm:s.heap.DictOf knd d kvs)(hsz:kvs.length≤sizeLine)
  (h1:∀ v,valueAt kvs k=some v→Q v { s with toks:=s.toks+1 })
  (h2:valueAt kvs k=none→∀ h',h'.DictOf knd d (stored kvs k dflt)→Heap.SameBut d s.heap h'→Q dflt { s with heap:=h',toks:=s.toks+1 }) :
  wpAny (model prog w) A (dictSetDefault d key dflt) Q E s:=by
 have hz:s.heap.DictLe d sizeLine:=by
  obtain⟨o,es,ep,ho,hc,hd,hk,hp,hn⟩:=hm
  intro o' es' ep' ho' hd'
  rw[ho] at ho'
  cases ho'
  rw[hd] at hd'
  cases hd'
  have e1:=hp.length
  have e2:es.toList.length=es.size:=by simp
  omega
 cases hv:valueAt kvs k with
 | some v=>exact wpAny_dictSetDefault_of (hz:=hz) hkey hm.mapOf (fun v' e'=>h1 v' e') fun hn=>by rw[hv] at hn;cases hn
 | none =>
  obtain⟨o,es,ep,ho,hc,hd,hk,hp,hn⟩:=id hm
  have hidx:(es.findIdx? fun e=>knd.is k e.key)=kvs.findIdx? fun kv=>decide (kv.1=k):=by
   rw[← hp.findIdx k];obtain⟨l⟩:=es;simp
  have hnot:k ∉ kvs.map (·.1):=by
   intro hk'
   obtain⟨kv,hkv,he⟩:=i3.mp hk'
   obtain⟨i,hi⟩:=p8 hkv
   have:valueAt kvs k=some kv.2:=valueAt_of_get hn (i:=i) (k:=k) (v:=kv.2) (by rw[hi,← he])
   rw[hv] at this
   cases this
  have hany:¬ (kvs.any fun kv=>decide (kv.1=k))=true:=by
   intro z
   obtain⟨kv,hkv,he⟩:=aZJ.mp z
   exact hnot (i3.mpr ⟨kv,hkv,of_decide_eq_true he⟩)
  have hi:(es.findIdx? fun e=>knd.is k e.key)=none:=by
   rw[hidx,List.findIdx?_eq_none_iff]
   intro kv hkv
   exact decide_eq_false fun z=>hnot (i3.mpr ⟨kv,hkv,z⟩)
  unfold dictSetDefault
  try with_reducible refine wpAny_holding ?_
  refine wpAny_bind (knd.pyHash hkey ?_)
  refine wpAny_bind (wpAny_dictFind_of (s:={ s with toks:=s.toks+1 }) hkey ho hd hk ?_)
  rw[hi]
  refine wpAny_bind (wpAny_rule (wpAny_bind (wpAny_updateDictKeys (hz:=hz _ _ _ ho hd) (s:={ s with toks:=s.toks+1 }) ho hd (wpAny_pure (h2 hv _ ⟨_,_,ep+1,t8 _ ho (aZm (aXH hd _)),
   hc.mapDictKeys _,aXH hd _,hk.push hkey _,?_,?_⟩ (u0 ..))))))
  ·rw[stored,if_neg hany]
   have:=hp.append hkey (knd.hash k) dflt
   obtain⟨l⟩:=es
   simpa using this
  ·rw[stored,if_neg hany,i7]
   refine aQc.mpr ⟨hn,by simp,fun a ha b hb=>?_⟩
   have hb':b=k:=by simpa using hb
   subst hb'
   intro e
   exact hnot (e ▸ ha)
theorem meets_sdf{k:K}{key:Value}(d:Addr)(hkey:knd.is k key=true)(hd:(d == sysModules)=false)(dflt:Value) :
  MeetsIn prog w (Builtin.«dict.setdefault» ⟨[.ref d,key,dflt],[]⟩) (fun _ R s=>∃ kvs,s.heap.DictOf knd d kvs∧kvs.length≤sizeLine ∧
   (∀ v,valueAt kvs k=some v→R (.ok (.ret v)) { s with toks:=s.toks+1 }) ∧
   (valueAt kvs k=none→∀ h',h'.DictOf knd d (stored kvs k dflt)→Heap.SameBut d s.heap h'→R (.ok (.ret dflt)) { s with heap:=h',toks:=s.toks+1 })) :=
 .of_wp fun A R s ⟨kvs,hm,hz,h1,h2⟩=>by
  unfold Builtin.«dict.setdefault»
  refine wpAny_bind ?_
  unfold Builtin.Dict.keyAndDefault
  refine wpAny_bind (wpAny_notOrdered_dict hm.typeIs ?_)
  show wpAny _ _ (pure (d,key,some dflt)) _ _ s
  refine wpAny_pure ?_
  show wpAny _ _ (if (d == sysModules)=true then _ else (dictSetDefault d key dflt >>= _)) _ _ s
  rw[if_neg (by rw[hd];exact j2)]
  exact wpAny_bind (CL hkey hm hz (fun v hv=>wpAny_pure ⟨v,rfl,h1 v hv⟩) fun hn h' hm' hs'=>wpAny_pure ⟨dflt,rfl,h2 hn h' hm' hs'⟩)
end
end PySem
namespace L2
open PySem PySem.Spec PyProof.Rows
section
variable {X:Cx}{pins:List (Addr×Obj)}{σ:St}{H:Hp}{s:Shared}{a:Addr}{kvs:List (cQ×V)}{k:cQ}{z:V}{u r:Value}{A:Around}{E:Value→Shared→Prop}
theorem HU{Q:Value→Shared→Prop}(I:Inv X pins σ H s)(e:H a=some (.dK kvs))(hl:kvs.length<sizeLine)(ry:RelV (kV k) u)(rz:RelV z r)
  (h1:∀ v w' s',cZ kvs k=some v→Inv X pins σ H s'→RelV v w'→Q w' s') (h2:cZ kvs k=none→∀ s',Inv X pins σ (upd H a (.dK (dE kvs k z))) s'→Q r s') :
  wpAny (model X.prog X.w) A (call (.builtin "dict.setdefault") [.ref a,u,r]) Q E s:=by
 obtain⟨zl,hd,vs,rel,dd⟩:=yD I.hok e
 refine call_meetsIn aQ2 dd.typeIs aXd (aX9 _ _ _) (PySem.meets_sdf (knd:=bO X.prog X.w) a (oZ ry) hd r)
  ⟨vs,dd,by rw[← rel.length];exact zl,fun v hv=>?_,fun hn h' dd' hs=>?_⟩
 ·have rv:=rel.val k
  rw[hv] at rv
  cases l:cZ kvs k with
  | none=>rw[l] at rv;exact absurd rv (fun z=>z)
  | some v0 =>
   rw[l] at rv
   exact h1 v0 v _ l (I.tok _) rv
 ·have l:cZ kvs k=none:=by
   have rv:=rel.val k
   rw[hn] at rv
   cases l:cZ kvs k with
   | none=>rfl
   | some v0=>rw[l] at rv;exact absurd rv (fun z=>z)
  have he:∃ q,h'.get? a=some q:=let ⟨q,_,_,hq,_⟩:=dd';⟨q,hq⟩
  refine h2 l _ (mN I (by rw[e];exact True.intro) hs he (Ad ?_ hd (rel.put k rz) dd'))
  have:=cX kvs k z
  omega
end
def JD(td ty tx:TE):TE:=fun σ H Q=>td σ H fun x H1=>∃ a,x=.ref a∧KS H1 a∧ty σ H1 fun y H2=>tx σ H2 fun z H3=>∃ kvs k,H3 a=some (.dK kvs)∧kvs.length<sizeLine∧y=kV k ∧
 (∀ v,cZ kvs k=some v→Q v H3)∧(cZ kvs k=none→Q z (upd H3 a (.dK (dE kvs k z))))
section
variable {X:Cx}{o e f:Expr}{apos cpos:Pos}{td ty tx:TE}
theorem Et(ho:PE X o td)(he:PE X e ty)(hf:PE X f tx)(m:M2 X o "setdefault" apos e f cpos):PE X (.Call (.Attribute o "setdefault" apos) [e,f] [] cpos) (JD td ty tx):=by
 intro pins s σ H Q I h
 refine wpAny_Call_method m.base m.few m.line aQ0 aQ2 aXn (bS (ho pins s σ H _ I h) fun u s1 ⟨x,H1,I1,rx,a,ex,d,q1⟩=>?_)
 subst ex
 obtain rfl:u=Value.ref a:=rx
 obtain⟨t1,t2,_⟩:=wN I1 d
 refine⟨t1,t2,?_⟩
 rw[m.trees]
 refine z9 rfl (aQe (aQB (bS (he pins s1 σ H1 _ I1 q1) fun iv s2 ⟨y,H2,I2,ry,q2⟩ =>
  aQB (bS (hf pins s2 σ H2 _ I2 q2) fun fv s3 ⟨z,H3,I3,rz,kvs,k,ea,hl,ey,q3,q4⟩=>aQs ?_))))
 subst ey
 exact HU I3 ea hl ry rz (fun v w' s4 l I4 rw'=>⟨v,H3,I4,rw',q3 v l⟩) fun l s4 I4=>⟨z,_,I4,rz,q4 l⟩
end
def lD(s:Stmt)(j:Nat):Stmt:=match s with
 | .ClassDef _ _ _ b _ _ _ _ _ _ _=>b.getD j (.Pass ⟨0,0,0,0⟩)
 | _=>.Pass ⟨0,0,0,0⟩
section
variable {X:Cx}{K:b5}{o e value:Expr}{f:Str}{pos pos':Pos}{ta tv:TE}
theorem cL(hK:X.K=K)(he:PE X e ta)(hb:attributeBase e f X.env (eval e X.env)=eval e X.env):PE X (.Attribute e f pos) (LK K ta f):=by subst hK;exact Ke he hb
theorem pW(hK:X.K=K)(ha:PE X o ta)(hv:PE X value tv)(hs:swapsWith value (some (.Attribute o f pos')) pos.line X.env=pure false):PS X (.Assign [.Attribute o f pos'] value pos) (KF K ta tv f):=by subst hK;exact J8 ha hv hs
end
end L2
namespace Lw
open PySem PySem.Spec PyProof.Rows L2
def pQ(P:Program)(w:World)(K:b5)(mg:Str→Option Value)(base:Heap)(C:Addr)(m:Str)(ps:List Str)(n:Nat)(sp:Sp):Prop :=
 ∃ f fd,FnOk P w K mg base zJ n f fd ps sp∧Meth K C m f∧Binds K fd ps []
structure DfM(K:b5)(C:Addr)(m q:Str)(st:Stmt)(ps:List Str)(f:Addr)(fd:FuncData):Prop where
 F:Fun K m q st f fd
 b:Binds K fd ps []
 m:Meth K C m f
theorem DfM.cl{P:Program}{w:World}{K:b5}{mg:Str→Option Value}{base:Heap}{C:Addr}{m q:Str}{st:Stmt}{ps:List Str}{f:Addr}{fd:FuncData}{n:Nat}{sp:Sp}(D:DfM K C m q st ps f fd)(h:FnOk P w K mg base zJ n f fd ps sp):pQ P w K mg base C m ps n sp :=
 ⟨f,fd,h,D.m,D.b⟩
structure Own(K:b5)(C:Addr):Prop where
 cl:Cls K C
 makes:PySem.W.makesIn K C=true
 kp:PySem.W.keepIn K (.ref C)=true
theorem Own.make{K:b5}{C f:Addr}(o:Own K C)(m:Meth K C "__init__" f):Mk K C f:=⟨o.makes,m.at_,m.fn,o.kp⟩
theorem MH{K:b5}{C:Addr}{x q:Str}{st:Stmt}{ps:List Str}{f:Addr}{oc:Value}{od an:Option Addr}{osl:Array (Option Value)}{kV doc pm cdv ct:Value}(hf:PySem.W.findIn K (.ref C) x=some (some (.ref f)))(hi:PySem.W.isFn K (.ref f)=true)
  (l:K.lookup f=some ⟨oc,od,.func (PySem.W.fnOf x q (eK st) (dO st) (aG st) .none kV doc pm an cdv ct),osl⟩)
  (c:PySem.W.codeIn K cdv q=true) (k:PySem.W.keepIn K (.ref f)=true) (h:∀ (kV doc pm:Value) (an:Option Addr) (cdv ct:Value) (us:List Value),us.length=ps.length→bindArgs (PySem.W.fnOf x q (eK st) (dO st) (aG st) .none kV doc pm an cdv ct) ⟨us,[]⟩=pure (ps.zip us)) :
  DfM K C x q st ps f (PySem.W.fnOf x q (eK st) (dO st) (aG st) .none kV doc pm an cdv ct) :=
 ⟨jN l c k,(jN l c k).binds h,⟨hf,hi,k⟩⟩
end Lw
namespace Lw
open PySem PySem.Spec PyProof.Rows L2 Ma MaR
inductive Lq(K:b5)(H:Hp):Nat→V→V→Prop where
 | flat {d:Nat} {v:V} (h:gC v=true):Lq K H d v v
 | tup {d:Nat} {a b:Addr} {xs ys:List V} (h1:SqT K H a xs) (h2:SqT K H b ys) (hl:xs.length=ys.length) (hm:xs.length≤900) (h:∀ (i:Nat) (x y:V),xs[i]?=some x→ys[i]?=some y→Lq K H d x y):Lq K H (d+1) (.ref a) (.ref b)
 | lst {d:Nat} {a b:Addr} {xs ys:List V} (h1:H a=some (.lst xs)) (h2:H b=some (.lst ys)) (hl:xs.length=ys.length) (hm:xs.length≤900) (h:∀ (i:Nat) (x y:V),xs[i]?=some x→ys[i]?=some y→Lq K H d x y):Lq K H (d+1) (.ref a) (.ref b)
theorem Lq.same{K:b5}{H H':Hp}(s:Same H H'):∀ {d:Nat} {x y:V},Lq K H d x y→Lq K H' d x y:=fun h=>by
 induction h with
 | flat h=>exact .flat h
 | tup h1 h2 hl hm _ ih=>exact .tup (L2.SqT.same s h1) (L2.SqT.same s h2) hl hm ih
 | lst h1 h2 hl hm _ ih=>exact .lst (s _ _ h1) (s _ _ h2) hl hm ih
def FQ(K:b5)(d:Nat):Sp:=fun vs H Q _=>∃ x y:V,vs=[x,y]∧Lq K H d x y∧∀ H',Same H H'→Q (.bl true) H'
end Lw
namespace L2
open PySem PySem.Spec PyProof.Rows
section
variable {X:Cx}{pins:List (Addr×Obj)}{σ:St}{H:Hp}{s:Shared}
theorem Inv.freezeK{d:Addr}{kvs:List (cQ×V)}(I:Inv X pins σ H s)(e:H d=some (.dK kvs)):∃ o,s.heap.get? d=some o∧Inv X pins σ (upd H d (.frz o (.dK kvs))) s:=by
 obtain⟨z,y,vs,r,o,es,ep,h1,h2⟩:=(show ObjOk X.prog X.w H s.heap d (.dK kvs) from I.hok d _ e)
 exact⟨o,h1,I.swap e (fun _ z=>by cases z) (.inl fun _ _ z=>by cases z) (fun _ z=>by cases z) (fun _ z=>by cases z) ⟨h1,z,y,vs,r,o,es,ep,h1,h2⟩⟩
theorem Inv.thawK{d:Addr}{o:Obj}{kvs:List (cQ×V)}(I:Inv X pins σ H s)(e:H d=some (.frz o (.dK kvs)))(h0:∀ o v,X.H₀ d≠some (.frz o v)):Inv X pins σ (upd H d (.dK kvs)) s:=by
 obtain⟨_,z,y,r⟩:=(show ObjOk X.prog X.w H s.heap d (.frz o (.dK kvs)) from I.hok d _ e)
 exact I.swap e (fun _ z=>by cases z) (.inr h0) (fun _ z=>by cases z) (fun _ z=>by cases z) ⟨z,y,r⟩
def Jr(H0 H H':Hp):Prop:=H'=H∨∃ d o kvs,H d=some (.frz o (.dK kvs))∧(∀ o v,H0 d≠some (.frz o v))∧H'=upd H d (.dK kvs)
def IA(H0:Hp)(t:TE):TE:=fun σ H Q=>t σ H fun v H'=>∃ H'',Jr H0 H' H''∧Q v H''
theorem En{e:Expr}{t:TE}{H0:Hp}(h0:X.H₀=H0)(h:PE X e t):PE X e (IA H0 t):=by
 subst h0
 intro pins s σ H Q I q
 refine bS (h pins s σ H _ I q) fun u s1 ⟨v,H1,I1,rv,H2,th,q2⟩=>?_
 rcases th with rfl | ⟨d,o,kvs,e1,n0,rfl⟩
 ·exact⟨v,_,I1,rv,q2⟩
 ·exact⟨v,_,I1.thawK e1 n0,rv,q2⟩
end
def CV(d:Addr)(o:Obj)(kvs:List (cQ×V)):It :=
 ⟨fun i H=>H d=some (.frz o (.dK kvs))∧i<kvs.length,fun i H x H'=>H'=H∧∃ k v,kvs[i]?=some (k,v)∧x=kV k,fun i H=>H d=some (.frz o (.dK kvs))∧kvs.length≤i⟩
theorem wR{X:Cx}{pins:List (Addr×Obj)}{σ:St}{H:Hp}{s:Shared}{d:Addr}{o:Obj}{kvs:List (cQ×V)}(I:Inv X pins σ H s)(e:H d=some (.frz o (.dK kvs))) :
  s.heap.get? d=some o∧(d == sysModules)=false∧∃ (vs:List (cQ×Value)) (es:Array DictEntry) (ep:Nat),KV kvs vs∧o.ExactDict∧o.data=.dict es ep∧Pairs (bO X.prog X.w) es.toList vs:=by
 obtain⟨h0,z,y,vs,r,o',es,ep,h1,h2,h3,h4,h5,h6⟩:=(show ObjOk X.prog X.w H s.heap d (.frz o (.dK kvs)) from I.hok d _ e)
 rw[h0] at h1
 cases h1
 exact⟨h0,y,vs,es,ep,r,h2,h3,h5⟩
theorem HH{P:Program}{w:World}{k:cQ}{u:Value}(h:(bO P w).is k u=true):RelV (kV k) u:=by
 rcases cY h with ⟨i,t,rfl,rfl⟩ | ⟨x,t,rfl,rfl⟩
 ·exact⟨t,rfl⟩
 ·exact⟨t,rfl⟩
theorem Do{P:Program}{w:World}:∀ {es:List DictEntry} {vs:List (cQ×Value)},Pairs (bO P w) es vs→∀ {kvs:List (cQ×V)},KV kvs vs→∀ {i:Nat} {kv:cQ×V},kvs[i]?=some kv→∃ e,es[i]?=some e∧RelV (kV kv.1) e.key:=by
 intro es vs hp
 induction hp with
 | nil =>
  intro kvs r i kv h
  cases r
  simp at h
 | @cons e p es vs h1 h2 hp ih =>
  intro kvs r i kv h
  cases r with
  | cons ra rb =>
   cases i with
   | zero =>
    simp at h
    subst h
    exact⟨e,rfl,by rw[ra.1];exact HH h1⟩
   | succ i =>
    obtain⟨e',he,hr⟩:=ih rb (i:=i) (kv:=kv) (by simpa using h)
    exact⟨e',by simpa using he,hr⟩
theorem C8{P:Program}{w:World}{K:b5}{tg:Expr}(d it:Addr)(o:Obj)(es:Array DictEntry)(ep:Nat)(kvs:List (cQ×V))(od:o.data=.dict es ep)(hl:es.size=kvs.length) :
  Turn P w K tg (CV d o kvs) [it] it (fun i h=>h.IsKeyIter it d i es.size ep) where
 mem:=by simp
 obj:=fun i h st b hb=>by
  have e:b=it:=by simpa using hb
  subst e
  obtain⟨o,e,c,d⟩:=st
  exact⟨o,e,fun v z=>by rw[d] at z;cases z⟩
 keep:=fun i h h' st k=>st.at fun o e=>k it (by simp) o e
 item:=by
  intro X hP hw hK hc i pins s σ H E I hf st hg
  subst hP hw hK
  obtain⟨hd,hi⟩:=hg
  obtain⟨g0,_,vs,es',ep',r,_,od',hp⟩:=wR I hd
  rw[od] at od'
  cases od'
  obtain⟨kv,hkv⟩:∃ kv,kvs[i]?=some kv:=⟨_,b0 hi⟩
  obtain⟨en,hen,hr⟩:=Do hp r hkv
  have hes:es[i]?=some en:=by rw[← aQv];exact hen
  obtain⟨f0,f1,f2,f3,f4,f5⟩:=hf it (by simp)
  refine AA (n:=0) st g0 od hes fun h' st' sb=>?_
  have I1:Inv X pins σ H { s with heap:=h' }:=I.turned (t':=s.toks) (fun b o hb e=>(sb.2 b hb).trans e) f0 f1 f3 f4 f5
  obtain⟨o2,e2,c2,d2⟩:=id st'
  exact⟨_,rfl,uK (s:={ s with heap:=h' }) e2 c2 d2 (by decide) ⟨kV kv.1,H,I1,hr,⟨rfl,kv.1,kv.2,hkv,rfl⟩,st',fun b hb=>(hf b hb).1⟩⟩
 done:=by
  intro X hP hw hK hc i pins s σ H E I hf st hg
  subst hP hw hK
  obtain⟨hd,hi⟩:=hg
  obtain⟨g0,_,vs,es',ep',r,_,od',hp⟩:=wR I hd
  rw[od] at od'
  cases od'
  obtain⟨f0,f1,f2,f3,f4,f5⟩:=hf it (by simp)
  exact Cw (n:=0) (I.ok.hd hc) st g0 od (by rw[Array.getElem?_eq_none_iff];omega) fun h' eb=>⟨rfl,I.turned (t':=s.toks) (fun b o hb e=>eb b o hb e) f0 f1 f3 f4 f5⟩
 self:=fun _ _ _ _ _ st h=>wpAny_pyIter_keyiter st h
section
variable {X:Cx}
def ID(td:TE):TI:=fun σ H R=>td σ H fun x H1=>∃ d kvs,x=.ref d∧((H1 d=some (.dK kvs)∧∀ o,R (CV d o kvs) (upd H1 d (.frz o (.dK kvs))))∨∃ o,H1 d=some (.frz o (.dK kvs))∧R (CV d o kvs) H1)
theorem Ez{tg e:Expr}{td:TE}(he:PE X e td):PI X tg e (ID td):=by
 intro pins s σ H R I h
 refine bS (he pins s σ H _ I h) fun u s1 ⟨x,H1,I1,rx,d,kvs,ex,hq⟩=>?_
 subst ex
 cases (show u=Value.ref d from rx)
 obtain⟨o,H2,e2,I2,q2⟩:∃ o H2,H2 d=some (.frz o (.dK kvs))∧Inv X pins σ H2 s1∧R (CV d o kvs) H2:=by
  rcases hq with ⟨e1,q⟩ | ⟨o,e1,q⟩
  ·obtain⟨o,_,I2⟩:=I1.freezeK e1
   exact⟨o,_,aB,I2,q o⟩
  ·exact⟨o,H1,e1,I1,q⟩
 obtain⟨g0,hn,vs,es,ep,r,xo,od,hp⟩:=wR I2 e2
 have hl:es.size=kvs.length:=by rw[← x5,hp.length,← KV.length r]
 refine Dt hn g0 xo od ⟨s1.heap.objs.size,[s1.heap.objs.size],_,CV d o kvs,H2,rfl,I2.kept (t':=s1.toks) (fun b u e=>b6 _ e),C8 d _ o es ep kvs od hl,⟨_,d9 _ rfl,rfl,rfl⟩,fun b hb=>?_,q2⟩
 have e:b=s1.heap.objs.size:=by simpa using hb
 subst e
 exact I2.fpOk (b9 _) (I2.hok.fresh (b9 _))
end
theorem CJ{d:Addr}{o:Obj}{kvs:List (cQ×V)}{D:Addr}{Q:VK}{ti:TT}{te:TE}{c:St}{H0:Hp}(Pv:Nat→Hp→Prop)(h0:Pv 0 H0)(hl:∀ i H,i≤kvs.length→Pv i H→H d=some (.frz o (.dK kvs)))
  (hs:∀ i k v H,kvs[i]?=some (k,v)→Pv i H→ti (some (kV k)::c) H fun b H1=>if b=true then te (some (kV k)::c) H1 fun y H2=>∃ ys,H2 D=some (.lst ys)∧ys.length<sizeLine∧Pv (i+1) (upd H2 D (.lst (ys++[y]))) else Pv (i+1) H1)
  (hd:∀ H,Pv kvs.length H→Q (.ref D) H):jP (CV d o kvs) D Q ti te c H0:=by
 refine⟨fun i m H'=>m=kvs.length - i∧i≤kvs.length∧Pv i H',⟨kvs.length,by simp,l9 _,h0⟩,?_⟩
 rintro i m H' ⟨rfl,hi,p⟩
 have q:=hl i H' hi p
 by_cases hlt:i<kvs.length
 ·refine .inr ⟨⟨q,hlt⟩,Pv (i+1),fun H'' p=>⟨kvs.length - (i+1),by omega,rfl,hlt,p⟩,fun v H2 y=>?_⟩
  obtain⟨e,k,v',hk,rfl⟩:=y
  subst e
  exact hs i k v' H2 hk p
 ·have e:i=kvs.length:=by omega
  subst e
  exact .inl ⟨⟨q,b9 _⟩,hd H' p⟩
theorem DGet.fk{H:Hp}{a:Addr}{o:Obj}{kvs:List (cQ×V)}{k:cQ}(e:H a=some (.frz o (.dK kvs))):DGet H a (kV k) (cZ kvs k):=.inl ⟨kvs,k,.inr ⟨o,e⟩,rfl,rfl⟩
end L2
namespace PySem
open Sem (wp)
open Builtin
theorem nF:fillsNumberSlot (.type "tuple") "mul"=pure false :=
 fillsNumberSlot_seq (id:="tuple.__mul__") (r:=some (.builtin "tuple.__rmul__")) aZM.lookup (by decide +kernel) aJU.lookup (by decide +kernel)
theorem vU:seqRepeat? (.type "tuple")=pure (some (.builtin "tuple.__mul__")):=by
 unfold seqRepeat?
 rw[seqSlot_of (T:="tuple") (name:="__mul__") (id:="tuple.__mul__") aZM.lookup (by decide +kernel),seqSlot_of (T:="tuple") (name:="__rmul__") (id:="tuple.__rmul__") aJU.lookup (by decide +kernel)]
 rfl
theorem Aj(a:Int)(t:Tok)(l:Addr)(items:Array Value) :
  Meets (Builtin.«int.__rmul__» ⟨[.int a t,.ref l],[]⟩) (fun _ R s=>PyProof.Rows.IsTup s.heap l items∧R (.ok (.ret Value.notImplemented)) s) :=
 .of_wp fun prog w A R s h=>by
  obtain⟨hp,g,d,tk,os⟩:=s
  obtain⟨⟨⟨cls,dd,data,sl⟩,ho,hc,n,hd⟩,h⟩:=h
  simp only at hc hd ho
  subst hc hd
  wp_walk
  exact⟨_,rfl,h⟩
theorem Cj(k:Int)(t:Tok)(l:Addr)(items:Array Value)(h0:items.isEmpty=false)(h1:1≤k)(h2:k<2 ^ 63)(hz:items.size * k.toNat≤sizeLine) :
  Meets (Builtin.«tuple.__mul__» ⟨[.ref l,.int k t],[]⟩) (fun _ R s=>PyProof.Rows.IsTup s.heap l items∧(k=1→R (.ok (.ret (.ref l))) s) ∧
   (k≠1→R (.ok (.ret (.ref s.heap.objs.size))) { s with heap:=s.heap.push { cls:=.type "tuple",data:=.seq ((List.replicate k.toNat items).foldl (·++·) #[]) } })) :=
 .of_wp fun prog w A R s h=>by
  obtain⟨hp,g,d,tk,os⟩:=s
  obtain⟨⟨⟨cls,dd,data,sl⟩,ho,hc,n,hd⟩,hA,hB⟩:=h
  simp only at hc hd ho
  subst hc hd
  wp_walk
  have o1:¬ (decide (k < -2 ^ 63) || decide (k ≥ 2 ^ 63))=true:=by
   rw[decide_eq_false (by omega),decide_eq_false (by omega)]
   decide
  rw[if_neg o1]
  refine wpAny_bind (wpAny_tupleItemsOf ho rfl ?_)
  by_cases hk:k=1
  ·have o2:(items.isEmpty || k == 1)=true:=by rw[hk];simp
   rw[if_pos o2]
   wp_walk
   exact⟨_,rfl,hA hk⟩
  ·have o2:¬ (items.isEmpty || k == 1)=true:=by rw[h0,beq_false_of_ne hk];decide
   have o3:¬ (decide (k≤0) || items.isEmpty)=true:=by rw[h0,decide_eq_false (by omega)];decide
   have e4:((items.size:Nat):Int) * k=((items.size * k.toNat:Nat):Int):=by rw[Int.natCast_mul,aXJ (by omega)]
   have o4:¬ ((items.size:Nat):Int) * k > (2 ^ 63 - 1) / 8:=by
    rw[e4]
    have:(sizeLine:Nat)≤(2 ^ 63 - 1) / 8:=by decide
    omega
   have o5:¬ Tuple.tupleTooMany (((items.size:Nat):Int) * k)=true:=by
    unfold Tuple.tupleTooMany
    rw[e4]
    simp only [decide_eq_true_eq]
    omega
   rw[if_neg o2]
   show wpAny _ _ (if (decide (k≤0) || items.isEmpty)=true then _ else _) _ _ _
   rw[if_neg o3]
   show wpAny _ _ (if ((items.size:Nat):Int) * k > (2 ^ 63 - 1) / 8 then _ else _) _ _ _
   rw[if_neg o4]
   show wpAny _ _ (if Tuple.tupleTooMany (((items.size:Nat):Int) * k)=true then _ else _) _ _ _
   rw[if_neg o5]
   unfold Tuple.tupleExact
   refine wpAny_bind (wpAny_newObj_type ?_ ?_)
   ·exact wpAny_pure ⟨_,rfl,hB hk⟩
   ·have e5:=L2.foldl_rep items.toList k.toNat []
    have e6:List.foldl (fun x1 x2=>x1++x2) #[] (List.replicate k.toNat items)=((List.replicate k.toNat items.toList).flatten).toArray:=by
     rw[aZZ] at e5
     simpa using e5
    rw[e6]
    show ((List.replicate k.toNat items.toList).flatten).toArray.size≤sizeLine
    rw[c8,L2.len_rep,x5,aKU]
    exact hz
end PySem
namespace L2
open PySem PySem.Spec PyProof.Rows
def HA(K:b5):R2:=fun x y H Q=>∃ a k xs,x=.ref a∧y=.int k∧SqT K H a xs∧xs≠[]∧1≤k∧k<2 ^ 63∧xs.length * k.toNat≤sizeLine ∧
 (k=1→Q (.ref a) H)∧(k≠1→∀ p,H p=none→Q (.ref p) (upd H p (.tup (List.replicate k.toNat xs).flatten)))
theorem yI{X:Cx}{K:b5}(hK:X.K=K):jL X (binaryOp .Mult) (HA K):=by
 subst hK
 intro pins s σ H x y v u Q I rx ry h
 obtain⟨a,k,xs,rfl,rfl,ha,h0,h1,h2,hz,q1,q2⟩:=h
 cases rx
 obtain⟨t,rfl⟩:=ry
 obtain⟨its,r,p,_⟩:=I.tuple ha
 have hT:s.TypeIs (.ref a) "tuple":=by
  obtain⟨o,e,c,_⟩:=id p
  exact⟨o,e,c⟩
 have hne:its.toArray.isEmpty=false:=by
  cases its with
  | nil=>exact absurd (r.nil_iff.mp rfl) h0
  | cons b c=>rfl
 refine wpAny_binaryOp_repeat_ref (T:="tuple") (U:="int") (by decide) hT (fun s'=>typeIs_int s' k t) nF F.fills_int_mul aJi vU F.slot_int_index.lookup
  (call_meets aJi (typeIs_int s k t) F.entry_int_rmul (F.args_int_rmul_2 _ _) (Aj k t a its.toArray)
   ⟨p,rfl,hT,call_meets aZM hT F.entry_tuple_mul (F.args_tuple_mul_2 _ _) (Cj k t a its.toArray hne h1 h2 (by rw[c8,← r.length];exact hz)) ⟨p,fun e=>⟨.ref a,H,I,rfl,q1 e⟩,fun e=>?_⟩⟩)
 have e6:List.foldl (fun x1 x2=>x1++x2) #[] (List.replicate k.toNat its.toArray)=((List.replicate k.toNat its).flatten).toArray:=by
  have e5:=foldl_rep its k.toNat []
  rw[aZZ] at e5
  exact e5
 rw[e6]
 refine⟨.ref s.heap.objs.size,_,I.laid (t':=s.toks) (o:=.tup (List.replicate k.toNat xs).flatten) (fun b ob q=>b6 _ q) (b9 _) ?_,rfl,q2 e _ (I.hok.fresh (b9 _))⟩
 exact⟨by rw[len_rep,aKU];exact hz,_,r.rep k.toNat,aX3 _ _,NoD.new _ _⟩
end L2
namespace Lw
open PySem PySem.Spec PyProof.Rows L2 Ma MaR
def wf(hd tn wy al:Addr):List (Str×V):=fY "alike" (.ref al) (fY "ways" (.ref wy) (fY "turns" (.ref tn) (fY "heads" (.ref hd) [])))
theorem NB:¬ (("heads":Str)="alike"):=by decide +kernel
theorem NA:¬ (("heads":Str)="ways"):=by decide +kernel
theorem NJ:¬ (("heads":Str)="turns"):=by decide +kernel
theorem Nx:¬ (("turns":Str)="alike"):=by decide +kernel
theorem Nw:¬ (("turns":Str)="ways"):=by decide +kernel
theorem Nz:¬ (("ways":Str)="alike"):=by decide +kernel
section
variable (hd tn wy al:Addr)
theorem gD:(wf hd tn wy al).lookup ("heads":Str)=some (.ref hd):=by unfold wf;rw[bJ,if_neg NB,bJ,if_neg NA,bJ,if_neg NJ,bJ,if_pos rfl]
theorem iN:(wf hd tn wy al).lookup ("turns":Str)=some (.ref tn):=by unfold wf;rw[bJ,if_neg Nx,bJ,if_neg Nw,bJ,if_pos rfl]
theorem pU:(wf hd tn wy al).lookup ("ways":Str)=some (.ref wy):=by unfold wf;rw[bJ,if_neg Nz,bJ,if_pos rfl]
theorem rD:(wf hd tn wy al).lookup ("alike":Str)=some (.ref al):=by unfold wf;rw[bJ,if_pos rfl]
theorem iD{m:Str}(h1:¬ m="alike")(h2:¬ m="ways")(h3:¬ m="turns")(h4:¬ m="heads"):(wf hd tn wy al).lookup m=none:=by
 unfold wf
 rw[bJ,if_neg h1,bJ,if_neg h2,bJ,if_neg h3,bJ,if_neg h4]
 rfl
end
def KP:Sp:=fun _ _ _ _=>False
theorem pK{H:Hp}{p q:Addr}{o:HO}(u o':HO)(hp:H p=some o)(hq:H q=none):upd (upd H q u) p o' p=some o'∧upd (upd H q u) p o' q=some u∧∀ b x,H b=some x→b≠p→upd (upd H q u) p o' b=some x:=by
 have n:q≠p:=(aJ hp hq).symm
 refine⟨aB,by rw[aE n,aB],fun b x e hb=>?_⟩
 rw[aE hb,aE (aJ e hq)]
 exact e
theorem jC{H:Hp}{p q:Addr}{o:HO}(u:HO)(hp:H p=some o)(hq:H q=none):upd H q u p=some o:=by rw[aE (aJ hp hq)];exact hp
end Lw
namespace L2
open PySem PySem.Spec PyProof.Rows
def GY(H:Hp)(S:Addr)(as:List Addr)(kvs:List (cQ×V)):Hp:=fun b=>if b=S then some (.lst (as.map V.ref)) else match (as.zip kvs).find? (fun q=>decide (q.1=b)) with
 | some q=>some (.tup [kV q.2.1,q.2.2])
 | none=>H b
theorem yQ{b:Addr}:∀ {as:List Addr} {kvs:List (cQ×V)} {q:Addr×cQ×V},(as.zip kvs).find? (fun q=>decide (q.1=b))=some q→q.1=b∧∃ j:Nat,as[j]?=some q.1∧kvs[j]?=some q.2:=by
 intro as kvs q h
 have h1:=aJj h
 have h2:=aZA h
 obtain⟨j,hj⟩:=p8 h2
 rw[aZB] at hj
 exact⟨of_decide_eq_true h1,j,hj.1,hj.2⟩
section
variable {H:Hp}{S:Addr}{as:List Addr}{kvs:List (cQ×V)}
theorem HC:GY H S as kvs S=some (.lst (as.map V.ref)):=by unfold GY;rw[if_pos rfl]
theorem pV{b:Addr}(h1:b≠S)(h2:b ∉ as):GY H S as kvs b=H b:=by
 unfold GY
 rw[if_neg h1]
 cases e:(as.zip kvs).find? (fun q=>decide (q.1=b)) with
 | none=>rfl
 | some q =>
  obtain⟨e1,j,e2,_⟩:=yQ e
  rw[e1] at e2
  exact absurd (b8 e2) h2
theorem Eg{j:Nat}{a:Addr}{kv:cQ×V}(hS:a≠S)(nd:as.Nodup)(ha:as[j]?=some a)(hk:kvs[j]?=some kv):GY H S as kvs a=some (.tup [kV kv.1,kv.2]):=by
 unfold GY
 rw[if_neg hS]
 have hm:(a,kv)∈as.zip kvs:=b8 (i:=j) (by rw[aZB];exact⟨ha,hk⟩)
 cases e:(as.zip kvs).find? (fun q=>decide (q.1=a)) with
 | none =>
  have:=aJE.mp e (a,kv) hm
  simp at this
 | some q =>
  obtain⟨e1,i,e2,e3⟩:=yQ e
  rw[e1] at e2
  have hij:i=j:=by
   obtain⟨l1,x1⟩:=a9.mp e2
   obtain⟨l2,x2⟩:=a9.mp ha
   exact(aXE nd).mp (x1.trans x2.symm)
  subst hij
  rw[hk] at e3
  cases e3
  rfl
end
theorem nX{α β:Type}{F:α→β→Prop}:∀ {l₁:List α} {l₂:List β},Paired F l₁ l₂→∀ {j:Nat} {y:β},l₂[j]?=some y→∃ x,l₁[j]?=some x∧F x y
 | _,_,.nil,j,y,h=>by simp at h
 | _,_,.cons (b:=b) f r,0,y,h=>by
  have e:b=y:=by simpa using h
  subst e
  exact⟨_,rfl,f⟩
 | _,_,.cons f r,j+1,y,h=>by
  obtain⟨x,hx,q⟩:=nX r (j:=j) (by simpa using h)
  exact⟨x,by simpa using hx,q⟩
section
variable {X:Cx}{pins:List (Addr×Obj)}{σ:St}{H:Hp}{s:Shared}
theorem Inv.laidItems{h':Heap}{t' c:Nat}{S:Addr}{as:List Addr}{kvs:List (cQ×V)}{vs:List (cQ×Value)}{acc:Array Value}(I:Inv X pins σ H s)(r:KV kvs vs)(hz:kvs.length≤sizeLine)(k:∀ b u,s.heap.get? b=some u→h'.get? b=some u)(hp:s.heap.objs.size≤S)
  (hS:h'.get? S=some { cls:=.type "list",dict:=none,data:=.seq acc c,slots:=#[] }) (hacc:acc.toList=as.map Value.ref) (hl:as.length=vs.length) (G:PySem.W.KdxG (bO X.prog X.w) vs S h' as) :
  Inv X pins σ (GY H S as kvs) { s with heap:=h',toks:=t' }:=by
 have hlen:=r.length
 have nd:as.Nodup:=G.rise.imp fun h=>d8 h
 have hnew:∀ b,b=S∨b∈as→s.heap.objs.size≤b:=fun b hb=>by
  rcases hb with rfl | hb
  ·exact hp
  ·exact aQT (m9 hp (G.above b hb))
 have hold:∀ b o,H b=some o→GY H S as kvs b=some o:=fun b o e=>by
  have hb:=(I.hok b o e).lt
  rw[pV (fun z=>absurd (hnew b (.inl z)) (aX2 hb)) (fun z=>absurd (hnew b (.inr z)) (aX2 hb))]
  exact e
 have hfree:∀ b o,s.heap.get? b=some o→GY H S as kvs b=H b:=fun b o e=>by
  have hb:=d5 e
  exact pV (fun z=>absurd (hnew b (.inl z)) (aX2 hb)) (fun z=>absurd (hnew b (.inr z)) (aX2 hb))
 refine I.un ⟨fun b u q _ _ _=>k b u q,fun b u q _ _ _=>⟨u.slots,k b u q⟩,fun b u q n _=>by rw[hfree b u q];exact n,fun b u q _=>⟨u,k b u q⟩,fun b xs q=>hold b _ q,fun b o u q=>hold b _ q,fun b ps q=>⟨#[],by rw[hold b _ q];simp⟩⟩ ?_
 intro b u e
 by_cases hbS:b=S
 ·subst hbS
  rw[HC] at e
  cases e
  refine⟨by rw[b7,hl,← hlen];exact hz,as.map Value.ref,c,?_,?_⟩
  ·clear hold hfree hnew nd G hl hacc
   induction as with
   | nil=>exact .nil
   | cons a as ih=>exact .cons rfl (ih)
  ·rw[hS,← hacc,Array.toArray_toList]
 ·by_cases hba:b∈as
  ·obtain⟨j,hj⟩:=p8 hba
   obtain⟨key,kk,x,hv,hk,hg⟩:=G.pairs j b hj
   obtain⟨kv,hkv,e1,e2⟩:∃ kv,kvs[j]?=some kv∧kv.1=kk∧RelV kv.2 x:=by
    obtain⟨kv,hkv,q1,q2⟩:=nX r hv
    exact⟨kv,hkv,q1,q2⟩
   rw[Eg hbS nd hj hkv] at e
   cases e
   refine⟨by show 2≤sizeLine;decide,[key,x],.cons (by rw[e1];exact HH hk) (.cons e2 .nil),⟨_,hg,rfl,_,rfl⟩,⟨_,hg,rfl⟩⟩
  ·rw[pV hbS hba] at e
   refine(I.hok b u e).stay (fun c v _ q=>k c v q) (fun c q=>hold _ _ q) fun c xs q=>hold _ _ q
def ME(td:TE):TE:=fun σ H Q=>td σ H fun x H1=>∃ d kvs,x=.ref d∧H1 d=some (.dK kvs)∧∀ v,H1 v=none→Q (.ref v) (upd H1 v (.ext fun h=>h.IsItemsView v d))
theorem CM{o:Expr}{apos cpos:Pos}{td:TE}(ho:PE X o td)(hb:attributeBase o "items" X.env (eval o X.env)=eval o X.env:=by rfl)(hline:(apos.endLine == cpos.line)=true:=by rfl):PE X (.Call (.Attribute o "items" apos) [] [] cpos) (ME td):=by
 intro pins s σ H Q I h
 refine wpAny_Call_method0_late hb hline (bS (ho pins s σ H _ I h) fun u s1 ⟨x,H1,I1,rx,d,kvs,ex,e1,q⟩=>?_)
 subst ex
 cases (show u=Value.ref d from rx)
 obtain⟨z,hd,vs,rel,dd⟩:=yD I1.hok e1
 obtain⟨o,es,ep,g0,xo,od⟩:=id dd
 refine⟨"dict","dict.items",aQ0,PySem.F.slot_dict_items,PySem.F.type_dict_items,⟨_,g0,xo.1⟩,fun b q=>?_,?_⟩
 ·cases q
  exact⟨o,g0,xo.2.1⟩
 refine z9 rfl (aZh ?_)
 refine AD hd g0 xo ?_
 have hn:=I1.hok.fresh (b9 s1.heap.objs.size)
 have g1:(s1.heap.push { cls:=.type "dict_items",data:=.fields #[.ref d] }).get? s1.heap.objs.size=some { cls:=.type "dict_items",data:=.fields #[.ref d] }:=d9 _ rfl
 refine⟨.ref s1.heap.objs.size,_,I1.laid (t':=s1.toks) (fun b u e=>b6 _ e) (b9 _) ?_,rfl,q _ hn⟩
 exact⟨⟨_,g1,rfl,rfl⟩,⟨_,g1⟩,fun h1 h2 ⟨o,a,b,c⟩ k=>⟨o,k o a,b,c⟩⟩
theorem As(hc:X.calm=true):dZ X (.type "list") (fun xs H Q=>∃ v d kvs,xs=[.ref v]∧H v=some (.ext fun h=>h.IsItemsView v d)∧H d=some (.dK kvs) ∧
  ∀ (l:Addr) (as:List Addr) (H':Hp),H l=none→Same H H'→H' l=some (.lst (as.map V.ref))→as.length=kvs.length→(∀ (j:Nat) (a:Addr) (kv:cQ×V),as[j]?=some a→kvs[j]?=some kv→H' a=some (.tup [kV kv.1,kv.2]))→Q (.ref l) H'):=by
 intro pins s σ H xs us Q I r h
 obtain⟨v,d,kvs,rfl,hv,he,q⟩:=h
 obtain⟨u,rfl,rx⟩:=mZ r
 cases rx
 obtain⟨z,hd,vs,rel,dd⟩:=yD I.hok he
 obtain⟨ep,da⟩:=dd.dictAt
 obtain⟨iv,_,_⟩:=I.hok v _ hv
 refine PySem.W.kdx_call (knd:=bO X.prog X.w) (I.ok.hd hc) iv da (by rw[← rel.length];exact z) fun h' tk acc c as kp hS hl G hacc=>?_
 have nd:as.Nodup:=G.rise.imp fun h=>d8 h
 refine⟨.ref s.heap.objs.size,_,I.laidItems (t':=tk) rel z kp (b9 _) hS hacc hl G,rfl,q _ as _ (I.hok.fresh (b9 _)) (fun b o e=>?_) HC (by rw[hl,rel.length]) fun j a kv ha hk=>Eg (aQU (G.above a (b8 ha))) nd ha hk⟩
 have hb:=(I.hok b o e).lt
 rw[pV (d8 hb) fun z=>absurd (G.above b z) (Nat.not_lt_of_ge (aQT hb))]
 exact e
end
end L2
namespace Lw
open PySem PySem.Spec PyProof.Rows L2 Ma MaR
theorem pN{u v:List Nat}(hu:AllL u)(hv:AllL v):lay (lay u++lay v)=lay (u++v):=by
 rw[hU u _ hu,eI u v hu hv]
theorem hX{u v w:List Nat}(hu:AllL u)(hv:AllL v)(hw:AllL w):lay (u++(v++(back v++w)))=lay (u++w):=by
 have e:lay (u++(v++back v)++w)=lay (u++w):=by
  rw[← kS u (v++back v) w hu (AllL.app.mpr ⟨hv,aR hv⟩) hw,fZ hv,m7]
 rw[← e]
 simp only [l6]
theorem EN{u v w:List Nat}(hu:AllL u)(hv:AllL v)(hw:AllL w):lay (u++(back v++(v++w)))=lay (u++w):=by
 have:=hX hu (aR hv) hw
 rwa [dU hv] at this
section
variable {a b c d x:List Nat}(ha:AllL a)(hb:AllL b)(hc:AllL c)(hd:AllL d)(hx:AllL x)
include ha hb hc
theorem No:lay (lay (back a++b)++lay (back b++c))=lay (back a++c):=by
 have q:=aR ha
 have q2:=aR hb
 rw[pN (AllL.app.mpr ⟨q,hb⟩) (AllL.app.mpr ⟨q2,hc⟩),l6]
 exact hX q hb hc
theorem MJ:lay (lay (a++b)++lay (back b++c))=lay (a++c):=by
 have q2:=aR hb
 rw[pN (AllL.app.mpr ⟨ha,hb⟩) (AllL.app.mpr ⟨q2,hc⟩),l6]
 exact hX ha hb hc
omit hc in
theorem Nu:back (lay (back a++b))=lay (back b++a):=by
 have q:=aR ha
 rw[← kH (AllL.app.mpr ⟨q,hb⟩),dN,dU ha]
include hx in
omit hc in
theorem Nv:back (lay (back a++(x++b)))=lay (back b++(back x++a)):=by
 have q:=aR ha
 rw[← kH (AllL.app.mpr ⟨q,AllL.app.mpr ⟨hx,hb⟩⟩),dN,dN,dU ha,l6]
include hx in
theorem NN:lay (back (lay (back a++(x++b)))++lay (back a++(x++c)))=lay (back b++c):=by
 have q:=aR ha
 have q2:=aR hb
 have q3:=aR hx
 rw[Nv ha hb hx,pN (AllL.app.mpr ⟨q2,AllL.app.mpr ⟨q3,ha⟩⟩) (AllL.app.mpr ⟨q,AllL.app.mpr ⟨hx,hc⟩⟩)]
 have e1:back b++(back x++a)++(back a++(x++c))=(back b++back x)++(a++(back a++(x++c))):=by simp only [l6]
 rw[e1,hX (AllL.app.mpr ⟨q2,q3⟩) ha (AllL.app.mpr ⟨hx,hc⟩),l6]
 exact EN q2 hx hc
include hx in
theorem Ng:lay (back (lay (back a++b))++lay (back a++(x++c)))=lay (back b++(x++c)):=by
 have q:=aR ha
 have q2:=aR hb
 rw[Nu ha hb,pN (AllL.app.mpr ⟨q2,ha⟩) (AllL.app.mpr ⟨q,AllL.app.mpr ⟨hx,hc⟩⟩),l6]
 exact hX q2 ha (AllL.app.mpr ⟨hx,hc⟩)
include hx in
omit hc in
end
structure WvS where
 hs:List Nat
 ts:List (List Nat)
 ws:List (List (Nat×Nat×List Nat))
 al:List (Nat×List Nat×Nat)
structure WI(h:Nat→List Nat)(φ:Nat→List Nat)(ρ rk:Nat→Nat)(L:Nat)(S:WvS):Prop where
 lt:S.ts.length=S.hs.length
 lw:S.ws.length=S.hs.length
 hd:∀ (i a:Nat),S.hs[i]?=some a→a<S.hs.length∧(a=i∨rk a<rk i)∧ρ a=ρ i∧(a=i→ρ i=i)
 rt:∀ i:Nat,i<S.hs.length→ρ i<S.hs.length∧S.hs[ρ i]?=some (ρ i)
 tn:∀ (i a:Nat) (t:List Nat),S.hs[i]?=some a→S.ts[i]?=some t→t=lay (back (φ i)++φ a)
 wy:∀ (i:Nat) (es:List (Nat×Nat×List Nat)),S.ws[i]?=some es→(es.map (·.1)).Nodup∧∀ e∈es,cE e.1∧e.2.1<S.hs.length∧e.2.2=lay (back (φ i)++(h e.1++φ e.2.1))
 al:∀ e∈S.al,e.1<S.hs.length∧e.2.2<S.hs.length∧e.2.1=lay (back (φ e.1)++φ e.2.2)
 fa:∀ i,AllL (φ i)∧(φ i).length≤L
 ha:∀ c,cE c→AllL (h c)∧(h c).length≤L
section
variable {h:Nat→List Nat}{φ:Nat→List Nat}{ρ rk:Nat→Nat}{L:Nat}{S:WvS}
theorem fE{α:Type}{xs:List α}{i j:Nat}{v y:α}(h:(xs.set i v)[j]?=some y):(j=i∧y=v∧i<xs.length)∨(j≠i∧xs[j]?=some y):=by
 rw[List.getElem?_set] at h
 split at h
 ·rename_i e
  split at h
  ·cases h;exact .inl ⟨e.symm,rfl,by assumption⟩
  ·cases h
 ·rename_i e
  exact .inr ⟨fun z=>e z.symm,h⟩
theorem WI.comp(I:WI h φ ρ rk L S){i a b:Nat}{t u:List Nat}(hi:S.hs[i]?=some a)(hne:a≠i)(ha:S.hs[a]?=some b)(ht:S.ts[i]?=some t)(hu:S.ts[a]?=some u) :
  WI h φ ρ rk L { S with hs:=S.hs.set i b,ts:=S.ts.set i (lay (t++u)) }∧lay (t++u)=lay (back (φ i)++φ b)∧rk b<rk i∧ρ b=ρ i:=by
 obtain⟨a1,a2,a3,a4⟩:=I.hd i a hi
 obtain⟨b1,b2,b3,b4⟩:=I.hd a b ha
 have hlt:rk a<rk i:=a2.resolve_left hne
 have hrb:rk b<rk i:=by
  rcases b2 with e | e
  ·rw[e];exact hlt
  ·omega
 have hte:lay (t++u)=lay (back (φ i)++φ b):=by
  rw[I.tn i a t hi ht,I.tn a b u ha hu]
  exact No (I.fa i).1 (I.fa a).1 (I.fa b).1
 have hil:i<S.hs.length:=(a9.mp hi).1
 have hbi:b≠i:=fun z=>by rw[z] at hrb;omega
 refine⟨⟨?_,?_,?_,?_,?_,?_,?_,I.fa,I.ha⟩,hte,hrb,b3.trans a3⟩
 ·show (S.ts.set i _).length=(S.hs.set i b).length
  rw[p5,p5];exact I.lt
 ·show S.ws.length=(S.hs.set i b).length
  rw[p5];exact I.lw
 ·intro j c hj
  show c<(S.hs.set i b).length∧_
  rw[p5]
  rcases fE hj with ⟨rfl,rfl,_⟩ | ⟨hji,hj⟩
  ·exact⟨b1,.inr hrb,b3.trans a3,fun z=>absurd z hbi⟩
  ·exact I.hd j c hj
 ·intro j hj
  have hj':j<S.hs.length:=by
   have:j<(S.hs.set i b).length:=hj
   rwa [p5] at this
  show ρ j<(S.hs.set i b).length∧(S.hs.set i b)[ρ j]?=some (ρ j)
  rw[p5]
  obtain⟨r1,r2⟩:=I.rt j hj'
  refine⟨r1,?_⟩
  rw[aQF]
  ·exact r2
  ·intro z
   rw[← z,hi] at r2
   exact hne (by simpa using r2)
 ·intro j c v hj hv
  rcases fE hj with ⟨rfl,rfl,_⟩ | ⟨hji,hj⟩
  ·rcases fE hv with ⟨_,rfl,_⟩ | ⟨z,_⟩
   ·exact hte
   ·exact absurd rfl z
  ·rcases fE hv with ⟨z,_,_⟩ | ⟨_,hv⟩
   ·exact absurd z hji
   ·exact I.tn j c v hj hv
 ·intro j es hj
  obtain⟨w1,w2⟩:=I.wy j es hj
  refine⟨w1,fun e he=>?_⟩
  show _∧e.2.1<(S.hs.set i b).length∧_
  rw[p5]
  exact w2 e he
 ·intro e he
  show e.1<(S.hs.set i b).length∧e.2.2<(S.hs.set i b).length∧_
  rw[p5]
  exact I.al e he
def dD(es:List (Nat×Nat×List Nat))(c:Nat):Option (Nat×List Nat):=(es.find? fun e=>decide (e.1=c)).map (·.2)
theorem dW{es:List (Nat×Nat×List Nat)}{c:Nat}{r:Nat×List Nat}(h:dD es c=some r):(c,r)∈es:=by
 unfold dD at h
 obtain⟨e,he,rfl⟩:=i6.mp h
 have h1:=aJj he
 have h2:=aZA he
 have:e.1=c:=of_decide_eq_true h1
 rw[← this]
 exact h2
theorem qH{es:List (Nat×Nat×List Nat)}{c:Nat}(h:dD es c=none):∀ e∈es,e.1≠c:=by
 unfold dD at h
 have:=aJE.mp (Option.map_eq_none_iff.mp h)
 intro e he z
 have:=this e he
 simp[z] at this
theorem nU{es:List (Nat×Nat×List Nat)}{c:Nat}{r:Nat×List Nat}(nd:(es.map (·.1)).Nodup)(h:(c,r)∈es):dD es c=some r:=by
 cases e:dD es c with
 | none=>exact absurd rfl (qH e _ h)
 | some r' =>
  have h2:=dW e
  congr 1
  induction es with
  | nil=>cases h
  | cons x es ih =>
   obtain⟨n1,n2⟩:=p0.mp nd
   rcases d3.mp h with z | z <;> rcases d3.mp h2 with y | y
   ·rw[← z] at y;exact(aJ0 y).2
   ·exact absurd (i3.mpr ⟨_,y,by rw[← z]⟩) n1
   ·exact absurd (i3.mpr ⟨_,z,by rw[← y]⟩) n1
   ·exact ih n2 z (by
     unfold dD at e ⊢
     rw[aZ2] at e
     ·exact e
     ·simp only [decide_eq_true_eq]
      intro q
      exact n1 (i3.mpr ⟨_,z,q.symm⟩)) y
def bD(S:WvS)(i c g:Nat)(t:List Nat)(es:List (Nat×Nat×List Nat)):WvS:=match dD es c with
 | none=>{ S with ws:=S.ws.set i (es++[(c,g,t)]) }
 | some (g',t')=>if (g',t')=(g,t) then S else { S with al:=S.al++[(g,lay (back t++t'),g')] }
theorem iQ(i c g:Nat)(t:List Nat)(es:List (Nat×Nat×List Nat)):(bD S i c g t es).hs=S.hs∧(bD S i c g t es).ts=S.ts:=by
 unfold bD
 split
 ·exact⟨rfl,rfl⟩
 ·split <;> exact⟨rfl,rfl⟩
theorem WI.lay(I:WI h φ ρ rk L S){i c g:Nat}{t:List Nat}{es:List (Nat×Nat×List Nat)}(hi:S.ws[i]?=some es)(hc:cE c)(hg:g<S.hs.length)(ht:t=lay (back (φ i)++(h c++φ g))):WI h φ ρ rk L (bD S i c g t es):=by
 obtain⟨w1,w2⟩:=I.wy i es hi
 unfold bD
 cases e:dD es c with
 | none =>
  have hn:=qH e
  refine⟨I.lt,by show (S.ws.set i _).length=_;rw[p5];exact I.lw,I.hd,I.rt,I.tn,?_,I.al,I.fa,I.ha⟩
  intro j es' hj
  rcases fE hj with ⟨rfl,rfl,_⟩ | ⟨_,hj⟩
  ·refine⟨?_,fun x hx=>?_⟩
   ·rw[i7,aQc]
    refine⟨w1,by simp,fun a ha b hb=>?_⟩
    obtain⟨x,hx,rfl⟩:=i3.mp ha
    simp at hb
    rw[hb]
    exact hn x hx
   ·rcases j9.mp hx with z | z
    ·exact w2 x z
    ·rw[d6.mp z];exact⟨hc,hg,ht⟩
  ·exact I.wy j es' hj
 | some r =>
  obtain⟨g',t'⟩:=r
  dsimp only
  split
  ·exact I
  ·have hm:=w2 _ (dW e)
   refine⟨I.lt,I.lw,I.hd,I.rt,I.tn,I.wy,?_,I.fa,I.ha⟩
   intro x hx
   rcases j9.mp hx with z | z
   ·exact I.al x z
   ·rw[d6.mp z]
    refine⟨hg,hm.2.1,?_⟩
    have ht':t'=Ma.lay (back (φ i)++(h c++φ g')):=hm.2.2
    show Ma.lay (back t++t')=Ma.lay (back (φ g)++φ g')
    rw[ht,ht']
    exact NN (I.fa i).1 (I.fa g).1 (I.fa g').1 (I.ha c hc).1
end
inductive Lnk(ρ:Nat→Nat)(al:List (Nat×List Nat×Nat)):Nat→Nat→Prop where
 | refl (x:Nat):Lnk ρ al x x
 | symm {x y:Nat} (h:Lnk ρ al x y):Lnk ρ al y x
 | trans {x y z:Nat} (h:Lnk ρ al x y) (g:Lnk ρ al y z):Lnk ρ al x z
 | root (x:Nat):Lnk ρ al x (ρ x)
 | pair {x y:Nat} {t:List Nat} (h:(x,t,y)∈al):Lnk ρ al x y
theorem Lnk.mono{ρ ρ':Nat→Nat}{al al':List (Nat×List Nat×Nat)}(hr:∀ x,Lnk ρ' al' x (ρ x))(ha:∀ x t y,(x,t,y)∈al→Lnk ρ' al' x y){x y:Nat}(h:Lnk ρ al x y):Lnk ρ' al' x y:=by
 induction h with
 | refl x=>exact .refl x
 | symm _ ih=>exact .symm ih
 | trans _ _ a b=>exact .trans a b
 | root x=>exact hr x
 | pair h=>exact ha _ _ _ h
theorem Lnk.nil{ρ:Nat→Nat}(hi:∀ x,ρ (ρ x)=ρ x){x y:Nat}(h:Lnk ρ [] x y):ρ x=ρ y:=by
 induction h with
 | refl x=>rfl
 | symm _ ih=>exact ih.symm
 | trans _ _ a b=>exact a.trans b
 | root x=>exact(hi x).symm
 | pair h=>cases h
structure EI(E:Nat→Nat→Nat→Prop)(ρ:Nat→Nat)(S:WvS):Prop where
 lt:∀ p c q,E p c q→p<S.hs.length∧q<S.hs.length
 on:∀ p c q,E p c q→∃ es g t,S.ws[ρ p]?=some es∧(c,g,t)∈es∧Lnk ρ S.al g q
 of:∀ (i:Nat) (es:List (Nat×Nat×List Nat)),S.ws[i]?=some es→∀ e∈es,∃ p q,E p e.1 q∧Lnk ρ S.al p i∧Lnk ρ S.al q e.2.1
section
variable {E:Nat→Nat→Nat→Prop}{ρ:Nat→Nat}{S:WvS}
theorem B1{i c g:Nat}{t:List Nat}{es:List (Nat×Nat×List Nat)}{x:Nat×List Nat×Nat}(h:x∈S.al):x∈(bD S i c g t es).al:=by
 unfold bD
 split
 ·exact h
 ·split
  ·exact h
  ·exact p7 _ h
theorem dB{i c g:Nat}{t:List Nat}{es:List (Nat×Nat×List Nat)}{x y:Nat}(h:Lnk ρ S.al x y):Lnk ρ (bD S i c g t es).al x y:=h.mono (fun x=>.root x) fun x t y hm=>.pair (B1 hm)
theorem tZ{i c g:Nat}{t:List Nat}{es:List (Nat×Nat×List Nat)}(hi:S.ws[i]?=some es){j:Nat}{es':List (Nat×Nat×List Nat)}(hj:S.ws[j]?=some es'):∃ es'',(bD S i c g t es).ws[j]?=some es''∧(∀ e∈es',e∈es'')∧(j≠i→es''=es'):=by
 unfold bD
 split
 ·by_cases q:j=i
  ·subst q
   rw[hi] at hj
   cases hj
   refine⟨es++[(c,g,t)],?_,fun e he=>p7 _ he,fun z=>absurd rfl z⟩
   show (S.ws.set j _)[j]?=_
   rw[y0 (a9.mp hi).1]
  ·refine⟨es',?_,fun e he=>he,fun _=>rfl⟩
   show (S.ws.set i _)[j]?=_
   rw[aQF (fun z=>q z.symm)]
   exact hj
 ·split <;> exact⟨es',hj,fun e he=>he,fun _=>rfl⟩
theorem qE{i c g:Nat}{t:List Nat}{es:List (Nat×Nat×List Nat)}(hi:S.ws[i]?=some es):∃ es' g' t',(bD S i c g t es).ws[i]?=some es'∧(c,g',t')∈es'∧Lnk ρ (bD S i c g t es).al g' g:=by
 unfold bD
 cases e:dD es c with
 | none =>
  refine⟨es++[(c,g,t)],g,t,?_,by simp,.refl g⟩
  show (S.ws.set i _)[i]?=_
  rw[y0 (a9.mp hi).1]
 | some r =>
  obtain⟨g',t'⟩:=r
  dsimp only
  split
  ·rename_i q
   obtain⟨rfl,rfl⟩:=aJ0 q
   exact⟨es,g',t',hi,dW e,.refl g'⟩
  ·exact⟨es,g',t',hi,dW e,.symm (.pair (t:=lay (back t++t')) (by simp))⟩
theorem oH{i c g:Nat}{t:List Nat}{es:List (Nat×Nat×List Nat)}(hi:S.ws[i]?=some es){j:Nat}{es':List (Nat×Nat×List Nat)}(hj:(bD S i c g t es).ws[j]?=some es'){e:Nat×Nat×List Nat}(he:e∈es'):(∃ es0,S.ws[j]?=some es0∧e∈es0)∨(j=i∧e=(c,g,t)):=by
 unfold bD at hj
 split at hj
 ·rcases fE hj with ⟨rfl,rfl,_⟩ | ⟨_,hj⟩
  ·rcases j9.mp he with z | z
   ·exact .inl ⟨es,hi,z⟩
   ·exact .inr ⟨rfl,d6.mp z⟩
  ·exact .inl ⟨es',hj,he⟩
 ·split at hj <;> exact .inl ⟨es',hj,he⟩
theorem EI.lay'(X:EI E ρ S){i c g:Nat}{t:List Nat}{es:List (Nat×Nat×List Nat)}(hi:S.ws[i]?=some es)(hr:ρ i=i)(h1:i<S.hs.length)(h2:g<S.hs.length):EI (fun p c' q=>E p c' q∨(p=i∧c'=c∧q=g)) ρ (bD S i c g t es):=by
 refine⟨fun p c' q hE=>?_,fun p c' q hE=>?_,fun j es' hj e he=>?_⟩
 ·rw[(iQ (S:=S) i c g t es).1]
  rcases hE with hE | ⟨rfl,rfl,rfl⟩
  ·exact X.lt p c' q hE
  ·exact⟨h1,h2⟩
 ·rcases hE with hE | ⟨rfl,rfl,rfl⟩
  ·obtain⟨es0,g0,t0,a,b,d⟩:=X.on p c' q hE
   obtain⟨es1,a1,b1,_⟩:=tZ (c:=c) (g:=g) (t:=t) hi a
   exact⟨es1,g0,t0,a1,b1 _ b,dB d⟩
  ·rw[hr]
   exact qE hi
 ·rcases oH hi hj he with ⟨es0,a,b⟩ | ⟨rfl,rfl⟩
  ·obtain⟨p,q,a1,a2,a3⟩:=X.of j es0 a e b
   exact⟨p,q,.inl a1,dB a2,dB a3⟩
  ·exact⟨j,g,.inr ⟨rfl,rfl,rfl⟩,.refl _,.refl _⟩
end
section
variable {h:Nat→List Nat}{φ:Nat→List Nat}{ρ rk:Nat→Nat}{L:Nat}{S:WvS}{E:Nat→Nat→Nat→Prop}
def ρU(ρ:Nat→Nat)(hd ab:Nat):Nat→Nat:=fun x=>if ρ x=hd then ab else ρ x
def Mq(ρ rk:Nat→Nat)(hd ab:Nat):Nat→Nat:=fun x=>if ρ x=hd then rk x+(rk ab+1) else rk x
def dP(S:WvS)(hd ab:Nat)(t:List Nat):WvS:={ S with hs:=S.hs.set hd ab,ts:=S.ts.set hd t }
theorem WI.under(I:WI h φ ρ rk L S){hd ab:Nat}{t:List Nat}(h1:S.hs[hd]?=some hd)(h2:S.hs[ab]?=some ab)(hne:hd≠ab)(ht:t=Ma.lay (back (φ hd)++φ ab)):WI h φ (ρU ρ hd ab) (Mq ρ rk hd ab) L (dP S hd ab t):=by
 have l1:hd<S.hs.length:=(a9.mp h1).1
 have l2:ab<S.hs.length:=(a9.mp h2).1
 have r1:ρ hd=hd:=(I.hd hd hd h1).2.2.2 rfl
 have r2:ρ ab=ab:=(I.hd ab ab h2).2.2.2 rfl
 have hlen:(S.hs.set hd ab).length=S.hs.length:=p5 ..
 refine⟨?_,?_,?_,?_,?_,?_,?_,I.fa,I.ha⟩
 ·show (S.ts.set hd t).length=(S.hs.set hd ab).length
  rw[p5,p5];exact I.lt
 ·show S.ws.length=(S.hs.set hd ab).length
  rw[hlen];exact I.lw
 ·intro i a hi
  show a<(S.hs.set hd ab).length∧_
  rw[hlen]
  rcases fE hi with ⟨rfl,rfl,_⟩ | ⟨hn,hi⟩
  ·refine⟨l2,.inr ?_,?_,fun z=>absurd z.symm hne⟩
   ·unfold Mq
    rw[r2,r1,if_neg (fun z=>hne z.symm),if_pos rfl]
    omega
   ·unfold ρU
    rw[r1,r2,if_pos rfl,if_neg (fun z=>hne z.symm)]
  ·obtain⟨a1,a2,a3,a4⟩:=I.hd i a hi
   refine⟨a1,?_,?_,fun z=>?_⟩
   ·rcases a2 with z | z
    ·exact .inl z
    ·refine .inr ?_
     unfold Mq
     rw[a3]
     split <;> omega
   ·unfold ρU;rw[a3]
   ·have:=a4 z
    unfold ρU
    rw[this,if_neg hn]
 ·intro i hi
  have hi':i<S.hs.length:=by have:i<(S.hs.set hd ab).length:=hi;rwa [hlen] at this
  obtain⟨a1,a2⟩:=I.rt i hi'
  show ρU ρ hd ab i<(S.hs.set hd ab).length∧(S.hs.set hd ab)[ρU ρ hd ab i]?=some (ρU ρ hd ab i)
  rw[hlen]
  unfold ρU
  split
  ·refine⟨l2,?_⟩
   rw[aQF hne]
   exact h2
  ·rename_i q
   refine⟨a1,?_⟩
   rw[aQF (fun z=>q z.symm)]
   exact a2
 ·intro i a v hi hv
  rcases fE hi with ⟨rfl,rfl,_⟩ | ⟨hn,hi⟩
  ·rcases fE hv with ⟨_,rfl,_⟩ | ⟨z,_⟩
   ·exact ht
   ·exact absurd rfl z
  ·rcases fE hv with ⟨z,_,_⟩ | ⟨_,hv⟩
   ·exact absurd z hn
   ·exact I.tn i a v hi hv
 ·intro i es hi
  obtain⟨w1,w2⟩:=I.wy i es hi
  refine⟨w1,fun e he=>?_⟩
  show _∧e.2.1<(S.hs.set hd ab).length∧_
  rw[hlen]
  exact w2 e he
 ·intro e he
  show e.1<(S.hs.set hd ab).length∧e.2.2<(S.hs.set hd ab).length∧_
  rw[hlen]
  exact I.al e he
def underW(ab:Nat)(t:List Nat)(T:WvS)(es:List (Nat×Nat×List Nat)):WvS:=es.foldl (fun T e=>bD T ab e.1 e.2.1 (lay (back t++e.2.2)) (T.ws.getD ab [])) T
theorem Lnk.under{al al':List (Nat×List Nat×Nat)}{hd ab:Nat}(hh:ρ hd=hd)(ha:∀ x t y,(x,t,y)∈al→Lnk (ρU ρ hd ab) al' x y){x y:Nat}(g:Lnk ρ al x y):Lnk (ρU ρ hd ab) al' x y:=by
 have e1:Lnk (ρU ρ hd ab) al' hd ab:=by
  have:=Lnk.root (ρ:=ρU ρ hd ab) (al:=al') hd
  unfold ρU at this ⊢
  rw[hh,if_pos rfl] at this
  exact this
 refine g.mono (fun x=>?_) ha
 by_cases q:ρ x=hd
 ·have:=Lnk.root (ρ:=ρU ρ hd ab) (al:=al') x
  have e2:ρU ρ hd ab x=ab:=by unfold ρU;rw[if_pos q]
  rw[e2] at this
  rw[q]
  exact this.trans e1.symm
 ·have:=Lnk.root (ρ:=ρU ρ hd ab) (al:=al') x
  have e2:ρU ρ hd ab x=ρ x:=by unfold ρU;rw[if_neg q]
  rw[e2] at this
  exact this
structure UI(E:Nat→Nat→Nat→Prop)(ρ:Nat→Nat)(hd ab N:Nat)(es:List (Nat×Nat×List Nat))(T:WvS):Prop where
 ln:T.hs.length=N
 lt:∀ p c q,E p c q→p<N∧q<N
 on:∀ p c q,E p c q→(∃ es g t,T.ws[ρU ρ hd ab p]?=some es∧(c,g,t)∈es∧Lnk (ρU ρ hd ab) T.al g q)∨(ρ p=hd∧∃ e∈es,e.1=c∧Lnk (ρU ρ hd ab) T.al e.2.1 q)
 of:∀ (i:Nat) (es:List (Nat×Nat×List Nat)),T.ws[i]?=some es→∀ e∈es,∃ p q,E p e.1 q∧Lnk (ρU ρ hd ab) T.al p i∧Lnk (ρU ρ hd ab) T.al q e.2.1
 me:∀ e∈es,∃ p q,E p e.1 q∧Lnk (ρU ρ hd ab) T.al p ab∧Lnk (ρU ρ hd ab) T.al q e.2.1
theorem tI{hd ab:Nat}{t:List Nat}{ρ1 rk1:Nat→Nat}(hρ:ρ1=ρU ρ hd ab)(ht:t=lay (back (φ hd)++φ ab)):∀ {es:List (Nat×Nat×List Nat)} {T:WvS},WI h φ ρ1 rk1 L T→ab<T.hs.length→(∀ e∈es,cE e.1∧e.2.1<T.hs.length∧e.2.2=lay (back (φ hd)++(h e.1++φ e.2.1)))→UI E ρ hd ab T.hs.length es T →
  WI h φ ρ1 rk1 L (underW ab t T es)∧EI E ρ1 (underW ab t T es)∧(underW ab t T es).hs=T.hs∧(underW ab t T es).ts=T.ts
 | [],T,I,hab,hes,U=>by
  subst hρ
  refine⟨I,⟨fun p c q hE=>U.lt p c q hE,fun p c q hE=>?_,U.of⟩,rfl,rfl⟩
  rcases U.on p c q hE with z | ⟨_,e,he,_⟩
  ·exact z
  ·cases he
 | e::es,T,I,hab,hes,U=>by
  subst hρ
  obtain⟨ea,hea⟩:∃ ea,T.ws[ab]?=some ea:=⟨_,b0 (by rw[I.lw];exact hab)⟩
  have hgd:T.ws.getD ab []=ea:=by rw[c5,hea];rfl
  obtain⟨e1,e2,e3⟩:=hes e i9
  have htd:lay (back t++e.2.2)=lay (back (φ ab)++(h e.1++φ e.2.1)):=by
   rw[ht,e3]
   exact Ng (I.fa hd).1 (I.fa ab).1 (I.fa e.2.1).1 (I.ha e.1 e1).1
  have I1:=I.lay hea e1 e2 htd
  obtain⟨hhs,hts⟩:=iQ (S:=T) ab e.1 e.2.1 (lay (back t++e.2.2)) ea
  have key:underW ab t T (e::es)=underW ab t (bD T ab e.1 e.2.1 (lay (back t++e.2.2)) ea) es:=by
   unfold underW
   rw[aXL,hgd]
  have U1:UI E ρ hd ab (bD T ab e.1 e.2.1 (lay (back t++e.2.2)) ea).hs.length es (bD T ab e.1 e.2.1 (lay (back t++e.2.2)) ea):=by
   refine⟨rfl,fun p c q hE=>by rw[hhs];exact U.lt p c q hE,fun p c q hE=>?_,fun i es' hi x hx=>?_,fun x hx=>?_⟩
   ·rcases U.on p c q hE with ⟨es0,g0,t0,a,b,d⟩ | ⟨a,x,hx,b,d⟩
    ·obtain⟨es1,a1,b1,_⟩:=tZ (c:=e.1) (g:=e.2.1) (t:=lay (back t++e.2.2)) hea a
     exact .inl ⟨es1,g0,t0,a1,b1 _ b,dB d⟩
    ·rcases d3.mp hx with rfl | hx
     ·obtain⟨es',g',t',q1,q2,q3⟩:=qE (ρ:=ρU ρ hd ab) (c:=x.1) (g:=x.2.1) (t:=lay (back t++x.2.2)) hea
      refine .inl ⟨es',g',t',?_,by rw[← b];exact q2,q3.trans (dB d)⟩
      have:ρU ρ hd ab p=ab:=by unfold ρU;rw[if_pos a]
      rw[this]
      exact q1
     ·exact .inr ⟨a,x,hx,b,dB d⟩
   ·rcases oH hea hi hx with ⟨es0,a,b⟩ | ⟨rfl,rfl⟩
    ·obtain⟨p,q,a1,a2,a3⟩:=U.of i es0 a x b
     exact⟨p,q,a1,dB a2,dB a3⟩
    ·obtain⟨p,q,a1,a2,a3⟩:=U.me e i9
     exact⟨p,q,a1,dB a2,dB a3⟩
   ·obtain⟨p,q,a1,a2,a3⟩:=U.me x (g9 _ hx)
    exact⟨p,q,a1,dB a2,dB a3⟩
  rw[key]
  obtain⟨o1,o2,o3,o4⟩:=tI (es:=es) rfl ht I1 (by rw[hhs];exact hab) (fun x hx=>by rw[hhs];exact hes x (g9 _ hx)) U1
  exact⟨o1,o2,o3.trans hhs,o4.trans hts⟩
theorem Iu(I:WI h φ ρ rk L S){a b:Nat}{tt:List Nat}(X:EI E ρ { S with al:=(a,tt,b)::S.al }){hd ab:Nat}{t:List Nat}(ha:a<S.hs.length)(hb:b<S.hs.length)(hra:ρ a=hd)(hrb:ρ b=ab)(hne:hd≠ab)(ht:t=lay (back (φ hd)++φ ab)){es:List (Nat×Nat×List Nat)}(hes:S.ws[hd]?=some es) :
  WI h φ (ρU ρ hd ab) (Mq ρ rk hd ab) L (underW ab t (dP S hd ab t) es)∧EI E (ρU ρ hd ab) (underW ab t (dP S hd ab t) es)∧(underW ab t (dP S hd ab t) es).hs=S.hs.set hd ab:=by
 obtain⟨l1,h1⟩:=I.rt a ha
 obtain⟨l2,h2⟩:=I.rt b hb
 rw[hra] at l1 h1
 rw[hrb] at l2 h2
 have r1:ρ hd=hd:=(I.hd hd hd h1).2.2.2 rfl
 have r2:ρ ab=ab:=(I.hd ab ab h2).2.2.2 rfl
 have I1:=I.under h1 h2 hne ht
 have hlen:(S.hs.set hd ab).length=S.hs.length:=p5 ..
 have eab:Lnk (ρU ρ hd ab) S.al a b:=by
  have q1:=Lnk.root (ρ:=ρU ρ hd ab) (al:=S.al) a
  have q2:=Lnk.root (ρ:=ρU ρ hd ab) (al:=S.al) b
  have e1:ρU ρ hd ab a=ab:=by unfold ρU;rw[if_pos hra]
  have e2:ρU ρ hd ab b=ab:=by unfold ρU;rw[hrb,if_neg (fun z=>hne z.symm)]
  rw[e1] at q1
  rw[e2] at q2
  exact q1.trans q2.symm
 have mv:∀ {x y:Nat},Lnk ρ ((a,tt,b)::S.al) x y→Lnk (ρU ρ hd ab) S.al x y:=fun g=>Lnk.under r1 (fun x t y hm=>by
  rcases d3.mp hm with z | z
  ·obtain⟨rfl,rfl,rfl⟩:x=a∧t=tt∧y=b:=by simpa using z
   exact eab
  ·exact .pair z) g
 have hdab:Lnk (ρU ρ hd ab) S.al hd ab:=by
  have:=Lnk.root (ρ:=ρU ρ hd ab) (al:=S.al) hd
  have e1:ρU ρ hd ab hd=ab:=by unfold ρU;rw[r1,if_pos rfl]
  rwa [e1] at this
 have U:UI E ρ hd ab (dP S hd ab t).hs.length es (dP S hd ab t):=by
  refine⟨rfl,fun p c q hE=>by show p<(S.hs.set hd ab).length∧q<(S.hs.set hd ab).length;rw[hlen];exact X.lt p c q hE,fun p c q hE=>?_,fun i es' hi x hx=>?_,fun x hx=>?_⟩
  ·obtain⟨es0,g0,t0,a1,b1,d1⟩:=X.on p c q hE
   by_cases q0:ρ p=hd
   ·refine .inr ⟨q0,(c,g0,t0),?_,rfl,mv d1⟩
    have a1':S.ws[ρ p]?=some es0:=a1
    rw[q0,hes] at a1'
    cases a1'
    exact b1
   ·refine .inl ⟨es0,g0,t0,?_,b1,mv d1⟩
    have:ρU ρ hd ab p=ρ p:=by unfold ρU;rw[if_neg q0]
    rw[this]
    exact a1
  ·obtain⟨p,q,a1,a2,a3⟩:=X.of i es' hi x hx
   exact⟨p,q,a1,mv a2,mv a3⟩
  ·obtain⟨p,q,a1,a2,a3⟩:=X.of hd es hes x hx
   exact⟨p,q,a1,(mv a2).trans hdab,mv a3⟩
 obtain⟨o1,o2,o3,_⟩:=tI (es:=es) rfl ht I1 (by show ab<(S.hs.set hd ab).length;rw[hlen];exact l2) (fun e he=>by
  show _∧e.2.1<(S.hs.set hd ab).length∧_
  rw[hlen]
  exact(I.wy hd es hes).2 e he) U
 exact⟨o1,o2,o3⟩
theorem EI.pop{a b:Nat}{tt:List Nat}(X:EI E ρ { S with al:=(a,tt,b)::S.al })(hab:ρ a=ρ b):EI E ρ S:=by
 have mv:∀ {x y:Nat},Lnk ρ ((a,tt,b)::S.al) x y→Lnk ρ S.al x y:=fun g=>g.mono (fun x=>.root x) fun x t y hm=>by
  rcases d3.mp hm with z | z
  ·obtain⟨rfl,rfl,rfl⟩:x=a∧t=tt∧y=b:=by simpa using z
   have q1:=Lnk.root (ρ:=ρ) (al:=S.al) x
   have q2:=Lnk.root (ρ:=ρ) (al:=S.al) y
   rw[hab] at q1
   exact q1.trans q2.symm
  ·exact .pair z
 refine⟨X.lt,fun p c q hE=>?_,fun i es hi x hx=>?_⟩
 ·obtain⟨es0,g0,t0,a1,b1,d1⟩:=X.on p c q hE
  exact⟨es0,g0,t0,a1,b1,mv d1⟩
 ·obtain⟨p,q,a1,a2,a3⟩:=X.of i es hi x hx
  exact⟨p,q,a1,mv a2,mv a3⟩
end
section
variable {h:Nat→List Nat}{φ:Nat→List Nat}{ρ rk:Nat→Nat}{L:Nat}{S:WvS}{E:Nat→Nat→Nat→Prop}
def AC(ρ:Nat→Nat)(N:Nat):Nat:=(List.range N).countP fun i=>decide (ρ i=i)
theorem zD{p q:Nat→Bool}{a:Nat}(hp:p a=true)(hq:q a=false)(he:∀ x,x≠a→q x=p x):∀ {N:Nat},a<N→(List.range N).countP q+1=(List.range N).countP p
 | N+1,hN=>by
  rw[List.range_succ,aJF,aJF]
  by_cases e:a=N
  ·subst e
   have same:∀ M,M≤a→(List.range M).countP q=(List.range M).countP p:=fun M hM=>aJV fun x hx=>by
    rw[he x (by have:=aXj.mp hx;omega)]
   rw[same a (b9 _)]
   simp[hp,hq]
  ·have:=zD hp hq he (N:=N) (by omega)
   have e2:List.countP q [N]=List.countP p [N]:=aJV fun x hx=>by rw[he x (by rw[d6.mp hx];exact fun z=>e z.symm)]
   omega
theorem B7{hd ab N:Nat}(hl:hd<N)(h1:ρ hd=hd)(h2:ρ ab=ab)(hne:hd≠ab):AC (ρU ρ hd ab) N+1=AC ρ N:=by
 refine zD (a:=hd) (by rw[decide_eq_true_iff];exact h1) (decide_eq_false ?_) (fun x hx=>?_) hl
 ·unfold ρU;rw[if_pos h1];exact fun z=>hne z.symm
 ·unfold ρU
  split
  ·rename_i q
   rw[decide_eq_false (show ¬ ab=x from fun z=>hne (by rw[← q,← z,h2])),decide_eq_false (show ¬ ρ x=x from fun z=>hx (by rw[← z,q]))]
  ·rfl
theorem IF(N:Nat):AC ρ N≤N:=by
 unfold AC
 have:=List.countP_le_length (p:=fun i=>decide (ρ i=i)) (l:=List.range N)
 rwa [aXU] at this
theorem rR:∀ {l m:List Nat},l.Nodup→(∀ x∈l,x∈m)→l.length≤m.length
 | [],m,_,_=>l9 _
 | a::l,m,nd,sub=>by
  obtain⟨n1,n2⟩:=p0.mp nd
  have ha:=sub a i9
  have:=rR (l:=l) (m:=m.erase a) n2 fun x hx=>(aZb (fun z=>n1 (by rw[← z];exact hx))).mpr (sub x (g9 _ hx))
  rw[aZL ha] at this
  have:0<m.length:=aXV ha
  rw[l7]
  omega
theorem vE{es:List (Nat×Nat×List Nat)}(nd:(es.map (·.1)).Nodup)(hl:∀ e∈es,cE e.1):es.length≤8:=by
 have:=rR (m:=[97,98,99,100,65,66,67,68]) nd fun x hx=>by
  obtain⟨e,he,rfl⟩:=i3.mp hx
  have:=hl e he
  unfold cE at this
  simp
  omega
 rw[b7] at this
 exact this
theorem lN{i c g:Nat}{t:List Nat}{es:List (Nat×Nat×List Nat)}:(bD S i c g t es).al.length≤S.al.length+1:=by
 unfold bD
 split
 ·exact aQp _
 ·split
  ·exact aQp _
  ·show (S.al++_).length≤_;rw[c6];exact b9 _
theorem lG{ab:Nat}{t:List Nat}:∀ {es:List (Nat×Nat×List Nat)} {T:WvS},(underW ab t T es).al.length≤T.al.length+es.length
 | [],T=>b9 _
 | e::es,T=>by
  have:=lG (ab:=ab) (t:=t) (es:=es) (T:=bD T ab e.1 e.2.1 (lay (back t++e.2.2)) (T.ws.getD ab []))
  have h2:=lN (S:=T) (i:=ab) (c:=e.1) (g:=e.2.1) (t:=lay (back t++e.2.2)) (es:=T.ws.getD ab [])
  rw[l7]
  show (underW ab t (bD T ab e.1 e.2.1 (lay (back t++e.2.2)) (T.ws.getD ab [])) es).al.length≤_
  omega
def DT(S:WvS):WvS:={ hs:=S.hs++[S.hs.length],ts:=S.ts++[[]],ws:=S.ws++[[]],al:=S.al }
def φN(φ:Nat→List Nat)(N:Nat)(v:List Nat):Nat→List Nat:=fun j=>if j=N then v else φ j
theorem eG{α:Type}{xs:List α}{v y:α}{j:Nat}(h:(xs++[v])[j]?=some y):(j<xs.length∧xs[j]?=some y)∨(j=xs.length∧y=v):=by
 rcases Nat.lt_trichotomy j xs.length with q | q | q
 ·rw[p6 q] at h;exact .inl ⟨q,h⟩
 ·subst q
  rw[u5 (b9 _)] at h
  simp at h
  exact .inr ⟨rfl,h.symm⟩
 ·rw[u5 (by omega)] at h
  have:j - xs.length=(j - xs.length - 1)+1:=by omega
  rw[this] at h
  simp at h
theorem WI.new(I:WI h φ (fun x=>x) rk L S){v:List Nat}(hv:AllL v)(hl:v.length≤L):WI h (φN φ S.hs.length v) (fun x=>x) rk L (DT S):=by
 have hold:∀ {i:Nat},i<S.hs.length→φN φ S.hs.length v i=φ i:=fun {i} hi=>by unfold φN;rw[if_neg (by omega)]
 have hnew:φN φ S.hs.length v S.hs.length=v:=by unfold φN;rw[if_pos rfl]
 have ln:(S.hs++[S.hs.length]).length=S.hs.length+1:=by rw[c6];rfl
 refine⟨?_,?_,?_,?_,?_,?_,?_,?_,I.ha⟩
 ·show (S.ts++[[]]).length=(S.hs++[S.hs.length]).length
  rw[c6,ln,I.lt];rfl
 ·show (S.ws++[[]]).length=(S.hs++[S.hs.length]).length
  rw[c6,ln,I.lw];rfl
 ·intro i a hi
  show a<(S.hs++[S.hs.length]).length∧_
  rw[ln]
  rcases eG hi with ⟨q,hi⟩ | ⟨rfl,rfl⟩
  ·obtain⟨a1,a2,a3,a4⟩:=I.hd i a hi
   exact⟨by omega,a2,a3,a4⟩
  ·exact⟨by omega,.inl rfl,rfl,fun _=>rfl⟩
 ·intro i hi
  have hi':i<S.hs.length+1:=by rw[← ln];exact hi
  refine⟨hi,?_⟩
  show (S.hs++[S.hs.length])[i]?=some i
  by_cases q:i<S.hs.length
  ·rw[p6 q];exact(I.rt i q).2
  ·have:i=S.hs.length:=by omega
   subst this
   rw[u5 (b9 _)]
   simp
 ·intro i a t hi ht
  have ht':(S.ts++[[]])[i]?=some t:=ht
  rcases eG hi with ⟨q,hi⟩ | ⟨rfl,rfl⟩
  ·rcases eG ht' with ⟨_,ht⟩ | ⟨z,_⟩
   ·rw[hold q,hold (I.hd i a hi).1]
    exact I.tn i a t hi ht
   ·rw[I.lt] at z;omega
  ·rcases eG ht' with ⟨z,_⟩ | ⟨_,rfl⟩
   ·rw[I.lt] at z;omega
   ·rw[hnew];exact(eX hv).symm
 ·intro i es hi
  rcases eG (show (S.ws++[[]])[i]?=some es from hi) with ⟨q,hi⟩ | ⟨_,rfl⟩
  ·obtain⟨w1,w2⟩:=I.wy i es hi
   refine⟨w1,fun e he=>?_⟩
   obtain⟨a,b,c⟩:=w2 e he
   refine⟨a,by show _<(S.hs++[S.hs.length]).length;rw[ln];omega,?_⟩
   rw[hold (by rw[I.lw] at q;exact q),hold b]
   exact c
  ·exact⟨by simp,fun e he=>by cases he⟩
 ·intro e he
  obtain⟨a,b,c⟩:=I.al e he
  refine⟨by show _<(S.hs++[S.hs.length]).length;rw[ln];omega,by show _<(S.hs++[S.hs.length]).length;rw[ln];omega,?_⟩
  rw[hold a,hold b]
  exact c
 ·intro i
  unfold φN
  split
  ·exact⟨hv,hl⟩
  ·exact I.fa i
theorem EI.new(X:EI E (fun x=>x) S)(hw:S.ws.length=S.hs.length):EI E (fun x=>x) (DT S):=by
 refine⟨fun p c q hE=>?_,fun p c q hE=>?_,fun i es hi e he=>?_⟩
 ·obtain⟨a,b⟩:=X.lt p c q hE
  show p<(S.hs++[S.hs.length]).length∧q<(S.hs++[S.hs.length]).length
  rw[c6]
  simp
  omega
 ·obtain⟨es,g,t,a,b,d⟩:=X.on p c q hE
  refine⟨es,g,t,?_,b,d⟩
  show (S.ws++[[]])[p]?=_
  rw[p6 (a9.mp a).1]
  exact a
 ·rcases eG (show (S.ws++[[]])[i]?=some es from hi) with ⟨_,hi⟩ | ⟨_,rfl⟩
  ·exact X.of i es hi e he
  ·cases he
def Me(E:Nat→Nat→Nat→Prop):Prop:=∀ p c q,E p c q→cE c∧E q (con c) p
def Fw(E:Nat→Nat→Nat→Prop)(ρ:Nat→Nat)(z:Nat):List Nat→Nat→Prop
 | [],y=>z=y
 | c::w,y=>∃ p q,ρ p=z∧E p c q∧Fw E ρ (ρ q) w y
theorem Fw.app:∀ {w v:List Nat} {x y z:Nat},Fw E ρ x w y→Fw E ρ y v z→Fw E ρ x (w++v) z
 | [],v,x,y,z,a,b=>by cases a;exact b
 | c::w,v,x,y,z,⟨p,q,a1,a2,a3⟩,b=>⟨p,q,a1,a2,Fw.app a3 b⟩
theorem Fw.back(hs:Me E):∀ {w:List Nat} {x y:Nat},Fw E ρ x w y→Fw E ρ y (Ma.back w) x
 | [],x,y,a=>by cases a;rfl
 | c::w,x,y,⟨p,q,a1,a2,a3⟩=>by
  have ih:=Fw.back hs a3
  have e:Ma.back (c::w)=Ma.back w++[con c]:=by rw[show c::w=[c]++w from rfl,dN];rfl
  rw[e]
  exact ih.app ⟨q,p,rfl,(hs p c q a2).2,a1⟩
theorem Fw.mono{E':Nat→Nat→Nat→Prop}(hm:∀ p c q,E p c q→E' p c q):∀ {w:List Nat} {x y:Nat},Fw E ρ x w y→Fw E' ρ x w y
 | [],x,y,a=>a
 | c::w,x,y,⟨p,q,a1,a2,a3⟩=>⟨p,q,a1,hm _ _ _ a2,Fw.mono hm a3⟩
theorem EI.det(I:WI h φ ρ rk L S)(X:EI E ρ S)(h0:S.al=[])(hid:∀ x,ρ (ρ x)=ρ x):∀ p c q p' q',E p c q→E p' c q'→ρ p=ρ p'→ρ q=ρ q':=by
 intro p c q p' q' hE hE' e
 obtain⟨es,g,t,a1,a2,a3⟩:=X.on p c q hE
 obtain⟨es',g',t',b1,b2,b3⟩:=X.on p' c q' hE'
 rw[← e,a1] at b1
 cases b1
 rw[h0] at a3 b3
 have m1:=nU (I.wy _ es a1).1 a2
 have m2:=nU (I.wy _ es a1).1 b2
 rw[m1] at m2
 cases m2
 exact(Lnk.nil hid a3).symm.trans (Lnk.nil hid b3)
end
abbrev wU:=Nat×Nat×List Nat
def DcIs(H:Hp)(kvs:List (cQ×V))(es:List wU):Prop:=Paired (fun (kv:cQ×V) (e:wU)=>kv.1=.inr (S [e.1])∧∃ t,kv.2=.ref t∧H t=some (.tup [.int (e.2.1:Nat),.str (S e.2.2)])) kvs es
def cT(l:List Nat):List V:=l.map fun (i:Nat)=>V.int i
theorem dQ(l:List Nat):(cT l).length=l.length:=by unfold cT;rw[b7]
theorem iV{l:List Nat}{i a:Nat}(h:l[i]?=some a):(cT l)[i]?=some (.int (a:Nat)):=by unfold cT;rw[c7,h];rfl
theorem rM(l:List Nat)(a:Nat):cT l++[.int (a:Nat)]=cT (l++[a]):=by unfold cT;rw[i7];rfl
theorem xK(l:List Nat)(i a:Nat):(cT l).set i (.int (a:Nat))=cT (l.set i a):=by unfold cT;rw[aKV]
theorem DcIs.mono{H H':Hp}{kvs:List (cQ×V)}{es:List wU}(ht:∀ t xs,H t=some (.tup xs)→H' t=some (.tup xs))(h:DcIs H kvs es):DcIs H' kvs es :=
 Paired.mapP h fun kv e ⟨a,t,b,c⟩=>⟨a,t,b,ht _ _ c⟩
theorem BN{c d:Nat}(h:(Sum.inr (S [c]):cQ)=Sum.inr (S [d])):c=d:=by
 have z2:=aKY h
 have:=congrArg (fun y:Str=>y.cps.toList) z2
 simpa [S] using this
theorem DcIs.val{H:Hp}{c:Nat}:∀ {kvs:List (cQ×V)} {es:List wU},DcIs H kvs es→match dD es c with
  | none=>cZ kvs (.inr (S [c]))=none
  | some r=>∃ t,cZ kvs (.inr (S [c]))=some (.ref t)∧H t=some (.tup [.int (r.1:Nat),.str (S r.2)])
 | [],[],.nil=>rfl
 | kv::kvs,e::es,.cons ⟨a,t,b,d⟩ r=>by
  have ih:=DcIs.val (c:=c) (show DcIs H kvs es from r)
  by_cases q:e.1=c
  ·have:dD (e::es) c=some e.2:=by unfold dD;rw[List.find?_cons_of_pos (by simpa using q)];rfl
   rw[this]
   refine⟨t,?_,d⟩
   rw[dJ (by rw[a,q]),b]
  ·have e1:dD (e::es) c=dD es c:=by unfold dD;rw[aZ2 (by simpa using q)]
   rw[e1,dL (show ¬ kv.1=Sum.inr (S [c]) from fun z=>q (BN (a.symm.trans z)))]
   exact ih
theorem DcIs.put{H:Hp}{kvs:List (cQ×V)}{es:List wU}{c g:Nat}{w:List Nat}{t:Addr}(h:DcIs H kvs es)(hn:dD es c=none)(ht:H t=some (.tup [.int (g:Nat),.str (S w)])):DcIs H (dE kvs (.inr (S [c])) (.ref t)) (es++[(c,g,w)]):=by
 have hv:=h.val (c:=c)
 rw[hn] at hv
 have hv:cZ kvs (.inr (S [c]))=none:=hv
 rw[wY _ hv]
 exact aJY h ⟨rfl,t,rfl,ht⟩
structure WvC(C:Addr)(H:Hp)(p dx hd tn wy al:Addr)(ds as:List Addr)(Z:WvS):Prop where
 nd:(hd::tn::wy::al::ds).Nodup
 ob:H p=some (.ins C dx (wf hd tn wy al))
 hh:H hd=some (.lst (cT Z.hs))
 ht:H tn=some (.lst (cF Z.ts))
 hw:H wy=some (.lst (ds.map V.ref))
 ha:H al=some (.lst (as.map V.ref))
 ld:ds.length=Z.ws.length
 dc:∀ (i:Nat) (d:Addr) (es:List wU),ds[i]?=some d→Z.ws[i]?=some es→∃ kvs,H d=some (.dK kvs)∧DcIs H kvs es
 la:as.length=Z.al.length
 at':∀ (j:Nat) (a:Addr) (e:Nat×List Nat×Nat),as[j]?=some a→Z.al[j]?=some e→H a=some (.tup [.int (e.1:Nat),.str (S e.2.1),.int (e.2.2:Nat)])
def FrW(M:List Addr)(H H':Hp):Prop:=∀ b o,H b=some o→b ∉ M→H' b=some o
def MU(H:Hp)(M M':List Addr):Prop:=∀ x∈M',x∈M∨H x=none
theorem FrW.refl(M:List Addr)(H:Hp):FrW M H H:=fun _ _ h _=>h
theorem FrW.ofSame{M:List Addr}{H H':Hp}(s:Same H H'):FrW M H H':=fun b o h _=>s b o h
theorem FrW.trans{M M1:List Addr}{H H1 H2:Hp}(a:FrW M H H1)(u:MU H M M1)(b:FrW M1 H1 H2):FrW M H H2:=fun x o h n=>b x o (a x o h n) fun z=>(u x z).elim n fun q=>by rw[h] at q;cases q
theorem FrW.upd{M:List Addr}{H H':Hp}{x:Addr}{o:HO}(a:FrW M H H')(hx:x∈M):FrW M H (L2.upd H' x o):=fun b u h n=>by rw[aE (fun z=>n (by rw[z];exact hx))];exact a b u h n
theorem MU.refl(H:Hp)(M:List Addr):MU H M M:=fun _ h=>.inl h
section
variable {C:Addr}{H H':Hp}{p dx hd tn wy al:Addr}{ds as:List Addr}{Z:WvS}
theorem WvC.same(w:WvC C H p dx hd tn wy al ds as Z)(s:Same H H'):WvC C H' p dx hd tn wy al ds as Z :=
 ⟨w.nd,s _ _ w.ob,s _ _ w.hh,s _ _ w.ht,s _ _ w.hw,s _ _ w.ha,w.ld,fun i d es h1 h2=>let ⟨kvs,a,b⟩:=w.dc i d es h1 h2;⟨kvs,s _ _ a,b.mono fun t xs q=>s _ _ q⟩,w.la,fun j a e h1 h2=>s _ _ (w.at' j a e h1 h2)⟩
theorem WvC.out(w:WvC C H p dx hd tn wy al ds as Z){b:Addr}{o:HO}(e:H b=some o)(h1:∀ xs,o≠.lst xs)(h2:∀ kvs,o≠.dK kvs):b ∉ hd::tn::wy::al::ds:=fun z=>by
 have k:∀ {o':HO},H b=some o'→o=o':=fun q=>by rw[e] at q;exact j1 q
 rcases d3.mp z with rfl | z
 ·exact h1 _ (k w.hh)
 rcases d3.mp z with rfl | z
 ·exact h1 _ (k w.ht)
 rcases d3.mp z with rfl | z
 ·exact h1 _ (k w.hw)
 rcases d3.mp z with rfl | z
 ·exact h1 _ (k w.ha)
 ·obtain⟨i,hi⟩:=p8 z
  obtain⟨es,hes⟩:∃ es,Z.ws[i]?=some es:=⟨_,b0 (by rw[← w.ld];exact(a9.mp hi).1)⟩
  obtain⟨kvs,q,_⟩:=w.dc i b es hi hes
  exact h2 _ (k q)
theorem WvC.tup(w:WvC C H p dx hd tn wy al ds as Z)(f:FrW (hd::tn::wy::al::ds) H H'){t:Addr}{xs:List V}(e:H t=some (.tup xs)):H' t=some (.tup xs):=f t _ e (w.out e (by intro xs z;cases z) (by intro kvs z;cases z))
theorem WvC.self(w:WvC C H p dx hd tn wy al ds as Z)(f:FrW (hd::tn::wy::al::ds) H H'):H' p=some (.ins C dx (wf hd tn wy al)):=f p _ w.ob (w.out w.ob (by intro xs z;cases z) (by intro kvs z;cases z))
theorem WvC.put1{x:Addr}{o:HO}(hx:x∈hd::tn::wy::al::ds):FrW (hd::tn::wy::al::ds) H (L2.upd H x o):=(FrW.refl _ H).upd hx
theorem WvC.upHd(w:WvC C H p dx hd tn wy al ds as Z)(l:List Nat):WvC C (L2.upd H hd (.lst (cT l))) p dx hd tn wy al ds as { Z with hs:=l }:=by
 have f:FrW (hd::tn::wy::al::ds) H (L2.upd H hd (.lst (cT l))):=WvC.put1 i9
 obtain⟨n1,_⟩:=p0.mp w.nd
 have ne:∀ {b:Addr},b∈tn::wy::al::ds→b≠hd:=fun hb z=>n1 (z ▸ hb)
 refine⟨w.nd,w.self f,aB,by rw[aE (ne (by simp))];exact w.ht,by rw[aE (ne (by simp))];exact w.hw,by rw[aE (ne (by simp))];exact w.ha,w.ld,fun i d es h1 h2=>?_,w.la,fun j a e h1 h2=>w.tup f (w.at' j a e h1 h2)⟩
 obtain⟨kvs,a,b⟩:=w.dc i d es h1 h2
 exact⟨kvs,by rw[aE (ne (by simp[b8 h1]))];exact a,b.mono fun t xs q=>w.tup f q⟩
theorem WvC.upTn(w:WvC C H p dx hd tn wy al ds as Z)(l:List (List Nat)):WvC C (L2.upd H tn (.lst (cF l))) p dx hd tn wy al ds as { Z with ts:=l }:=by
 have f:FrW (hd::tn::wy::al::ds) H (L2.upd H tn (.lst (cF l))):=WvC.put1 (by simp)
 obtain⟨n1,n2⟩:=p0.mp w.nd
 obtain⟨n3,_⟩:=p0.mp n2
 have ne:∀ {b:Addr},b∈wy::al::ds→b≠tn:=fun hb z=>n3 (z ▸ hb)
 have nh:hd≠tn:=fun z=>n1 (z ▸ i9)
 refine⟨w.nd,w.self f,by rw[aE nh];exact w.hh,aB,by rw[aE (ne (by simp))];exact w.hw,by rw[aE (ne (by simp))];exact w.ha,w.ld,fun i d es h1 h2=>?_,w.la,fun j a e h1 h2=>w.tup f (w.at' j a e h1 h2)⟩
 obtain⟨kvs,a,b⟩:=w.dc i d es h1 h2
 exact⟨kvs,by rw[aE (ne (by simp[b8 h1]))];exact a,b.mono fun t xs q=>w.tup f q⟩
theorem WvC.upAl(w:WvC C H p dx hd tn wy al ds as Z)(as':List Addr)(l:List (Nat×List Nat×Nat))(hl:as'.length=l.length)(ha:∀ (j:Nat) (a:Addr) (e:Nat×List Nat×Nat),as'[j]?=some a→l[j]?=some e→H a=some (.tup [.int (e.1:Nat),.str (S e.2.1),.int (e.2.2:Nat)])) :
  WvC C (L2.upd H al (.lst (as'.map V.ref))) p dx hd tn wy al ds as' { Z with al:=l }:=by
 have f:FrW (hd::tn::wy::al::ds) H (L2.upd H al (.lst (as'.map V.ref))):=WvC.put1 (by simp)
 obtain⟨n1,n2⟩:=p0.mp w.nd
 obtain⟨n3,n4⟩:=p0.mp n2
 obtain⟨n5,n6⟩:=p0.mp n4
 obtain⟨n7,_⟩:=p0.mp n6
 have nh:hd≠al:=fun z=>n1 (z ▸ by simp)
 have nt:tn≠al:=fun z=>n3 (z ▸ by simp)
 have nw:wy≠al:=fun z=>n5 (z ▸ by simp)
 refine⟨w.nd,w.self f,by rw[aE nh];exact w.hh,by rw[aE nt];exact w.ht,by rw[aE nw];exact w.hw,aB,w.ld,fun i d es h1 h2=>?_,hl,fun j a e h1 h2=>w.tup f (ha j a e h1 h2)⟩
 obtain⟨kvs,a,b⟩:=w.dc i d es h1 h2
 exact⟨kvs,by rw[aE (fun z=>n7 (by rw[← z];exact b8 h1))];exact a,b.mono fun t xs q=>w.tup f q⟩
theorem WvC.upDc(w:WvC C H p dx hd tn wy al ds as Z){i:Nat}{d:Addr}(hi:ds[i]?=some d)(kvs:List (cQ×V))(es:List wU)(hk:DcIs H kvs es):WvC C (L2.upd H d (.dK kvs)) p dx hd tn wy al ds as { Z with ws:=Z.ws.set i es }:=by
 have hm:=b8 hi
 have f:FrW (hd::tn::wy::al::ds) H (L2.upd H d (.dK kvs)):=WvC.put1 (by simp[hm])
 obtain⟨n1,n2⟩:=p0.mp w.nd
 obtain⟨n3,n4⟩:=p0.mp n2
 obtain⟨n5,n6⟩:=p0.mp n4
 obtain⟨n7,n8⟩:=p0.mp n6
 have nh:hd≠d:=fun z=>n1 (z ▸ by simp[hm])
 have nt:tn≠d:=fun z=>n3 (z ▸ by simp[hm])
 have nw:wy≠d:=fun z=>n5 (z ▸ by simp[hm])
 have na:al≠d:=fun z=>n7 (z ▸ hm)
 refine⟨w.nd,w.self f,by rw[aE nh];exact w.hh,by rw[aE nt];exact w.ht,by rw[aE nw];exact w.hw,by rw[aE na];exact w.ha,by show ds.length=(Z.ws.set i es).length;rw[p5];exact w.ld,fun j d' es' h1 h2=>?_,w.la,fun j a e h1 h2=>w.tup f (w.at' j a e h1 h2)⟩
 rcases fE h2 with ⟨rfl,rfl,_⟩ | ⟨hn,h2⟩
 ·rw[hi] at h1
  cases h1
  exact⟨kvs,aB,hk.mono fun t xs q=>w.tup f q⟩
 ·obtain⟨kvs',a,b⟩:=w.dc j d' es' h1 h2
  have nd:d'≠d:=fun z=>by
   subst z
   obtain⟨l1,e1⟩:=a9.mp h1
   obtain⟨l2,e2⟩:=a9.mp hi
   exact hn ((aXE n8).mp (e1.trans e2.symm))
  exact⟨kvs',by rw[aE nd];exact a,b.mono fun t xs q=>w.tup f q⟩
theorem WvC.upNew(w:WvC C H p dx hd tn wy al ds as Z){d:Addr}(hd0:H d=none):WvC C (L2.upd (L2.upd H d (.dK [])) wy (.lst ((ds++[d]).map V.ref))) p dx hd tn wy al (ds++[d]) as { Z with ws:=Z.ws++[[]] }:=by
 have w1:=w.same (Same.new (o:=.dK []) hd0)
 have e1:L2.upd H d (.dK []) d=some (.dK []):=aB
 have nin:d ∉ hd::tn::wy::al::ds:=fun z=>by
  rcases d3.mp z with rfl | z
  ·rw[w.hh] at hd0;cases hd0
  rcases d3.mp z with rfl | z
  ·rw[w.ht] at hd0;cases hd0
  rcases d3.mp z with rfl | z
  ·rw[w.hw] at hd0;cases hd0
  rcases d3.mp z with rfl | z
  ·rw[w.ha] at hd0;cases hd0
  ·obtain⟨i,hi⟩:=p8 z
   obtain⟨es,hes⟩:∃ es,Z.ws[i]?=some es:=⟨_,b0 (by rw[← w.ld];exact(a9.mp hi).1)⟩
   obtain⟨kvs,q,_⟩:=w.dc i d es hi hes
   rw[q] at hd0;cases hd0
 generalize L2.upd H d (.dK [])=G at w1 e1
 have f:FrW (hd::tn::wy::al::ds) G (L2.upd G wy (.lst ((ds++[d]).map V.ref))):=WvC.put1 (by simp)
 obtain⟨n1,n2⟩:=p0.mp w.nd
 obtain⟨n3,n4⟩:=p0.mp n2
 obtain⟨n5,n6⟩:=p0.mp n4
 have nh:hd≠wy:=fun z=>n1 (z ▸ by simp)
 have nt:tn≠wy:=fun z=>n3 (z ▸ by simp)
 have na:al≠wy:=fun z=>n5 (z ▸ by simp)
 have nd':(hd::tn::wy::al::(ds++[d])).Nodup:=by
  have:hd::tn::wy::al::(ds++[d])=(hd::tn::wy::al::ds)++[d]:=rfl
  rw[this,aQc]
  exact⟨w.nd,by simp,fun a ha b hb z=>nin (by rw[← d6.mp hb,← z];exact ha)⟩
 have nwd:d≠wy:=fun z=>nin (z ▸ by simp)
 refine⟨nd',w1.self f,by rw[aE nh];exact w1.hh,by rw[aE nt];exact w1.ht,aB,by rw[aE na];exact w1.ha,by show (ds++[d]).length=(Z.ws++[[]]).length;rw[c6,c6,w.ld];rfl,fun i d' es h1 h2=>?_,w.la,fun j a e h1 h2=>w1.tup f (w1.at' j a e h1 h2)⟩
 rcases eG h2 with ⟨q,h2⟩ | ⟨q,rfl⟩
 ·rw[p6 (by rw[w.ld];exact q)] at h1
  obtain⟨kvs,a,b⟩:=w1.dc i d' es h1 h2
  exact⟨kvs,by rw[aE (fun z=>n5 (by rw[← z];exact g9 _ (b8 h1)))];exact a,b.mono fun t xs q=>w1.tup f q⟩
 ·rcases eG h1 with ⟨q',_⟩ | ⟨_,rfl⟩
  ·rw[w.ld] at q';omega
  ·exact⟨[],by rw[aE nwd];exact e1,.nil⟩
end
def Wat(C:Addr)(H:Hp)(p:Addr)(M:List Addr)(Z:WvS):Prop:=∃ dx hd tn wy al ds as,M=hd::tn::wy::al::ds∧WvC C H p dx hd tn wy al ds as Z
theorem Wat.same{C:Addr}{H H':Hp}{p:Addr}{M:List Addr}{Z:WvS}(w:Wat C H p M Z)(s:Same H H'):Wat C H' p M Z:=by
 obtain⟨dx,hd,tn,wy,al,ds,as,e,w⟩:=w;exact⟨dx,hd,tn,wy,al,ds,as,e,w.same s⟩
end Lw
namespace Lw
open PySem PySem.Spec PyProof.Rows L2 Ma
def Mj(N P:List Str)(sc:Scope):Bool:=decide (sc.kind=.function) && (decide (sc.isCoroutine=false) && (decide (sc.isGenerator=false) && (decide N.Nodup && (decide (N.take P.length=P) && (P.all (fun x=>decide (sc.names.lookup x=some .local∨sc.names.lookup x=some .cell)) && sc.names.all (fun y=>decide (y.2≠.free)))))))
theorem gI{N P:List Str}{sc:Scope}(h:Mj N P sc=true):FnScope N P sc:=by
 unfold Mj at h
 simp only [y7,decide_eq_true_eq,y1] at h
 obtain⟨a,b,c,d,e,f,g⟩:=h
 exact⟨a,b,c,d,e,f,g⟩
theorem pC{X:Cx}{x:Str}{ps:List Str}{n m:Nat}{sp:Sp}{e:Expr}{es:List Expr}{t:TA}{p pos:Pos}(c:Cl X.prog X.w X.K X.mg X.base x ps n sp)(hr:Room m X.A)(ha:PA X (e::es) t)(hg:Gl X x:=by rfl)(hle:n≤m:=by first | decide | exact b9 _)
  (hdb:(x == ("__debug__":Str))=false:=by decide) (he:starEach (e::es) X.env=(false,eval e X.env)::starEach es X.env:=by rfl) (hpl:(backTo pos (starEach es X.env)).any (·.1)=false:=by rfl) :
  PE X (.Call (.Name x p) (e::es) [] pos) (Hs sp [] E0 t):=by
 obtain⟨f,fd,F,hm,hk,hb⟩:=c
 exact Gx F (hr.mono hle) hg hm hk hb .nil fX ha hdb he hpl
abbrev DI(K:b5)(x:Str)(st:Stmt):Prop:=∃ (f:Addr) (oc kV dc pm cd ct:Value) (od an:Option Addr) (sl:Array (Option Value)),PySem.W.nsIn K mainGlobals x=some (some (.ref f))∧K.lookup f=some ⟨oc,od,.func (PySem.W.fnOf x x (eK st) (dO st) (aG st) .none kV dc pm an cd ct),sl⟩∧PySem.W.codeIn K cd x=true∧PySem.W.keepIn K (.ref f)=true
theorem jD{K:b5}{h:Heap}{mg:Str→Option Value}{x:Str}{st:Stmt}{ps:List Str}(d:DI K x st)(X:K.In h)(G:h.Ns mainGlobals mg)(hb:∀ (kV doc pm:Value) (an:Option Addr) (cdv ct:Value) (us:List Value),us.length=ps.length→bindArgs (PySem.W.fnOf x x (eK st) (dO st) (aG st) .none kV doc pm an cdv ct) ⟨us,[]⟩=pure (ps.zip us)):∃ f fd,Df K mg x st ps f fd:=by
 obtain⟨f,oc,kV,dc,pm,cd,ct,od,an,sl,a,l,c,k⟩:=d
 exact⟨f,_,jN l c k,(jN l c k).binds hb,u9 X G a⟩
abbrev DJ(K:b5)(C:Addr)(x q:Str)(st:Stmt):Prop:=∃ (f:Addr) (oc kV dc pm cd ct:Value) (od an:Option Addr) (sl:Array (Option Value)),PySem.W.findIn K (.ref C) x=some (some (.ref f))∧PySem.W.isFn K (.ref f)=true∧K.lookup f=some ⟨oc,od,.func (PySem.W.fnOf x q (eK st) (dO st) (aG st) .none kV dc pm an cd ct),sl⟩∧PySem.W.codeIn K cd q=true∧PySem.W.keepIn K (.ref f)=true
theorem FI{K:b5}{C:Addr}{x q:Str}{st:Stmt}{ps:List Str}(d:DJ K C x q st)(hb:∀ (kV doc pm:Value) (an:Option Addr) (cdv ct:Value) (us:List Value),us.length=ps.length→bindArgs (PySem.W.fnOf x q (eK st) (dO st) (aG st) .none kV doc pm an cdv ct) ⟨us,[]⟩=pure (ps.zip us)):∃ f fd,DfM K C x q st ps f fd:=by
 obtain⟨f,oc,kV,dc,pm,cd,ct,od,an,sl,a,i,l,c,k⟩:=d
 exact⟨f,_,MH a i l c k hb⟩
end Lw
namespace L2
open PySem PySem.Spec PyProof.Rows
section
variable {X:Cx}{tg:Expr}
def Kx(ta:TA):TI:=fun σ H R=>ta σ H fun vs H1=>∃ z:Str,vs=[.str z]∧z.length≤60000∧R (Kj z) H1
theorem Gk{a:Expr}{ta:TA}{p pos:Pos}(hg:Gl X "reversed")(hm:X.mg "reversed"=none)(ha:PA X [a] ta)(hs:starEach [a] X.env=[(false,eval a X.env)]:=by rfl):PI X tg (.Call (.Name "reversed" p) [a] [] pos) (Kx ta):=by
 intro pins s σ H R I h
 refine Call_ (iK I hg hm boot_reversed (x9 (bS (ha pos pins s σ H _ I h) fun us s1 ⟨vs,H1,I1,r1,q1⟩=>?_) hs rfl))
 obtain⟨z,e,hz,q⟩:=q1
 subst e
 obtain⟨u,rfl,ru⟩:=r1.one
 obtain⟨t,rfl⟩:=ru
 refine iH (by omega) fun tk=>?_
 have I2:Inv X pins σ H1 { s1 with heap:=s1.heap.push { cls:=.type "reversed",data:=.fields #[.str z t,rawInt ((z.length:Int) - 1)] },toks:=tk }:=I1.kept fun b o e=>b6 _ e
 have st:(s1.heap.push { cls:=.type "reversed",data:=.fields #[.str z t,rawInt ((z.length:Int) - 1)] }).IsRvd s1.heap.objs.size z t ((z.length:Int) - 1):=⟨_,d9 _ rfl,rfl,rfl⟩
 refine fO st ?_
 refine⟨s1.heap.objs.size,[s1.heap.objs.size],_,_,H1,rfl,I2,xC z t _ (by omega),⟨l9 _,?_⟩,fun b hb=>?_,q⟩
 ·have e0:(z.cps.size:Int) - 1 - ((0:Nat):Int)=(z.length:Int) - 1:=by show (z.cps.size:Int) - 1 - ((0:Nat):Int)=(z.cps.size:Int) - 1;omega
  rw[e0];exact st
 ·have e:b=s1.heap.objs.size:=by simpa using hb
  subst e
  exact I1.fpOk (b9 _) (I1.hok.fresh (b9 _))
end
theorem BB{z:Str}{ws:List Str}{us:List Value}(r:Vals (ws.map V.str) us){i:Nat}(hi:i<us.length):∃ w t,ws[i]?=some w∧us[i]=.str w t:=by
 have hl:us.length=ws.length:=by rw[← r.length,b7]
 have hw:ws[i]?=some ws[i]:=b0 (by omega)
 obtain⟨u,hu,ru⟩:=r.get (show (ws.map V.str)[i]?=some (.str ws[i]) by rw[c7,hw];rfl)
 obtain⟨t,rfl⟩:=ru
 rw[b0 hi] at hu
 exact⟨_,t,hw,j1 hu⟩
theorem AN{X:Cx}{K:b5}(hK:X.K=K):Ba X "list.index" (fun x xs H Q=>∃ (a:Addr) (ws:List Str) (z:Str) (j:Nat),x=.ref a∧xs=[.str z]∧SqL K H a (ws.map V.str)∧ws[j]?=some z∧(∀ m,m<j→ws[m]?≠some z)∧j<1000∧Q (.int ((j:Nat):Int)) H):=by
 subst hK
 intro pins s σ H x xs v us Q I rx rs h
 obtain⟨a,ws,z,j,rfl,rfl,hq,hj,hno,hsm,q⟩:=h
 cases rx
 obtain⟨u,rfl,ru⟩:=rs.one
 obtain⟨t,rfl⟩:=ru
 obtain⟨its,r,pl,_⟩:=I.list hq
 obtain⟨_,hall⟩:=zI z r
 obtain⟨⟨cls,dd,data,sl⟩,ho,hc,n,hd⟩:=id pl.isList
 simp only at hc hd
 subst hc hd
 have hl:its.length=ws.length:=by rw[← r.length,b7]
 have hj':j<its.length:=by rw[hl];exact(a9.mp hj).1
 refine call_meets aQj ⟨_,ho,rfl⟩ aZN (aZC _ _) (aJG a its.toArray n dd sl (.str z t) (Hi z) j (by simpa using hj') (by omega) ?_ ?_) ⟨ho,fun y hy=>?_,?_⟩
 ·obtain⟨w,tw,h1,h2⟩:=BB (z:=z) r hj'
  rw[hj] at h1
  cases h1
  show Hi z its[j]=true
  rw[h2]
  exact beq_self_eq_true z
 ·intro m hm hmj
  have hm':m<its.length:=by simpa using hm
  obtain⟨w,tw,h1,h2⟩:=BB (z:=z) r hm'
  show Hi z its[m]=false
  rw[h2]
  refine beq_eq_false_iff_ne.mpr fun e=>hno m hmj ?_
  rw[h1,e]
 ·obtain⟨w,tw,rfl⟩:=hall y (by simpa using hy)
  exact aZs w tw z t
 ·exact⟨.int _,H,I.tok _,⟨_,rfl⟩,q⟩
end L2
namespace PySem
namespace SeqAt
end SeqAt
end PySem
namespace L2
open PySem PySem.Spec PyProof.Rows
end L2
namespace PySem
open Sem (wp)
open PyProof.Rows
namespace F
end F
end PySem
namespace L2
open PySem PySem.Spec PyProof.Rows
end L2
namespace Lw
open PySem PySem.Spec PyProof.Rows L2 Ma MaR
theorem uP(cs:List Nat):cF (bU cs)=aZ cs:=by unfold cF bU aZ;rw[u7];rfl
def zs(n:Nat):List V:=List.replicate n (.int 0)
theorem Gq(n:Nat):(List.replicate n [V.int 0]).flatten=zs n:=by
 unfold zs
 induction n with
 | zero=>rfl
 | succ n ih=>rw[aQK,aQI,ih,aQK];rfl
def zK:Sp:=fun vs H Q _=>∃ (fl sc:Addr) (n:Nat),vs=[.ref fl,.int (n:Nat)]∧IsFl H fl sc∧1≤n∧n≤4∧∀ (p:Addr) (c:Nat) (sd:List Nat) (H':Hp),H p=none→GoodB n c sd→sd.length≤8→IsChg H' p c sd→IsFl H' fl sc→Kp fl H H'→Q (.ref p) H'
def Er:Sp:=fun vs H Q _=>∃ (n:Nat) (p:Addr) (c:Nat) (sd:List Nat),vs=[.ref p]∧1≤n∧n≤4∧IsChg H p c sd∧GoodB n c sd∧sd.length≤8∧∀ (q:Addr) (H':Hp),Same H H'→IsChg H' q (con c) (nK c sd)→Q (.ref q) H'
theorem NI{a b:Nat}(h:¬ rk b<rk a):DS [a] [b]:=by
 show (if ((1:Nat):Int)=((1:Nat):Int) then HT.lexLt [((rk b:Nat):Int)] [((rk a:Nat):Int)] else _)=false
 rw[if_pos rfl,HT.lexLt_cons]
 by_cases e:((rk b:Nat):Int)=((rk a:Nat):Int)
 ·rw[if_pos e];rfl
 ·rw[if_neg e];exact decide_eq_false (by omega)
theorem GoodB.nodup{n c:Nat}{sd:List Nat}(g:GoodB n c sd):sd.Nodup:=g.ord.imp fun {a b} h e=>by rw[e] at h;exact aQZ _ h
theorem yF{n c:Nat}{sd:List Nat}(h1:1≤n)(h4:n≤4)(g:GoodB n c sd){ws:List (List Nat)}(hp:ws.Perm (bU ((sd.filter fun d=>decide (d≠c))++[con c])))(ho:ws.Pairwise DS):ws=bU (nK c sd):=by
 have b:=g.back h1 h4
 refine tP (fun x hx=>?_) (hp.trans ((xE g.nodup g.has).map _).symm) ho ?_
 ·obtain⟨d,hd,rfl⟩:=i3.mp (hp.mem_iff.mp hx)
  have:=(xE g.nodup g.has).mem_iff.mpr hd
  exact cU (aN (b.side d this))
 ·unfold bU
  rw[aJT]
  exact b.ord.imp fun h=>NI (by omega)
theorem Ey{n:Nat}(h1:1≤n)(h4:n≤4):(aK (n:Nat)).Pairwise fun a b=>rk a<rk b:=by
 rcases A9 h1 h4 with rfl | rfl | rfl | rfl <;> decide
theorem A7{w:List Nat}{i:Nat}{v:V}(h:(aZ w)[i]?=some v):∃ c,w[i]?=some c∧v=.str (S [c]):=by
 unfold aZ at h
 rw[c7] at h
 cases hq:w[i]? with
 | none=>rw[hq] at h;cases h
 | some o=>rw[hq] at h;exact⟨o,rfl,(j1 h).symm⟩
end Lw
namespace PySem
open Sem (wp)
set_option maxHeartbeats 1000000 in
theorem jZ(l:Addr)(items:Array Value) :
  Meets (Builtin.«enumerate.__new__» ⟨[.type "enumerate",.ref l],[]⟩) (fun _ R s=>s.heap.IsTuple l items ∧
   R (.ok (.ret (.ref (s.heap.push { cls:=.type "tuple_iterator",data:=.fields #[.ref l,.int 0 0] }).objs.size)))
    { s with heap:=(s.heap.push { cls:=.type "tuple_iterator",data:=.fields #[.ref l,.int 0 0] }).push { cls:=.type "enumerate",data:=.fields #[.none,.bool false,.ref s.heap.objs.size,rawInt 0,.none,.none] } }) :=
 .of_wp fun prog w A R s h=>by
  obtain⟨hp,g,d,tk,os⟩:=s
  obtain⟨hT,h⟩:=h
  have hsub:=sub_enumerate
  wp_walk
  refine wpAny_stack_any fun st=>wpAny_pure ?_
  split
  ·rename_i c _ _ _ _ _
   cases (c == Value.type "enumerate")
   ·wp_walk using wpAny_pyIter_tuple hT
    exact⟨_,rfl,h⟩
   ·wp_walk using wpAny_pyIter_tuple hT
    exact⟨_,rfl,h⟩
  ·wp_walk using wpAny_pyIter_tuple hT
   exact⟨_,rfl,h⟩
section
variable {prog:Program}{w:World}{A:Around}{E:Value→Shared→Prop}{s:Shared}
theorem lK{l:Addr}{items:Array Value}{Q:Value→Shared→Prop}(hL:s.heap.IsTuple l items)
  (h:∀ h',IsEnum h' (s.heap.objs.size+1) s.heap.objs.size 0 .none→h'.IsTupleIter s.heap.objs.size l 0→h'.objs.size=s.heap.objs.size+2 →
   (∀ b o,s.heap.get? b=some o→h'.get? b=some o)→Q (.ref (s.heap.objs.size+1)) { s with heap:=h' }) :
  wpAny (model prog w) A (call (.type "enumerate") [.ref l]) Q E s:=by
 refine callType_new F.called_enumerate (by decide) (F.typeCall_enumerate_1 _) (F.newCall_enumerate_1 _) (fun obj=>aZ9 obj _) F.entry_enumerate_new
  (jZ l items) ⟨hL,?_⟩
 have hz:(s.heap.push { cls:=.type "tuple_iterator",data:=.fields #[.ref l,.int 0 0] }).objs.size=s.heap.objs.size+1:=y3 ..
 show _∧_
 rw[hz]
 have he:IsEnum ((s.heap.push { cls:=.type "tuple_iterator",data:=.fields #[.ref l,.int 0 0] }).push
   { cls:=.type "enumerate",data:=.fields #[.none,.bool false,.ref s.heap.objs.size,rawInt 0,.none,.none] }) (s.heap.objs.size+1) s.heap.objs.size 0 .none:=by
  have:=d9 (s.heap.push { cls:=.type "tuple_iterator",data:=.fields #[.ref l,.int 0 0] })
   (o:={ cls:=.type "enumerate",data:=.fields #[.none,.bool false,.ref s.heap.objs.size,rawInt 0,.none,.none] }) rfl
  rw[hz] at this;exact this
 refine⟨⟨_,he,rfl⟩,h _ he ⟨_,b6 _ (d9 _ rfl),rfl,rfl⟩ (by rw[y3,hz]) fun b o x=>b6 _ (b6 _ x)⟩
end
end PySem
namespace L2
open PySem PySem.Spec PyProof.Rows
theorem pB{prog:Program}{w:World}{A:Around}(hh:A.handled=none)(it l:Addr)(hne:l≠it)(items:Array Value) :
  Draws prog w A it [it,l] items.size (fun i v=>items[i]?=some v) (fun i h=>h.IsTupleIter it l i∧h.IsTuple l items) where
 live:=fun _ _ st=>let ⟨o,ho,_⟩:=st.1;⟨o,ho⟩
 frame:=fun _ _ _ st hk=>⟨st.1.at fun o e=>hk it (by simp) o e,by obtain⟨o,e,r⟩:=st.2;exact⟨o,hk l (by simp) o e,r⟩⟩
 item:=fun i s Q E hi st hQ=>by
  refine iW st.1 st.2 (x:=items[i]) (by simp[hi]) fun h' hit' hs'=>?_
  exact hQ _ h' s.toks (by simp[hi]) ⟨hit',st.2.extBut hs'.extBut hne⟩ hs'
 done:=fun s Q E st hE=>oJ hh st.1 st.2 (by simp) hE
def Ef(K:b5)(a:Addr):It :=
 ⟨fun i H=>∃ xs x,SqT K H a xs∧xs[i]?=some x,fun i H v H'=>∃ p,v=.ref p∧H p=none∧∀ xs,SqT K H a xs→∃ x,xs[i]?=some x∧H'=upd H p (.tup [.int (i:Nat),x]),fun i H=>∃ xs,SqT K H a xs∧xs.length=i⟩
theorem Ab{P:Program}{w:World}{K:b5}{es:List Expr}{x1}{pos:Pos}(a e it:Addr)(hne:e≠it) :
  Turn P w K (.Tuple es x1 pos) (Ef K a) [e,it] e (fun i h=>(∃ old,IsEnum h e it ((i:Nat):Int) old)∧h.IsTupleIter it a i) where
 mem:=by simp
 obj:=fun i h st b hb=>by
  obtain⟨⟨old,he⟩,o,g,c,d⟩:=st
  simp only [d3,l8,or_false] at hb
  rcases hb with rfl | rfl
  ·exact⟨_,he,fun v z=>by cases z⟩
  ·exact⟨o,g,fun v z=>by rw[d] at z;cases z⟩
 keep:=fun i h h' st k=>by
  obtain⟨⟨old,he⟩,o,g,r⟩:=st
  exact⟨⟨old,k e (by simp) _ he⟩,o,k it (by simp) o g,r⟩
 item:=by
  intro X hP hw hK hc i pins s σ H E I hf st hg
  subst hP hw hK
  obtain⟨⟨old,he⟩,hs⟩:=st
  obtain⟨xs,y,hq,hx⟩:=hg
  obtain⟨its,rv,p,hz⟩:=I.tuple hq
  obtain⟨u,hu,ru⟩:=rv.get hx
  have hl:=rv.length
  have hai:a≠it:=fun c=>by
   obtain⟨o,g,c1,_⟩:=hs
   obtain⟨o2,g2,c2,_⟩:=id p
   subst c
   rw[g2] at g
   cases g
   rw[c1] at c2
   exact absurd (aZ8 c2) (by decide)
  have hea:e≠a:=fun c=>by
   obtain⟨o2,g2,c2,_⟩:=id p
   subst c
   have he':s.heap.get? e=some _:=he
   rw[g2] at he'
   cases he'
   exact absurd (aZ8 c2) (by decide)
  have hei:e ∉ [it,a]:=by simp[hne,hea]
  have DD:=pB (prog:=X.prog) (w:=X.w) (A:=X.A.in1) (I.ok.hd hc) it a hai its.toArray
  have hil:i<xs.length:=(a9.mp hx).1
  refine wpAny_pyNext_enum_itemD DD he ⟨hs,(show s.heap.IsTuple a its.toArray from p)⟩ (by simp;omega) hne hei fun v h1 tk hv ho hs1 hT1 hz1 kp=>⟨_,rfl,?_⟩
  have ev:v=u:=by
   have h3:its[i]?=some v:=by simpa using hv
   rw[hu] at h3
   exact(j1 h3).symm
  subst ev
  refine wpAny_letOwnedTupleGo_enum ho fun h2 he2 e2=>?_
  have ne:s.heap.objs.size≠e:=aQU (d5 he)
  have hT2:h2.get? s.heap.objs.size=some { cls:=.type "tuple",data:=.seq #[.int i tk,v] }:=(e2.2 _ ne).trans hT1
  have hHn:H s.heap.objs.size=none:=I.hok.fresh (b9 _)
  have kpn:∀ b o,b ∉ [e,it]→s.heap.get? b=some o→h2.get? b=some o:=fun b o hn q=>(e2.2 b fun z=>hn (by simp[z])).trans (kp b o (fun z=>hn (by simp[z])) (fun z=>hn (by simp[z])) q)
  refine⟨.ref s.heap.objs.size,upd H s.heap.objs.size (.tup [.int (i:Nat),y]),?_,rfl,⟨_,rfl,hHn,fun ys hy=>⟨y,by rw[I.tuple_inj hy hq];exact hx,rfl⟩⟩,⟨⟨_,by simpa using he2⟩,?_⟩,fun b hb=>?_⟩
  ·exact I.turnedN (t':=tk+1) (h':=h2) kpn hf (b9 _) ⟨by show 2≤sizeLine;decide,[.int i tk,v],.cons ⟨_,rfl⟩ (.cons ru .nil),⟨_,hT2,rfl,0,rfl⟩,⟨_,hT2,rfl⟩⟩
  ·obtain⟨⟨o,g,r⟩,_⟩:=hs1
   exact⟨o,(e2.2 it hne.symm).trans g,r⟩
  ·have hce:b≠s.heap.objs.size:=by
    obtain⟨o1,g1,_⟩:=hs
    simp only [d3,l8,or_false] at hb
    rcases hb with rfl | rfl
    ·exact d8 (d5 he)
    ·exact d8 (d5 g1)
   rw[aE hce]
   exact(hf b hb).1
 done:=by
  intro X hP hw hK hc i pins s σ H E I hf st hg
  subst hP hw hK
  obtain⟨⟨old,he⟩,hs⟩:=st
  obtain⟨xs,hq,hx⟩:=hg
  obtain⟨its,rv,p,hz⟩:=I.tuple hq
  have hl:=rv.length
  have hai:a≠it:=fun c=>by
   obtain⟨o,g,c1,_⟩:=hs
   obtain⟨o2,g2,c2,_⟩:=id p
   subst c
   rw[g2] at g
   cases g
   rw[c1] at c2
   exact absurd (aZ8 c2) (by decide)
  have hi:i=its.toArray.size:=by simp;omega
  subst hi
  have DD:=pB (prog:=X.prog) (w:=X.w) (A:=X.A.in1) (I.ok.hd hc) it a hai its.toArray
  refine wpAny_pyNext_enum_endD DD he ⟨hs,(show s.heap.IsTuple a its.toArray from p)⟩ fun h1 e1=>⟨rfl,?_⟩
  exact I.turnedM (t':=s.toks) (ch:=[e,it]) (fun b o hn q=>e1 b o (fun z=>hn (by simp[z])) q) hf
 self:=fun A i s Q E st h=>by
  obtain⟨⟨old,he⟩,_⟩:=st
  exact wpAny_pyIter_enum he h
section
variable {X:Cx}
def J2(K:b5)(ta:TA):TI:=fun σ H R=>ta σ H fun vs H1=>∃ a,vs=[.ref a]∧(∃ xs,SqT K H1 a xs)∧R (Ef K a) H1
theorem ET{es:List Expr}{x1}{tpos:Pos}{a:Expr}{ta:TA}{p pos:Pos}{K:b5}(hK:X.K=K)(hg:Gl X "enumerate")(hm:X.mg "enumerate"=none)(ha:PA X [a] ta)(hs:starEach [a] X.env=[(false,eval a X.env)]:=by rfl) :
  PI X (.Tuple es x1 tpos) (.Call (.Name "enumerate" p) [a] [] pos) (J2 K ta):=by
 subst hK
 intro pins s σ H R I h
 refine Call_ (iK I hg hm boot_enumerate (x9 (bS (ha pos pins s σ H _ I h) fun us s1 ⟨vs,H1,I1,r1,q1⟩=>?_) hs rfl))
 obtain⟨l,e,⟨xs,hq⟩,q⟩:=q1
 subst e
 obtain⟨u,rfl,ru⟩:=r1.one
 obtain rfl:u=.ref l:=ru
 obtain⟨its,rv,pl,hz⟩:=I1.tuple hq
 refine lK (show s1.heap.IsTuple l its.toArray from pl) fun h' he hit hz kp=>?_
 have I2:Inv X pins σ H1 { s1 with heap:=h' }:=I1.kept (t':=s1.toks) kp
 have hne:s1.heap.objs.size+1≠s1.heap.objs.size:=by omega
 refine wpAny_pyIter_enum he ⟨s1.heap.objs.size+1,[s1.heap.objs.size+1,s1.heap.objs.size],_,_,H1,rfl,I2,Ab l _ _ hne,⟨⟨_,he⟩,hit⟩,fun b hb=>?_,q⟩
 have hle:s1.heap.objs.size≤b:=by
  simp only [d3,l8,or_false] at hb
  rcases hb with h | h <;> rw[h]
  ·exact aQN _ _
  ·exact b9 _
 exact I1.fpOk hle (I1.hok.fresh hle)
end
theorem CI{K:b5}{a:Addr}{xs:List V}{g:TG}{tb:TS}{D:Ends}{σ:St}{H:Hp}(Pv:Nat→St→Hp→Prop)(h0:Pv 0 σ H)(hl:∀ i σ H,i≤xs.length→Pv i σ H→SqT K H a xs)
  (hs:∀ i x p σ H,xs[i]?=some x→H p=none→Pv i σ H→g (.ref p) σ (upd H p (.tup [.int (i:Nat),x])) fun σ2 H2=>tb { D with nx:=Pv (i+1),ct:=Pv (i+1),bk:=D.nx } σ2 H2) (hd:∀ σ H,Pv xs.length σ H→D.nx σ H) :
  ∃ W:Nat→Nat→St→Hp→Prop,(∃ m,W 0 m σ H)∧∀ i m σ H,W i m σ H →
   ((Ef K a).stop i H∧D.nx σ H)∨((Ef K a).go i H∧∃ N:St→Hp→Prop,(∀ σ' H',N σ' H'→∃ m',m' < m∧W (i+1) m' σ' H')∧∀ x H',(Ef K a).yld i H x H'→g x σ H' fun σ2 H2=>tb { D with nx:=N,ct:=N,bk:=D.nx } σ2 H2):=by
 refine⟨fun i m σ H=>m=xs.length - i∧i≤xs.length∧Pv i σ H,⟨xs.length,by simp,l9 _,h0⟩,?_⟩
 rintro i m σ H ⟨rfl,hi,p⟩
 have q:=hl i σ H hi p
 by_cases hlt:i<xs.length
 ·refine .inr ⟨⟨xs,_,q,b0 hlt⟩,Pv (i+1),fun σ' H' p'=>⟨xs.length - (i+1),by omega,rfl,hlt,p'⟩,fun x H' y=>?_⟩
  obtain⟨pp,rfl,hn,hy⟩:=y
  obtain⟨x,hx,rfl⟩:=hy xs q
  exact hs i x pp σ H hx hn p
 ·have e:i=xs.length:=by omega
  subst e
  exact .inl ⟨⟨xs,q,rfl⟩,hd σ H p⟩
end L2
namespace Lw
open PySem PySem.Spec PyProof.Rows L2 Ma MaR
theorem zB(a b:Nat)(u v:List Nat):iA [.int (a:Nat),.str (S u)] [.int (b:Nat),.str (S v)]=decide ((a,u)=(b,v)):=by
 have e1:iA [.int (a:Nat),.str (S u)] [.int (b:Nat),.str (S v)]=(decide (((a:Nat):Int)=((b:Nat):Int)) && decide (u=v)):=by
  have:=sA [((a:Nat):Int)] [((b:Nat):Int)]
  have e2:=yZ [S u] [S v]
  show (oY (.int (a:Nat)) (.int (b:Nat)) && (oY (.str (S u)) (.str (S v)) && true))=_
  have q1:oY (.int (a:Nat)) (.int (b:Nat))=decide (((a:Nat):Int)=((b:Nat):Int)):=by
   have q:(oY (.int (a:Nat)) (.int (b:Nat)) && true)=decide ([((a:Nat):Int)]=[((b:Nat):Int)]):=this
   rw[aZe] at q
   rw[q]
   exact decide_eq_decide.mpr ⟨fun z=>by simpa using z,fun z=>by rw[z]⟩
  have q2:oY (.str (S u)) (.str (S v))=decide (u=v):=by
   have q:(oY (.str (S u)) (.str (S v)) && true)=decide ([S u]=[S v]):=e2
   rw[aZe] at q
   rw[q]
   refine decide_eq_decide.mpr ⟨fun z=>?_,fun z=>by rw[z]⟩
   have z':S u=S v:=by simpa using z
   have:=congrArg (fun y:Str=>y.cps.toList) z'
   simpa [S] using this
  rw[q1,q2,aZe]
 rw[e1]
 by_cases h1:a=b
 ·by_cases h2:u=v
  ·subst h1 h2;simp
  ·simp[h2]
 ·have:¬ ((a:Nat):Int)=((b:Nat):Int):=by omega
  simp[h1,this]
theorem nP{n:Nat}{i:Int}(h0:0≤i)(h1:i<(n:Nat)):Di n i=some i.toNat:=by
 unfold Di
 rw[if_pos h0,if_pos h1]
theorem pJ(ws:List (List Nat))(j:Nat)(w:List Nat):(cF ws).set j (.str (S w))=cF (ws.set j w):=by
 unfold cF
 rw[aKV]
section
variable {h:Nat→List Nat}{φ:Nat→List Nat}{ρ rk:Nat→Nat}{L:Nat}{Z:WvS}
theorem iS(I:WI h φ ρ rk L Z)(i j:Nat):AllL (lay (back (φ i)++φ j))∧(lay (back (φ i)++φ j)).length≤2 * L:=by
 obtain⟨a1,a2⟩:=I.fa i
 obtain⟨b1,b2⟩:=I.fa j
 refine⟨gR (AllL.app.mpr ⟨aR a1,b1⟩),?_⟩
 have:=iF (back (φ i)++φ j)
 rw[c6,dA] at this
 omega
theorem pR(I:WI h φ ρ rk L Z){c:Nat}(hc:cE c)(i j:Nat):AllL (lay (back (φ i)++(h c++φ j)))∧(lay (back (φ i)++(h c++φ j))).length≤3 * L:=by
 obtain⟨a1,a2⟩:=I.fa i
 obtain⟨b1,b2⟩:=I.fa j
 obtain⟨c1,c2⟩:=I.ha c hc
 refine⟨gR (AllL.app.mpr ⟨aR a1,AllL.app.mpr ⟨c1,b1⟩⟩),?_⟩
 have:=iF (back (φ i)++(h c++φ j))
 rw[c6,c6,dA] at this
 omega
theorem sU{hd ab:Nat}{t:List Nat}(ht:t=lay (back (φ hd)++φ ab)):∀ {es:List wU} {T:WvS},WI h φ ρ rk L T→ab<T.hs.length→(∀ e∈es,cE e.1∧e.2.1<T.hs.length∧e.2.2=lay (back (φ hd)++(h e.1++φ e.2.1)))→WI h φ ρ rk L (underW ab t T es)∧(underW ab t T es).hs=T.hs
 | [],T,I,_,_=>⟨I,rfl⟩
 | e::es,T,I,hab,hes=>by
  obtain⟨ea,hea⟩:∃ ea,T.ws[ab]?=some ea:=⟨_,b0 (by rw[I.lw];exact hab)⟩
  have hgd:T.ws.getD ab []=ea:=by rw[c5,hea];rfl
  obtain⟨e1,e2,e3⟩:=hes e i9
  have htd:lay (back t++e.2.2)=lay (back (φ ab)++(h e.1++φ e.2.1)):=by
   rw[ht,e3]
   exact Ng (I.fa hd).1 (I.fa ab).1 (I.fa e.2.1).1 (I.ha e.1 e1).1
  have I1:=I.lay hea e1 e2 htd
  obtain⟨hhs,_⟩:=iQ (S:=T) ab e.1 e.2.1 (lay (back t++e.2.2)) ea
  have key:underW ab t T (e::es)=underW ab t (bD T ab e.1 e.2.1 (lay (back t++e.2.2)) ea) es:=by
   unfold underW
   rw[aXL,hgd]
  rw[key]
  obtain⟨o1,o2⟩:=sU ht (es:=es) I1 (by rw[hhs];exact hab) (fun x hx=>by rw[hhs];exact hes x (g9 _ hx))
  exact⟨o1,o2.trans hhs⟩
theorem xQ{ab:Nat}{t:List Nat}{T:WvS}{es:List wU}{e:wU}:underW ab t T (es++[e])=bD (underW ab t T es) ab e.1 e.2.1 (lay (back t++e.2.2)) ((underW ab t T es).ws.getD ab []):=by
 unfold underW
 rw[aXw]
 rfl
end
theorem EI.move{E:Nat→Nat→Nat→Prop}{ρ:Nat→Nat}{Z Z':WvS}(X:EI E ρ Z)(hw:Z'.ws=Z.ws)(ha:Z'.al=Z.al)(hl:Z'.hs.length=Z.hs.length):EI E ρ Z' :=
 ⟨fun p c q h=>by rw[hl];exact X.lt p c q h,fun p c q h=>by rw[hw,ha];exact X.on p c q h,fun i es h e he=>by rw[ha];exact X.of i es (by rw[← hw];exact h) e he⟩
theorem WI.alDrop{h φ:Nat→List Nat}{ρ rk:Nat→Nat}{L:Nat}{Z:WvS}(I:WI h φ ρ rk L Z){l:List (Nat×List Nat×Nat)}(hl:∀ e∈l,e∈Z.al):WI h φ ρ rk L { Z with al:=l } :=
 ⟨I.lt,I.lw,I.hd,I.rt,I.tn,I.wy,fun e he=>I.al e (hl e he),I.fa,I.ha⟩
theorem B4{ρ:Nat→Nat}{hd ab:Nat}(hi:∀ x,ρ (ρ x)=ρ x)(hb:ρ ab=ab)(hne:hd≠ab):∀ x,ρU ρ hd ab (ρU ρ hd ab x)=ρU ρ hd ab x:=fun x=>by
 unfold ρU
 by_cases q:ρ x=hd
 ·rw[if_pos q,hb,if_neg (fun z=>hne z.symm)]
 ·rw[if_neg q,hi x,if_neg q]
def nD:Sp:=fun vs H Q _=>∃ w:List Nat,vs=[.str (S w)]∧AllL w∧w.length≤60000∧∀ H',Same H H'→Q (.str (S (back w))) H'
def mJ:Sp:=fun vs H Q _=>∃ u w:List Nat,vs=[.str (S u),.str (S w)]∧AllL u∧AllL w∧u.length+w.length≤60000∧∀ H',Same H H'→Q (.str (S (lay (u++w)))) H'
def Ku:WvS:={ hs:=[0],ts:=[[]],ws:=[[]],al:=[] }
def xL(C:Addr):Sp:=fun vs H Q _=>∃ (p dx:Addr),vs=[.ref p]∧H p=some (.ins C dx [])∧∀ (M:List Addr) (H':Hp),(∀ x∈M,H x=none)→Wat C H' p M Ku→(∀ b o,H b=some o→b≠p→H' b=some o)→Q .non H'
structure Kept(C:Addr)(h φ:Nat→List Nat)(ρ rk:Nat→Nat)(L:Nat)(p:Addr)(M:List Addr)(H H':Hp)(Z Z':WvS):Prop where
 at':Wat C H' p M Z'
 wi:WI h φ ρ rk L Z'
 ws:Z'.ws=Z.ws
 al:Z'.al=Z.al
 ln:Z'.hs.length=Z.hs.length
 fr:FrW M H H'
def Ah(C:Addr):Sp:=fun vs H Q _=>∃ (h φ:Nat→List Nat) (ρ rk:Nat→Nat) (L:Nat) (p:Addr) (M:List Addr) (Z:WvS) (i:Nat) (x:List Nat),vs=[.ref p,.int (i:Nat),.str (S x)]∧Wat C H p M Z∧WI h φ ρ rk L Z∧L≤8000∧i<Z.hs.length∧AllL x∧lay x=x∧x.length≤3 * L ∧
 ∀ (t:Addr) (H':Hp) (Z':WvS),Kept C h φ ρ rk L p M H H' Z Z'→H' t=some (.tup [.int (ρ i:Nat),.str (S (lay (x++(back (φ i)++φ (ρ i)))))])→Q (.ref t) H'
def vT(C:Addr):Sp:=fun vs H Q _=>∃ (h φ:Nat→List Nat) (ρ rk:Nat→Nat) (L:Nat) (p:Addr) (M:List Addr) (Z:WvS) (i:Nat),vs=[.ref p,.int (i:Nat)]∧Wat C H p M Z∧WI h φ ρ rk L Z∧L≤8000∧i<Z.hs.length ∧
 ∀ (H':Hp) (Z':WvS),Kept C h φ ρ rk L p M H H' Z Z'→Q (.int (ρ i:Nat)) H'
def vI(C:Addr):Sp:=fun vs H Q _=>∃ (h φ:Nat→List Nat) (ρ rk:Nat→Nat) (L:Nat) (p:Addr) (M:List Addr) (Z:WvS) (i c:Nat) (es:List wU),vs=[.ref p,.int (i:Nat),.str (S [c])]∧Wat C H p M Z∧WI h φ ρ rk L Z∧L≤8000∧Z.ws[i]?=some es ∧
 ∀ (H':Hp) (Z':WvS),Kept C h φ ρ rk L p M H H' Z Z'→Q (match dD es c with | none=>.non | some r=>.int (ρ r.1:Nat)) H'
def E6(C:Addr):Sp:=fun vs H Q _=>∃ (p:Addr) (M:List Addr) (Z:WvS),vs=[.ref p]∧Wat C H p M Z∧Z.hs.length≤900∧Z.ts.length≤900∧Z.ws.length≤900 ∧
 ∀ (d:Addr) (H':Hp),Wat C H' p (M++[d]) (DT Z)→H d=none→FrW M H H'→Q (.int (Z.hs.length:Nat)) H'
def A0(C:Addr):Sp:=fun vs H Q _=>∃ (h φ:Nat→List Nat) (ρ rk:Nat→Nat) (L:Nat) (p:Addr) (M:List Addr) (Z:WvS) (i c g:Nat) (t:List Nat) (es:List wU),vs=[.ref p,.int (i:Nat),.str (S [c]),.int (g:Nat),.str (S t)]∧Wat C H p M Z∧WI h φ ρ rk L Z∧L≤8000∧Z.ws[i]?=some es∧cE c∧g<Z.hs.length∧t=lay (back (φ i)++(h c++φ g))∧Z.al.length≤50000 ∧
 ∀ H',Wat C H' p M (bD Z i c g t es)→FrW M H H'→Q .non H'
def D7(C:Addr):Sp:=fun vs H Q _=>∃ (h φ:Nat→List Nat) (ρ rk ρ1 rk1:Nat→Nat) (L:Nat) (p:Addr) (M:List Addr) (Z:WvS) (hd ab:Nat) (t:List Nat) (es:List wU),vs=[.ref p,.int (hd:Nat),.int (ab:Nat),.str (S t)]∧Wat C H p M Z∧WI h φ ρ rk L Z∧WI h φ ρ1 rk1 L (dP Z hd ab t)∧L≤8000∧Z.ws[hd]?=some es∧hd<Z.hs.length∧ab<Z.hs.length∧hd≠ab∧t=lay (back (φ hd)++φ ab)∧Z.al.length≤40000 ∧
 ∀ H',Wat C H' p M (underW ab t (dP Z hd ab t) es)→FrW M H H'→Q .non H'
def Hw(h:Nat→List Nat)(w:List Nat):List Nat:=w.flatMap h
theorem zY{h:Nat→List Nat}(ha:∀ c,cE c→AllL (h c)):∀ {w:List Nat},AllL w→AllL (Hw h w)
 | [],_=>AllL.nil
 | c::w,hw=>by
  obtain⟨a,b⟩:=AllL.cons.mp hw
  show AllL (h c++Hw h w)
  exact AllL.app.mpr ⟨ha c a,zY ha b⟩
theorem A5{h:Nat→List Nat}(w:List Nat)(c:Nat):Hw h (w++[c])=Hw h w++h c:=by
 unfold Hw
 rw[aZj]
 simp
theorem Bw{x:List Nat}(hx:AllL x):back (lay (back x))=lay x:=by
 rw[← kH (aR hx),dU hx]
theorem Ca{h:Nat→List Nat}{u:List Nat}{c:Nat}(hu:AllL (Hw h u))(hc:AllL (h c)):lay (back (lay (back (Hw h u)))++(h c++[]))=lay (Hw h (u++[c])):=by
 rw[Bw hu,m7,hU _ _ hu,A5]
theorem EM{h:Nat→List Nat}{u:List Nat}{c:Nat}(hu:AllL (Hw h u))(hc:AllL (h c)):lay (back (lay (back (Hw h u)))++(h c++lay (back (Hw h (u++[c])))))=[]:=by
 have q:=aR hu
 have q2:=aR hc
 rw[Bw hu,hU _ _ hu,A5,dN,← l6,eI _ _ (AllL.app.mpr ⟨hu,hc⟩) (AllL.app.mpr ⟨q2,q⟩)]
 have e1:Hw h u++h c++(back (h c)++back (Hw h u))=Hw h u++(h c++(back (h c)++back (Hw h u))):=by simp only [l6]
 rw[e1,hX hu hc q]
 exact fZ hu
theorem Wat.dom{C:Addr}{H:Hp}{p:Addr}{M:List Addr}{Z:WvS}(w:Wat C H p M Z){x:Addr}(hx:x∈M):∃ o,H x=some o:=by
 obtain⟨dx,hd,tn,wy,al,ds,as,hM,w⟩:=w
 rw[hM] at hx
 rcases d3.mp hx with rfl | hx
 ·exact⟨_,w.hh⟩
 rcases d3.mp hx with rfl | hx
 ·exact⟨_,w.ht⟩
 rcases d3.mp hx with rfl | hx
 ·exact⟨_,w.hw⟩
 rcases d3.mp hx with rfl | hx
 ·exact⟨_,w.ha⟩
 ·obtain⟨i,hi⟩:=p8 hx
  obtain⟨es,hes⟩:∃ es,Z.ws[i]?=some es:=⟨_,b0 (by rw[← w.ld];exact(a9.mp hi).1)⟩
  obtain⟨kvs,q,_⟩:=w.dc i x es hi hes
  exact⟨_,q⟩
theorem Wat.new{C:Addr}{H:Hp}{p:Addr}{M:List Addr}{Z:WvS}(w:Wat C H p M Z){x:Addr}(hx:H x=none):x ∉ M:=fun z=>by
 obtain⟨o,e⟩:=w.dom z
 rw[hx] at e;cases e
theorem Wat.out{C:Addr}{H:Hp}{p:Addr}{M:List Addr}{Z:WvS}(w:Wat C H p M Z){b:Addr}{o:HO}(e:H b=some o)(h1:∀ xs,o≠.lst xs)(h2:∀ kvs,o≠.dK kvs):b ∉ M:=by
 obtain⟨dx,hd,tn,wy,al,ds,as,hM,w⟩:=w
 rw[hM]
 exact w.out e h1 h2
theorem Wat.self{C:Addr}{H:Hp}{p:Addr}{M:List Addr}{Z:WvS}(w:Wat C H p M Z):∃ dx hd tn wy al,H p=some (.ins C dx (wf hd tn wy al)):=by
 obtain⟨dx,hd,tn,wy,al,ds,as,hM,w⟩:=w
 exact⟨dx,hd,tn,wy,al,w.ob⟩
theorem Ig{K:b5}{C:Addr}{H H':Hp}{p:Addr}{M:List Addr}{Z:WvS}(w:Wat C H p M Z)(f:FrW M H H'){t:Addr}{xs:List V}(h:SqT K H t xs):SqT K H' t xs:=by
 rcases h with (h | ⟨o,h⟩) | h
 ·exact .inl (.inl (f _ _ h (w.out h (by intro xs z;cases z) (by intro kvs z;cases z))))
 ·exact .inl (.inr ⟨o,f _ _ h (w.out h (by intro xs z;cases z) (by intro kvs z;cases z))⟩)
 ·exact .inr h
theorem JR{K:b5}{H:Hp}{d:Addr}{ys:List V}{o:HO}(e:H d=some (.lst ys)){t:Addr}{xs:List V}(h:SqT K H t xs):SqT K (upd H d o) t xs:=by
 rcases h with (h | ⟨q,h⟩) | h
 ·exact .inl (.inl (by rw[aE (bY h e (by intro z;cases z))];exact h))
 ·exact .inl (.inr ⟨q,by rw[aE (bY h e (by intro z;cases z))];exact h⟩)
 ·exact .inr h
section
variable {C:Addr}{h φ:Nat→List Nat}{ρ rk:Nat→Nat}{L:Nat}{p:Addr}{M:List Addr}{H H1 H2:Hp}{Z Z1 Z2:WvS}
theorem Kept.refl(w:Wat C H p M Z)(I:WI h φ ρ rk L Z):Kept C h φ ρ rk L p M H H Z Z:=⟨w,I,rfl,rfl,rfl,FrW.refl _ _⟩
theorem Kept.trans(a:Kept C h φ ρ rk L p M H H1 Z Z1)(b:Kept C h φ ρ rk L p M H1 H2 Z1 Z2):Kept C h φ ρ rk L p M H H2 Z Z2:=⟨b.at',b.wi,b.ws.trans a.ws,b.al.trans a.al,b.ln.trans a.ln,fun x o e n=>b.fr _ _ (a.fr x o e n) n⟩
theorem Kept.same(a:Kept C h φ ρ rk L p M H H1 Z Z1)(s:Same H1 H2):Kept C h φ ρ rk L p M H H2 Z Z1:=⟨a.at'.same s,a.wi,a.ws,a.al,a.ln,fun x o e n=>s _ _ (a.fr x o e n)⟩
theorem Wat.set(w:Wat C H p M Z){d:Addr}{o:HO}(hd:d ∉ M)(hx:∃ xs,H d=some (.lst xs)):Wat C (L2.upd H d o) p M Z:=by
 obtain⟨xs,ex⟩:=hx
 obtain⟨dx,hd',tn,wy,al,ds,as,hM,w⟩:=w
 rw[hM] at hd
 have nt:∀ {t:Addr} {ys:List V},H t=some (.tup ys)→L2.upd H d o t=some (.tup ys):=fun q=>by rw[aE (bY q ex (by intro z;cases z))];exact q
 have nm:∀ {b:Addr} {u:HO},b∈hd'::tn::wy::al::ds→H b=some u→L2.upd H d o b=some u:=fun hb q=>by rw[aE (fun z=>hd (by rw[← z];exact hb))];exact q
 refine⟨dx,hd',tn,wy,al,ds,as,hM,w.nd,?_,nm (by simp) w.hh,nm (by simp) w.ht,nm (by simp) w.hw,nm (by simp) w.ha,w.ld,fun i d' es h1 h2=>?_,w.la,fun j a e h1 h2=>nt (w.at' j a e h1 h2)⟩
 ·rw[aE (bY w.ob ex (by intro z;cases z))];exact w.ob
 ·obtain⟨kvs,a,b⟩:=w.dc i d' es h1 h2
  exact⟨kvs,nm (by simp[b8 h1]) a,b.mono fun t xs q=>nt q⟩
theorem Wat.setD(w:Wat C H p M Z){d:Addr}{o:HO}(hd:d ∉ M)(hx:∃ xs,H d=some (.dK xs)):Wat C (L2.upd H d o) p M Z:=by
 obtain⟨xs,ex⟩:=hx
 obtain⟨dx,hd',tn,wy,al,ds,as,hM,w⟩:=w
 rw[hM] at hd
 have nt:∀ {t:Addr} {ys:List V},H t=some (.tup ys)→L2.upd H d o t=some (.tup ys):=fun q=>by rw[aE (bY q ex (by intro z;cases z))];exact q
 have nm:∀ {b:Addr} {u:HO},b∈hd'::tn::wy::al::ds→H b=some u→L2.upd H d o b=some u:=fun hb q=>by rw[aE (fun z=>hd (by rw[← z];exact hb))];exact q
 refine⟨dx,hd',tn,wy,al,ds,as,hM,w.nd,?_,nm (by simp) w.hh,nm (by simp) w.ht,nm (by simp) w.hw,nm (by simp) w.ha,w.ld,fun i d' es h1 h2=>?_,w.la,fun j a e h1 h2=>nt (w.at' j a e h1 h2)⟩
 ·rw[aE (bY w.ob ex (by intro z;cases z))];exact w.ob
 ·obtain⟨kvs,a,b⟩:=w.dc i d' es h1 h2
  exact⟨kvs,nm (by simp[b8 h1]) a,b.mono fun t xs q=>nt q⟩
theorem Kept.set(a:Kept C h φ ρ rk L p M H H1 Z Z1){d:Addr}{o:HO}{xs:List V}(hM:d ∉ M)(hd:H d=none)(hx:H1 d=some (.lst xs)):Kept C h φ ρ rk L p M H (L2.upd H1 d o) Z Z1 :=
 ⟨a.at'.set hM ⟨xs,hx⟩,a.wi,a.ws,a.al,a.ln,fun x u e n=>by rw[aE (aJ e hd)];exact a.fr x u e n⟩
theorem Kept.setD(a:Kept C h φ ρ rk L p M H H1 Z Z1){d:Addr}{o:HO}{xs:List (cQ×V)}(hM:d ∉ M)(hd:H d=none)(hx:H1 d=some (.dK xs)):Kept C h φ ρ rk L p M H (L2.upd H1 d o) Z Z1 :=
 ⟨a.at'.setD hM ⟨xs,hx⟩,a.wi,a.ws,a.al,a.ln,fun x u e n=>by rw[aE (aJ e hd)];exact a.fr x u e n⟩
theorem Kept.free(a:Kept C h φ ρ rk L p M H H1 Z Z1){d:Addr}(hM:d ∉ M)(hd:H1 d=none):H d=none:=by
 cases e:H d with
 | none=>rfl
 | some o=>rw[a.fr d o e hM] at hd;cases hd
end
theorem WI.init{h:Nat→List Nat}{L:Nat}(hh:∀ c,cE c→AllL (h c)∧(h c).length≤L):WI h (fun _=>[]) (fun x=>x) (fun _=>0) L Ku:=by
 have one:∀ {α:Type} {v y:α} {i:Nat},[v][i]?=some y→i=0∧y=v:=fun {α v y i} e=>by
  cases i with
  | zero=>exact⟨rfl,by simpa using e.symm⟩
  | succ i=>simp at e
 refine⟨rfl,rfl,fun i a e=>?_,fun i hi=>?_,fun i a t e1 e2=>?_,fun i es e=>?_,(fun e he=>by cases he),fun i=>⟨AllL.nil,l9 _⟩,hh⟩
 ·obtain⟨rfl,rfl⟩:=one e
  exact⟨by decide,.inl rfl,rfl,fun _=>rfl⟩
 ·have:i<1:=hi
  have:i=0:=by omega
  subst this
  exact⟨by decide,rfl⟩
 ·obtain⟨rfl,rfl⟩:=one e2
  rfl
 ·obtain⟨rfl,rfl⟩:=one e
  exact⟨by simp,fun e he=>by cases he⟩
theorem EI.init:EI (fun _ _ _=>False) (fun x=>x) Ku:=by
 refine⟨fun _ _ _ z=>z.elim,fun _ _ _ z=>z.elim,fun i es e x hx=>?_⟩
 cases i with
 | zero =>
  have:es=[]:=by
   have e':some ([]:List wU)=some es:=e
   exact(j1 e').symm
  subst this
  cases hx
 | succ i=>cases e
structure IvG(n:Nat)(rs bk:List (List Nat))(A B:Nat):Prop where
 rt:RT rs n A
 ro:∀ x∈rs,OfN n x∧lay x=x
 bt:RT bk n B
 bo:∀ x∈bk,OfN n x∧lay x=x
 there:bB rs bk=cS n
 back:bB bk rs=cS n
end Lw
namespace L2
open PySem PySem.Spec PyProof.Rows
section
variable {X:Cx}{K:b5}
theorem tW(hK:X.K=K)(hc:X.calm=true):dZ X (.builtin "max") (fun xs H Q=>∃ (a:Addr) (ns:List Int),xs=[.ref a]∧SqL K H a (ns.map V.int)∧0<ns.length∧∀ m:Int,(∀ x∈ns,x≤m)→Q (.int m) H):=by
 subst hK
 intro pins s σ H xs us Q I r h
 obtain⟨a,ns,rfl,hq,hn0,q⟩:=h
 obtain⟨u,rfl,ru⟩:=r.one
 cases ru
 obtain⟨its,rv,pl,_⟩:=I.list hq
 have hl:=pl.isList
 obtain⟨hn,hi⟩:=wQ rv
 obtain⟨ps,hps⟩:=AllInts.items (vs:=its.toArray) (fun v hv=>by
  obtain⟨i,hi',rfl⟩:=aZn (List.mem_toArray.mp hv)
  obtain⟨t,e⟩:=hi i _ (b0 hi')
  exact⟨_,t,e⟩)
 rw[hps] at hl
 have hsz0:ps.size=ns.length:=by
  have:=congrArg Array.size hps
  simp[intItems] at this
  omega
 have hnum:∀ i,i<ns.length→numAt ps i=(ns[i]?).getD 0:=fun i hi'=>by
  obtain⟨v,hv⟩:∃ v,its[i]?=some v:=⟨_,b0 (by omega)⟩
  obtain⟨t,e⟩:=hi i v hv
  have h2:(intItems ps)[i]?=some v:=by rw[← hps];simpa using hv
  obtain⟨t2,e2⟩:=intItems_at h2
  rw[e] at e2
  exact(Value.int.inj e2).1.symm
 refine max_intList (I.ok.hd hc) hl (by omega) fun v h' tk hv hk=>?_
 obtain⟨t,rfl⟩:=intItems_at hv
 refine⟨.int _,H,I.kept (t':=tk) hk,⟨_,rfl⟩,q _ fun x hx=>?_⟩
 obtain⟨j,hj⟩:=p8 hx
 have hjl:j<ns.length:=(a9.mp hj).1
 have:=(argBest_gt (numAt ps) (ps.size - 1)).2 j (by omega)
 rw[hnum j hjl,hj] at this
 exact this
end
end L2
namespace Lw
open PySem PySem.Spec PyProof.Rows L2 Ma MaR
section
variable {n:Nat}(h1:1≤n)(h4:n≤4)
include h1 h4
theorem Bx{f fb s sb:List (List Nat)}{A B C D:Nat}(hf:RT f n A∧∀ x∈f,OfN n x)(hfb:RT fb n B∧∀ x∈fb,OfN n x)(hs:RT s n C∧∀ x∈s,OfN n x)(hsb:RT sb n D∧∀ x∈sb,OfN n x)(e1:bB f fb=cS n)(e2:bB s sb=cS n):bB (bB f s) (bB sb fb)=cS n:=by
 rw[nZ hf.1 hs.1 (vK hsb.1 hfb.1),← nZ hs.1 hsb.1 hfb.1,e2]
 have:bB f (bB (cS n) fb)=bB (bB f (cS n)) fb:=(nZ hf.1 (pO h1 h4) hfb.1).symm
 rw[this]
 refine Eq.trans ?_ e1
 unfold bB
 rw[u7]
 refine x8 fun x hx=>?_
 show retl fb (lay (told (cS n) x))=retl fb x
 rw[uX h1 h4 (hf.2 x hx)]
 exact qY hfb.1 (hf.1.all x hx)
theorem IvG.comp{f fb s sb:List (List Nat)}{A B C D:Nat}(hf:IvG n f fb A B)(hs:RT s n C∧∀ x∈s,OfN n x)(hsb:RT sb n D∧∀ x∈sb,OfN n x)(e1:bB s sb=cS n)(e2:bB sb s=cS n):IvG n (bB f s) (bB sb fb) (A * C) (D * B):=by
 have a:RT f n A∧∀ x∈f,OfN n x:=⟨hf.rt,fun x hx=>(hf.ro x hx).1⟩
 have b:RT fb n B∧∀ x∈fb,OfN n x:=⟨hf.bt,fun x hx=>(hf.bo x hx).1⟩
 refine⟨vK hf.rt hs.1,fun x hx=>⟨xV h1 h4 hs.2 x hx,eU (rG _ _ x hx)⟩,vK hsb.1 hf.bt,fun x hx=>⟨xV h1 h4 b.2 x hx,eU (rG _ _ x hx)⟩,Bx h1 h4 a b hs hsb hf.there e1,Bx h1 h4 hsb hs b a e2 hf.back⟩
theorem IvG.low(A B:Nat)(hA:1≤A)(hB:1≤B):IvG n (cS n) (cS n) A B:=by
 have r:=pO h1 h4
 have o:∀ x∈cS n,OfN n x∧lay x=x:=fun x hx=>by
  refine⟨?_,eU (sB n x hx)⟩
  obtain⟨c,hc,rfl⟩:=i3.mp hx
  intro d hd
  rw[d6.mp hd]
  exact dM h1 h4 hc
 have e:bB (cS n) (cS n)=cS n:=DX h1 h4 (fun x hx=>(o x hx).1) (sB n)
 exact⟨⟨r.len,r.all,fun x hx=>j8 (r.le x hx) hA⟩,o,⟨r.len,r.all,fun x hx=>j8 (r.le x hx) hB⟩,o,e,e⟩
omit h1 h4 in
theorem IvG.le{f fb:List (List Nat)}{A B C D:Nat}(hf:IvG n f fb A B)(h1:∀ x∈f,x.length≤C)(h2:∀ x∈fb,x.length≤D):IvG n f fb C D:=⟨⟨hf.rt.len,hf.rt.all,h1⟩,hf.ro,⟨hf.bt.len,hf.bt.all,h2⟩,hf.bo,hf.there,hf.back⟩
theorem IvG.turn{f fb:List (List Nat)}{A B:Nat}(hf:IvG n f fb A B){g:List Nat}(hg:OfN n g):IvG n (bB f (eP n g)) (bB (eP n (Ma.back g)) fb) (A * (2 * g.length+1)) ((2 * g.length+1) * B):=by
 have gA:=hg.all
 have bo:OfN n (Ma.back g):=fun c hc=>by
  unfold Ma.back at hc
  obtain⟨d,hd,rfl⟩:=i3.mp (aQM.mp hc)
  exact dC (by omega) (by omega) (hg d hd)
 have r2:=mW (n:=n) (g:=Ma.back g) h4 (aR gA)
 rw[dA] at r2
 refine hf.comp h1 h4 ⟨mW h4 gA,rV h1 h4 hg⟩ ⟨r2,rV h1 h4 bo⟩ (uJ h1 h4 hg) ?_
 have:=uJ h1 h4 bo
 rwa [dU gA] at this
end
def pH(H:Hp)(a:Addr)(f:List (List Nat)):Prop:=H a=some (.tup (cF f))
def E5:Sp:=fun vs H Q _=>∃ (fl sc:Addr) (n mo:Nat) (st:Int),vs=[.ref fl,.int (n:Nat),.int st,.int (mo:Nat)]∧IsFl H fl sc∧1≤n∧n≤4∧1≤mo∧mo≤8∧0≤st∧st≤100 ∧
 ∀ (p a b:Addr) (f fb:List (List Nat)) (H':Hp),H' p=some (.tup [.ref a,.ref b])→pH H' a f→pH H' b fb→IvG n f fb mo mo→IsFl H' fl sc→Kp fl H H'→Q (.ref p) H'
def Dh:Sp:=fun vs H Q _=>∃ (fl sc:Addr) (n mo:Nat) (st:Int),vs=[.ref fl,.int (n:Nat),.int st,.int (mo:Nat)]∧IsFl H fl sc∧1≤n∧n≤4∧1≤mo∧mo≤8∧0≤st∧st≤100 ∧
 ∀ (p a b:Addr) (f fb:List (List Nat)) (H':Hp),H' p=some (.tup [.ref a,.ref b])→pH H' a f→pH H' b fb→IvG n f fb mo (5 * mo)→IsFl H' fl sc→Kp fl H H'→Q (.ref p) H'
def BG:Sp:=fun vs H Q _=>∃ (n:Nat) (a:Addr) (cs:List Nat),vs=[.ref a]∧1≤n∧n≤4∧Exch n cs∧H a=some (.tup (aZ cs))∧∀ (q:Addr) (H':Hp),H q=none→Same H H'→H' q=some (.tup (aZ (xB n cs)))→Q (.ref q) H'
theorem oQ{H H':Hp}{fl sc a:Addr}{f:List (List Nat)}(i:IsFl H fl sc)(k:Kp fl H H')(h:pH H a f):pH H' a f:=Ae i k h
theorem Ea{f fb:List (List Nat)}{m:Nat}{ns:List Int}{mx:Int}(hns:ns=(f++fb).map fun x=>((x.length:Nat):Int))(h:∀ x∈ns,x≤mx)(hm:mx≤(m:Nat)):(∀ x∈f,x.length≤m)∧∀ x∈fb,x.length≤m:=by
 have key:∀ x∈f++fb,x.length≤m:=fun x hx=>by
  have:=h ((x.length:Nat):Int) (by rw[hns];exact i3.mpr ⟨x,hx,rfl⟩)
  omega
 exact⟨fun x hx=>key x (p7 _ hx),fun x hx=>key x (j0 _ hx)⟩
theorem Ha{n:Nat}(h1:1≤n)(h4:n≤4){cs:List Nat}(ex:Exch n cs){d:Nat}(hd:d∈bE n):∃ j e,j<n∧cs[j]?=some e∧cE e∧(cs.map lo)[j]?=some d∧(∀ m,m<j→(cs.map lo)[m]?≠some d)∧(bC e=true→zP cs d=97+j)∧(bC e=false→zP cs d=65+j):=by
 have nd0:(bE n).Nodup:=by
  have:n=1∨n=2∨n=3∨n=4:=by omega
  rcases this with rfl | rfl | rfl | rfl <;> decide
 have nd:(cs.map lo).Nodup:=(ex.perm.nodup_iff).mpr nd0
 have hdL:=iG hd
 have hdl:=fU hd
 have un:∀ {j:Nat},(cs.map lo)[j]?=some d→∀ m,m<j→(cs.map lo)[m]?≠some d:=fun {j} hj m hm z=>by
  obtain⟨l1,e1⟩:=a9.mp z
  obtain⟨l2,e2⟩:=a9.mp hj
  have:=(aXE nd).mp (e1.trans e2.symm)
  omega
 have at':∀ {e:Nat},e∈cs→cs[cs.idxOf e]?=some e∧cs.idxOf e<n:=fun {e} he=>by
  have hj:cs.idxOf e<cs.length:=aXD he
  exact⟨by rw[b0 hj,aXr hj],by rw[← ex.len];exact hj⟩
 by_cases hin:d∈cs
 ·obtain⟨a,b⟩:=at' hin
  have hl:(cs.map lo)[cs.idxOf d]?=some d:=by rw[c7,a,y6,zW hdL hdl]
  exact⟨_,d,b,a,hdL,hl,un hl,fun _=>by unfold zP;rw[if_pos hin],fun z=>by rw[hdl] at z;cases z⟩
 ·have hin2:con d∈cs:=(ex.has h1 h4 hd).resolve_left hin
  obtain⟨a,b⟩:=at' hin2
  have hcl:bC (con d)=false∧lo (con d)=d:=by
   have hb:97≤d∧d≤100:=by
    have:n=1∨n=2∨n=3∨n=4:=by omega
    have key:∀ d∈bE n,97≤d∧d≤100:=by rcases this with rfl | rfl | rfl | rfl <;> decide
    exact key d hd
   have:d=97∨d=98∨d=99∨d=100:=by omega
   rcases this with rfl | rfl | rfl | rfl <;> decide
  have hl:(cs.map lo)[cs.idxOf (con d)]?=some d:=by rw[c7,a,y6,hcl.2]
  exact⟨_,con d,b,a,cV hdL,hl,un hl,(fun z=>by rw[hcl.1] at z;cases z),fun _=>by unfold zP;rw[if_neg hin]⟩
inductive Rel(E:Nat→Nat→Nat→Prop):Nat→Nat→Prop where
 | refl (x:Nat):Rel E x x
 | symm {x y:Nat} (h:Rel E x y):Rel E y x
 | trans {x y z:Nat} (h:Rel E x y) (g:Rel E y z):Rel E x z
 | go {p p' c q q':Nat} (h:Rel E p p') (a:E p c q) (b:E p' c q'):Rel E q q'
theorem Rel.mono{E E':Nat→Nat→Nat→Prop}(hm:∀ p c q,E p c q→E' p c q){x y:Nat}(h:Rel E x y):Rel E' x y:=by
 induction h with
 | refl x=>exact .refl x
 | symm _ ih=>exact .symm ih
 | trans _ _ a b=>exact .trans a b
 | go _ a b ih=>exact .go ih (hm _ _ _ a) (hm _ _ _ b)
structure LI(E:Nat→Nat→Nat→Prop)(ρ:Nat→Nat)(Z:WvS):Prop where
 ro:∀ x,Rel E x (ρ x)
 al:∀ x t y,(x,t,y)∈Z.al→Rel E x y
section
variable {E:Nat→Nat→Nat→Prop}{ρ:Nat→Nat}{Z:WvS}
theorem LI.lnk(l:LI E ρ Z){x y:Nat}(h:Lnk ρ Z.al x y):Rel E x y:=by
 induction h with
 | refl x=>exact .refl x
 | symm _ ih=>exact .symm ih
 | trans _ _ a b=>exact .trans a b
 | root x=>exact l.ro x
 | pair h=>exact l.al _ _ _ h
theorem LI.move{Z':WvS}(l:LI E ρ Z)(ha:∀ e∈Z'.al,e∈Z.al):LI E ρ Z':=⟨l.ro,fun x t y h=>l.al x t y (ha _ h)⟩
theorem LI.mono{E':Nat→Nat→Nat→Prop}(l:LI E ρ Z)(hm:∀ p c q,E p c q→E' p c q):LI E' ρ Z:=⟨fun x=>(l.ro x).mono hm,fun x t y h=>(l.al x t y h).mono hm⟩
theorem LI.under{hd ab:Nat}(l:LI E ρ Z){a b:Nat}(hab:Rel E a b)(hra:ρ a=hd)(hrb:ρ b=ab)(t:List Nat):LI E (ρU ρ hd ab) (dP Z hd ab t):=by
 have h1:Rel E hd ab:=by
  have r1:=l.ro a
  have r2:=l.ro b
  rw[hra] at r1
  rw[hrb] at r2
  exact(r1.symm.trans hab).trans r2
 refine⟨fun x=>?_,l.al⟩
 unfold ρU
 split
 ·rename_i q
  have:=l.ro x
  rw[q] at this
  exact this.trans h1
 ·exact l.ro x
theorem LI.underW{hd ab:Nat}{t:List Nat}:∀ {es:List wU} {T:WvS},LI E (ρU ρ hd ab) T→(∀ (i:Nat) (fs:List wU),T.ws[i]?=some fs→∀ e∈fs,∃ p q,E p e.1 q∧Rel E p i∧Rel E q e.2.1)→(∀ e∈es,∃ p q,E p e.1 q∧Rel E p ab∧Rel E q e.2.1)→ab<T.ws.length→LI E (ρU ρ hd ab) (Lw.underW ab t T es)
 | [],T,l,_,_,_=>l
 | e::es,T,l,hof,hme,hl=>by
  obtain⟨ea,hea⟩:∃ ea,T.ws[ab]?=some ea:=⟨_,b0 hl⟩
  have hgd:T.ws.getD ab []=ea:=by rw[c5,hea];rfl
  have key:Lw.underW ab t T (e::es)=Lw.underW ab t (bD T ab e.1 e.2.1 (Ma.lay (back t++e.2.2)) ea) es:=by
   unfold Lw.underW
   rw[aXL,hgd]
  rw[key]
  obtain⟨p,q,a1,a2,a3⟩:=hme e i9
  have lal:LI E (ρU ρ hd ab) (bD T ab e.1 e.2.1 (Ma.lay (back t++e.2.2)) ea):=by
   refine⟨l.ro,fun x u y hm=>?_⟩
   unfold bD at hm
   cases ew:dD ea e.1 with
   | none=>rw[ew] at hm;exact l.al x u y hm
   | some r =>
    obtain⟨g',t'⟩:=r
    rw[ew] at hm
    dsimp only at hm
    split at hm
    ·exact l.al x u y hm
    ·rcases j9.mp hm with z | z
     ·exact l.al x u y z
     ·obtain⟨rfl,rfl,rfl⟩:x=e.2.1∧u=Ma.lay (back (Ma.lay (back t++e.2.2))++t')∧y=g':=by simpa using z
      obtain⟨p',q',b1,b2,b3⟩:=hof ab ea hea (e.1,y,t') (dW ew)
      exact(a3.symm.trans (.go (a2.trans b2.symm) a1 b1)).trans b3
  refine LI.underW lal (fun i fs hi x hx=>?_) (fun x hx=>hme x (g9 _ hx)) ?_
  ·rcases oH hea hi hx with ⟨es0,u1,u2⟩ | ⟨rfl,rfl⟩
   ·exact hof i es0 u1 x u2
   ·exact⟨p,q,a1,a2,a3⟩
  ·unfold bD
   split
   ·show ab<(T.ws.set ab _).length;rw[p5];exact hl
   ·split <;> exact hl
theorem Fu{h φ:Nat→List Nat}{rk:Nat→Nat}{L:Nat}(I:WI h φ ρ rk L Z)(X:EI E ρ Z)(l:LI E ρ Z)(h0:Z.al=[])(hid:∀ x,ρ (ρ x)=ρ x)(x y:Nat):ρ x=ρ y↔Rel E x y:=by
 constructor
 ·intro e
  have:=l.ro y
  rw[← e] at this
  exact(l.ro x).trans this.symm
 ·intro r
  induction r with
  | refl x=>rfl
  | symm _ ih=>exact ih.symm
  | trans _ _ a b=>exact a.trans b
  | go _ a b ih=>exact EI.det I X h0 hid _ _ _ _ _ a b ih
end
def cB(δ:Nat→Option Nat)(ls:List Nat)(ord:List Nat):List Nat:=ls.foldl (fun o c=>match δ c with | some g=>if g∈o then o else o++[g] | none=>o) ord
def cD(δ:Nat→Nat→Option Nat)(ls:List Nat):Nat→Nat→List Nat→List Nat
 | 0,_,ord=>ord
 | f+1,at',ord=>match ord[at']? with
  | some s=>cD δ ls f (at' + 1) (cB (δ s) ls ord)
  | none=>ord
def fK(δ:Nat→Nat→Option Nat)(ls:List Nat)(ord:List Nat)(s:Nat):List (Option Nat):=ls.map fun c=>(δ s c).map fun g=>ord.idxOf g
def eE(δ:Nat→Nat→Option Nat)(n s0 N:Nat):List (List (Option Nat)):=let ord:=cD δ (aK (n:Nat)) N 0 [s0];ord.map (fK δ (bE n) ord)
section
variable {δ δ':Nat→Nat→Option Nat}{f:Nat→Nat}{P:Nat→Prop}
theorem tQ(hf:∀ x y,P x→P y→f x=f y→x=y){s:Nat}(hd:∀ c,δ' (f s) c=(δ s c).map f)(hp:∀ c g,δ s c=some g→P g):∀ (ls:List Nat) (ord:List Nat),(∀ x∈ord,P x)→cB (δ' (f s)) ls (ord.map f)=(cB (δ s) ls ord).map f∧∀ x∈cB (δ s) ls ord,P x
 | [],ord,ho=>⟨rfl,ho⟩
 | c::ls,ord,ho=>by
  have ih:=tQ hf hd hp ls
  show cB (δ' (f s)) ls (match δ' (f s) c with | some g=>if g∈ord.map f then ord.map f else ord.map f++[g] | none=>ord.map f)=(cB (δ s) ls (match δ s c with | some g=>if g∈ord then ord else ord++[g] | none=>ord)).map f∧∀ x∈cB (δ s) ls (match δ s c with | some g=>if g∈ord then ord else ord++[g] | none=>ord),P x
  rw[hd c]
  cases e:δ s c with
  | none=>exact ih ord ho
  | some g =>
   have hg:=hp c g e
   show cB (δ' (f s)) ls (if f g∈ord.map f then ord.map f else ord.map f++[f g])=_∧_
   have hiff:f g∈ord.map f↔g∈ord:=by
    constructor
    ·intro h
     obtain⟨x,hx,e⟩:=i3.mp h
     rw[← hf x g (ho x hx) hg e]
     exact hx
    ·exact fun h=>i3.mpr ⟨g,h,rfl⟩
   by_cases q:g∈ord
   ·rw[if_pos (hiff.mpr q)]
    show _=(cB (δ s) ls (if g∈ord then ord else ord++[g])).map f∧∀ x∈cB (δ s) ls (if g∈ord then ord else ord++[g]),P x
    rw[if_pos q]
    exact ih ord ho
   ·rw[if_neg (fun z=>q (hiff.mp z))]
    show _=(cB (δ s) ls (if g∈ord then ord else ord++[g])).map f∧∀ x∈cB (δ s) ls (if g∈ord then ord else ord++[g]),P x
    rw[if_neg q]
    have:=ih (ord++[g]) (fun x hx=>(j9.mp hx).elim (ho x) fun z=>by rw[d6.mp z];exact hg)
    rw[i7] at this
    exact this
theorem uW(hf:∀ x y,P x→P y→f x=f y→x=y)(hd:∀ s,P s→∀ c,δ' (f s) c=(δ s c).map f)(hp:∀ s,P s→∀ c g,δ s c=some g→P g)(ls:List Nat):∀ (N at':Nat) (ord:List Nat),(∀ x∈ord,P x)→cD δ' ls N at' (ord.map f)=(cD δ ls N at' ord).map f∧∀ x∈cD δ ls N at' ord,P x
 | 0,at',ord,ho=>⟨rfl,ho⟩
 | N+1,at',ord,ho=>by
  unfold cD
  rw[c7]
  cases e:ord[at']? with
  | none=>exact⟨rfl,ho⟩
  | some s =>
   have hs:=ho s (b8 e)
   obtain⟨h1,h2⟩:=tQ hf (hd s hs) (hp s hs) ls ord ho
   show cD δ' ls N (at' + 1) (cB (δ' (f s)) ls (ord.map f))=_∧_
   rw[h1]
   exact uW hf hd hp ls N (at' + 1) _ h2
theorem A2(hf:∀ x y,P x→P y→f x=f y→x=y)(hd:∀ s,P s→∀ c,δ' (f s) c=(δ s c).map f)(hp:∀ s,P s→∀ c g,δ s c=some g→P g){n s0 N:Nat}(h0:P s0):eE δ' n (f s0) N=eE δ n s0 N:=by
 obtain⟨h1,h2⟩:=uW hf hd hp (aK (n:Nat)) N 0 [s0] (fun x hx=>by rw[d6.mp hx];exact h0)
 unfold eE
 have h1':cD δ' (aK (n:Nat)) N 0 [f s0]=(cD δ (aK (n:Nat)) N 0 [s0]).map f:=h1
 dsimp only
 rw[h1',u7]
 refine x8 fun s hs=>?_
 show fK δ' (bE n) _ (f s)=fK δ (bE n) _ s
 unfold fK
 refine x8 fun c hc=>?_
 rw[hd s (h2 s hs) c]
 cases e:δ s c with
 | none=>rfl
 | some g =>
  show some _=some _
  congr 1
  dsimp only
  have hg:=hp s (h2 s hs) c g e
  generalize cD δ (aK (n:Nat)) N 0 [s0]=ord at h2 hs
  clear hs h1 h1'
  induction ord with
  | nil=>rfl
  | cons x ord ih =>
   rw[i8,aXa,aXa]
   have hx:=h2 x i9
   by_cases q:x=g
   ·subst q;simp
   ·have q2:¬ f x=f g:=fun z=>q (hf x g hx hg z)
    have i1:(f x == f g)=false:=by simpa using q2
    have i2:(x == g)=false:=by simpa using q
    rw[i1,i2]
    simp only [cond_false]
    rw[ih fun y hy=>h2 y (g9 _ hy)]
end
end Lw
namespace L2
open PySem PySem.Spec PyProof.Rows
def Nq(w1 w2:TI):TI:=fun σ H R=>w1 σ H R∨w2 σ H R
theorem Hu{X:Cx}{tg l:Expr}{w1 w2:TI}(h1:PI X tg l w1)(h2:PI X tg l w2):PI X tg l (Nq w1 w2):=fun pins s σ H R I h=>h.elim (h1 pins s σ H R I) (h2 pins s σ H R I)
def MN(K:b5)(H:Hp)(a:Addr)(xs:List V):Prop:=SqT K H a xs∨SqL K H a xs
theorem Ft{K:b5}{a:Addr}{xs:List V}{j:Nat}{g:TG}{tb:TS}{D:Ends}{σ:St}{H H0:Hp}(Pv:Nat→St→Hp→Prop)(hv:∀ Q:VK,Q (.ref a) H→Ak j σ H Q)(hq:MN K H0 a xs)(h0:Pv 0 σ H)(hl:∀ i σ H',i≤xs.length→Pv i σ H'→Same H0 H')
  (hs:∀ i x σ H,xs[i]?=some x→Pv i σ H→g x σ H fun σ2 H2=>tb { D with nx:=Pv (i+1),ct:=Pv (i+1),bk:=D.nx } σ2 H2) (hd:∀ σ H,Pv xs.length σ H→D.nx σ H):Kz (Nq (DB K (Ak j)) (Jn K (Ak j))) g tb D σ H:=by
 have s0:=hl 0 σ H (l9 _) h0
 rcases hq with hq | hq
 ·exact .inr (hv _ ⟨a,rfl,⟨_,L2.SqT.same s0 hq⟩,Bj (K:=K) (a:=a) (xs:=xs) Pv h0 (fun i σ H' hi p=>L2.SqT.same (hl i σ H' hi p) hq) hs hd⟩)
 ·exact .inl (hv _ ⟨a,rfl,⟨_,L2.SqL_same s0 hq⟩,fB (K:=K) (a:=a) (xs:=xs) Pv h0 (fun i σ H' hi p=>L2.SqL_same (hl i σ H' hi p) hq) hs hd⟩)
end L2
namespace Lw
open PySem PySem.Spec PyProof.Rows L2 Ma MaR
def OfE(E:Nat→Nat→Nat→Prop)(Z:WvS):Prop:=∀ (i:Nat) (fs:List wU),Z.ws[i]?=some fs→∀ e∈fs,∃ p q,E p e.1 q∧Rel E p i∧Rel E q e.2.1
theorem EI.ofE{E:Nat→Nat→Nat→Prop}{ρ:Nat→Nat}{Z:WvS}(X:EI E ρ Z)(l:LI E ρ Z):OfE E Z:=fun i fs hi e he=>by
 obtain⟨p,q,a,b,c⟩:=X.of i fs hi e he
 exact⟨p,q,a,l.lnk b,l.lnk c⟩
theorem OfE.mono{E E':Nat→Nat→Nat→Prop}{Z:WvS}(h:OfE E Z)(hm:∀ p c q,E p c q→E' p c q):OfE E' Z:=fun i fs hi e he=>by
 obtain⟨p,q,a,b,c⟩:=h i fs hi e he
 exact⟨p,q,hm _ _ _ a,b.mono hm,c.mono hm⟩
theorem LI.lay'{E:Nat→Nat→Nat→Prop}{ρ:Nat→Nat}{Z:WvS}(l:LI E ρ Z)(hof:OfE E Z){i c g:Nat}{t:List Nat}{es:List wU}(hi:Z.ws[i]?=some es)(hk:E i c g):LI E ρ (bD Z i c g t es):=by
 refine⟨l.ro,fun x u y hm=>?_⟩
 unfold bD at hm
 cases e:dD es c with
 | none=>rw[e] at hm;exact l.al x u y hm
 | some r =>
  obtain⟨g',t'⟩:=r
  rw[e] at hm
  dsimp only at hm
  split at hm
  ·exact l.al x u y hm
  ·rcases j9.mp hm with z | z
   ·exact l.al x u y z
   ·obtain⟨rfl,rfl,rfl⟩:x=g∧u=Ma.lay (back t++t')∧y=g':=by simpa using z
    obtain⟨p',q',b1,b2,b3⟩:=hof i es hi (c,y,t') (dW e)
    exact(Rel.go b2.symm hk b1).trans b3
def cJ(N m j:Nat):Nat:=if j=0∨j=m then 0 else N+j - 1
def FlE(N:Nat)(w:List Nat)(i:Nat):Nat→Nat→Nat→Prop:=fun p c q=>∃ j,j<i∧∃ d,w[j]?=some d∧((c=d∧p=cJ N w.length j∧q=cJ N w.length (j+1))∨(c=con d∧p=cJ N w.length (j+1)∧q=cJ N w.length j))
theorem FlE.succ{N i:Nat}{w:List Nat}{d:Nat}(hd:w[i]?=some d){p c q:Nat}:FlE N w (i+1) p c q↔FlE N w i p c q∨(c=d∧p=cJ N w.length i∧q=cJ N w.length (i+1))∨(c=con d∧p=cJ N w.length (i+1)∧q=cJ N w.length i):=by
 constructor
 ·rintro⟨j,hj,e,he,h⟩
  by_cases q:j=i
  ·subst q
   rw[hd] at he
   cases he
   exact .inr h
  ·exact .inl ⟨j,by omega,e,he,h⟩
 ·rintro(⟨j,hj,h⟩ | h)
  ·exact⟨j,by omega,h⟩
  ·exact⟨i,by omega,d,hd,h⟩
def BS(C:Addr):Sp:=fun vs H Q _=>∃ (h φ:Nat→List Nat) (rk:Nat→Nat) (L:Nat) (p:Addr) (M:List Addr) (Z:WvS) (E:Nat→Nat→Nat→Prop) (w t:List Nat),vs=[.ref p,.str (S w),.str (S t)]∧Wat C H p M Z∧WI h φ (fun x=>x) rk L Z∧EI E (fun x=>x) Z∧LI E (fun x=>x) Z∧Me E∧L≤8000∧φ 0=[]∧0<Z.hs.length∧Z.hs.length+w.length≤900∧Z.al.length+2 * w.length≤9000∧AllL w ∧
 (∀ c,cE c→h (con c)=back (h c))∧(w≠[]→t=lay (Hw h w))∧(∀ i,i≤w.length→(lay (back (Hw h (w.take i)))).length≤L) ∧
 ∀ (M':List Addr) (H':Hp) (Z':WvS) (φ':Nat→List Nat) (E':Nat→Nat→Nat→Prop),Wat C H' p M' Z'→MU H M M'→FrW M H H'→WI h φ' (fun x=>x) rk L Z'→EI E' (fun x=>x) Z'→LI E' (fun x=>x) Z'→Me E'→(∀ p c q,E' p c q↔E p c q∨FlE Z.hs.length w w.length p c q)→φ' 0=[]→Fw E' (fun x=>x) 0 w 0→Z'.hs.length=Z.hs.length+(w.length - 1)→Z'.al.length≤Z.al.length+2 * w.length→Q .non H'
def BY(C:Addr):Sp:=fun vs H Q _=>∃ (h φ:Nat→List Nat) (rk:Nat→Nat) (L:Nat) (p:Addr) (M:List Addr) (Z:WvS) (E:Nat→Nat→Nat→Prop),vs=[.ref p]∧Wat C H p M Z∧WI h φ (fun x=>x) rk L Z∧EI E (fun x=>x) Z∧LI E (fun x=>x) Z∧L≤8000∧Z.hs.length≤900∧Z.al.length≤10000 ∧
 ∀ (ρ rk':Nat→Nat) (H':Hp) (Z':WvS),Wat C H' p M Z'→WI h φ ρ rk' L Z'→EI E ρ Z'→LI E ρ Z'→Z'.al=[]→(∀ x,ρ (ρ x)=ρ x)→Z'.hs.length=Z.hs.length→FrW M H H'→Q .non H'
def gJ(ρ:Nat→Nat)(Z:WvS)(s c:Nat):Option Nat:=(dD (Z.ws.getD s []) c).map fun r=>ρ r.1
def eY(ord:List Nat):List (cQ×V):=ord.zipIdx.map fun gk=>(.inl (gk.1:Nat),.int (gk.2:Nat))
theorem CT(ord:List Nat)(g:Nat):eY (ord++[g])=eY ord++[(.inl (g:Nat),.int (ord.length:Nat))]:=by
 unfold eY
 rw[List.zipIdx_append,i7]
 simp
theorem yP(g:Nat):∀ (ord:List Nat) (k:Nat),cZ ((ord.zipIdx k).map fun gk=>((.inl (gk.1:Nat):cQ),V.int (gk.2:Nat))) (.inl (g:Nat))=if g∈ord then some (.int ((k+ord.idxOf g:Nat))) else none
 | [],k=>by rw[if_neg (by simp)];rfl
 | x::ord,k=>by
  rw[aZG,i8]
  by_cases q:x=g
  ·subst q
   rw[dJ rfl,if_pos i9,List.idxOf_cons_self]
   rfl
  ·rw[dL (show ¬ (Sum.inl ((x:Nat):Int):cQ)=Sum.inl ((g:Nat):Int) from fun z=>q (by have:=aJX z;omega)),yP g ord (k+1)]
   by_cases q2:g∈ord
   ·have e0:(x == g)=false:=by simpa using q
    have e:(x::ord).idxOf g=ord.idxOf g+1:=by rw[aXa,e0];rfl
    rw[if_pos q2,if_pos (g9 _ q2),e]
    congr 2
    omega
   ·rw[if_neg q2,if_neg (by simp[q2];exact fun z=>q z.symm)]
theorem vP(g:Nat)(ord:List Nat):cZ (eY ord) (.inl (g:Nat))=if g∈ord then some (.int (ord.idxOf g:Nat)) else none:=by
 have:=yP g ord 0
 rw[aKW] at this
 exact this
theorem xW(ord:List Nat):(eY ord).length=ord.length:=by unfold eY;rw[b7,aJH]
def Bd(C:Addr):Sp:=fun vs H Q _=>∃ (h φ:Nat→List Nat) (ρ rk:Nat→Nat) (L:Nat) (n:Nat) (p:Addr) (M:List Addr) (Z:WvS),vs=[.int (n:Nat),.ref p]∧1≤n∧n≤4∧Wat C H p M Z∧WI h φ ρ rk L Z∧L≤8000∧0<Z.hs.length∧Z.hs.length≤900 ∧
 ∀ (t:Addr) (H':Hp) (Z':WvS),Kept C h φ ρ rk L p M H H' Z Z'→H t=none→H' t=some (.dK (eY (cD (gJ ρ Z) (aK (n:Nat)) 1000 0 [ρ 0])))→(cD (gJ ρ Z) (aK (n:Nat)) 1000 0 [ρ 0]).length≤900→(∀ x∈cD (gJ ρ Z) (aK (n:Nat)) 1000 0 [ρ 0],x<Z.hs.length)→Q (.ref t) H'
def NM(H:Hp)(t:Addr)(ord:List Nat):Prop:=∃ o,H t=some (.frz o (.dK (eY ord)))
def iI:Option Nat→V
 | none=>.non
 | some k=>.int (k:Nat)
def yY(C:Addr):Sp:=fun vs H Q _=>∃ (h φ:Nat→List Nat) (ρ rk:Nat→Nat) (L:Nat) (n:Nat) (p:Addr) (M:List Addr) (Z:WvS) (t:Addr) (s:Nat) (ord:List Nat),vs=[.int (n:Nat),.ref p,.ref t,.int (s:Nat)]∧1≤n∧n≤4∧Wat C H p M Z∧WI h φ ρ rk L Z∧L≤8000∧s<Z.hs.length∧NM H t ord∧(∀ c∈aK (n:Nat),∀ g,gJ ρ Z s c=some g→g∈ord) ∧
 ∀ (q:Addr) (H':Hp) (Z':WvS),Kept C h φ ρ rk L p M H H' Z Z'→H q=none→H' q=some (.tup ((fK (gJ ρ Z) (bE n) ord s).map iI))→Q (.ref q) H'
theorem rT(δ:Nat→Option Nat)(ls:List Nat)(c:Nat)(ord:List Nat):cB δ (ls++[c]) ord=match δ c with | some g=>if g∈cB δ ls ord then cB δ ls ord else cB δ ls ord++[g] | none=>cB δ ls ord:=by
 unfold cB
 rw[aXw]
 rfl
theorem eF(δ:Nat→Option Nat):∀ (ls:List Nat) (ord:List Nat),∃ r,cB δ ls ord=ord++r
 | [],ord=>⟨[],(m7 _).symm⟩
 | c::ls,ord=>by
  show ∃ r,cB δ ls (match δ c with | some g=>if g∈ord then ord else ord++[g] | none=>ord)=ord++r
  cases δ c with
  | none=>exact eF δ ls ord
  | some g =>
   dsimp only
   split
   ·exact eF δ ls ord
   ·obtain⟨r,e⟩:=eF δ ls (ord++[g])
    exact⟨[g]++r,by rw[e,l6]⟩
def OrdOk(N:Nat)(ord:List Nat):Prop:=ord.Nodup∧∀ x∈ord,x<N
theorem OrdOk.len{N:Nat}{ord:List Nat}(h:OrdOk N ord):ord.length≤N:=by
 have:=rR (m:=List.range N) h.1 fun x hx=>aXj.mpr (h.2 x hx)
 rwa [aXU] at this
theorem OrdOk.snoc{N g:Nat}{ord:List Nat}(h:OrdOk N ord)(hg:g<N)(hn:g ∉ ord):OrdOk N (ord++[g]):=by
 refine⟨?_,fun x hx=>(j9.mp hx).elim (h.2 x) fun z=>by rw[d6.mp z];exact hg⟩
 rw[aQc]
 exact⟨h.1,by simp,fun a ha b hb z=>hn (by rw[← d6.mp hb,← z];exact ha)⟩
theorem oN(δ:Nat→Nat→Option Nat)(ls:List Nat)(f at':Nat)(ord:List Nat)(h:ord.length≤at'):cD δ ls f at' ord=ord:=by
 cases f with
 | zero=>rfl
 | succ f =>
  unfold cD
  rw[aQQ h]
theorem lS(δ:Nat→Nat→Option Nat)(ls:List Nat)(f at':Nat)(ord:List Nat){s:Nat}(h:ord[at']?=some s):cD δ ls (f+1) at' ord=cD δ ls f (at' + 1) (cB (δ s) ls ord):=by
 show (match ord[at']? with | some s=>cD δ ls f (at' + 1) (cB (δ s) ls ord) | none=>ord)=_
 rw[h]
theorem Dw{ord:List Nat}{g:Nat}(h:g ∉ ord):dE (eY ord) (.inl (g:Nat)) (.int (ord.length:Nat))=eY (ord++[g]):=by
 rw[wY _ (by rw[vP,if_neg h]),CT]
theorem yT{C:Addr}{h φ:Nat→List Nat}{ρ rk:Nat→Nat}{L:Nat}{p:Addr}{M:List Addr}{H H1:Hp}{Z Z1:WvS}(a:Kept C h φ ρ rk L p M H H1 Z Z1):gJ ρ Z1=gJ ρ Z:=by
 funext s c
 unfold gJ
 rw[a.ws]
def Lu:Nat→List (List Nat)→Nat
 | N,[]=>N
 | N,w::r=>Lu (N+(w.length - 1)) r
def fC:Nat→List (List Nat)→Nat→Nat→Nat→Prop
 | _,[],_,_,_=>False
 | N,w::r,p,c,q=>FlE N w w.length p c q∨fC (N+(w.length - 1)) r p c q
theorem sC(w:List Nat){p c q:Nat}:∀ (N:Nat) (rs:List (List Nat)),fC N (rs++[w]) p c q↔fC N rs p c q∨FlE (Lu N rs) w w.length p c q
 | N,[]=>by
  show (FlE N w w.length p c q∨False)↔(False∨FlE N w w.length p c q)
  rw[or_false,false_or]
 | N,x::rs=>by
  show (FlE N x x.length p c q∨fC (N+(x.length - 1)) (rs++[w]) p c q)↔_
  rw[sC w (N+(x.length - 1)) rs,← or_assoc]
  rfl
theorem zM(w:List Nat):∀ (N:Nat) (rs:List (List Nat)),Lu N (rs++[w])=Lu N rs+(w.length - 1)
 | N,[]=>rfl
 | N,x::rs=>zM w (N+(x.length - 1)) rs
structure Aut(rs:List (List Nat))(ρ:Nat→Nat)(δ:Nat→Nat→Option Nat)(N:Nat):Prop where
 rel:∀ x y,ρ x=ρ y↔Rel (fC 1 rs) x y
 to:∀ p c q,fC 1 rs p c q→δ (ρ p) c=some (ρ q)
 of:∀ s c g,δ s c=some g→∃ p q,fC 1 rs p c q∧ρ p=s∧ρ q=g
theorem II{h φ:Nat→List Nat}{ρ rk:Nat→Nat}{L:Nat}{Z:WvS}{E:Nat→Nat→Nat→Prop}{rs:List (List Nat)}(I:WI h φ ρ rk L Z)(X:EI E ρ Z)(l:LI E ρ Z)(h0:Z.al=[])(hid:∀ x,ρ (ρ x)=ρ x)(hE:∀ p c q,E p c q↔fC 1 rs p c q)(N:Nat):Aut rs ρ (fun s c=>if ρ s=s then gJ ρ Z s c else none) N:=by
 have m1:∀ p c q,E p c q→fC 1 rs p c q:=fun p c q=>(hE p c q).mp
 have m2:∀ p c q,fC 1 rs p c q→E p c q:=fun p c q=>(hE p c q).mpr
 refine⟨fun x y=>(Fu I X l h0 hid x y).trans ⟨fun r=>r.mono m1,fun r=>r.mono m2⟩,fun p c q hf=>?_,fun s c g hs=>?_⟩
 ·obtain⟨es,g,t,b1,b2,b3⟩:=X.on p c q (m2 p c q hf)
  rw[h0] at b3
  rw[if_pos (hid p)]
  unfold gJ
  rw[c5,b1]
  show (dD es c).map _=_
  rw[nU (I.wy _ es b1).1 b2,y6,Lnk.nil hid b3]
 ·split at hs
  ·rename_i hss
   unfold gJ at hs
   obtain⟨r,hr,rfl⟩:=i6.mp hs
   rw[c5] at hr
   cases e:Z.ws[s]? with
   | none=>rw[e] at hr;cases hr
   | some es =>
    rw[e] at hr
    obtain⟨p,q,a1,a2,a3⟩:=X.of s es e _ (dW hr)
    rw[h0] at a2 a3
    exact⟨p,q,m1 _ _ _ a1,(Lnk.nil hid a2).trans hss,Lnk.nil hid a3⟩
  ·cases hs
theorem BR{rs:List (List Nat)}{ρ ρ':Nat→Nat}{δ δ':Nat→Nat→Option Nat}{N:Nat}(a:Aut rs ρ δ N)(b:Aut rs ρ' δ' N)(hid:∀ x,ρ (ρ x)=ρ x){n:Nat}:eE δ' n (ρ' 0) 1000=eE δ n (ρ 0) 1000:=by
 have hr:∀ x,ρ' (ρ x)=ρ' x:=fun x=>(b.rel _ _).mpr ((a.rel _ _).mp (hid x))
 have:=A2 (δ:=δ) (δ':=δ') (f:=ρ') (P:=fun x=>ρ x=x) (n:=n) (s0:=ρ 0) (N:=1000) (fun x y hx hy e=>?_) (fun s hs c=>?_) (fun s hs c g e=>?_) (hid 0)
 ·rw[hr 0] at this
  exact this
 ·have:=(a.rel x y).mpr ((b.rel x y).mp e)
  rw[← hx,← hy]
  exact this
 ·cases e:δ s c with
  | none =>
   show δ' (ρ' s) c=none
   cases e2:δ' (ρ' s) c with
   | none=>rfl
   | some g =>
    obtain⟨p,q,f1,f2,f3⟩:=b.of _ c g e2
    have hps:ρ p=ρ s:=(a.rel _ _).mpr ((b.rel _ _).mp f2)
    have:=a.to p c q f1
    rw[hps,hs,e] at this
    cases this
  | some g =>
   obtain⟨p,q,f1,f2,f3⟩:=a.of s c g e
   have:=b.to p c q f1
   have h1:ρ' p=ρ' s:=by rw[← hr p,f2]
   have h2:ρ' q=ρ' g:=by rw[← hr q,f3]
   rw[h1,h2] at this
   rw[this]
   rfl
 ·obtain⟨p,q,f1,f2,f3⟩:=a.of s c g e
  show ρ g=g
  rw[← f3,hid]
theorem sY{δ:Nat→Option Nat}:∀ {ls:List Nat} {ord:List Nat} {c g:Nat},c∈ls→δ c=some g→g∈cB δ ls ord
 | d::ls,ord,c,g,hc,hg=>by
  show g∈cB δ ls (match δ d with | some g=>if g∈ord then ord else ord++[g] | none=>ord)
  rcases d3.mp hc with rfl | hc
  ·rw[hg]
   dsimp only
   have:g∈(if g∈ord then ord else ord++[g]):=by
    split
    ·assumption
    ·simp
   obtain⟨r,e⟩:=eF δ ls (if g∈ord then ord else ord++[g])
   rw[e]
   exact p7 _ this
  ·exact sY hc hg
theorem gL{δ:Nat→Nat→Option Nat}{ls:List Nat}:∀ (f at':Nat) (ord:List Nat),(∀ (i s:Nat),i<at'→ord[i]?=some s→∀ c∈ls,∀ g,δ s c=some g→g∈ord)→(cD δ ls f at' ord).length≤at' + f→∀ s∈cD δ ls f at' ord,∀ c∈ls,∀ g,δ s c=some g→g∈cD δ ls f at' ord
 | 0,at',ord,h,hl,s,hs,c,hc,g,hg=>by
  obtain⟨i,hi⟩:=p8 (show s∈ord from hs)
  have hl':ord.length≤at':=hl
  exact h i s (by have:=(a9.mp hi).1;omega) hi c hc g hg
 | f+1,at',ord,h,hl,s,hs,c,hc,g,hg=>by
  cases e:ord[at']? with
  | none =>
   have hge:ord.length≤at':=aXy.mp e
   rw[oN _ _ _ _ _ hge] at hs ⊢
   obtain⟨i,hi⟩:=p8 hs
   exact h i s (by have:=(a9.mp hi).1;omega) hi c hc g hg
  | some s0 =>
   rw[lS _ _ _ _ _ e] at hs hl ⊢
   obtain⟨r,er⟩:=eF (δ s0) ls ord
   refine gL f (at' + 1) _ (fun i x hi hx c' hc' g' hg'=>?_) (by omega) s hs c hc g hg
   have hil:i<ord.length:=by
    have:=(a9.mp e).1
    omega
   rw[er,p6 hil] at hx
   by_cases q:i=at'
   ·subst q
    rw[e] at hx
    cases hx
    exact sY hc' hg'
   ·rw[er]
    exact p7 _ (h i x (by omega) hx c' hc' g' hg')
def IsWebV(H:Hp)(r:Addr)(W:List (List (Option Nat))):Prop:=∃ qs:List Addr,H r=some (.tup (qs.map V.ref))∧qs.length=W.length∧∀ (i:Nat) (q:Addr) (row:List (Option Nat)),qs[i]?=some q→W[i]?=some row→H q=some (.tup (row.map iI))
def EZ(K:b5):Sp:=fun vs H Q _=>∃ (n:Nat) (a:Addr) (rs:List (List Nat)),vs=[.int (n:Nat),.ref a]∧1≤n∧n≤4∧MN K H a (cF rs)∧rs.length≤10∧(∀ x∈rs,AllL x∧x.length≤80) ∧
 ∀ (r:Addr) (H':Hp) (ρ:Nat→Nat) (δ:Nat→Nat→Option Nat),Same H H'→Aut rs ρ δ 0→(∀ x,ρ (ρ x)=ρ x)→IsWebV H' r (eE δ n (ρ 0) 1000)→(eE δ n (ρ 0) 1000).length≤900→Q (.ref r) H'
theorem Fd{ρ:Nat→Nat}{Z:WvS}(hid:∀ x,ρ (ρ x)=ρ x){n:Nat}:eE (gJ ρ Z) n (ρ 0) 1000=eE (fun s c=>if ρ s=s then gJ ρ Z s c else none) n (ρ 0) 1000:=by
 refine A2 (δ:=fun s c=>if ρ s=s then gJ ρ Z s c else none) (δ':=gJ ρ Z) (f:=id) (P:=fun x=>ρ x=x) (fun x y _ _ e=>e) (fun s hs c=>?_) (fun s hs c g e=>?_) (hid 0)
 ·show gJ ρ Z s c=Option.map id (if ρ s=s then gJ ρ Z s c else none)
  rw[if_pos hs,Option.map_id]
  rfl
 ·rw[if_pos hs] at e
  unfold gJ at e
  obtain⟨r,_,rfl⟩:=i6.mp e
  exact hid _
end Lw
namespace PySem
section
variable {prog:Program}{w:World}{K:Type}[DecidableEq K]{knd:HeapKind prog w K}{A:Around}{E:Value→Shared→Prop}{s:Shared}
theorem ES{d a:Addr}{xs:List (K×Addr×Value)}{k:K}{v:Value}{Q:Value→Shared→Prop}(hu:knd.room A)(hkey:knd.is s.heap k a)(hm:s.heap.DictOfH knd d xs)(hsz:xs.length≤sizeLine)
  (h1:∀ p,atKey xs k=some p→Q p.2 { s with toks:=s.toks+knd.draws k })
  (h2:atKey xs k=none→∀ h',h'.DictOfH knd d (storedH xs k a v)→Heap.SameBut d s.heap h'→Q v { s with heap:=h',toks:=s.toks+knd.draws k }) :
  wpAny (model prog w) A (dictSetDefault d (.ref a) v) Q E s:=by
 obtain⟨o,es,ep,ho,hc,hd,he,his,hn⟩:=hm
 unfold dictSetDefault
 try with_reducible refine wpAny_holding ?_
 refine wpAny_bind (knd.pyHash hu hkey ?_)
 refine wpAny_bind (wpAny_dictFind_heap (s:={ s with toks:=s.toks+knd.draws k }) hu hkey ho hd he his hn ?_ ?_)
 ·intro hno
  have hnot:k ∉ xs.map (·.1):=not_mem_keys_of_get hno
  refine wpAny_bind (wpAny_rule (wpAny_bind (wpAny_updateDictKeys (hz:=by have e:=size_of_entries he;omega) (s:={ s with toks:=s.toks+knd.draws k }) ho hd (wpAny_pure (h2 (atKey_none_of_get hno) _ ⟨_,_,ep+1,t8 _ ho (aZm (aXH hd _)),
   hc.mapDictKeys _,aXH hd _,?_,?_,?_⟩ (u0 ..))))))
  ·rw[storedH_new (atKey_none_of_get hno)]
   simp[he,entryOfKey]
  ·rw[storedH_new (atKey_none_of_get hno)]
   intro x hx
   rcases j9.mp hx with hx | hx
   ·exact knd.keeps (his x hx) ho hd (u0 ..)
   ·simp only [d6] at hx
    subst hx
    exact knd.keeps hkey ho hd (u0 ..)
  ·rw[storedH_new (atKey_none_of_get hno)]
   rw[i7,aQc]
   refine⟨hn,by simp,?_⟩
   intro x hx y hy
   simp only [i8,aXO,d6] at hy
   subst hy
   exact fun e=>hnot (e ▸ hx)
 ·intro j p hj
  refine wpAny_bind (wpAny_dictEntries (s:={ s with toks:=s.toks+knd.draws k }) ho hd ?_)
  have hej:es[j]?=some (entryOfKey knd (k,p)):=by
   have:=congrArg (fun l=>l[j]?) he
   simp only [c7,hj,y6] at this
   rw[← aQv]
   exact this
  rw[hej]
  exact wpAny_bind (wpAny_rule (wpAny_pure (h1 p (atKey_of_get hn hj))))
theorem meetsH_sdf(knd:HeapKind prog w K)(d a:Addr)(hd:(d == sysModules)=false)(dflt:Value) :
  MeetsIn prog w (Builtin.«dict.setdefault» ⟨[.ref d,.ref a,dflt],[]⟩) (fun A R s=>knd.room A.in1∧∃ k xs,knd.is s.heap k a∧s.heap.DictOfH knd d xs∧xs.length≤sizeLine ∧
   (∀ p,atKey xs k=some p→R (.ok (.ret p.2)) { s with toks:=s.toks+knd.draws k }) ∧
   (atKey xs k=none→∀ h',h'.DictOfH knd d (storedH xs k a dflt)→Heap.SameBut d s.heap h'→R (.ok (.ret dflt)) { s with heap:=h',toks:=s.toks+knd.draws k })) :=
 .of_wp fun A R s ⟨hu,k,xs,hkey,hm,hz,h1,h2⟩=>by
  unfold Builtin.«dict.setdefault»
  refine wpAny_bind ?_
  unfold Builtin.Dict.keyAndDefault
  refine wpAny_bind (wpAny_notOrdered_dict hm.typeIs ?_)
  show wpAny _ _ (pure (d,Value.ref a,some dflt)) _ _ s
  refine wpAny_pure ?_
  show wpAny _ _ (if (d == sysModules)=true then _ else (dictSetDefault d (.ref a) dflt >>= _)) _ _ s
  rw[if_neg (by rw[hd];exact j2)]
  exact wpAny_bind (ES hu hkey hm hz (fun p hp=>wpAny_pure ⟨p.2,rfl,h1 p hp⟩) fun hn h' hm' hs'=>wpAny_pure ⟨dflt,rfl,h2 hn h' hm' hs'⟩)
end
end PySem
namespace L2
open PySem PySem.Spec PyProof.Rows
section
variable {X:Cx}{pins:List (Addr×Obj)}{σ:St}{H:Hp}{s:Shared}{a b:Addr}{kvs:List (List cQ×V)}{k:List cQ}{z:V}{r:Value}{A:Around}{E:Value→Shared→Prop}
theorem FP{Q:Value→Shared→Prop}(hu:A.units+1<cLine)(I:Inv X pins σ H s)(e:H a=some (.dT kvs))(eb:H b=some (.tup (k.map kV)))(hl:kvs.length<sizeLine)(rz:RelV z r)
  (h1:∀ v w' s',cZ kvs k=some v→Inv X pins σ H s'→RelV v w'→Q w' s') (h2:cZ kvs k=none→∀ s',Inv X pins σ (upd H a (.dT (dE kvs k z))) s'→Q r s') :
  wpAny (model X.prog X.w) A (call (.builtin "dict.setdefault") [.ref a,.ref b,r]) Q E s:=by
 obtain⟨zl,hd,xs,rel,dd⟩:=HM I.hok e
 have hz:xs.length≤sizeLine:=by rw[← aQk rel];exact zl
 refine call_meetsIn aQ2 dd.typeIs aXd (aX9 _ _ _) (PySem.meetsH_sdf (tupleKind (bO X.prog X.w)) a b hd r)
  ⟨tupleKind_room_in1 hu,k,xs,lJ I.hok eb,dd,hz,fun p hp=>?_,fun hn h' dd' hs=>?_⟩
 ·have rv:=rel.val k
  rw[hp] at rv
  cases l:cZ kvs k with
  | none=>rw[l] at rv;exact absurd rv (fun z=>z)
  | some v0 =>
   rw[l] at rv
   exact h1 v0 p.2 _ l (I.tok _) rv
 ·have l:cZ kvs k=none:=by
   have rv:=rel.val k
   rw[hn] at rv
   cases l:cZ kvs k with
   | none=>rfl
   | some v0=>rw[l] at rv;exact absurd rv (fun z=>z)
  have hl2:(dE kvs k z).length≤sizeLine:=by have:=cX kvs k z;omega
  obtain⟨q,es,ep,hq,g2,g3,g4,_,g5⟩:=dd'
  refine h2 l _ (mN I (by rw[e];exact True.intro) hs ⟨q,hq⟩ ⟨hl2,hd,_,(rel.put k eb rz).keeps fun c ys ec=>?_,q,es,ep,hq,g2,g3,g4,g5⟩)
  rw[aE (bY ec e (fun z=>nomatch z))]
  exact ec
end
def GM(td ty tx:TE):TE:=fun σ H Q=>td σ H fun x H1=>∃ a,x=.ref a∧KS H1 a∧ty σ H1 fun y H2=>tx σ H2 fun z H3=>∃ kvs k b,H3 a=some (.dT kvs)∧kvs.length<sizeLine∧y=.ref b∧H3 b=some (.tup (k.map kV)) ∧
 (∀ v,cZ kvs k=some v→Q v H3)∧(cZ kvs k=none→Q z (upd H3 a (.dT (dE kvs k z))))
section
variable {X:Cx}{o e f:Expr}{apos cpos:Pos}{td ty tx:TE}
theorem Ci(hu:X.A.units+1<cLine)(ho:PE X o td)(he:PE X e ty)(hf:PE X f tx)(m:M2 X o "setdefault" apos e f cpos):PE X (.Call (.Attribute o "setdefault" apos) [e,f] [] cpos) (GM td ty tx):=by
 intro pins s σ H Q I h
 refine wpAny_Call_method m.base m.few m.line aQ0 aQ2 aXn (bS (ho pins s σ H _ I h) fun u s1 ⟨x,H1,I1,rx,a,ex,d,q1⟩=>?_)
 subst ex
 obtain rfl:u=Value.ref a:=rx
 obtain⟨t1,t2,_⟩:=wN I1 d
 refine⟨t1,t2,?_⟩
 rw[m.trees]
 refine z9 rfl (aQe (aQB (bS (he pins s1 σ H1 _ I1 q1) fun iv s2 ⟨y,H2,I2,ry,q2⟩ =>
  aQB (bS (hf pins s2 σ H2 _ I2 q2) fun fv s3 ⟨z,H3,I3,rz,kvs,k,b,ea,hl,ey,eb,q3,q4⟩=>aQs ?_))))
 subst ey
 cases (show iv=Value.ref b from ry)
 exact FP hu I3 ea eb hl rz (fun v w' s4 l I4 rw'=>⟨v,H3,I4,rw',q3 v l⟩) fun l s4 I4=>⟨z,_,I4,rz,q4 l⟩
end
end L2
namespace PySem
section
variable {prog:Program}{w:World}{A:Around}{E:Value→Shared→Prop}{s:Shared}{l:Addr}{xs:Array (Int×Tok)}
theorem oP{Q:Value→Shared→Prop}(hl:s.heap.IsTuple l (intItems xs))
  (h:∀ s₂:Shared,s₂={ s with heap:=s.heap.push { cls:=.type "tuple_iterator",data:=.fields #[.ref l,.int 0 0] } } →
   (s₂.heap.IsTupleIter s.heap.objs.size l 0∧s₂.heap.IsTuple l (intItems xs))→(∀ b∈[s.heap.objs.size,l],b<s₂.heap.objs.size)→l≠s.heap.objs.size→Q (.ref s.heap.objs.size) s₂) :
  wpAny (model prog w) A (pyIter (.ref l)) Q E s:=by
 have hlt:l<s.heap.objs.size:=by obtain⟨_,e,_⟩:=hl;exact d5 e
 refine wpAny_pyIter_tuple hl (h _ rfl ⟨⟨_,d9 _ rfl,rfl,rfl⟩,hl.push _⟩ (fun b hb=>?_) (d8 hlt))
 show b<(s.heap.push _).objs.size
 rw[y3]
 rcases d3.mp hb with rfl | hb
 ·exact aXX _
 ·rcases d3.mp hb with rfl | hb
  ·exact aJR hlt
  ·cases hb
theorem uU{h':Heap}(hk:∀ b o,b ∉ [s.heap.objs.size]→(s.heap.push { cls:=.type "tuple_iterator",data:=.fields #[.ref l,.int 0 0] }).get? b=some o→h'.get? b=some o) :
  ∀ b o,s.heap.get? b=some o→h'.get? b=some o:=fun b o e=>by
 refine hk b o (fun hm=>?_) (b6 _ e)
 rcases d3.mp hm with e1 | hm
 ·exact absurd (e1 ▸ d5 e) (aQZ _)
 ·cases hm
theorem AE{Q:Value→Shared→Prop}(hh:A.handled=none)(hl:s.heap.IsTuple l (intItems xs))(hne:0<xs.size)
  (h:∀ v h' tk,(intItems xs)[argBest (fun i j=>decide (numAt xs i > numAt xs j)) (xs.size - 1)]?=some v→(∀ b o,s.heap.get? b=some o→h'.get? b=some o)→Q v { s with heap:=h',toks:=tk }) :
  wpAny (model prog w) A (call (.builtin "max") [.ref l]) Q E s:=by
 refine call_max_walk (oP hl fun s₂ e st hfp hlI=>?_)
 subst e
 refine⟨_,_,_,_,_,_,_,rfl,aK1 (A:=A.in1) hh _ l hlI (intItems xs),st,hfp,by simpa [intItems] using hne,CmpOf.ints_gt (numAt xs) (fun _ _=>intItems_at),fun v h' tk hP hk=>?_⟩
 exact h v h' tk (by simpa [intItems] using hP) (uU hk)
theorem AX{Q:Value→Shared→Prop}(hh:A.handled=none)(hl:s.heap.IsTuple l (intItems xs))(hne:0<xs.size)
  (h:∀ v h' tk,(intItems xs)[argBest (fun i j=>decide (numAt xs i<numAt xs j)) (xs.size - 1)]?=some v→(∀ b o,s.heap.get? b=some o→h'.get? b=some o)→Q v { s with heap:=h',toks:=tk }) :
  wpAny (model prog w) A (call (.builtin "min") [.ref l]) Q E s:=by
 refine call_min_walk (oP hl fun s₂ e st hfp hlI=>?_)
 subst e
 refine⟨_,_,_,_,_,_,_,rfl,aK1 (A:=A.in1) hh _ l hlI (intItems xs),st,hfp,by simpa [intItems] using hne,CmpOf.ints_lt (numAt xs) (fun _ _=>intItems_at),fun v h' tk hP hk=>?_⟩
 exact h v h' tk (by simpa [intItems] using hP) (uU hk)
end
end PySem
namespace L2
open PySem PySem.Spec PyProof.Rows
section
variable {X:Cx}{K:b5}
theorem xP{a b:Int}{its:List Value}(rv:Vals [V.int a,V.int b] its):∃ ps:Array (Int×Tok),its.toArray=intItems ps∧ps.size=2∧numAt ps 0=a∧numAt ps 1=b:=by
 cases rv with
 | cons r1 rv =>
  cases rv with
  | cons r2 rv =>
   cases rv
   obtain⟨t,rfl⟩:=r1
   obtain⟨u,rfl⟩:=r2
   exact⟨#[(a,t),(b,u)],by simp[intItems],rfl,rfl,rfl⟩
theorem qS(hK:X.K=K)(hc:X.calm=true):dZ X (.builtin "min") (fun xs H Q=>∃ (t:Addr) (a b:Int),xs=[.ref t]∧SqT K H t [.int a,.int b]∧Q (.int (min a b)) H):=by
 subst hK
 intro pins s σ H xs us Q I r h
 obtain⟨t,a,b,rfl,hq,q⟩:=h
 obtain⟨u,rfl,ru⟩:=r.one
 cases ru
 obtain⟨its,rv,pl,_⟩:=I.tuple hq
 obtain⟨ps,hps,hsz,n0,n1⟩:=xP rv
 have hl:s.heap.IsTuple t (intItems ps):=by rw[← hps];exact pl
 refine AX (I.ok.hd hc) hl (by omega) fun v h' tk hv hk=>?_
 obtain⟨t',rfl⟩:=intItems_at hv
 refine⟨.int (min a b),H,I.kept (t':=tk) hk,⟨t',?_⟩,q⟩
 congr 1
 rw[hsz]
 show numAt ps (if decide (numAt ps 1<numAt ps 0)=true then 1 else 0)=min a b
 by_cases z:b<a
 ·rw[n0,n1,decide_eq_true z,if_pos rfl,n1];omega
 ·rw[n0,n1,decide_eq_false z,if_neg (by decide),n0];omega
theorem qV(hK:X.K=K)(hc:X.calm=true):dZ X (.builtin "max") (fun xs H Q=>∃ (t:Addr) (a b:Int),xs=[.ref t]∧SqT K H t [.int a,.int b]∧Q (.int (max a b)) H):=by
 subst hK
 intro pins s σ H xs us Q I r h
 obtain⟨t,a,b,rfl,hq,q⟩:=h
 obtain⟨u,rfl,ru⟩:=r.one
 cases ru
 obtain⟨its,rv,pl,_⟩:=I.tuple hq
 obtain⟨ps,hps,hsz,n0,n1⟩:=xP rv
 have hl:s.heap.IsTuple t (intItems ps):=by rw[← hps];exact pl
 refine AE (I.ok.hd hc) hl (by omega) fun v h' tk hv hk=>?_
 obtain⟨t',rfl⟩:=intItems_at hv
 refine⟨.int (max a b),H,I.kept (t':=tk) hk,⟨t',?_⟩,q⟩
 congr 1
 rw[hsz]
 show numAt ps (if decide (numAt ps 1 > numAt ps 0)=true then 1 else 0)=max a b
 by_cases z:b > a
 ·rw[n0,n1,decide_eq_true z,if_pos rfl,n1];omega
 ·rw[n0,n1,decide_eq_false z,if_neg (by decide),n0];omega
end
def H_(z:Int):Value→Bool
 | .int n _=>n == z
 | _=>false
theorem zZ{X:Cx}{K:b5}(hK:X.K=K):Ba X "list.index" (fun x xs H Q=>∃ (a:Addr) (ns:List Int) (z:Int) (j:Nat),x=.ref a∧xs=[.int z]∧SqL K H a (ns.map V.int)∧ns[j]?=some z∧(∀ m,m<j→ns[m]?≠some z)∧j<1000∧Q (.int ((j:Nat):Int)) H):=by
 subst hK
 intro pins s σ H x xs v us Q I rx rs h
 obtain⟨a,ns,z,j,rfl,rfl,hq,hj,hno,hsm,q⟩:=h
 cases rx
 obtain⟨u,rfl,ru⟩:=rs.one
 obtain⟨t,rfl⟩:=ru
 obtain⟨its,r,pl,_⟩:=I.list hq
 obtain⟨hlen,hi⟩:=wQ r
 obtain⟨⟨cls,dd,data,sl⟩,ho,hc,n,hd⟩:=id pl.isList
 simp only at hc hd
 subst hc hd
 have at':∀ m,(hm:m<its.length)→∃ w t,ns[m]?=some w∧its[m]=.int w t:=fun m hm=>by
  obtain⟨t,e⟩:=hi m _ (b0 hm)
  obtain⟨w,hw⟩:∃ w,ns[m]?=some w:=⟨_,b0 (by omega)⟩
  rw[hw] at e
  exact⟨w,t,hw,e⟩
 have hj':j<its.length:=by rw[hlen];exact(a9.mp hj).1
 refine call_meets aQj ⟨_,ho,rfl⟩ aZN (aZC _ _) (aJG a its.toArray n dd sl (.int z t) (H_ z) j (by simpa using hj') (by omega) ?_ ?_) ⟨ho,fun y hy=>?_,?_⟩
 ·obtain⟨w,tw,h1,h2⟩:=at' j hj'
  rw[hj] at h1
  cases h1
  show H_ z its[j]=true
  rw[h2]
  exact beq_self_eq_true z
 ·intro m hm hmj
  have hm':m<its.length:=by simpa using hm
  obtain⟨w,tw,h1,h2⟩:=at' m hm'
  show H_ z its[m]=false
  rw[h2]
  refine beq_eq_false_iff_ne.mpr fun e=>hno m hmj ?_
  rw[h1,e]
 ·obtain⟨i,hi',rfl⟩:=aZn (show y∈its by simpa using hy)
  obtain⟨w,tw,_,h2⟩:=at' i hi'
  rw[h2]
  exact aXP w tw z t
 ·exact⟨.int _,H,I.tok _,⟨_,rfl⟩,q⟩
end L2
namespace Lw
open PySem PySem.Spec PyProof.Rows L2 Ma MaR
abbrev Wy:=Nat×Nat×Nat
def kZ(ws:List Wy)(p c q:Nat):Prop:=(p,c,q)∈ws∨∃ d,c=con d∧(q,d,p)∈ws
def MX(ws:List Wy)(g:Nat→Nat→Option Nat):Prop:=∀ p c q,g p c=some q→kZ ws p c q
def IsWy(H:Hp)(v:V)(e:Wy):Prop:=∃ t,v=.ref t∧H t=some (.tup [.int (e.1:Nat),.str (S [e.2.1]),.int (e.2.2:Nat)])
def dY(p c:Nat):List cQ:=[.inl (p:Nat),.inr (S [c])]
theorem DL{p c p' c':Nat}(h:dY p c=dY p' c'):p=p'∧c=c':=by
 unfold dY at h
 injection h with h1 h2
 injection h2 with h2 _
 exact⟨by have:=aJX h1;omega,BN h2⟩
def TabW(kvs:List (List cQ×V))(g:Nat→Nat→Option Nat):Prop:=∀ p c,cZ kvs (dY p c)=(g p c).map fun (q:Nat)=>V.int q
theorem TabW.nil:TabW [] fun _ _=>none:=fun _ _=>rfl
theorem TabW.put{kvs:List (List cQ×V)}{g:Nat→Nat→Option Nat}(h:TabW kvs g)(p c q:Nat):TabW (dE kvs (dY p c) (.int (q:Nat))) fun p' c'=>if p'=p∧c'=c then some q else g p' c':=fun p' c'=>by
 show _=((if p'=p∧c'=c then some q else g p' c').map fun (q:Nat)=>V.int q)
 rw[Fe]
 by_cases z:p'=p∧c'=c
 ·obtain⟨rfl,rfl⟩:=z
  rw[if_pos rfl,if_pos ⟨rfl,rfl⟩]
  rfl
 ·rw[if_neg (fun e=>z (DL e)),if_neg z]
  exact h p' c'
def Eo(ws:List Wy):Prop:=∀ p c q q',kZ ws p c q→kZ ws p c q'→q=q'
def AH(K:b5):Sp:=fun vs H Q _=>∃ (l:Addr) (vs':List V) (ws:List Wy),vs=[.ref l]∧H l=some (.lst vs')∧vs'.length=ws.length∧(∀ (i:Nat) (v:V) (e:Wy),vs'[i]?=some v→ws[i]?=some e→IsWy H v e)∧ws.length≤200∧(∀ e∈ws,cE e.2.1∧bC e.2.1=true) ∧
 (∀ H',Same H H'→Eo ws→Q .non H')∧(∀ (x y:Nat) (p:Addr) (H':Hp),Same H H'→x≠y→(∃ a c,kZ ws a c x∧kZ ws a c y)→H' p=some (.tup [.int (x:Nat),.int (y:Nat)])→Q (.ref p) H')
def iC:Nat→List (List Nat)→Nat→Nat→Nat→Prop
 | _,[],_,_,_=>False
 | B,w::r,p,c,q=>FlE B w w.length p c q∨iC (B+w.length) r p c q
def A8:Nat→Nat→List (List Nat)→Nat→Nat
 | _,B,[],x=>B+x
 | N,B,w::r,x=>if x<N+(w.length - 1) then B+(x - N) else A8 (N+(w.length - 1)) (B+w.length) r x
def sE(rs:List (List Nat))(x:Nat):Nat:=if x=0 then 0 else A8 1 1 rs x
theorem qG:∀ (rs:List (List Nat)) (N B x:Nat),N≤x→B≤A8 N B rs x
 | [],N,B,x,_=>aQN _ _
 | w::r,N,B,x,h=>by
  unfold A8
  split
  ·omega
  ·exact j8 (aQN _ _) (qG r (N+(w.length - 1)) (B+w.length) x (by omega))
theorem Bq:∀ (rs:List (List Nat)) (N B x y:Nat),N≤x→N≤y→A8 N B rs x=A8 N B rs y→x=y
 | [],N,B,x,y,_,_,e=>by
  have:B+x=B+y:=e
  omega
 | w::r,N,B,x,y,hx,hy,e=>by
  unfold A8 at e
  by_cases h1:x<N+(w.length - 1)
  ·by_cases h2:y<N+(w.length - 1)
   ·rw[if_pos h1,if_pos h2] at e;omega
   ·rw[if_pos h1,if_neg h2] at e
    have:=qG r (N+(w.length - 1)) (B+w.length) y (by omega)
    omega
  ·by_cases h2:y<N+(w.length - 1)
   ·rw[if_neg h1,if_pos h2] at e
    have:=qG r (N+(w.length - 1)) (B+w.length) x (by omega)
    omega
   ·rw[if_neg h1,if_neg h2] at e
    exact Bq r _ _ x y (by omega) (by omega) e
theorem iX{rs:List (List Nat)}{x y:Nat}(e:sE rs x=sE rs y):x=y:=by
 unfold sE at e
 by_cases h1:x=0
 ·by_cases h2:y=0
  ·omega
  ·rw[if_pos h1,if_neg h2] at e
   have:=qG rs 1 1 y (by omega)
   omega
 ·by_cases h2:y=0
  ·rw[if_neg h1,if_pos h2] at e
   have:=qG rs 1 1 x (by omega)
   omega
  ·rw[if_neg h1,if_neg h2] at e
   exact Bq rs 1 1 x y (by omega) (by omega) e
theorem kM{N B:Nat}{w:List Nat}{f:Nat→Nat}(hN:1≤N)(h0:f 0=0)(hf:∀ x,N≤x→x<N+(w.length - 1)→f x=B+(x - N)){j:Nat}(hj:j≤w.length):f (cJ N w.length j)=cJ B w.length j:=by
 unfold cJ
 by_cases q:j=0∨j=w.length
 ·rw[if_pos q,if_pos q];exact h0
 ·rw[if_neg q,if_neg q,hf _ (by omega) (by omega)]
  omega
theorem FlE.io{N B:Nat}{w:List Nat}{f:Nat→Nat}(hN:1≤N)(h0:f 0=0)(hf:∀ x,N≤x→x<N+(w.length - 1)→f x=B+(x - N)){p c q:Nat}(h:FlE N w w.length p c q):FlE B w w.length (f p) c (f q):=by
 obtain⟨j,hj,d,hd,h⟩:=h
 refine⟨j,hj,d,hd,?_⟩
 rcases h with ⟨rfl,rfl,rfl⟩ | ⟨rfl,rfl,rfl⟩
 ·exact .inl ⟨rfl,kM hN h0 hf (by omega),kM hN h0 hf (by omega)⟩
 ·exact .inr ⟨rfl,kM hN h0 hf (by omega),kM hN h0 hf (by omega)⟩
theorem FlE.oi{N B:Nat}{w:List Nat}{f:Nat→Nat}(hN:1≤N)(h0:f 0=0)(hf:∀ x,N≤x→x<N+(w.length - 1)→f x=B+(x - N)){p c q:Nat}(h:FlE B w w.length p c q):∃ p' q',p=f p'∧q=f q'∧FlE N w w.length p' c q':=by
 obtain⟨j,hj,d,hd,h⟩:=h
 rcases h with ⟨rfl,rfl,rfl⟩ | ⟨rfl,rfl,rfl⟩
 ·exact⟨_,_,(kM hN h0 hf (by omega)).symm,(kM hN h0 hf (by omega)).symm,j,hj,_,hd,.inl ⟨rfl,rfl,rfl⟩⟩
 ·exact⟨_,_,(kM hN h0 hf (by omega)).symm,(kM hN h0 hf (by omega)).symm,j,hj,_,hd,.inr ⟨rfl,rfl,rfl⟩⟩
theorem BX:∀ (rs:List (List Nat)) (N B:Nat) (f:Nat→Nat),1≤N→f 0=0→(∀ x,N≤x→f x=A8 N B rs x)→∀ {p c q:Nat},fC N rs p c q→iC B rs (f p) c (f q)
 | [],_,_,_,_,_,_,_,_,_,h=>h.elim
 | w::r,N,B,f,hN,h0,hf,p,c,q,h=>by
  rcases h with h | h
  ·exact .inl (h.io hN h0 fun x h1 h2=>by rw[hf x h1];unfold A8;rw[if_pos h2])
  ·exact .inr (BX r (N+(w.length - 1)) (B+w.length) f (by omega) h0 (fun x hx=>by rw[hf x (by omega)];unfold A8;rw[if_neg (by omega)];cases r <;> rfl) h)
theorem Br:∀ (rs:List (List Nat)) (N B:Nat) (f:Nat→Nat),1≤N→f 0=0→(∀ x,N≤x→f x=A8 N B rs x)→∀ {p c q:Nat},iC B rs p c q→∃ p' q',p=f p'∧q=f q'∧fC N rs p' c q'
 | [],_,_,_,_,_,_,_,_,_,h=>h.elim
 | w::r,N,B,f,hN,h0,hf,p,c,q,h=>by
  rcases h with h | h
  ·obtain⟨p',q',a,b,d⟩:=h.oi (f:=f) hN h0 fun x h1 h2=>by rw[hf x h1];unfold A8;rw[if_pos h2]
   exact⟨p',q',a,b,.inl d⟩
  ·obtain⟨p',q',a,b,d⟩:=Br r (N+(w.length - 1)) (B+w.length) f (by omega) h0 (fun x hx=>by rw[hf x (by omega)];unfold A8;rw[if_neg (by omega)];cases r <;> rfl) h
   exact⟨p',q',a,b,.inr d⟩
theorem wK(rs:List (List Nat)):sE rs 0=0∧∀ x,1≤x→sE rs x=A8 1 1 rs x:=⟨by unfold sE;rw[if_pos rfl],fun x hx=>by unfold sE;rw[if_neg (by omega)]⟩
theorem Jf{rs:List (List Nat)}{u v:Nat}(h:Rel (iC 1 rs) u v):u=v∨∃ x y,u=sE rs x∧v=sE rs y∧Rel (fC 1 rs) x y:=by
 obtain⟨z0,z1⟩:=wK rs
 induction h with
 | refl x=>exact .inl rfl
 | symm _ ih =>
  rcases ih with rfl | ⟨x,y,a,b,r⟩
  ·exact .inl rfl
  ·exact .inr ⟨y,x,b,a,r.symm⟩
 | trans _ _ h1 h2 =>
  rcases h1 with rfl | ⟨x,y,a,b,r⟩
  ·exact h2
  ·rcases h2 with rfl | ⟨x',y',a',b',r'⟩
   ·exact .inr ⟨x,y,a,b,r⟩
   ·have:y=x':=iX (b.symm.trans a')
    subst this
    exact .inr ⟨x,y',a,b',r.trans r'⟩
 | go _ g1 g2 ih =>
  obtain⟨p,q,rfl,rfl,e1⟩:=Br rs 1 1 (sE rs) (b9 _) z0 z1 g1
  obtain⟨p',q',rfl,rfl,e2⟩:=Br rs 1 1 (sE rs) (b9 _) z0 z1 g2
  refine .inr ⟨q,q',rfl,rfl,?_⟩
  rcases ih with e | ⟨x,y,a,b,r⟩
  ·rw[iX e] at e1
   exact .go (.refl _) e1 e2
  ·rw[iX a] at e1
   rw[iX b] at e2
   exact .go r e1 e2
theorem Ka{rs:List (List Nat)}{x y:Nat}(h:Rel (fC 1 rs) x y):Rel (iC 1 rs) (sE rs x) (sE rs y):=by
 obtain⟨z0,z1⟩:=wK rs
 induction h with
 | refl x=>exact .refl _
 | symm _ ih=>exact .symm ih
 | trans _ _ a b=>exact .trans a b
 | go _ a b ih=>exact .go ih (BX rs 1 1 (sE rs) (b9 _) z0 z1 a) (BX rs 1 1 (sE rs) (b9 _) z0 z1 b)
theorem FM{rs:List (List Nat)}{ν:Nat→Nat}{δ:Nat→Nat→Option Nat}(hr:∀ x y,ν x=ν y↔Rel (iC 1 rs) x y)(hto:∀ p c q,iC 1 rs p c q→δ (ν p) c=some (ν q))(hof:∀ s c g,δ s c=some g→∃ p q,iC 1 rs p c q∧ν p=s∧ν q=g):Aut rs (fun x=>ν (sE rs x)) δ 0:=by
 obtain⟨z0,z1⟩:=wK rs
 refine⟨fun x y=>⟨fun e=>?_,fun r=>(hr _ _).mpr (Ka r)⟩,fun p c q h=>hto _ _ _ (BX rs 1 1 (sE rs) (b9 _) z0 z1 h),fun s c g h=>?_⟩
 ·rcases Jf ((hr _ _).mp e) with e | ⟨x',y',a,b,r⟩
  ·rw[iX e];exact .refl _
  ·rw[iX a,iX b];exact r
 ·obtain⟨p,q,h1,h2,h3⟩:=hof s c g h
  obtain⟨p',q',rfl,rfl,e⟩:=Br rs 1 1 (sE rs) (b9 _) z0 z1 h1
  exact⟨p',q',e,h2,h3⟩
end Lw
namespace L2
open PySem PySem.Spec PyProof.Rows
theorem IK{a b d:V}{us:List Value}(r:Vals [a,b,d] us):∃ ua ub ud,us=[ua,ub,ud]∧RelV a ua∧RelV b ub∧RelV d ud:=by
 cases r with
 | cons ra r =>
  cases r with
  | cons rb r =>
   cases r with
   | cons rd r =>
    cases r
    exact⟨_,_,_,rfl,ra,rb,rd⟩
def rL(X:Cx)(x y z:Str)(ix:List Nat):List Str:=x::y::z::ix.map fun i=>X.N.getD i ""
def bT(X:Cx)(scope:Scope)(x y z:Str)(ix:List Nat)(ex:List Addr)(s:Shared)(H:Hp):Cx:={ cI X scope x ix ex s H with N:=rL X x y z ix }
section
variable {X:Cx}{scope:Scope}{x y z:Str}{ix:List Nat}
theorem Cp{σ:St}{H H':Hp}{s s':Shared}{fp:List Addr}(J:Inv (cI X scope x ix fp s H) [] (rW σ ix) H' s'):Inv (bT X scope x y z ix fp s H) [] (none::none::none::mE σ ix) H' s':=by
 refine⟨⟨J.ok.mod,J.ok.kind,J.ok.glob,J.ok.blt,J.ok.above,J.ok.inj,J.ok.has,J.ok.cab,J.ok.hd,J.ok.frames,J.ok.stk,J.ok.exf,J.ok.bs,J.ok.bsz,J.ok.noex,J.ok.exfs,J.ok.funs,J.ok.frf⟩,J.os,J.bare,J.base,?_,J.cell,J.free,J.freeC,J.pin,J.hok,?_⟩
 ·obtain⟨m,hn,hl⟩:=J.loc
  refine⟨m,hn,fun i y' v h1 h2 h3=>?_⟩
  cases i with
  | zero=>simp at h2
  | succ i =>
   cases i with
   | zero=>simp at h2
   | succ i =>
    cases i with
    | zero=>simp at h2
    | succ i=>exact hl (i+1) y' v (by simpa [cI,oS,bT,rL] using h1) (by simpa [rW,mE] using h2) h3
 ·simp[bT,rL,mE]
theorem Ce{pins:List (Addr×Obj)}{σ σ':St}{H H':Hp}{s s':Shared}{fp:List Addr}{h'':Heap}(I:Inv X pins σ H s)(hf:∀ b∈fp,gQ X pins H b)(J:Inv (bT X scope x y z ix fp s H) [] σ' H' s')
  (sb:Heap.SameBut s.heap.objs.size s'.heap h''):Inv X pins σ H' { s' with heap:=h'' }:=by
 have neC:∀ b o,s.heap.get? b=some o→b≠s.heap.objs.size:=fun b o e=>d8 (d5 e)
 have B:Un (wV X.stack) fp H H' s.heap s'.heap:=J.base
 have hC:H' s.heap.objs.size=none:=J.free
 refine I.call' (ch:=fp) J.os ?_ ?_ J.bare fun b hb=>⟨(hf b hb).2.2.2.1,(hf b hb).2.1,(hf b hb).2.2.2.2.1,(hf b hb).2.2.2.2.2⟩
 ·refine⟨fun b o e n hb hx=>(sb.2 b (neC b o e)).trans (B.keep b o e n hb hx),fun b o e n hb hx=>?_,B.free,fun b o e hx=>?_,B.tups,B.frzs,B.tbls⟩
  ·obtain⟨sl,q⟩:=B.slot b o e n hb hx
   exact⟨sl,(sb.2 b (neC b o e)).trans q⟩
  ·obtain⟨o',q⟩:=B.there b o e hx
   exact⟨o',(sb.2 b (neC b o e)).trans q⟩
 ·intro b ob e
  refine(J.hok b ob e).stay (fun c w' hc q=>(sb.2 c ?_).trans q) (fun _ q=>q) fun _ _ q=>q
  rintro rfl
  rcases hc with hc | hc
  ·rw[← hc,hC] at e;cases e
  ·rw[hC] at hc;cases hc
end
def vJ(K:b5)(J:It)(D:Addr)(Q:VK)(ti:TT)(te:TE)(c:St)(H0:Hp):Prop :=
 ∃ W:Nat→Nat→Hp→Prop,(∃ m,W 0 m H0)∧∀ i m H,W i m H →
  (J.stop i H∧Q (.ref D) H)∨(J.go i H∧∃ N:Hp→Prop,(∀ H',N H'→∃ m',m' < m∧W (i+1) m' H')∧∀ v H',J.yld i H v H'→∃ p a b d,v=.ref p∧SqT K H' p [a,b,d] ∧
   ti (some a::some b::some d::c) H' fun t H2=>if t=true then te (some a::some b::some d::c) H2 fun y H3=>∃ ys,H3 D=some (.lst ys)∧ys.length<sizeLine∧N (upd H3 D (.lst (ys++[y]))) else N H2)
def IV(K:b5)(wi:TI)(ix:List Nat)(ti:TT)(te:TE):TE:=fun σ H Q=>wi σ H fun J H1=>∀ D,H1 D=none→vJ K J D Q ti te (mE σ ix) (upd H1 D (.lst []))
section
variable {X:Cx}{scope:Scope}{x y z:Str}{px py pz tp pos:Pos}{k1:Nat}{ix:List Nat}{elt iter:Expr}{ifs:List Expr}{wi:TI}{ti:TT}{te:TE}
theorem zQ{pins:List (Addr×Obj)}{σ:St}{H:Hp}{s:Shared}{fp:List Addr}{it D:Addr}{tn:Nat→Heap→Prop}{J:It}{Q:VK}{E:Value→Shared→Prop}{RR:Result→Shared→Prop}(S:CompSc X scope x ix)(hy:scope.names.lookup y=some .local)(hz':scope.names.lookup z=some .local)(hc:X.calm=true)
  (he:∀ s H,PE (bT X scope x y z ix fp s H) elt te) (hi:∀ s H,sL (bT X scope x y z ix fp s H) ifs ti)
  (I:Inv X pins σ H s) (T:Turn X.prog X.w X.K (.Tuple [.Name x px,.Name y py,.Name z pz] k1 tp) J fp it tn) (st:tn 0 s.heap) (hf:∀ b∈fp,gQ X pins H b) (go:vJ X.K J D Q ti te (mE σ ix) H)
  (nd:(rL X x y z ix).Nodup)
  (hR:∀ σ' H' s',Inv (bT X scope x y z ix fp s H) [] σ' H' s'→Q (.ref D) H'→RR (.ok .next) s') :
  wpAny (model X.prog X.w) X.A (newFunctionEnv scope X.env.globals (Ct scope.names X.env.cells) [] X.env.qual none .none (some X.env)) (fun cenv s₄=>cenv.locals=s.heap.objs.size ∧
   codeAny (model X.prog X.w) X.A (.compStart (.ListComp elt [⟨.Tuple [.Name x px,.Name y py,.Name z pz] k1 tp,iter,ifs,0⟩] scope pos) 0 (.ref it) (.ref D) { cenv with scope:=relabel scope X.env }) RR s₄) E s:=by
 refine wpAny_newFunctionEnv S.nocell (by intro y hy;simp at hy) (fun h' ns sb=>⟨rfl,?_⟩) S.kind
 have hlt:∀ b∈fp,b<s.heap.objs.size:=fun b hb=>by
  obtain⟨o,e,_⟩:=T.obj 0 _ st b hb
  exact d5 e
 have I0:Inv (bT X scope x y z ix fp s H) [] (none::none::none::mE σ ix) H { s with heap:=h',toks:=s.toks+([]:List (Str×Value)).length }:=Cp (xZ S I hf hlt ns sb)
 have st0:tn 0 h':=T.keep 0 _ _ st fun b hb o e=>(sb.2 b (d8 (d5 e))).trans (b6 _ e)
 obtain⟨W,⟨m0,w0⟩,turn⟩:=go
 have stat:∀ {H':Hp},(∀ b∈fp,H' b=none)→∀ b∈fp,gQ (bT X scope x y z ix fp s H) [] H' b:=fun hn b hb=>by
  refine⟨hn b hb,d8 (hlt b hb),fun zz=>?_,.inl hb,fun y c e=>(I0.ok.exf b hb).2 y c e,fun p hp=>absurd (show p∈([]:List (Addr×Obj)) from hp) (by simp)⟩
  exact I0.ok.exfs b hb zz
 have loop:codeAny (model X.prog X.w) X.A (.compLoop (.ListComp elt [⟨.Tuple [.Name x px,.Name y py,.Name z pz] k1 tp,iter,ifs,0⟩] scope pos) 0 (.ref it) (.ref D) (bT X scope x y z ix fp s H).env) RR { s with heap:=h',toks:=s.toks+([]:List (Str×Value)).length }:=by
  refine yU (fun n s'=>∃ i o o' o'' H',Inv (bT X scope x y z ix fp s H) [] (o::o'::o''::mE σ ix) H' s'∧tn i s'.heap∧(∀ b∈fp,H' b=none)∧W i n H') ?_ m0 ⟨0,none,none,none,H,I0,st0,fun b hb=>(hf b hb).1,w0⟩
  rintro n s3 ⟨i,o3,o3',o3'',H3,I3,st3,fr3,w3⟩
  rcases turn i n H3 w3 with ⟨stop,qn⟩ | ⟨gone,N,hN,step⟩
  ·refine bS (T.done (bT X scope x y z ix fp s H) rfl rfl rfl hc i [] s3 _ H3 _ I3 (stat fr3) st3 stop) fun r s4 ⟨hr,I4⟩=>?_
   subst hr
   exact hR _ H3 s4 I4 qn
  ·refine bS (T.item (bT X scope x y z ix fp s H) rfl rfl rfl hc i [] s3 _ H3 (fun _ _=>False) I3 (stat fr3) st3 gone) fun r s4 ⟨u,hr,h4⟩=>?_
   subst hr
   refine bS h4 fun _ s5 ⟨v5,H5,I5,r5,y5,st5,fr5⟩=>?_
   obtain⟨p,a,b,d,rfl,hq,hstep⟩:=step v5 H5 y5
   cases r5
   have I5':=I5.pinned (stat fr5) (T.obj _ _ st5)
   obtain⟨its,rv,ht,hz⟩:=I5'.tuple hq
   obtain⟨ua,ub,ud,rfl,ra,rb,rd⟩:=IK rv
   refine assign_Tuple_tuple (I5'.ok.hd hc) ht (by rfl) (by rfl) fun h6 hx6=>?_
   have I6:=I5'.kept (h':=h6) (t':=s5.toks) fun b o e=>hx6 b o (d8 (d5 e)) e
   show wpAny _ _ (assignInOrder [assign (.Name x px) (bT X scope x y z ix fp s H).env,assign (.Name y py) (bT X scope x y z ix fp s H).env,assign (.Name z pz) (bT X scope x y z ix fp s H).env] [ua,ub,ud]) _ _ _
   have hx0:(bT X scope x y z ix fp s H).N[0]?=some x:=rfl
   have hy0:(bT X scope x y z ix fp s H).N[1]?=some y:=rfl
   have hz0:(bT X scope x y z ix fp s H).N[2]?=some z:=rfl
   refine assignInOrder_cons (wpAny_assign_Name (eC I6 nd hx0 (.inl (lookup_relabel_local S.x)) ra (fun s7 I7=>?_) (.inr (lookup_relabel_local S.x))))
   refine assignInOrder_cons (wpAny_assign_Name (eC I7 nd hy0 (.inl (lookup_relabel_local hy)) rb (fun s75 I75=>?_) (.inr (lookup_relabel_local hy))))
   refine assignInOrder_cons (wpAny_assign_Name (eC I75 nd hz0 (.inl (lookup_relabel_local hz')) rd (fun s8 I8=>assignInOrder_nil ?_) (.inr (lookup_relabel_local hz'))))
   refine bS (hi s H _ s8 _ H5 _ I8 hstep) fun ok s9 ⟨H9,I9,q9⟩=>?_
   have again:∀ {o7 o8 o9:Option V} {H7:Hp} {s7:Shared},Inv (bT X scope x y z ix fp s H) ([]++jW fp s5.heap) (o7::o8::o9::mE σ ix) H7 s7→N H7→∃ m,m<n∧∃ i o o' o'' H',Inv (bT X scope x y z ix fp s H) [] (o::o'::o''::mE σ ix) H' s7∧tn i s7.heap∧(∀ b∈fp,H' b=none)∧W i m H':=fun {o7 o8 o9 H7 s7} I7 n7=>by
    obtain⟨m',hm,w7⟩:=hN H7 n7
    refine⟨m',hm,i+1,o7,o8,o9,H7,I7.unpinned,T.keep _ _ _ st5 fun b hb o e=>(I7.pin (b,o) (j0 _ (j0 _ (fR hb e)))).1,fun b hb=>?_,w7⟩
    obtain⟨o,e,d⟩:=T.obj _ _ st5 b hb
    exact(I7.pin (b,o) (j0 _ (j0 _ (fR hb e)))).2.1
   cases ok with
   | false =>
    rw[if_neg (by simp)] at q9
    exact again I9 q9
   | true =>
    rw[if_pos rfl] at q9
    refine bS (he s H _ s9 _ H9 _ I9 q9) fun v s10 ⟨y10,H10,I10,r10,ys,hD,hz,n10⟩=>?_
    exact bX _ s10 _ H10 (.ref D) [y10] (.ref D) [v] _ I10 rfl (.cons r10 .nil) ⟨D,ys,y10,rfl,rfl,hD,hz,n10⟩ |> fun zz=>wpAny_mono zz (fun _ s11 ⟨_,H11,I11,_,q11⟩=>again I11 q11) fun _ _ f=>f.elim
 exact codeAny_compStart_list loop (T.self _ 0 _ _ _ st0 loop)
end
def xU(sc0 scope:Scope)(N:List Str)(x y z:Str)(ix:List Nat):Bool:=mM sc0 scope N x ix && decide (scope.names.lookup y=some .local) && decide (scope.names.lookup z=some .local) && decide ((x::y::z::ix.map fun i=>N.getD i "").Nodup)
theorem AQ{K:b5}{a:Addr}{xs:List V}{D:Addr}{Q:VK}{te:TE}{c:St}{H0:Hp}(Pv:Nat→Hp→Prop)(h0:Pv 0 H0)(hl:∀ i H,i≤xs.length→Pv i H→SqL K H a xs)
  (hs:∀ i x H,xs[i]?=some x→Pv i H→∃ p u v w,x=.ref p∧SqT K H p [u,v,w]∧te (some u::some v::some w::c) H fun v H2=>∃ zs,H2 D=some (.lst zs)∧zs.length<sizeLine∧Pv (i+1) (upd H2 D (.lst (zs++[v])))) (hd:∀ H,Pv xs.length H→Q (.ref D) H) :
  vJ K (HS K a) D Q Ja te c H0:=by
 refine⟨fun i m H=>m=xs.length - i∧i≤xs.length∧Pv i H,⟨_,rfl,l9 _,h0⟩,?_⟩
 rintro i m H ⟨rfl,hi,p⟩
 have q1:=hl i H hi p
 by_cases hlt:i<xs.length
 ·refine .inr ⟨⟨xs,xs[i],q1,by simp[hlt]⟩,Pv (i+1),fun H' p'=>⟨xs.length - (i+1),by omega,rfl,hlt,p'⟩,fun v H' hv=>?_⟩
  obtain⟨rfl,hv⟩:=hv
  obtain⟨pp,x,y,w,rfl,hq,h⟩:=hs i v H' (hv xs q1) p
  exact⟨pp,x,y,w,rfl,hq,gY (B:=Pv (i+1) H') h⟩
 ·have e:i=xs.length:=by omega
  subst e
  exact .inl ⟨⟨xs,q1,b9 _⟩,hd H p⟩
def Ej(K:b5)(i:Nat)(wi:TI)(ix:List Nat)(ti:TT)(te:TE):TS:=fun D σ H=>IV K wi ix ti te σ H fun v H1=>D.nx (σ.set i (some v)) H1
section
variable {X:Cx}{scope:Scope}{x y z:Str}{px py pz tp pos:Pos}{k1:Nat}{ix:List Nat}{elt iter:Expr}{ifs:List Expr}{wi:TI}{ti:TT}{te:TE}
theorem Dk{i:Nat}{w:Str}{pw spos:Pos}(hN:X.N.Nodup)(hw:X.N[i]?=some w)(hwl:X.env.scope.names.lookup w=some .local)(S:CompSc X scope x ix)(hy:scope.names.lookup y=some .local)(hz':scope.names.lookup z=some .local)(nd:(rL X x y z ix).Nodup)(hc:X.calm=true)(hi:PI X (.Tuple [.Name x px,.Name y py,.Name z pz] k1 tp) iter wi)
  (hif:∀ fp s H,sL (bT X scope x y z ix fp s H) ifs ti) (he:∀ fp s H,PE (bT X scope x y z ix fp s H) elt te)
  (hsw:swapsWith (.ListComp elt [⟨.Tuple [.Name x px,.Name y py,.Name z pz] k1 tp,iter,ifs,0⟩] scope pos) (some (.Name w pw)) spos.line X.env=pure true:=by rfl)
  (hs:∀ z',foldedSetIterable iter X.env z'=pure z':=by intro _;rfl):PS X (.Assign [.Name w pw] (.ListComp elt [⟨.Tuple [.Name x px,.Name y py,.Name z pz] k1 tp,iter,ifs,0⟩] scope pos) spos) (Ej X.K i wi ix ti te):=by
 intro pins s σ H D I h
 rw[exec_Assign_Name_used _ _ _ _ hsw]
 refine wpAny_bind (wpAny_standAt (wpAny_bind ?_))
 show wpAny _ X.A (do let _ ← comprehension (.ListComp elt [⟨.Tuple [.Name x px,.Name y py,.Name z pz] k1 tp,iter,ifs,0⟩] scope pos) scope X.env _ (newList []) false (eval iter X.env) (some (assign (.Name w pw) X.env))) _ _ s
 refine wpAny_bind (wpAny_mono (wpAny_comprehension_free (use:=some (assign (.Name w pw) X.env)) (Q:=fun _ s'=>SP X pins D .next s') rfl hs (iL (S.cells I.ok)) S.kind S.loc (bS (hi pins s σ H _ I h) fun v s1 h1=>bS h1 fun itv s2 h2=>?_)) (fun _ s' hq=>wpAny_pure (wpAny_pure hq)) fun _ _ e=>e)
 obtain⟨it,fp,tn,J,H2,rfl,I2,T,st2,f2,q⟩:=h2
 refine wpAny_newObj_type ?_
 have fr:=I2.fresh
 have I3:Inv X pins σ (upd H2 s2.heap.objs.size (.lst [])) { s2 with heap:=s2.heap.push { cls:=.type "list",data:=.seq ([]:List Value).toArray } }:=I2.lnew (t':=s2.toks) .nil (l9 _)
 have hD:∀ b∈fp,b≠s2.heap.objs.size:=fun b hb=>by
  obtain⟨o,e,_⟩:=T.obj 0 _ st2 b hb
  exact d8 (d5 e)
 have f3:=Inv.fp_upd (o:=.lst []) f2 hD
 have st3:tn 0 (s2.heap.push { cls:=.type "list",data:=.seq ([]:List Value).toArray }):=T.keep 0 _ _ st2 fun b hb o e=>b6 _ e
 refine bS (zQ (px:=px) (py:=py) (pz:=pz) (tp:=tp) (k1:=k1) (pos:=pos) (iter:=iter) (E:=X.xe) (RR:=compPost (model X.prog X.w) X.A X.xe (some (assign (.Name w pw) X.env)) (fun _ s'=>SP X pins D .next s') (.ref s2.heap.objs.size) (s2.heap.push { cls:=.type "list",data:=.seq ([]:List Value).toArray }).objs.size) S hy hz' hc (he fp) (hif fp) I3 T st3 f3 (q _ fr) nd ?_) fun cenv s4 ⟨e,zz⟩=>?_
 ·intro σ' H' s' J' q'
  have neL:(s2.heap.push { cls:=.type "list",data:=.seq ([]:List Value).toArray }).objs.size≠X.env.locals:=aQU I3.lt
  have I4:Inv X pins σ H' { s' with heap:=s'.heap }:=Ce I3 f3 J' (.refl ..)
  show wpAny (model X.prog X.w) X.A (assign (.Name w pw) X.env (.ref s2.heap.objs.size)) _ X.xe s'
  refine wpAny_assign_Name (oE (s:=s') I4 hN hw (.inl hwl) (show RelV (.ref s2.heap.objs.size) _ from rfl) (fun s6 I6 ⟨a,sb,ha⟩=>?_) (.inr hwl))
  have ha':a≠(s2.heap.push { cls:=.type "list",data:=.seq ([]:List Value).toArray }).objs.size:=by
   rcases ha with ha | ha
   ·rw[ha];exact aQX neL
   ·obtain⟨v,z⟩:=I3.cell w a ha
    exact d8 z.lt
  obtain⟨m,hn,_⟩:=J'.loc
  refine⟨m,hn.sameBut sb (aQX ha'),fun h'' sb2=>⟨σ.set i (some (.ref s2.heap.objs.size)),H',?_,q'⟩⟩
  -- the block's dict is not ours: its change is no matter
  have I7:Inv X pins (σ.set i (some (.ref s2.heap.objs.size))) H' s6:=I6
  have hCn:H' (s2.heap.push { cls:=.type "list",data:=.seq ([]:List Value).toArray }).objs.size=none:=J'.free
  refine I7.turned (s:=s6) (t':=s6.toks) (it:=(s2.heap.push { cls:=.type "list",data:=.seq ([]:List Value).toArray }).objs.size) (fun b o hb e=>(sb2.2 b hb).trans e) hCn neL (.inr (j8 I3.sz (b9 _))) (fun y c e z=>?_) fun p hp z=>?_
  ·obtain⟨v,q⟩:=I3.cell y c e
   exact absurd z (d8 q.lt)
  ·exact absurd z (d8 (d5 (I3.pin p hp).1))
 ·rw[← show cenv.locals=(s2.heap.push { cls:=.type "list",data:=.seq ([]:List Value).toArray }).objs.size from e] at zz;exact zz
theorem Cz{K:b5}{i:Nat}{w:Str}{pw spos:Pos}{sc0:Scope}{N:List Str}(hN:X.N.Nodup)(hw:X.N[i]?=some w)(hwl:X.env.scope.names.lookup w=some .local)(h:xU sc0 scope N x y z ix=true)(hK:X.K=K)(e1:X.env.scope=sc0)(e2:X.N=N)(hc:X.calm=true)(hi:PI X (.Tuple [.Name x px,.Name y py,.Name z pz] k1 tp) iter wi)
  (hif:∀ fp s H,sL (bT X scope x y z ix fp s H) ifs ti) (he:∀ fp s H,PE (bT X scope x y z ix fp s H) elt te)
  (hsw:swapsWith (.ListComp elt [⟨.Tuple [.Name x px,.Name y py,.Name z pz] k1 tp,iter,ifs,0⟩] scope pos) (some (.Name w pw)) spos.line X.env=pure true:=by rfl)
  (hs:∀ z',foldedSetIterable iter X.env z'=pure z':=by intro _;rfl):PS X (.Assign [.Name w pw] (.ListComp elt [⟨.Tuple [.Name x px,.Name y py,.Name z pz] k1 tp,iter,ifs,0⟩] scope pos) spos) (Ej K i wi ix ti te):=by
 subst hK
 unfold xU at h
 rw[y7,y7,y7,decide_eq_true_iff,decide_eq_true_iff,decide_eq_true_iff] at h
 refine Dk hN hw hwl (iP h.1.1.1 e1 e2).1 h.1.1.2 h.1.2 ?_ hc hi hif he hsw hs
 subst e2
 exact h.2
end
end L2
namespace Lw
open PySem PySem.Spec PyProof.Rows L2 Ma MaR
def iB(B m j d:Nat):Wy:=if bC d=true then (cJ B m j,d,cJ B m (j+1)) else (cJ B m (j+1),con d,cJ B m j)
def sD(B:Nat)(w:List Nat):List Wy:=w.zipIdx.map fun dj=>iB B w.length dj.2 dj.1
def fJ:Nat→List (List Nat)→List Wy
 | _,[]=>[]
 | B,w::r=>sD B w++fJ (B+w.length) r
def jX:Nat→List (List Nat)→Nat
 | B,[]=>B
 | B,w::r=>jX (B+w.length) r
theorem mD:∀ (B:Nat) (rs:List (List Nat)),jX B rs=B+(rs.map List.length).sum
 | B,[]=>rfl
 | B,w::r=>by
  show jX (B+w.length) r=_
  rw[mD (B+w.length) r,i8,aQE]
  omega
theorem qK(w:List Nat):∀ (B:Nat) (rs:List (List Nat)),fJ B (rs++[w])=fJ B rs++sD (jX B rs) w
 | B,[]=>by show sD B w++[]=[]++sD B w;rw[m7,aZZ]
 | B,x::rs=>by
  show sD B x++fJ (B+x.length) (rs++[w])=(sD B x++fJ (B+x.length) rs)++sD (jX (B+x.length) rs) w
  rw[qK w,l6]
theorem uR(w:List Nat):∀ (B:Nat) (rs:List (List Nat)),jX B (rs++[w])=jX B rs+w.length
 | B,[]=>rfl
 | B,x::rs=>uR w (B+x.length) rs
theorem pT(B:Nat)(w:List Nat):(sD B w).length=w.length:=by unfold sD;rw[b7,aJH]
theorem nH:∀ (B:Nat) (rs:List (List Nat)),(fJ B rs).length=(rs.map List.length).sum
 | B,[]=>rfl
 | B,w::r=>by
  show (sD B w++fJ (B+w.length) r).length=_
  rw[c6,pT,nH,i8,aQE]
theorem wI{B:Nat}{w:List Nat}{j d:Nat}(h:w[j]?=some d):(sD B w)[j]?=some (iB B w.length j d):=by
 unfold sD
 rw[c7,aZc,h]
 show some (iB B w.length (0+j) d)=_
 rw[aKW]
theorem EQ{B:Nat}{w:List Nat}{j d:Nat}(h:w[j]?=some d):(sD B w).take (j+1)=(sD B w).take j++[iB B w.length j d]:=by
 rw[t9,wI h]
 rfl
theorem wyW_mem{B:Nat}{w:List Nat}{e:Wy}:e∈sD B w↔∃ j d,w[j]?=some d∧e=iB B w.length j d:=by
 constructor
 ·intro h
  obtain⟨j,hj⟩:=p8 h
  have hl:j<w.length:=by rw[← pT B w];exact(a9.mp hj).1
  have hd:w[j]?=some w[j]:=b0 hl
  rw[wI hd] at hj
  exact⟨j,_,hd,(j1 hj).symm⟩
 ·rintro⟨j,d,hd,rfl⟩
  exact b8 (wI hd)
theorem Eh{B m j d:Nat}(hd:cE d):cE (iB B m j d).2.1∧bC (iB B m j d).2.1=true:=by
 unfold iB
 split
 ·rename_i h;exact⟨hd,h⟩
 ·rename_i h
  refine⟨cV hd,?_⟩
  show bC (con d)=true
  unfold bC con at *
  unfold cE at hd
  simp at h
  split <;> simp <;> omega
theorem F8{a b:List Wy}{p c q:Nat}:kZ (a++b) p c q↔kZ a p c q∨kZ b p c q:=by
 unfold kZ
 constructor
 ·rintro(h | ⟨d,e,h⟩)
  ·rcases j9.mp h with h | h
   ·exact .inl (.inl h)
   ·exact .inr (.inl h)
  ·rcases j9.mp h with h | h
   ·exact .inl (.inr ⟨d,e,h⟩)
   ·exact .inr (.inr ⟨d,e,h⟩)
 ·rintro((h | ⟨d,e,h⟩) | (h | ⟨d,e,h⟩))
  ·exact .inl (p7 _ h)
  ·exact .inr ⟨d,e,p7 _ h⟩
  ·exact .inl (j0 _ h)
  ·exact .inr ⟨d,e,j0 _ h⟩
theorem LR{B:Nat}{w:List Nat}(hw:AllL w){p c q:Nat}:kZ (sD B w) p c q↔FlE B w w.length p c q:=by
 have hL:∀ {j d},w[j]?=some d→cE d:=fun h=>hw _ (b8 h)
 constructor
 ·rintro(h | ⟨d,rfl,h⟩)
  ·obtain⟨j,e,he,z⟩:=wyW_mem.mp h
   refine⟨j,(a9.mp he).1,e,he,?_⟩
   unfold iB at z
   split at z
   ·obtain⟨rfl,rfl,rfl⟩:p=_∧c=_∧q=_:=by simpa using z
    exact .inl ⟨rfl,rfl,rfl⟩
   ·obtain⟨rfl,rfl,rfl⟩:p=_∧c=_∧q=_:=by simpa using z
    exact .inr ⟨rfl,rfl,rfl⟩
  ·obtain⟨j,e,he,z⟩:=wyW_mem.mp h
   refine⟨j,(a9.mp he).1,e,he,?_⟩
   unfold iB at z
   split at z
   ·obtain⟨rfl,rfl,rfl⟩:q=_∧d=_∧p=_:=by simpa using z
    exact .inr ⟨rfl,rfl,rfl⟩
   ·obtain⟨rfl,rfl,rfl⟩:q=_∧d=_∧p=_:=by simpa using z
    exact .inl ⟨aW (hL he),rfl,rfl⟩
 ·rintro⟨j,hj,d,hd,⟨rfl,rfl,rfl⟩ | ⟨rfl,rfl,rfl⟩⟩
  ·by_cases q:bC c=true
   ·refine .inl (wyW_mem.mpr ⟨j,c,hd,?_⟩)
    unfold iB;rw[if_pos q]
   ·refine .inr ⟨con c,(aW (hL hd)).symm,wyW_mem.mpr ⟨j,c,hd,?_⟩⟩
    unfold iB;rw[if_neg q]
  ·by_cases q:bC d=true
   ·refine .inr ⟨d,rfl,wyW_mem.mpr ⟨j,d,hd,?_⟩⟩
    unfold iB;rw[if_pos q]
   ·refine .inl (wyW_mem.mpr ⟨j,d,hd,?_⟩)
    unfold iB;rw[if_neg q]
theorem BP:∀ (B:Nat) (rs:List (List Nat)),(∀ x∈rs,AllL x)→∀ {p c q:Nat},kZ (fJ B rs) p c q↔iC B rs p c q
 | B,[],_,p,c,q=>by
  constructor
  ·rintro(h | ⟨_,_,h⟩)
   ·cases h
   ·cases h
  ·exact fun h=>h.elim
 | B,w::r,h,p,c,q=>by
  show kZ (sD B w++fJ (B+w.length) r) p c q↔FlE B w w.length p c q∨iC (B+w.length) r p c q
  rw[F8,LR (h w i9),BP _ r (fun x hx=>h x (g9 _ hx))]
theorem tV:∀ (B:Nat) (rs:List (List Nat)),(∀ x∈rs,AllL x)→∀ e∈fJ B rs,cE e.2.1∧bC e.2.1=true
 | B,[],_,e,he=>by cases he
 | B,w::r,h,e,he=>by
  rcases j9.mp (show e∈sD B w++fJ (B+w.length) r from he) with z | z
  ·obtain⟨j,d,hd,rfl⟩:=wyW_mem.mp z
   exact Eh (h w i9 d (b8 hd))
  ·exact tV _ r (fun x hx=>h x (g9 _ hx)) e z
def eN(lo hi:Nat)(e:Wy):Wy:=(if e.1=hi then lo else e.1,e.2.1,if e.2.2=hi then lo else e.2.2)
structure NuI(rs:List (List Nat))(ws:List Wy)(ν:Nat→Nat):Prop where
 snd:∀ x y,ν x=ν y→Rel (iC 1 rs) x y
 ed:∀ p c q,kZ ws p c q↔∃ p' q',iC 1 rs p' c q'∧ν p'=p∧ν q'=q
 z:ν 0=0
 low:∀ e∈ws,cE e.2.1∧bC e.2.1=true
 bd:∀ e∈ws,e.1≤200∧e.2.2≤200
theorem xR:∀ (B:Nat) (rs:List (List Nat)),1≤B→∀ e∈fJ B rs,e.1<jX B rs∧e.2.2<jX B rs
 | B,[],_,e,he=>by cases he
 | B,w::r,hB,e,he=>by
  show e.1<jX (B+w.length) r∧e.2.2<jX (B+w.length) r
  rcases j9.mp (show e∈sD B w++fJ (B+w.length) r from he) with z | z
  ·obtain⟨j,d,hd,rfl⟩:=wyW_mem.mp z
   have hj:j<w.length:=(a9.mp hd).1
   have hb:∀ i,i≤w.length→cJ B w.length i<B+w.length:=fun i hi=>by unfold cJ;split <;> omega
   have g:=mD (B+w.length) r
   have b1:=hb j (by omega)
   have b2:=hb (j+1) (by omega)
   unfold iB
   split
   ·dsimp only;omega
   ·dsimp only;omega
  ·exact xR _ r (by omega) e z
theorem NuI.init{rs:List (List Nat)}(h:∀ x∈rs,AllL x)(hs:(rs.map List.length).sum≤100):NuI rs (fJ 1 rs) fun x=>x:=by
 refine⟨fun x y e=>?_,fun p c q=>?_,rfl,tV 1 rs h,fun e he=>by have:=xR 1 rs (b9 _) e he;rw[mD] at this;omega⟩
 ·have e':x=y:=e
  rw[e'];exact .refl _
 ·rw[BP 1 rs h]
  exact⟨fun z=>⟨p,q,z,rfl,rfl⟩,fun ⟨_,_,z,e1,e2⟩=>by
   have e1':_=p:=e1
   have e2':_=q:=e2
   rw[← e1',← e2'];exact z⟩
def nV(ws:List Wy):Nat:=(ws.map fun e=>e.1+e.2.2).sum
theorem BO{lo hi:Nat}(h:lo≤hi)(e:Wy):(eN lo hi e).1+(eN lo hi e).2.2≤e.1+e.2.2:=by
 unfold eN
 dsimp only
 split <;> split <;> omega
theorem Bc{lo hi:Nat}(h:lo≤hi):∀ ws:List Wy,nV (ws.map (eN lo hi))≤nV ws
 | []=>b9 _
 | e::ws=>by
  have:=Bc h ws
  have:=BO h e
  unfold nV at *
  rw[i8,i8,aQE,i8,aQE]
  omega
theorem BA{lo hi:Nat}(h:lo<hi):∀ {ws:List Wy} {e:Wy},e∈ws→(e.1=hi∨e.2.2=hi)→nV (ws.map (eN lo hi))<nV ws
 | x::ws,e,he,hh=>by
  have g:=Bc (aQT h) ws
  have g2:=BO (aQT h) x
  rcases d3.mp he with rfl | he
  ·have:(eN lo hi e).1+(eN lo hi e).2.2<e.1+e.2.2:=by
    unfold eN
    dsimp only
    rcases hh with hh | hh
    ·rw[if_pos hh];split <;> omega
    ·rw[if_pos hh];split <;> omega
   unfold nV at *
   rw[i8,i8,aQE,i8,aQE]
   omega
  ·have:=BA h he hh
   unfold nV at *
   rw[i8,i8,aQE,i8,aQE]
   omega
theorem Gy{lo hi:Nat}{ws:List Wy}{p c q:Nat}:kZ (ws.map (eN lo hi)) p c q↔∃ p' q',kZ ws p' c q'∧(if p'=hi then lo else p')=p∧(if q'=hi then lo else q')=q:=by
 constructor
 ·rintro(h | ⟨d,rfl,h⟩)
  ·obtain⟨e,he,z⟩:=i3.mp h
   obtain⟨rfl,rfl,rfl⟩:_=p∧_=c∧_=q:=by simpa [eN] using z
   exact⟨e.1,e.2.2,.inl he,rfl,rfl⟩
  ·obtain⟨e,he,z⟩:=i3.mp h
   obtain⟨rfl,rfl,rfl⟩:_=q∧_=d∧_=p:=by simpa [eN] using z
   exact⟨e.2.2,e.1,.inr ⟨_,rfl,he⟩,rfl,rfl⟩
 ·rintro⟨p',q',h | ⟨d,rfl,h⟩,rfl,rfl⟩
  ·exact .inl (i3.mpr ⟨_,h,rfl⟩)
  ·exact .inr ⟨d,rfl,i3.mpr ⟨_,h,rfl⟩⟩
theorem NuI.step{rs:List (List Nat)}{ws:List Wy}{ν:Nat→Nat}(h:NuI rs ws ν){x y:Nat}(hxy:∃ a c,kZ ws a c x∧kZ ws a c y)(hne:x≠y):NuI rs (ws.map (eN (min x y) (max x y))) (fun z=>if ν z=max x y then min x y else ν z)∧nV (ws.map (eN (min x y) (max x y)))<nV ws:=by
 obtain⟨a,c,h1,h2⟩:=hxy
 obtain⟨p1,q1,e1,a1,b1⟩:=(h.ed a c x).mp h1
 obtain⟨p2,q2,e2,a2,b2⟩:=(h.ed a c y).mp h2
 have rq:Rel (iC 1 rs) q1 q2:=.go (h.snd p1 p2 (a1.trans a2.symm)) e1 e2
 have hlt:min x y<max x y:=by omega
 have key:∀ u v,ν u=max x y→ν v=min x y→Rel (iC 1 rs) u v:=fun u v hu hv=>by
  by_cases g:x≤y
  ·have hu':ν u=ν q2:=by rw[b2,hu];omega
   have hv':ν v=ν q1:=by rw[b1,hv];omega
   exact((h.snd _ _ hu').trans rq.symm).trans (h.snd _ _ hv'.symm)
  ·have hu':ν u=ν q1:=by rw[b1,hu];omega
   have hv':ν v=ν q2:=by rw[b2,hv];omega
   exact((h.snd _ _ hu').trans rq).trans (h.snd _ _ hv'.symm)
 refine⟨⟨fun u v e=>?_,fun p c' q=>?_,?_,fun e he=>?_,fun e he=>?_⟩,?_⟩
 ·by_cases hu:ν u=max x y
  ·by_cases hv:ν v=max x y
   ·exact h.snd _ _ (hu.trans hv.symm)
   ·rw[if_pos hu,if_neg hv] at e
    exact key u v hu e.symm
  ·by_cases hv:ν v=max x y
   ·rw[if_neg hu,if_pos hv] at e
    exact(key v u hv e).symm
   ·rw[if_neg hu,if_neg hv] at e
    exact h.snd _ _ e
 ·rw[Gy]
  constructor
  ·rintro⟨p',q',hE,rfl,rfl⟩
   obtain⟨p'',q'',z,rfl,rfl⟩:=(h.ed _ _ _).mp hE
   exact⟨p'',q'',z,rfl,rfl⟩
  ·rintro⟨p',q',z,rfl,rfl⟩
   exact⟨ν p',ν q',(h.ed _ _ _).mpr ⟨p',q',z,rfl,rfl⟩,rfl,rfl⟩
 ·show (if ν 0=max x y then min x y else ν 0)=0
  rw[h.z,if_neg (by omega)]
 ·obtain⟨e',he',rfl⟩:=i3.mp he
  exact h.low e' he'
 ·obtain⟨e',he',rfl⟩:=i3.mp he
  have:=h.bd e' he'
  unfold eN
  dsimp only
  constructor <;> split <;> omega
 ·have hm:∃ e∈ws,e.1=max x y∨e.2.2=max x y:=by
   have:∀ {g},kZ ws a c g→∃ e∈ws,e.1=g∨e.2.2=g:=fun {g} hg=>by
    rcases hg with z | ⟨d,_,z⟩
    ·exact⟨_,z,.inr rfl⟩
    ·exact⟨_,z,.inl rfl⟩
   by_cases g:x≤y
   ·rw[show max x y=y by omega];exact this h2
   ·rw[show max x y=x by omega];exact this h1
  obtain⟨e,he,z⟩:=hm
  exact BA hlt he z
theorem NuI.done{rs:List (List Nat)}{ws:List Wy}{ν:Nat→Nat}(h:NuI rs ws ν)(hd:Eo ws){g:Nat→Nat→Option Nat}(hg:∀ p c q,g p c=some q↔kZ ws p c q):Aut rs (fun x=>ν (sE rs x)) g 0:=by
 refine FM (fun x y=>⟨h.snd x y,fun r=>?_⟩) (fun p c q z=>(hg _ _ _).mpr ((h.ed _ _ _).mpr ⟨p,q,z,rfl,rfl⟩)) fun s c q z=>?_
 ·induction r with
  | refl x=>rfl
  | symm _ ih=>exact ih.symm
  | trans _ _ a b=>exact a.trans b
  | go _ a b ih =>
   have h1:=(h.ed _ _ _).mpr ⟨_,_,a,rfl,rfl⟩
   have h2:=(h.ed _ _ _).mpr ⟨_,_,b,rfl,rfl⟩
   rw[ih] at h1
   exact hd _ _ _ _ h1 h2
 ·obtain⟨p,q',a,b,d⟩:=(h.ed _ _ _).mp ((hg _ _ _).mp z)
  exact⟨p,q',a,b,d⟩
def WyL(H:Hp)(l:Addr)(ws:List Wy):Prop:=∃ vs,H l=some (.lst vs)∧vs.length=ws.length∧∀ (i:Nat) (v:V) (e:Wy),vs[i]?=some v→ws[i]?=some e→IsWy H v e
theorem IsWy.same{H H':Hp}{v:V}{e:Wy}(h:IsWy H v e)(s:Same H H'):IsWy H' v e:=by
 obtain⟨t,rfl,et⟩:=h
 exact⟨t,rfl,s _ _ et⟩
theorem WyL.same{H H':Hp}{l:Addr}{ws:List Wy}(h:WyL H l ws)(s:Same H H'):WyL H' l ws:=by
 obtain⟨vs,a,b,c⟩:=h
 exact⟨vs,s _ _ a,b,fun i v e x y=>(c i v e x y).same s⟩
theorem WyL.snoc{H:Hp}{l t:Addr}{vs:List V}{ws:List Wy}{e:Wy}(a:H l=some (.lst vs))(b:vs.length=ws.length)(c:∀ (i:Nat) (v:V) (e:Wy),vs[i]?=some v→ws[i]?=some e→IsWy H v e)(ht:H t=some (.tup [.int (e.1:Nat),.str (S [e.2.1]),.int (e.2.2:Nat)])):WyL (upd H l (.lst (vs++[.ref t]))) l (ws++[e]):=by
 have old:∀ {v:V} {e:Wy},IsWy H v e→IsWy (upd H l (.lst (vs++[.ref t]))) v e:=fun {v e} h=>by
  obtain⟨u,rfl,eu⟩:=h
  exact⟨u,rfl,by rw[aE (bY eu a (by intro z;cases z))];exact eu⟩
 refine⟨_,aB,by rw[c6,c6,b];rfl,fun i v e' h1 h2=>?_⟩
 rcases eG h1 with ⟨z,h1⟩ | ⟨z,rfl⟩
 ·have hl:i<ws.length:=by rw[← b];exact(a9.mp h1).1
  rw[p6 hl] at h2
  exact old (c i v e' h1 h2)
 ·rw[z,b,u5 (b9 _),Nat.sub_self] at h2
  cases h2
  exact old ⟨t,rfl,ht⟩
theorem NuI.edb{rs:List (List Nat)}{ws:List Wy}{ν:Nat→Nat}(h:NuI rs ws ν){p c q:Nat}(e:kZ ws p c q):q≤200:=by
 rcases e with z | ⟨_,_,z⟩
 ·exact(h.bd _ z).2
 ·exact(h.bd _ z).1
theorem AR(g:Nat)(l:List Nat):Ed (.int (g:Nat)) (cT l)=decide (g∈l):=by
 unfold Ed cT
 rw[aQ7,aZJ,decide_eq_true_iff]
 constructor
 ·rintro⟨v,hv,he⟩
  obtain⟨e,hm,rfl⟩:=i3.mp hv
  have h2:((e:Nat):Int)=((g:Nat):Int):=by simpa [oY] using he
  have h3:e=g:=by omega
  rw[← h3];exact hm
 ·intro h
  exact⟨_,i3.mpr ⟨g,h,rfl⟩,by simp[oY]⟩
theorem yV(l:List Nat):(cT l).all gC=true:=by
 unfold cT
 rw[aZv]
 exact y1.mpr fun x _=>rfl
theorem GT(l:List Nat):cT l=(l.map fun x=>((x:Nat):Int)).map V.int:=by
 unfold cT
 rw[u7]
 rfl
theorem nI{g:Nat}:∀ {l:List Nat},g∈l→l[l.idxOf g]?=some g∧∀ m,m<l.idxOf g→l[m]?≠some g
 | x::l,h=>by
  rw[aXa]
  by_cases z:x=g
  ·have:(x == g)=true:=by simpa using z
   rw[this]
   simp[z]
  ·have e:(x == g)=false:=by simpa using z
   rw[e]
   simp only [cond_false]
   have hg:g∈l:=(d3.mp h).elim (fun e=>absurd e.symm z) id
   obtain⟨a,b⟩:=nI hg
   refine⟨by rw[aQ1];exact a,fun m hm=>?_⟩
   cases m with
   | zero=>rw[List.getElem?_cons_zero];exact fun e=>z (j1 e)
   | succ m=>rw[aQ1];exact b m (by omega)
def FB(K:b5):Sp:=fun vs H Q _=>∃ (n:Nat) (a:Addr) (rs:List (List Nat)),vs=[.int (n:Nat),.ref a]∧1≤n∧n≤4∧MN K H a (cF rs)∧rs.length≤10∧(∀ x∈rs,AllL x)∧(rs.map List.length).sum≤100 ∧
 ∀ (r:Addr) (H':Hp) (ρ:Nat→Nat) (δ:Nat→Nat→Option Nat),Same H H'→Aut rs ρ δ 0→IsWebV H' r (eE δ n (ρ 0) 1000)→(eE δ n (ρ 0) 1000).length≤900→Q (.ref r) H'
theorem DE{δ:Nat→Nat→Option Nat}{n s0 N:Nat}(h4:n≤4){row:List (Option Nat)}(h:row∈eE δ n s0 N):row.length≤900:=by
 unfold eE at h
 obtain⟨s,_,rfl⟩:=i3.mp h
 unfold fK
 rw[b7,cC h4]
 omega
theorem tG{b:Bool}{A B:Prop}(e:b=false)(h:B):if b=true then A else B:=by rw[e];exact fQ h
theorem A3{b:Bool}{A B:Prop}(e:b=true)(h:A):if b=true then A else B:=by rw[e];exact gY h
theorem BV(rs:List (List Nat))(x:List Nat):cF rs++[.str (S x)]=cF (rs++[x]):=by unfold cF;rw[i7];rfl
theorem IsWebV.same{H H':Hp}{r:Addr}{W:List (List (Option Nat))}(h:IsWebV H r W)(s:Same H H'):IsWebV H' r W:=by
 obtain⟨qs,a,b,c⟩:=h
 exact⟨qs,s _ _ a,b,fun i q row h1 h2=>s _ _ (c i q row h1 h2)⟩
theorem Ij{K:b5}{H:Hp}{a b:Addr}{W:List (List (Option Nat))}(h:IsWebV H a W)(g:IsWebV H b W)(hl:W.length≤900)(hr:∀ row∈W,row.length≤900):Lq K H 2 (.ref a) (.ref b):=by
 obtain⟨qs,e1,l1,r1⟩:=h
 obtain⟨us,e2,l2,r2⟩:=g
 refine .tup (SqT.of e1) (SqT.of e2) (by rw[b7,b7,l1,l2]) (by rw[b7,l1];exact hl) fun i x y hx hy=>?_
 rw[c7] at hx hy
 obtain⟨q,hq,rfl⟩:=i6.mp hx
 obtain⟨u,hu,rfl⟩:=i6.mp hy
 obtain⟨row,hrow⟩:∃ row,W[i]?=some row:=⟨_,b0 (by rw[← l1];exact(a9.mp hq).1)⟩
 refine .tup (SqT.of (r1 i q row hq hrow)) (SqT.of (r2 i u row hu hrow)) rfl (by rw[b7];exact hr row (b8 hrow)) fun j x y hx hy=>?_
 rw[hx] at hy
 cases hy
 rw[c7] at hx
 obtain⟨o,_,rfl⟩:=i6.mp hx
 refine .flat ?_
 cases o <;> rfl
def sP(g:Nat→Nat→Option Nat):Nat→List Nat→Option Nat
 | p,[]=>some p
 | p,c::w=>(g p c).bind fun q=>sP g q w
theorem wM(g:Nat→Nat→Option Nat):∀ (u v:List Nat) (p:Nat),sP g p (u++v)=(sP g p u).bind fun q=>sP g q v
 | [],v,p=>rfl
 | c::u,v,p=>by
  show (g p c).bind (fun q=>sP g q (u++v))=((g p c).bind fun q=>sP g q u).bind _
  cases e:g p c with
  | none=>rfl
  | some q=>exact wM g u v q
theorem Hj(g:Nat→Nat→Option Nat)(p c:Nat):sP g p [c]=g p c:=by
 show (g p c).bind (fun q=>some q)=_
 cases g p c <;> rfl
theorem Fc(g:Nat→Nat→Option Nat)(u:List Nat)(c p:Nat):sP g p (u++[c])=(sP g p u).bind fun q=>g q c:=by
 rw[wM]
 congr 1
 funext q
 exact Hj g q c
def MV(g:Nat→Nat→Option Nat):Prop:=∀ p c q,cE c→g p c=some q→g q (con c)=some p
structure WebOk(n:Nat)(W:List (List (Option Nat)))(g:Nat→Nat→Option Nat):Prop where
 len:∀ row∈W,row.length=n
 few:W.length≤900
 pos:0<W.length
 lo:∀ (p i:Nat) (row:List (Option Nat)) (o:Option Nat),W[p]?=some row→row[i]?=some o→g p (97+i)=o
 sy:MV g
 bd:∀ p c q,g p c=some q→p<W.length∧q<W.length∧c∈aK (n:Nat)
theorem GJ{N:Nat}{w:List Nat}(hw:AllL w){p c q:Nat}(h:FlE N w w.length p c q):FlE N w w.length q (con c) p:=by
 obtain⟨j,hj,d,hd,⟨rfl,h1,h2⟩ | ⟨rfl,h1,h2⟩⟩:=h
 ·exact⟨j,hj,c,hd,.inr ⟨rfl,h2,h1⟩⟩
 ·exact⟨j,hj,d,hd,.inl ⟨aW (hw _ (b8 hd)),h2,h1⟩⟩
theorem uL:∀ {rs:List (List Nat)} {N:Nat},(∀ x∈rs,AllL x)→∀ {p c q:Nat},fC N rs p c q→fC N rs q (con c) p
 | [],N,_,p,c,q,h=>h.elim
 | w::r,N,ha,p,c,q,h=>by
  rcases h with h | h
  ·exact .inl (GJ (ha w i9) h)
  ·exact .inr (uL (fun x hx=>ha x (g9 _ hx)) h)
theorem yW:∀ {rs:List (List Nat)} {N:Nat} {x:List Nat},x∈rs→∃ M,∀ {p c q:Nat},FlE M x x.length p c q→fC N rs p c q
 | w::r,N,x,h=>by
  rcases d3.mp h with rfl | h
  ·exact⟨N,fun h=>.inl h⟩
  ·obtain⟨M,hM⟩:=yW (N:=N+(w.length - 1)) h
   exact⟨M,fun h=>.inr (hM h)⟩
theorem tN{n:Int}(h1:1≤n)(h4:n≤4):∀ {rs:List (List Nat)} {N:Nat},(∀ x∈rs,OfN n x)→∀ {p c q:Nat},fC N rs p c q→c∈aK n
 | [],N,_,p,c,q,h=>h.elim
 | w::r,N,ha,p,c,q,h=>by
  rcases h with ⟨j,hj,d,hd,⟨rfl,_⟩ | ⟨rfl,_⟩⟩ | h
  ·exact ha w i9 _ (b8 hd)
  ·exact dC h1 h4 (ha w i9 _ (b8 hd))
  ·exact tN h1 h4 (fun x hx=>ha x (g9 _ hx)) h
theorem mK(δ:Nat→Option Nat):∀ (ls ord:List Nat),ord.Nodup→(cB δ ls ord).Nodup
 | [],ord,h=>h
 | c::ls,ord,h=>by
  show (cB δ ls (match δ c with | some g=>if g∈ord then ord else ord++[g] | none=>ord)).Nodup
  cases δ c with
  | none=>exact mK δ ls ord h
  | some g =>
   dsimp only
   split
   ·exact mK δ ls ord h
   ·rename_i hg
    refine mK δ ls _ ?_
    rw[aQc]
    exact⟨h,by simp,fun a ha b hb z=>hg (by rw[← d6.mp hb,← z];exact ha)⟩
theorem xF(δ:Nat→Nat→Option Nat)(ls:List Nat):∀ (f a:Nat) (ord:List Nat),ord.Nodup→(cD δ ls f a ord).Nodup
 | 0,_,ord,h=>h
 | f+1,a,ord,h=>by
  unfold cD
  cases ord[a]? with
  | none=>exact h
  | some s=>exact xF δ ls f (a+1) _ (mK _ ls ord h)
theorem vC(δ:Nat→Nat→Option Nat)(ls:List Nat):∀ (f a:Nat) (ord:List Nat),∃ r,cD δ ls f a ord=ord++r
 | 0,_,ord=>⟨[],(m7 _).symm⟩
 | f+1,a,ord=>by
  unfold cD
  cases ord[a]? with
  | none=>exact⟨[],(m7 _).symm⟩
  | some s =>
   obtain⟨r,e⟩:=eF (δ s) ls ord
   obtain⟨r',e'⟩:=vC δ ls f (a+1) (cB (δ s) ls ord)
   exact⟨r++r',by show cD δ ls f (a+1) (cB (δ s) ls ord)=_;rw[e',e,l6]⟩
theorem DK{l:List Nat}(h:l.Nodup){i s:Nat}(e:l[i]?=some s):l.idxOf s=i:=by
 have hm:=b8 e
 obtain⟨a,b⟩:=nI hm
 by_cases q:i<l.idxOf s
 ·exact absurd e (b i q)
 ·by_cases q2:l.idxOf s=i
  ·exact q2
  ·exfalso
   obtain⟨h1,e1⟩:=a9.mp a
   obtain⟨h2,e2⟩:=a9.mp e
   exact q2 ((aXE h).mp (e1.trans e2.symm))
theorem GB{n i:Nat}(h4:n≤4)(hi:i<n):(bE n)[i]?=some (97+i):=by
 unfold bE
 rw[aQV hi]
 have:i=0∨i=1∨i=2∨i=3:=by omega
 rcases this with rfl | rfl | rfl | rfl <;> rfl
theorem JN{rs:List (List Nat)}{ρ:Nat→Nat}{δ:Nat→Nat→Option Nat}{n:Nat}(n1:1≤n)(n4:n≤4)(a:Aut rs ρ δ 0)(ho:∀ x∈rs,OfN n x)(hl:(eE δ n (ρ 0) 1000).length≤900):∃ g,WebOk n (eE δ n (ρ 0) 1000) g∧∀ x∈rs,sP g 0 x=some 0:=by
 have ha:∀ x∈rs,AllL x:=fun x hx=>(ho x hx).all
 have sy:∀ s c t,δ s c=some t→δ t (con c)=some s:=fun s c t h=>by
  obtain⟨p,q,e1,e2,e3⟩:=a.of s c t h
  have:=a.to _ _ _ (uL ha e1)
  rw[e2,e3] at this
  exact this
 have lt:∀ s c t,δ s c=some t→c∈aK (n:Nat):=fun s c t h=>by
  obtain⟨p,q,e1,e2,e3⟩:=a.of s c t h
  exact tN (by omega) (by omega) ho e1
 unfold eE at hl ⊢
 dsimp only at hl ⊢
 rw[b7] at hl
 have hcl:=gL (δ:=δ) (ls:=aK (n:Nat)) 1000 0 [ρ 0] (fun i s hi=>absurd hi (y4 _)) (by omega)
 have hnd:=xF δ (aK (n:Nat)) 1000 0 [ρ 0] (by simp)
 obtain⟨r,hr⟩:=vC δ (aK (n:Nat)) 1000 0 [ρ 0]
 generalize cD δ (aK (n:Nat)) 1000 0 [ρ 0]=ord at hl hcl hnd hr
 have h0:ord[0]?=some (ρ 0):=by rw[hr];rfl
 have i0:ord.idxOf (ρ 0)=0:=DK hnd h0
 refine⟨fun p c=>(ord[p]?).bind fun s=>(δ s c).map fun t=>ord.idxOf t,⟨fun row hr=>?_,?_,?_,fun p i row o h1 h2=>?_,fun p c q hc e=>?_,fun p c q e=>?_⟩,fun x hx=>?_⟩
 ·obtain⟨s,_,rfl⟩:=i3.mp hr
  unfold fK
  rw[b7,cC n4]
 ·rw[b7];exact hl
 ·rw[b7];exact(a9.mp h0).1
 ·rw[c7] at h1
  obtain⟨s,hs,rfl⟩:=i6.mp h1
  unfold fK at h2
  rw[c7] at h2
  obtain⟨c,hc,rfl⟩:=i6.mp h2
  have hi:i<n:=by have:=(a9.mp hc).1;rw[cC n4] at this;exact this
  rw[GB n4 hi] at hc
  cases hc
  rw[hs]
  rfl
 ·obtain⟨s,hs,e⟩:=aZT.mp e
  obtain⟨t,ht,rfl⟩:=i6.mp e
  have hm:=hcl s (b8 hs) c (lt s c t ht) t ht
  rw[(nI hm).1]
  show (δ t (con c)).map (fun t=>ord.idxOf t)=some p
  rw[sy s c t ht,y6,DK hnd hs]
 ·obtain⟨s,hs,e⟩:=aZT.mp e
  obtain⟨t,ht,rfl⟩:=i6.mp e
  have hm:=hcl s (b8 hs) c (lt s c t ht) t ht
  rw[b7]
  exact⟨(a9.mp hs).1,(a9.mp (nI hm).1).1,lt s c t ht⟩
 ·have pd:sP δ (ρ 0) x=some (ρ 0):=by
   obtain⟨M,hM⟩:=yW (N:=1) hx
   have key:∀ k j,j+k=x.length→sP δ (ρ (cJ M x.length j)) (x.drop j)=some (ρ (cJ M x.length x.length)):=fun k=>by
    induction k with
    | zero =>
     intro j hj
     have:j=x.length:=by omega
     subst this
     rw[List.drop_length]
     rfl
    | succ k ih =>
     intro j hj
     have hjl:j<x.length:=by omega
     rw[aQS hjl]
     have e:=a.to _ _ _ (hM ⟨j,hjl,x[j],b0 hjl,.inl ⟨rfl,rfl,rfl⟩⟩)
     show (δ (ρ (cJ M x.length j)) x[j]).bind (fun q=>sP δ q (x.drop (j+1)))=_
     rw[e]
     exact ih (j+1) (by omega)
   have:=key x.length 0 (by omega)
   have z1:cJ M x.length 0=0:=by unfold cJ;rw[if_pos (.inl rfl)]
   have z2:cJ M x.length x.length=0:=by unfold cJ;rw[if_pos (.inr rfl)]
   rw[z1,z2,aJo] at this
   exact this
  have key:∀ (w:List Nat) (s:Nat),s∈ord→sP (fun p c=>(ord[p]?).bind fun s=>(δ s c).map fun t=>ord.idxOf t) (ord.idxOf s) w=(sP δ s w).map fun t=>ord.idxOf t:=fun w=>by
   induction w with
   | nil=>exact fun s hs=>rfl
   | cons c w ih =>
    intro s hs
    show ((ord[ord.idxOf s]?).bind fun s=>(δ s c).map fun t=>ord.idxOf t).bind _=((δ s c).bind fun q=>sP δ q w).map _
    rw[(nI hs).1]
    show ((δ s c).map fun t=>ord.idxOf t).bind _=_
    cases e:δ s c with
    | none=>rfl
    | some t=>exact ih t (hcl s hs c (lt s c t e) t e)
  have:=key x (ρ 0) (b8 h0)
  rw[i0,pd,y6,i0] at this
  exact this
def Mm(g g':Nat→Nat→Option Nat):Prop:=∀ p c q,g p c=some q→g' p c=some q
theorem EV{n c:Nat}(h1:1≤n)(h4:n≤4)(h:c∈aK (n:Nat))(hl:bC c=true):∃ j,j<n∧c=97+j:=by
 rcases A9 h1 h4 with rfl | rfl | rfl | rfl <;> rcases aU (aN h) with rfl | rfl | rfl | rfl | rfl | rfl | rfl | rfl <;> revert h hl <;> decide
theorem Cc{c:Nat}(h:cE c):bC (con c)=!bC c:=by
 rcases aU h with rfl | rfl | rfl | rfl | rfl | rfl | rfl | rfl <;> decide
def BF:Sp:=fun vs H Q _=>∃ (r:Addr) (n:Nat) (W:List (List (Option Nat))) (g:Nat→Nat→Option Nat),vs=[.ref r]∧1≤n∧n≤4∧IsWebV H r W∧WebOk n W g ∧
 ∀ (d:Addr) (kvs:List (List cQ×V)) (H':Hp),H d=none→H' d=some (.dT kvs)→TabW kvs g→Same H H'→Q (.ref d) H'
def BE:Sp:=fun vs H Q _=>∃ (r:Addr) (n:Nat) (W:List (List (Option Nat))) (g:Nat→Nat→Option Nat) (w:List Nat),vs=[.ref r,.str (S w)]∧1≤n∧n≤4∧IsWebV H r W∧WebOk n W g∧OfN n w∧w.length≤900 ∧
 ∀ (H':Hp),Same H H'→Q (.bl (decide (sP g 0 w=some 0))) H'
theorem wJ{α:Type}[DecidableEq α]:∀ (xs ys:List α),((List.range (min xs.length ys.length)).all (fun i=>decide (xs[i]?=ys[i]?)) && xs.length == ys.length)=decide (xs=ys):=fun xs ys=>by
 rw[aQ7,y7,y1,decide_eq_true_iff,beq_iff_eq]
 constructor
 ·rintro⟨h1,h2⟩
  refine aQt fun i=>?_
  by_cases hi:i<xs.length
  ·exact of_decide_eq_true (h1 i (aXj.mpr (by omega)))
  ·rw[aQQ (by omega),aQQ (by omega)]
 ·rintro rfl
  exact⟨fun i _=>decide_eq_true rfl,rfl⟩
section
variable {X:Cx}
theorem Bu{A:Around}{s:Shared}{xs ys:List V}{us vs:List Value}(f:Nat→Bool)(rx:Vals xs us)(ry:Vals ys vs)(h:∀ (i:Nat) (x y:V),xs[i]?=some x→ys[i]?=some y→∀ u v,RelV x u→RelV y v→SeqAt.EqAt A s u v (f i)) :
  ∀ (j:Nat) (h1:j<us.toArray.size) (h2:j<vs.toArray.size),SeqAt.EqAt A s us.toArray[j] vs.toArray[j] (f j):=fun j h1 h2=>by
 have hx:j<xs.length:=by rw[rx.length];simpa using h1
 have hy:j<ys.length:=by rw[ry.length];simpa using h2
 obtain⟨u,hu,ru⟩:=rx.get (b0 hx)
 obtain⟨v,hv,rv⟩:=ry.get (b0 hy)
 have eu:us.toArray[j]=u:=by
  have:us[j]?=some us.toArray[j]:=by rw[b0 (by simpa using h1)];simp
  rw[hu] at this;exact(j1 this).symm
 have ev:vs.toArray[j]=v:=by
  have:vs[j]?=some vs.toArray[j]:=by rw[b0 (by simpa using h2)];simp
  rw[hv] at this;exact(j1 this).symm
 rw[eu,ev]
 exact h j _ _ (b0 hx) (b0 hy) u v ru rv
theorem FW(o o':Option Nat):oY (iI o) (iI o')=decide (o=o'):=by
 cases o with
 | none=>cases o' <;> rfl
 | some a =>
  cases o' with
  | none=>rfl
  | some b =>
   show decide (((a:Nat):Int)=(b:Nat))=_
   by_cases z:a=b
   ·subst z;rw[decide_eq_true rfl,decide_eq_true rfl]
   ·rw[decide_eq_false (by omega),decide_eq_false (fun e=>z (j1 e))]
theorem Du{pins:List (Addr×Obj)}{σ:L2.St}{H:Hp}{s:Shared}(I:Inv X pins σ H s){p q:Addr}{r r':List (Option Nat)}(h1:H p=some (.tup (r.map iI)))(h2:H q=some (.tup (r'.map iI)))(hne:p≠q)(A:Around)(hu:A.units+1<cLine):SeqAt.EqAt A s (.ref p) (.ref q) (decide (r=r')):=by
 obtain⟨us,r1,p1,_⟩:=I.tuple (SqT.of h1)
 obtain⟨vs,r2,p2,_⟩:=I.tuple (SqT.of h2)
 have z:=SeqAt.RcAt.tuples (A:=A) (show s.heap.IsTuple p us.toArray from p1) (show s.heap.IsTuple q vs.toArray from p2) (by omega) (Bu (A:=A.in1) (s:=s) (fun i=>decide (r[i]?=r'[i]?)) r1 r2 fun i x y hx hy u v ru rv=>by
  rw[c7] at hx hy
  obtain⟨o,ho,rfl⟩:=i6.mp hx
  obtain⟨o',ho',rfl⟩:=i6.mp hy
  have:=Ai (A:=A.in1) (s:=s) ru rv (by cases o <;> rfl) (by cases o' <;> rfl)
  rw[FW] at this
  rw[ho,ho']
  have e:decide (some o=some o')=decide (o=o'):=by simp
  rw[e]
  exact this)
 have l1:us.toArray.size=r.length:=by rw[c8,← r1.length,b7]
 have l2:vs.toArray.size=r'.length:=by rw[c8,← r2.length,b7]
 rw[l1,l2,wJ] at z
 exact aZy hne z
def DY(H:Hp)(a b:Addr)(W W':List (List (Option Nat))):Prop:=a≠b∧∃ qs us:List Addr,H a=some (.tup (qs.map V.ref))∧H b=some (.tup (us.map V.ref))∧qs.length=W.length∧us.length=W'.length∧(∀ (i:Nat) (q:Addr) (row:List (Option Nat)),qs[i]?=some q→W[i]?=some row→H q=some (.tup (row.map iI)))∧(∀ (i:Nat) (q:Addr) (row:List (Option Nat)),us[i]?=some q→W'[i]?=some row→H q=some (.tup (row.map iI)))∧∀ q∈qs,∀ u∈us,q≠u
def KW(neg:Bool):R2:=fun x y H Q=>∃ (a b:Addr) (W W':List (List (Option Nat))),x=.ref a∧y=.ref b∧DY H a b W W'∧Q (.bl (if neg then !decide (W=W') else decide (W=W'))) H
theorem tT{pins:List (Addr×Obj)}{σ:L2.St}{H:Hp}{s:Shared}(I:Inv X pins σ H s){a b:Addr}{W W':List (List (Option Nat))}(h:DY H a b W W')(hu:X.A.units+64<cLine):∃ us vs:List Value,s.heap.IsTuple a us.toArray∧s.heap.IsTuple b vs.toArray∧us.toArray.size=W.length∧vs.toArray.size=W'.length∧∀ (j:Nat) (h1:j<us.toArray.size) (h2:j<vs.toArray.size),SeqAt.EqAt X.A.in1 s us.toArray[j] vs.toArray[j] (decide (W[j]?=W'[j]?)):=by
 obtain⟨hab,qs,ps,ea,eb,l1,l2,ra,rb,hn⟩:=h
 obtain⟨us,r1,p1,_⟩:=I.tuple (SqT.of ea)
 obtain⟨vs,r2,p2,_⟩:=I.tuple (SqT.of eb)
 refine⟨us,vs,p1,p2,by rw[c8,← r1.length,b7,l1],by rw[c8,← r2.length,b7,l2],Bu (A:=X.A.in1) (s:=s) (fun i=>decide (W[i]?=W'[i]?)) r1 r2 fun i x y hx hy u v ru rv=>?_⟩
 rw[c7] at hx hy
 obtain⟨q,hq,rfl⟩:=i6.mp hx
 obtain⟨p,hp,rfl⟩:=i6.mp hy
 cases ru
 cases rv
 obtain⟨row,hr⟩:∃ row,W[i]?=some row:=⟨_,b0 (by rw[← l1];exact(a9.mp hq).1)⟩
 obtain⟨row',hr'⟩:∃ row,W'[i]?=some row:=⟨_,b0 (by rw[← l2];exact(a9.mp hp).1)⟩
 have:=Du I (ra i q row hq hr) (rb i p row' hp hr') (hn q (b8 hq) p (b8 hp)) X.A.in1 (by show X.A.units+1+1<cLine;omega)
 rw[hr,hr']
 have e:decide (some row=some row')=decide (row=row'):=by simp
 rw[e]
 exact this
theorem I_(hu:X.A.units+64<cLine):jL X (compareOp .Eq) (KW false):=by
 intro pins s σ H x y v u Q I rx ry h
 obtain⟨a,b,W,W',rfl,rfl,hw,q⟩:=h
 cases rx
 cases ry
 obtain⟨us,vs,p1,p2,l1,l2,hp⟩:=tT I hw hu
 refine aJ5 p1 p2 (by omega) hp ?_
 rw[l1,l2,wJ]
 exact⟨.bl _,H,I,rfl,q⟩
theorem JQ(hu:X.A.units+64<cLine):jL X (compareOp .NotEq) (KW true):=by
 intro pins s σ H x y v u Q I rx ry h
 obtain⟨a,b,W,W',rfl,rfl,hw,q⟩:=h
 cases rx
 cases ry
 obtain⟨us,vs,p1,p2,l1,l2,hp⟩:=tT I hw hu
 refine aXT (aZi p1 p2 (by omega) hp) ?_
 rw[l1,l2,wJ]
 exact⟨.bl _,H,I,rfl,q⟩
end
end Lw
namespace L2
open PySem PySem.Spec PyProof.Rows
section
variable {X:Cx}{CX:zR}{k1 k2:Nat}{f1 f2:Addr}{fd1 fd2:FuncData}{ps1 ps2:List Str}{sp1 sp2:Sp}{EX:St→XK}{pos:Pos}{fe e:Expr}{es:List Expr}{tf:TE}{t:TA}
def GH(f1 f2:Addr)(sp1 sp2:Sp)(EX:St→XK)(tf:TE)(t:TA):TE:=fun σ H Q=>tf σ H fun x H1=>(x=.ref f1∧DV sp1 [] EX t σ H1 Q)∨(x=.ref f2∧DV sp2 [] EX t σ H1 Q)
theorem B0(F1:FnOk X.prog X.w X.K X.mg X.base CX k1 f1 fd1 ps1 sp1)(F2:FnOk X.prog X.w X.K X.mg X.base CX k2 f2 fd2 ps2 sp2)(hr1:Room k1 X.A)(hr2:Room k2 X.A)(hk1:PySem.W.keepIn X.K (.ref f1)=true)(hk2:PySem.W.keepIn X.K (.ref f2)=true)(hb1:Binds X.K fd1 ps1 [])(hb2:Binds X.K fd2 ps2 [])(hx:mS CX X EX)
  (hf:PE X fe tf) (ha:PA X (e::es) t)
  (hc:eval (fe.Call (e::es) [] pos) X.env=(do
     let v ← eval fe X.env
     callWith pos v [] (backTo pos (starEach (e::es) X.env)) (backToKw pos (keywordEach [] X.env))):=by rfl)
  (he:starEach (e::es) X.env=(false,eval e X.env)::starEach es X.env:=by rfl) (hpl:(backTo pos (starEach es X.env)).any (·.1)=false:=by rfl) :
  PE X (.Call fe (e::es) [] pos) (GH f1 f2 sp1 sp2 EX tf t):=by
 intro pins s σ H Q I h
 refine Call_ (bS (hf pins s σ H _ I h) fun v s0 ⟨x,H0,I0,r0,q0⟩=>?_) hc
 rcases q0 with ⟨rfl,q⟩ | ⟨rfl,q⟩
 ·cases r0
  refine aQm (h₀:=X.base) I0.ok.mod.kin hk1 (bS (ha pos pins s0 σ H0 _ I0 q) fun us s1 ⟨vs,H1,I1,r,q⟩=>⟨I1.kIn,?_⟩) he hpl
  exact Bz F1 hr1 hb1 .nil hx I1 r q
 ·cases r0
  refine aQm (h₀:=X.base) I0.ok.mod.kin hk2 (bS (ha pos pins s0 σ H0 _ I0 q) fun us s1 ⟨vs,H1,I1,r,q⟩=>⟨I1.kIn,?_⟩) he hpl
  exact Bz F2 hr2 hb2 .nil hx I1 r q
end
end L2
namespace Lw
open PySem PySem.Spec PyProof.Rows L2 Ma MaR
def rP(n:Nat):List (List (Option Nat)):=[List.replicate n (some 0)]
def vZ(K:b5)(C:Addr):Sp:=fun vs H Q E=>∃ (n:Nat) (a:Addr) (rs:List (List Nat)),vs=[.ref a]∧SqT K H a (cF rs)∧rs.length=n∧1≤n∧n≤4∧(∀ x∈rs,OfN n x∧x.length≤80) ∧
 ∀ (r:Addr) (H1:Hp) (ρ:Nat→Nat) (δ:Nat→Nat→Option Nat),Same H H1→Aut rs ρ δ 0→(∀ x,ρ (ρ x)=ρ x)→IsWebV H1 r (eE δ n (ρ 0) 1000)→(eE δ n (ρ 0) 1000).length≤900 →
  (eE δ n (ρ 0) 1000=rP n→∀ H',Same H1 H'→Q (.bl true) H')∧(eE δ n (ρ 0) 1000≠rP n→∀ (dx:Addr) (H':Hp),Same H1 H'→H' dx=some (.xd [("web",.ref r)])→E (.ref C) (some dx) H')
def Fm(K:b5)(mg:Str→Option Value)(C:Addr):Sp:=fun vs H Q E=>∃ (f':Addr) (n:Nat) (a:Addr) (rs:List (List Nat)),vs=[.ref f',.ref a]∧mg "look_alphabet"=some (.ref f')∧SqT K H a (cF rs)∧rs.length=n∧1≤n∧n≤4∧(∀ x∈rs,OfN n x∧x.length≤80) ∧
 ∀ (r:Addr) (H1:Hp) (ρ:Nat→Nat) (δ:Nat→Nat→Option Nat),Same H H1→Aut rs ρ δ 0→(∀ x,ρ (ρ x)=ρ x)→IsWebV H1 r (eE δ n (ρ 0) 1000)→(eE δ n (ρ 0) 1000).length≤900 →
  (eE δ n (ρ 0) 1000=rP n→∀ (p:Addr) (H':Hp),Same H1 H'→H' p=some (.tup [.str (Str.ofString "told"),.bl true])→Q (.ref p) H')∧(eE δ n (ρ 0) 1000≠rP n→∀ (p:Addr) (H':Hp),Same H1 H'→H' p=some (.tup [.str (Str.ofString "refused"),.ref r])→Q (.ref p) H')
def A6(K:b5):Sp:=fun vs H Q E=>∃ (n:Nat) (a:Addr) (rs:List (List Nat)),vs=[.ref a]∧SqT K H a (cF rs)∧rs.length=n∧1≤n∧n≤4∧(∀ x∈rs,OfN n x∧x.length≤8) ∧
 ∀ (r:Addr) (H1:Hp) (ρ:Nat→Nat) (δ:Nat→Nat→Option Nat),Same H H1→Aut rs ρ δ 0→IsWebV H1 r (eE δ n (ρ 0) 1000)→(eE δ n (ρ 0) 1000).length≤900 →
  (eE δ n (ρ 0) 1000=rP n→∀ (p:Addr) (H':Hp),Same H1 H'→H' p=some (.tup [.str (Str.ofString "told"),.bl true])→Q (.ref p) H')∧(eE δ n (ρ 0) 1000≠rP n→∀ (p:Addr) (H':Hp),Same H1 H'→H' p=some (.tup [.str (Str.ofString "refused"),.ref r])→Q (.ref p) H')
theorem JY(n:Nat):zs n=(List.replicate n (some 0)).map iI:=by unfold zs;rw[List.map_replicate];rfl
theorem Bp{K:b5}{H:Hp}{t:Addr}{n:Nat}{Q:VK}(h1:1≤n)(h4:n≤4)(ht:H t=none)(k:∀ (q:Addr) (H':Hp),H q=none→Same H H'→H' q=some (.tup ((List.replicate n (some 0)).map iI))→Q (.ref q) H'):HA K (.ref t) (.int (n:Nat)) (upd H t (.tup [.int 0])) Q:=by
 have s1:Same H (upd H t (.tup [.int 0])):=Same.new ht
 refine⟨t,(n:Nat),[.int 0],rfl,rfl,SqT.of aB,by simp,by omega,by omega,?_,fun e=>?_,fun e p hp=>?_⟩
 ·show 1 * _≤_
  rw[sizeLine_eq]
  omega
 ·have en:n=1:=by omega
  subst en
  exact k t _ ht s1 aB
 ·have e2:(List.replicate ((n:Nat):Int).toNat [V.int 0]).flatten=zs n:=by rw[aQY];exact Gq n
  rw[e2,JY]
  exact k p _ (s1.free hp) (s1.upd' hp) aB
theorem uD{H1 H':Hp}{r t q:Addr}{W:List (List (Option Nat))}{n:Nat}(w:IsWebV H1 r W)(s:Same H1 H')(ht:H1 t=none)(hq:H1 q=none)(eq:H' q=some (.tup ((List.replicate n (some 0)).map iI)))(et:H' t=some (.tup [.ref q])):DY H' r t W (rP n):=by
 obtain⟨qs,a,b,c⟩:=w
 refine⟨aJ a ht,qs,[q],s _ _ a,et,b,rfl,fun i q' row h1 h2=>s _ _ (c i q' row h1 h2),fun i q' row h1 h2=>?_,fun q' hq' u hu=>?_⟩
 ·cases i with
  | zero=>cases h1;cases h2;exact eq
  | succ i=>simp at h1
 ·obtain⟨i,hi⟩:=p8 hq'
  obtain⟨row,hr⟩:∃ row,W[i]?=some row:=⟨_,b0 (by rw[← b];exact(a9.mp hi).1)⟩
  rw[d6.mp hu]
  exact aJ (c i q' row hi hr) hq
theorem Bm:∀ {rs:List (List Nat)},(∀ x∈rs,x.length≤8)→(rs.map List.length).sum≤8 * rs.length
 | [],_=>l9 _
 | x::rs,h=>by
  have:=Bm fun y hy=>h y (g9 _ hy)
  have:=h x i9
  rw[i8,aQE,l7]
  omega
def Eu(n:Nat)(H:Hp)(p:Addr×List (List Nat)):Prop:=H p.1=some (.tup (cF p.2))∧p.2.length=n∧∀ x∈p.2,OfN n x∧x.length≤8
def Fv:Sp:=fun vs H Q _=>∃ n:Nat,vs=[.int (n:Nat)]∧1≤n∧n≤4∧∀ (m:Nat) (H':Hp),Same H H'→5≤m→m≤8→Q (.int (m:Nat)) H'
def Fn:Sp:=fun vs H Q _=>∃ (fl sc:Addr) (n:Nat),vs=[.ref fl,.int (n:Nat)]∧IsFl H fl sc∧1≤n∧n≤4∧∀ (p:Addr) (rs:List (List Nat)) (H':Hp),H' p=some (.tup (cF rs))→rs.length=n→(∀ x∈rs,OfN n x∧x.length≤8)→IsFl H' fl sc→Kp fl H H'→Q (.ref p) H'
end Lw
namespace Lw
open PySem PySem.Spec PyProof.Rows L2 Ma
def gF(i:Nat):Stmt:=PySem.Challenge.pw_newletters_k17_alphabets_looked_at.main.body.getD i (.Pass ⟨0,0,0,0⟩)
abbrev Mf(x:Str)(st:Stmt)(kV dc pm:Value)(an:Option Addr)(cd ct:Value):FuncData:=PySem.W.fnOf x x (eK st) (dO st) (aG st) .none kV dc pm an cd ct
theorem NO{K:b5}{mg:Str→Option Value}{x:Str}{st:Stmt}{ps:List Str}{f:Addr}{oc:Value}{od an:Option Addr}{osl:Array (Option Value)}{kV doc pm cdv ct:Value}(l:K.lookup f=some ⟨oc,od,.func (Mf x st kV doc pm an cdv ct),osl⟩)
  (c:PySem.W.codeIn K cdv x=true) (k:PySem.W.keepIn K (.ref f)=true) (m:mg x=some (.ref f)) (h:∀ (kV doc pm:Value) (an:Option Addr) (cdv ct:Value) (us:List Value),us.length=ps.length→bindArgs (Mf x st kV doc pm an cdv ct) ⟨us,[]⟩=pure (ps.zip us)):Df K mg x st ps f (Mf x st kV doc pm an cdv ct) :=
 ⟨jN l c k,(jN l c k).binds h,m⟩
abbrev Ei:Stmt:=gF 0
theorem Jh:FnScope ["k"] ["k"] (aG Ei):=gI (by decide +kernel)
abbrev JM:Stmt:=gF 13
theorem L7:FnScope ["n"] ["n"] (aG JM):=gI (by decide +kernel)
abbrev J7:Stmt:=gF 14
theorem LL:FnScope ["n"] ["n"] (aG J7):=gI (by decide +kernel)
abbrev Fr:Stmt:=gF 15
theorem J_:FnScope ["letter"] ["letter"] (aG Fr):=gI (by decide +kernel)
abbrev HR:Stmt:=gF 17
theorem sc_z9:FnScope ["text","kept","letter"] ["text"] (aG HR):=gI (by decide +kernel)
abbrev GG:Stmt:=gF 18
theorem KN:FnScope ["word"] ["word"] (aG GG):=gI (by decide +kernel)
abbrev DZ:Stmt:=gF 19
theorem J1:FnScope ["one","other"] ["one","other"] (aG DZ):=gI (by decide +kernel)
abbrev IM:Stmt:=lD (gF 21) 0
theorem LC:FnScope ["self"] ["self"] (aG IM):=gI (by decide +kernel)
abbrev JB:Stmt:=lD (gF 21) 1
theorem sc_zy:FnScope ["self","place","told","above"] ["self","place","told"] (aG JB):=gI (by decide +kernel)
abbrev Im:Stmt:=lD (gF 21) 2
theorem L8:FnScope ["self","place"] ["self","place"] (aG Im):=gI (by decide +kernel)
abbrev Jq:Stmt:=lD (gF 21) 3
theorem sc_zv:FnScope ["self","head","letter","way"] ["self","head","letter"] (aG Jq):=gI (by decide +kernel)
abbrev Jk:Stmt:=lD (gF 21) 4
theorem sc_zj:FnScope ["self","place"] ["self"] (aG Jk):=gI (by decide +kernel)
abbrev Jl:Stmt:=lD (gF 21) 5
theorem sc_zs:FnScope ["self","place","letter","goal","told","known"] ["self","place","letter","goal","told"] (aG Jl):=gI (by decide +kernel)
abbrev HV:Stmt:=lD (gF 21) 6
theorem sc_zo:FnScope ["self","word","told","here","number","letter","is_last","goal","part"] ["self","word","told"] (aG HV):=gI (by decide +kernel)
abbrev JS:Stmt:=lD (gF 21) 7
theorem sc_zk:FnScope ["self","head","above","turn","letter","way"] ["self","head","above","turn"] (aG JS):=gI (by decide +kernel)
abbrev Io:Stmt:=lD (gF 21) 8
theorem sc_z5:FnScope ["self","pair","one","other"] ["self"] (aG Io):=gI (by decide +kernel)
abbrev Je:Stmt:=lD (gF 21) 9
theorem K9:FnScope ["self","letter"] ["self","letter"] (aG Je):=gI (by decide +kernel)
abbrev Ik:Stmt:=gF 22
theorem sc_zd:FnScope ["n","weave","heads","numbers","done","letter","goal"] ["n","weave"] (aG Ik):=gI (by decide +kernel)
abbrev Ep:Stmt:=gF 23
theorem sc_z3:FnScope ["n","weave","numbers","head","goals"] ["n","weave","numbers","head"] (aG Ep):=gI (by decide +kernel)
abbrev BJ:Stmt:=gF 24
theorem sc_zl1:FnScope ["n","words","weave","word","numbers"] ["n","words"] (aG BJ):=gI (by decide +kernel)
abbrev IP:Stmt:=gF 25
theorem sc_zm:FnScope ["web","ways","place","goals","letter","goal"] ["web"] (aG IP):=gI (by decide +kernel)
abbrev Dr:Stmt:=gF 26
theorem sc_zi1:FnScope ["web","word","ways","here","letter"] ["web","word"] (aG Dr):=gI (by decide +kernel)
abbrev JT:Stmt:=gF 28
theorem sc_zw:FnScope ["retelling","n","web"] ["retelling"] (aG JT):=gI (by decide +kernel)
abbrev FF:Stmt:=gF 30
theorem Id:FnScope ["_law_script"] ["_law_script"] (aG FF):=gI (by decide +kernel)
abbrev Da:Stmt:=gF 31
theorem sc_zc1:FnScope ["_law_flow_here","_law_many","_law_cell","_law_digit"] ["_law_flow_here","_law_many"] (aG Da):=gI (by decide +kernel)
abbrev Cb:Stmt:=gF 32
theorem HD:FnScope ["_law_found","_law_due"] ["_law_found","_law_due"] (aG Cb):=gI (by decide +kernel)
abbrev JU:Stmt:=gF 33
theorem KR:FnScope ["_law_n"] ["_law_n"] (aG JU):=gI (by decide +kernel)
abbrev Ih:Stmt:=gF 34
theorem Mg:FnScope ["_law_letter"] ["_law_letter"] (aG Ih):=gI (by decide +kernel)
abbrev Bg:Stmt:=gF 35
theorem HP:FnScope ["_law_word_here"] ["_law_word_here"] (aG Bg):=gI (by decide +kernel)
abbrev BL:Stmt:=gF 36
theorem IR:FnScope ["_law_word_here"] ["_law_word_here"] (aG BL):=gI (by decide +kernel)
abbrev Dq:Stmt:=gF 37
theorem sc_zb1:FnScope ["_law_text","_law_found","_law_letter"] ["_law_text"] (aG Dq):=gI (by decide +kernel)
abbrev BM:Stmt:=gF 38
theorem sc_zd1:FnScope ["_law_flow_here","_law_n","_law_most_here","_law_found","_law_letters_here","_law_k","_law_some"] ["_law_flow_here","_law_n","_law_most_here"] (aG BM):=gI (by decide +kernel)
abbrev IQ:Stmt:=gF 39
theorem sc_z4:FnScope ["_law_retelling","_law_word_here","_law_found","_law_letter","_law_told"] ["_law_retelling","_law_word_here"] (aG IQ):=gI (by decide +kernel)
abbrev GN:Stmt:=gF 40
theorem LV:FnScope ["_law_one","_law_other"] ["_law_one","_law_other"] (aG GN):=gI (by decide +kernel)
abbrev El:Stmt:=gF 41
theorem IN:FnScope ["_law_n"] ["_law_n"] (aG El):=gI (by decide +kernel)
abbrev JG:Stmt:=gF 42
theorem sc_zf:FnScope ["_law_flow_here","_law_n","_law_letter","_law_side","_law_other"] ["_law_flow_here","_law_n"] (aG JG):=gI (by decide +kernel)
abbrev J3:Stmt:=gF 43
theorem sc_zl:FnScope ["_law_n","_law_change","_law_letter","_law_side","_law_found","_law_other","_law_told"] ["_law_n","_law_change"] (aG J3):=gI (by decide +kernel)
abbrev Hf:Stmt:=gF 44
theorem sc_zh:FnScope ["_law_change","_law_letter","_law_side","_law_other"] ["_law_change"] (aG Hf):=gI (by decide +kernel)
abbrev Hl:Stmt:=gF 45
theorem sc_z0:FnScope ["_law_flow_here","_law_n","_law_steps","_law_most_here","_law_found","_law_back_here","_law_k","_law_change","_law_further","_law_further_back"] ["_law_flow_here","_law_n","_law_steps","_law_most_here"] (aG Hl):=gI (by decide +kernel)
abbrev Kf:Stmt:=gF 46
theorem sc_zz:FnScope ["_law_flow_here","_law_n","_law_left","_law_found","_law_k","_law_letter"] ["_law_flow_here","_law_n"] (aG Kf):=gI (by decide +kernel)
abbrev Jd:Stmt:=gF 47
theorem sc_zp:FnScope ["_law_ways","_law_goes","_law_here","_law_letter","_law_there","_law_whence","_law_place"] ["_law_ways"] (aG Jd):=gI (by decide +kernel)
abbrev tR:Stmt:=gF 48
theorem sc_zk1:FnScope ["_law_n","_law_some","_law_ways","_law_many","_law_word_here","_law_here","_law_k","_law_letter","_law_there","_law_two","_law_goes","_law_order","_law_at","_law_found","_law_row"] ["_law_n","_law_some"] (aG tR):=gI (by decide +kernel)
abbrev EH:Stmt:=gF 49
theorem Ib:FnScope ["_law_n"] ["_law_n"] (aG EH):=gI (by decide +kernel)
abbrev Gn:Stmt:=gF 50
theorem LF:FnScope ["_law_n","_law_g"] ["_law_n","_law_g"] (aG Gn):=gI (by decide +kernel)
abbrev FK:Stmt:=gF 51
theorem sc_zc:FnScope ["_law_told","_law_found","_law_letter","_law_small"] ["_law_told"] (aG FK):=gI (by decide +kernel)
abbrev Hm:Stmt:=gF 52
theorem sc_za:FnScope ["_law_flow_here","_law_n","_law_steps","_law_most_here","_law_found","_law_back_here","_law_told","_law_g","_law_further"] ["_law_flow_here","_law_n","_law_steps","_law_most_here"] (aG Hm):=gI (by decide +kernel)
abbrev GS:Stmt:=gF 53
theorem sc_zb:FnScope ["_law_flow_here","_law_n","_law_most_here","_law_form","_law_found","_law_k","_law_word_here"] ["_law_flow_here","_law_n"] (aG GS):=gI (by decide +kernel)
abbrev Kc:Stmt:=gF 54
theorem sc_zg:FnScope ["_law_ask","_law_retelling","_law_found","e"] ["_law_ask","_law_retelling"] (aG Kc):=gI (by decide +kernel)
abbrev Iy:Stmt:=gF 55
theorem sc_zu:FnScope ["_law_retelling","_law_n","_law_web_here"] ["_law_retelling"] (aG Iy):=gI (by decide +kernel)
abbrev qC:Stmt:=gF 56
theorem sc_law:FnScope ["_law_script","_law_flow_here","_law_n","_law_some","_law_retelling","_law_found"] ["_law_script"] (aG qC):=gI (by decide +kernel)
abbrev Dx:Stmt:=JO (gF 5)
theorem KK:FnScope ["self","web"] ["self","web"] (aG Dx):=⟨rfl,rfl,rfl,by decide +kernel,rfl,by decide +kernel,by decide +kernel⟩
structure Txt(P:Program)(w:World)(K:b5)(mg:Str→Option Value)(NR:Addr)(NW:Addr)(NQ:Addr)(NY:Addr)(NX:Addr)(NS:Addr)(NT:Addr)(NV:Addr)(NU:Addr)(NZ:Addr)(N0:Addr)(f_NoAlphabet:Addr)(fd_NoAlphabet:FuncData):Prop where
 m_Weave:mg "Weave"=some (.ref N0)
 o_Weave:Own K N0
 n_Weave_heads:NoAttr K N0 "heads"
 n_Weave_turns:NoAttr K N0 "turns"
 n_Weave_ways:NoAttr K N0 "ways"
 n_Weave_alike:NoAttr K N0 "alike"
 m_LetterError:mg "LetterError"=some (.ref NQ)
 m_NoWord:mg "NoWord"=some (.ref NY)
 m_NoText:mg "NoText"=some (.ref NX)
 m_NoAlphabet:mg "NoAlphabet"=some (.ref NS)
 m_NoChange:mg "NoChange"=some (.ref NT)
 m_NoPaper:mg "NoPaper"=some (.ref NV)
 m_TooMany:mg "TooMany"=some (.ref NU)
 m_NoRow:mg "NoRow"=some (.ref NZ)
 x_NoAlphabet:XCl K NS f_NoAlphabet
 is_NoAlphabet:XIs K NS
 u_NoAlphabet:XUn K NS NQ
 n_NoAlphabet:PySem.W.findIn K (.ref NS) "web"=some none
 F_NoAlphabet:Fun K "__init__" "NoAlphabet.__init__" Dx f_NoAlphabet fd_NoAlphabet
 b_iNoAlphabet:Binds K fd_NoAlphabet ["self","web"] []
 k_else:PySem.W.kitAny K (.ref NS) [.ref NT,.ref NV,.ref NZ,.ref NX,.ref NY,.ref NU]=some false
 k_this:PySem.W.kitOne K (.ref NS) (.ref NS)=some true
 k_ve:PySem.W.kitOne K (.ref NS) (.type "ValueError")=some true
 b_ValueError:mg "ValueError"=none
 b_all:mg "all"=none
 b_bool:mg "bool"=none
 b_enumerate:mg "enumerate"=none
 b_int:mg "int"=none
 b_isinstance:mg "isinstance"=none
 b_len:mg "len"=none
 b_list:mg "list"=none
 b_max:mg "max"=none
 b_min:mg "min"=none
 b_range:mg "range"=none
 b_reversed:mg "reversed"=none
 b_sorted:mg "sorted"=none
 b_tuple:mg "tuple"=none
 b_zip:mg "zip"=none
 m_CONTRARIES:mg "CONTRARIES"=some (.ref NR)
 t_CONTRARIES:∀ h,K.In h→StrTab P w h NR Ex
 m_LETTERS:mg "LETTERS"=some (.ref NW)
 t_LETTERS:∀ H,SqT K H NW letV
section
variable {P:Program}{w:World}{K:b5}{mg:Str→Option Value}{base:Heap}{NR:Addr}{NW:Addr}{NQ:Addr}{NY:Addr}{NX:Addr}{NS:Addr}{NT:Addr}{NV:Addr}{NU:Addr}{NZ:Addr}{N0:Addr}{f_NoAlphabet:Addr}{fd_NoAlphabet:FuncData}
theorem Lr(T:Txt P w K mg NR NW NQ NY NX NS NT NV NU NZ N0 f_NoAlphabet fd_NoAlphabet):FnOk P w K mg base zJ 1 f_NoAlphabet fd_NoAlphabet ["self","web"] (Jy NS "web"):=by
 refine T.F_NoAlphabet.ok KK (fun vs H Q E h=>?_) (fun cdv A outer s H vs Q E hr h=>?_)
 ·obtain⟨a,v,rfl,_⟩:=h
  rfl
 ·obtain⟨a,v,rfl,ha,k⟩:=h
  exact⟨_,aF (Fb (K:=K) rfl (pv 0) (pv 1) rfl),_,rfl,_,rfl,a,NS,f_NoAlphabet,rfl,ha,T.x_NoAlphabet,T.n_NoAlphabet,fun dx h n=>k dx h n⟩
theorem IB{f:Addr}{fd:FuncData}(D:Df K mg "_law_flow" FF ["_law_script"] f fd)(T:Txt P w K mg NR NW NQ NY NX NS NT NV NU NZ N0 f_NoAlphabet fd_NoAlphabet):Cl P w K mg base "_law_flow" ["_law_script"] 1 (DG K):=by
 refine D.cl (D.F.ok Id (fun vs H Q E h=>?_) (fun cdv A outer s H vs Q E hr h=>?_))
 ·obtain⟨a,ns,rfl,_⟩:=h
  rfl
 ·obtain⟨a,ns,rfl,hs,hl,k⟩:=h
  refine⟨_,(aF (aQ (cP (aA (aY (rO (K:=K) rfl) (by rfl) T.b_list boot_list (aA (pv 0) aC)) (aA aH (aA aH (aA aH (aA aH aC)))))))),?_⟩
  refine⟨_,rfl,a,_,rfl,.inl hs,fun l hl0=>⟨aI (by simp),fun fl hf=>?_⟩⟩
  have ne:l≠fl:=(aJ (aB (H:=H) (a:=l) (o:=HO.lst (ns.map V.int))) hf)
  have hH:H fl=none:=by rw[aE ne.symm] at hf;exact hf
  refine k fl l _ hH ((Same.new hl0).upd' hf) ⟨ns,0,0,1,0,aB,?_,hl,by decide,by decide,by decide⟩
  rw[aE ne,aB]
theorem JE{f:Addr}{fd:FuncData}(D:Df K mg "_law_pick" Da ["_law_flow_here","_law_many"] f fd)(T:Txt P w K mg NR NW NQ NY NX NS NT NV NU NZ N0 f_NoAlphabet fd_NoAlphabet):Cl P w K mg base "_law_pick" ["_law_flow_here","_law_many"] 1 lQ:=by
 refine D.cl (D.F.ok sc_zc1 (fun vs H Q E h=>?_) (fun cdv A outer s H vs Q E hr h=>?_))
 ·obtain⟨fl,sc,m,rfl,_⟩:=h
  rfl
 ·obtain⟨fl,sc,m,rfl,hf,h0,hm,k⟩:=h
  obtain⟨ns,i,a,b,c,h1,h2,hl,hi,ha,hb⟩:=id hf
  have hne:sc≠fl:=bY h2 h1 (by intro z;cases ns with | nil=>cases z | cons n ns=>cases z)
  refine⟨_,(iJ (cR (pw_and (aT eM (aV (aO (K:=K) rfl) (pv 0) aH (fun _ _=>rfl)) aH (aS _)) (pw_and1 (aT BH (aV (aO (K:=K) rfl) (pv 0) aH (fun _ _=>rfl)) (aL (bM (K:=K) rfl) (by rfl) T.b_len m4 (aA (aV (aO (K:=K) rfl) (pv 0) aH (fun _ _=>rfl)) aC)) (aS _)))).pt (aD (aM (i:=2) sc_zc1.nd rfl (Or.inl rfl) (aV (aO (K:=K) rfl) (aV (aO (K:=K) rfl) (pv 0) aH (fun _ _=>rfl)) (aV (aO (K:=K) rfl) (pv 0) aH (fun _ _=>rfl)) (fun _ _=>rfl)))
   (aD (eV (bG fI (aV (aO (K:=K) rfl) (pv 0) aH (fun _ _=>rfl)) aH) (gH (pv 0) aH dR))
   (aF (cR (aT Kr (pv 2) (bG JZ aH aH) (aS _)) (aF (eV (pv 2) (gH (pv 0) aH dR))) (aF (eV (bG lI (bG fI (bG fI (bG kB (aV (aO (K:=K) rfl) (pv 0) aH (fun _ _=>rfl)) aH) (bG lI (pv 2) aH)) aH) aH) (gH (pv 0) aH dR))))))) bI)
   (aD (cR (aT BU (aV (aO (K:=K) rfl) (pv 0) aH (fun _ _=>rfl)) aH (aS _)) (aD (aM (i:=3) sc_zc1.nd rfl (Or.inl rfl) (bG lI (aV (aO (K:=K) rfl) (pv 0) aH (fun _ _=>rfl)) (pv 1)))
   (aD (eV (bG pM (aV (aO (K:=K) rfl) (pv 0) aH (fun _ _=>rfl)) (pv 1)) (gH (pv 0) aH dR))
   (aF (aQ (pv 3))))) bI)
   (aD (eV (bG fI (aV (aO (K:=K) rfl) (pv 0) aH (fun _ _=>rfl)) aH) (gH (pv 0) aH dR))
   (aD (eV (bG lI (bG fI (bG fI (bG kB (aV (aO (K:=K) rfl) (pv 0) aH (fun _ _=>rfl)) aH) aH) (aV (aO (K:=K) rfl) (pv 0) aH (fun _ _=>rfl))) aH) (gH (pv 0) aH dR))
   (aF (aQ (bG lI (bG pM (bG lI (bG kB (bG fI (bG lI (aV (aO (K:=K) rfl) (pv 0) aH (fun _ _=>rfl)) aH) aH) (bG fI (bG pM (aV (aO (K:=K) rfl) (pv 0) aH (fun _ _=>rfl)) aH) aH)) aH) aH) (pv 1)))))))),?_⟩
  refine⟨fun σ H1=>(∃ v,σ=[some (.ref fl),some (.int m),v,none])∧IsFl H1 fl sc∧Kp fl H H1,?_,?_⟩
  ·refine⟨_,rfl,fl,_,2,_,rfl,rfl,SqL.of h1,rfl,rfl,_,rfl,fA (fun e=>?_) (fun _=>fQ ⟨⟨none,rfl⟩,hf,Kp.refl _ _⟩)⟩
   refine⟨_,rfl,fl,_,1,_,rfl,rfl,SqL.of h1,rfl,_,rfl,fl,_,0,_,rfl,rfl,SqL.of h1,rfl,sc,_,rfl,.inl (SqL.of h2),_,_,rfl,rfl,_,rfl,fA (fun e2=>?_) (fun _=>⟨⟨none,rfl⟩,hf,Kp.refl _ _⟩)⟩
   have hlt:i<((ns.map V.int).length:Int):=of_decide_eq_true e2
   rw[b7] at hlt
   have hil:i.toNat<ns.length:=by omega
   have hat:sI (ns.map V.int) i=some (.int ns[i.toNat]):=by
    have q:(ns.map V.int)[i.toNat]?=some (.int ns[i.toNat]):=by rw[c7,b0 hil];rfl
    have q2:=cN q
    rwa [aXJ hi] at q2
   refine⟨_,rfl,fl,_,0,_,rfl,rfl,SqL.of h1,rfl,_,rfl,fl,_,1,_,rfl,rfl,SqL.of h1,rfl,sc,_,i,_,rfl,rfl,SqL.of h2,hat,?_⟩
   refine⟨_,rfl,fl,_,1,_,rfl,rfl,SqL.of h1,rfl,_,_,rfl,rfl,_,rfl,fl,_,1,1,rfl,rfl,h1,rfl,?_⟩
   refine⟨_,rfl,_,_,rfl,rfl,⟨by decide,by decide,by decide⟩,_,_,rfl,rfl,_,rfl,fA (fun e3=>?_) (fun _=>?_)⟩
   ·have hc:(10:Int) ^ (18:Int).toNat≤ns[i.toNat]:=of_decide_eq_true e3
    have hp:(0:Int)≤10 ^ (18:Int).toNat:=by decide
    refine⟨_,rfl,_,rfl,fl,_,2,2,rfl,rfl,aB,rfl,⟨_,rfl⟩,⟨ns,i+1,ns[i.toNat],b,c,aB,?_,hl,by omega,by omega,hb⟩,((Kp.refl fl H).self).self⟩
    rw[aE hne,aE hne];exact h2
   ·refine⟨_,rfl,fl,_,3,_,rfl,rfl,SqL.of aB,rfl,_,_,rfl,rfl,.inr ⟨by decide,by decide⟩,_,rfl,_,_,rfl,rfl,(by show (0:Int)<1000003;decide),_,_,rfl,rfl,_,_,rfl,rfl,_,_,rfl,rfl,(by show (0:Int)<2147483647;decide),_,rfl,fl,_,3,3,rfl,rfl,aB,rfl,⟨_,rfl⟩,⟨ns,i+1,a,_,c,aB,?_,hl,by omega,ha,aXN _ (by decide)⟩,((Kp.refl fl H).self).self⟩
    rw[aE hne,aE hne];exact h2
  ·rintro _ H1 ⟨⟨v,rfl⟩,⟨ns,i,a,b,c,h1,h2,hl,hi,ha,hb⟩,kp⟩
   have hne:sc≠fl:=bY h2 h1 (by intro z;cases ns with | nil=>cases z | cons n ns=>cases z)
   refine⟨_,rfl,fl,_,2,_,rfl,rfl,SqL.of h1,rfl,_,_,rfl,rfl,_,rfl,fA (fun e=>?_) (fun _=>?_)⟩
   ·refine⟨_,rfl,fl,_,2,_,rfl,rfl,SqL.of h1,rfl,_,rfl,_,_,rfl,rfl,h0,?_⟩
    refine⟨_,rfl,fl,_,2,_,rfl,rfl,SqL.of h1,rfl,_,rfl,_,_,rfl,rfl,⟨h0,hm⟩,_,rfl,fl,_,2,2,rfl,rfl,h1,rfl,?_⟩
    refine⟨_,rfl,k _ _ (aXN _ (by omega)) (aXQ _ h0) ⟨ns,i,a / m,b,c,aB,?_,hl,hi,Int.ediv_nonneg ha (by omega),hb⟩ kp.self⟩
    rw[aE hne];exact h2
   ·refine⟨_,rfl,fl,_,4,_,rfl,rfl,SqL.of h1,rfl,_,_,rfl,rfl,_,rfl,fl,_,4,4,rfl,rfl,h1,rfl,?_⟩
    refine⟨_,rfl,fl,_,3,_,rfl,rfl,SqL.of aB,rfl,_,_,rfl,rfl,.inr ⟨by decide,by decide⟩,_,_,rfl,rfl,_,rfl,fl,_,4,_,rfl,rfl,SqL.of aB,rfl,_,_,rfl,rfl,_,_,rfl,rfl,(by show (0:Int)<2147483647;decide),_,rfl,fl,_,3,3,rfl,rfl,aB,rfl,?_⟩
    have hb3:∀ x:Int,0≤x % 2147483647∧x % 2147483647<2147483647:=fun x=>⟨aXN _ (by decide),aXQ _ (by decide)⟩
    refine⟨_,rfl,fl,_,3,_,rfl,rfl,SqL.of aB,rfl,_,_,rfl,rfl,(by show (0:Int)<65521;decide),_,_,rfl,rfl,_,rfl,fl,_,3,_,rfl,rfl,SqL.of aB,rfl,_,_,rfl,rfl,⟨by decide,by decide⟩,_,_,rfl,rfl,_,_,rfl,rfl,.inl ⟨?_,?_⟩,_,_,rfl,rfl,(by show (0:Int)<1000003;decide),_,_,rfl,rfl,⟨by decide,by decide⟩,_,rfl,_,_,rfl,rfl,h0,?_⟩
    ·have:=aXN ((b * 48271+12820163+(c+1)) % 2147483647) (show (65521:Int)≠0 by decide);omega
    ·have:=aXQ ((b * 48271+12820163+(c+1)) % 2147483647) (show (0:Int)<65521 by decide);omega
    ·refine k _ _ (aXN _ (by omega)) (aXQ _ h0) ⟨ns,i,a,_,c+1,aB,?_,hl,hi,ha,(hb3 _).1⟩ kp.self.self
     rw[aE hne,aE hne];exact h2
theorem KZ{f:Addr}{fd:FuncData}(D:Df K mg "_law_contrary" Ih ["_law_letter"] f fd)(T:Txt P w K mg NR NW NQ NY NX NS NT NV NU NZ N0 f_NoAlphabet fd_NoAlphabet):Cl P w K mg base "_law_contrary" ["_law_letter"] 1 jI:=by
 refine D.cl (D.F.ok Mg (fun vs H Q E h=>?_) (fun cdv A outer s H vs Q E hr h=>?_))
 ·obtain⟨c,rfl,_⟩:=h
  rfl
 ·obtain⟨c,rfl,hc,k⟩:=h
  refine⟨_,(aD (cR (fP (dH (K:=K) rfl k7 PySem.F.slot_str_islower PySem.F.type_str_islower AZ (pv 0))) (aF (aQ (dH (K:=K) rfl k7 aQ3 aQ4 kI (pv 0)))) bI)
   (aF (aQ (dH (K:=K) rfl k7 aQ5 aQ6 jO (pv 0))))),?_⟩
  refine⟨_,rfl,rfl,_,rfl,rfl,_,rfl,?_⟩
  dsimp only
  rw[B9 hc]
  refine fA (fun e=>?_) (fun e=>?_)
  ·refine⟨_,rfl,rfl,_,rfl,rfl,?_,?_⟩
   ·rw[fW hc e];exact nS _
   ·rw[fW hc e];exact k H (Same.refl H)
  ·have e':bC c=false:=by simpa using e
   refine⟨_,rfl,rfl,_,rfl,rfl,?_,?_⟩
   ·rw[Bv hc e'];exact nS _
   ·rw[Bv hc e'];exact k H (Same.refl H)
theorem Ln{f:Addr}{fd:FuncData}(D:Df K mg "_law_letters" JU ["_law_n"] f fd)(T:Txt P w K mg NR NW NQ NY NX NS NT NV NU NZ N0 f_NoAlphabet fd_NoAlphabet):Cl P w K mg base "_law_letters" ["_law_n"] 1 kX:=by
 refine D.cl (D.F.ok KR (fun vs H Q E h=>?_) (fun cdv A outer s H vs Q E hr h=>?_))
 ·obtain⟨n,rfl,_⟩:=h
  rfl
 ·obtain⟨n,rfl,h1,h4,k⟩:=h
  refine⟨_,(aF (aQ (aY (nC rfl) (by rfl) T.b_list boot_list (aA (eO jQ bV fF (eT (bG kB aH (pv 0)))) aC)))),?_⟩
  have e:Txt.slice (Str.ofString "aAbBcCdD") none (some (2 * n))=S (aK n):=by
   rw[show Str.ofString "aAbBcCdD"=S lets by decide +kernel,gE lets (by omega) (by show (2 * n)≤(8:Int);omega)]
   rfl
  refine⟨_,rfl,_,_,rfl,rfl,.inl ⟨by decide,by decide⟩,_,rfl,_,rfl,by decide +kernel,aK n,by rw[e],?_,fun l hl=>k l _ hl (Same.new hl) aB⟩
  rw[kN h1 h4];omega
theorem Ix{f:Addr}{fd:FuncData}(D:Df K mg "_law_laid" Dq ["_law_text"] f fd)(T:Txt P w K mg NR NW NQ NY NX NS NT NV NU NZ N0 f_NoAlphabet fd_NoAlphabet)(c_zx:Cl P w K mg base "_law_contrary" ["_law_letter"] 1 jI):Cl P w K mg base "_law_laid" ["_law_text"] 2 tM:=by
 refine D.cl (D.F.ok sc_zb1 (fun vs H Q E h=>?_) (fun cdv A outer s H vs Q E hr h=>?_))
 ·obtain⟨x,rfl,_⟩:=h
  rfl
 ·obtain⟨x,rfl,hx,hlen,k⟩:=h
  refine⟨_,(aD (aM (i:=1) sc_zb1.nd rfl (Or.inl rfl) (cP aC))
   (aD (cW l4 rfl (iM (pv 0)) (aX (i:=2) sc_zb1.nd rfl (Or.inl rfl)) (aF (cR (pw_and (aT BU (aL (bM (K:=K) rfl) (by rfl) T.b_len m4 (aA (pv 1) aC)) aH (aS _)) (pw_and1 (aT eM (aV (aO (K:=K) rfl) (pv 1) (Es AV aH) (fun _ _=>rfl)) (pC c_zx hr (aA (pv 2) aC)) (aS _)))).pt (aF (cA (dH (K:=K) rfl j7 aQy aQz ED (pv 1)))) (aF (cA (cO (K:=K) rfl j7 o0 o6 bX (pv 1) (aA (pv 2) aC)))))))
   (aF (aQ (cO (K:=K) rfl k7 aXA aXB (mG (K:=K) rfl) bV (aA (pv 1) aC)))))),?_⟩
  refine⟨aI (by simp),fun l hl=>?_⟩
  refine⟨_,rfl,S x,rfl,kR (w:=x) (fun i σ H1=>(∃ v,σ=[some (.str (S x)),some (.ref l),v])∧Same H H1∧H1 l=some (.lst (aZ (iR [] (x.take i)).reverse))) ⟨⟨none,rfl⟩,Same.new hl,aB⟩ ?_ ?_⟩
  ·rintro i c σ H1 hc ⟨⟨v,rfl⟩,s1,e1⟩
   have hi:i<x.length:=(a9.mp hc).1
   have hcL:cE c:=hx c (b8 hc)
   have hn:iR [] (x.take (i+1))=push (iR [] (x.take i)) c:=by rw[bF hc,hZ]
   have hsz:(iR [] (x.take i)).length≤60000:=by
    have:=pZ (x.take i) []
    rw[j6] at this
    simp at this
    omega
   refine⟨_,rfl,l,_,rfl,.inl (SqL.of e1),_,_,rfl,rfl,_,rfl,fA (fun e=>?_) (fun e=>?_)⟩
   ·have hne:0<(iR [] (x.take i)).length:=by
     have e':=of_decide_eq_true e
     rw[bA,aQL] at e'
     omega
    obtain⟨y,r,hk⟩:∃ y r,iR [] (x.take i)=y::r:=by
     cases hq:iR [] (x.take i) with
     | nil=>rw[hq] at hne;simp at hne
     | cons y r=>exact⟨y,r,rfl⟩
    rw[hk] at e1 hn hsz
    have e2:H1 l=some (.lst (aZ r.reverse++[.str (S [y])])):=by rw[e1,u6,cK]
    refine⟨_,rfl,_,rfl,l,_,_,_,rfl,rfl,SqL.of e2,qT _ _,_,rfl,c,rfl,hcL,fun H2 s2=>⟨rfl,_,rfl,fA (fun q=>?_) (fun q=>?_)⟩⟩
    ·rw[gG] at q
     have q':y=con c:=by simpa using q
     have hp:push (y::r) c=r:=by unfold push;dsimp only;rw[if_pos q']
     rw[hp] at hn
     refine⟨_,rfl,.inl ⟨rfl,_,SqL.of (s2 _ _ e2)⟩,l,_,_,rfl,rfl,s2 _ _ e2,by simp;rfl,⟨_,rfl⟩,(s1.trans s2).upd hl,?_⟩
     rw[aB,hn]
     simp
    ·rw[gG] at q
     have q':¬ y=con c:=by simpa using q
     have hp:push (y::r) c=c::y::r:=by unfold push;dsimp only;rw[if_neg q']
     rw[hp] at hn
     refine⟨_,rfl,.inl ⟨rfl,_,SqL.of (s2 _ _ e2)⟩,_,rfl,l,_,_,rfl,rfl,s2 _ _ e2,?_,⟨_,rfl⟩,(s1.trans s2).upd hl,?_⟩
     ·rw[c6,bA,aQL]
      rw[l7] at hsz
      have h9:r.length+1≤100000:=by omega
      exact m9 h9 (by decide)
     ·rw[aB,hn,u6,u6,cK,cK]
   ·have hk:iR [] (x.take i)=[]:=by
     cases hq:iR [] (x.take i) with
     | nil=>rfl
     | cons y r =>
      exfalso
      apply e
      apply decide_eq_true
      rw[bA,aQL,hq]
      simp
    rw[hk] at e1 hn
    refine fQ ⟨_,rfl,.inl ⟨rfl,_,SqL.of e1⟩,_,rfl,l,_,_,rfl,rfl,e1,?_,⟨_,rfl⟩,s1.upd hl,?_⟩
    ·show (0:Nat)<sizeLine;decide
    ·rw[aB,hn]
     rfl
  ·rintro σ H1 ⟨⟨v,rfl⟩,s1,e1⟩
   rw[l5] at e1
   have e2:SqL K H1 l ((lay x).map (fun c=>S [c]) |>.map V.str):=by
    rw[← lY];exact SqL.of e1
   refine⟨rfl,_,rfl,_,l,_,rfl,rfl,e2,iZ _ (j8 (iF x) (by omega)),?_⟩
   rw[kW]
   exact k H1 s1
theorem IJ{f:Addr}{fd:FuncData}(D:Df K mg "_law_word" BM ["_law_flow_here","_law_n","_law_most_here"] f fd)(T:Txt P w K mg NR NW NQ NY NX NS NT NV NU NZ N0 f_NoAlphabet fd_NoAlphabet)(c_zc1:Cl P w K mg base "_law_pick" ["_law_flow_here","_law_many"] 1 lQ)(c_z1:Cl P w K mg base "_law_letters" ["_law_n"] 1 kX)(c_zx:Cl P w K mg base "_law_contrary" ["_law_letter"] 1 jI):Cl P w K mg base "_law_word" ["_law_flow_here","_law_n","_law_most_here"] 2 AL:=by
 refine D.cl (D.F.ok sc_zd1 (fun vs H Q E h=>?_) (fun cdv A outer s H vs Q E hr h=>?_))
 ·obtain⟨fl,sc,n,most,rfl,_⟩:=h
  rfl
 ·obtain⟨fl,sc,n,most,rfl,hf,h1,h4,hm,hm2,k⟩:=h
  refine⟨_,(aD (aM (i:=3) sc_zd1.nd rfl (Or.inr rfl) bV)
   (aD (aM (i:=4) sc_zd1.nd rfl (Or.inl rfl) (pC c_z1 hr (aA (pv 1) aC)))
   (aD (cW l4 rfl (fN (by rfl) T.b_range (aA (pC c_zc1 hr (aA (pv 0) (aA (bG fI (pv 2) aH) aC))) aC)) (aX (i:=5) sc_zd1.nd rfl (Or.inl rfl)) (aD (lV (i:=6) (sc0:=aG BM) (N:=["_law_flow_here","_law_n","_law_most_here","_law_found","_law_letters_here","_law_k","_law_some"]) (ix:=[3]) sc_zd1.nd rfl rfl (by decide +kernel) rfl rfl rfl (dF (K:=K) rfl (pv 4)) (fun _ _ _=>yA (pw_or (aT eM (pv 1) bV (aS _)) (pw_or1 (aT jV (pv 0) (pC c_zx hr (aA (aV Aq (pv 1) (Es AV aH) (fun _ _=>rfl)) aC)) (aS _)))).pt) (fun _ _ _=>(pv 0)))
   (aF (aM (i:=3) sc_zd1.nd rfl (Or.inr rfl) (bG eB (pv 3) (aV (aO (K:=K) rfl) (pv 6) (pC c_zc1 hr (aA (pv 0) (aA (aL (bM (K:=K) rfl) (by rfl) T.b_len m4 (aA (pv 6) aC)) aC))) (fun _ _=>rfl)))))))
   (aF (aQ (pv 3)))))),?_⟩
  refine⟨_,rfl,n,rfl,h1,h4,fun l H1 hl s1 e1=>?_⟩
  have hlf:l≠fl:=hf.ne hl
  refine⟨_,rfl,_,rfl,_,_,rfl,rfl,fl,sc,most+1,rfl,hf.same s1,by omega,by omega,fun d H2 d0 d1 f2 k2=>⟨d,rfl,by omega,by omega,?_⟩⟩
  refine oK (lo:=0) (n:=d.toNat) (fun i σ H3=>∃ (x:List Nat) (v5 v6:Option V),σ=[some (.ref fl),some (.int n),some (.int most),some (.str (S x)),some (.ref l),v5,v6]∧OfN n x∧bR x∧x.length=i∧IsFl H3 fl sc∧Kp fl H H3∧H3 l=some (.lst (aZ (aK n)))) ?_ ?_ ?_
  ·refine⟨[],none,none,?_,fun c hc=>(nomatch hc),trivial,rfl,f2,(s1.kp).trans k2,k2 _ _ e1 hlf⟩
   rw[← uE];rfl
  ·rintro i _ H3 hi ⟨x,v5,v6,rfl,ho,hp,hxl,f3,k3,e3⟩
   have hxd:(x.length:Int)<most+1:=by omega
   refine⟨_,rfl,l,rfl,⟨_,SqL.of e3⟩,fun Dd hD=>jM (xs:=aZ (aK n)) (fun j H4=>Same H3 H4∧H4 Dd=some (.lst (aZ (((aK n).take j).filter (nE x))))) ⟨Same.new hD,aB⟩ (fun j H4 _ p=>SqL.of (p.1 _ _ e3)) ?_ ?_⟩
   ·rintro j y H4 hy ⟨s4,e4⟩
    obtain⟨c,hc,rfl⟩:∃ c,(aK n)[j]?=some c∧y=.str (S [c]):=by
     unfold aZ at hy
     rw[c7] at hy
     cases hq:(aK n)[j]? with
     | none=>rw[hq] at hy;cases hy
     | some c=>rw[hq] at hy;exact⟨c,rfl,(j1 hy).symm⟩
    have hcL:cE c:=aN (b8 hc)
    have ht:((aK n).take (j+1)).filter (nE x)=((aK n).take j).filter (nE x)++(if nE x c then [c] else []):=take_succ_filter (nE x) (aK n) j c hc
    have hsz:(((aK n).take j).filter (nE x)).length≤100:=by
     have q1:=aXC (nE x) ((aK n).take j)
     have q2:((aK n).take j).length≤(aK n).length:=by rw[j6];omega
     rw[kN h1 h4] at q2
     omega
    have app:nE x c=true→∀ H5,Same H4 H5→∃ ys,H5 Dd=some (.lst ys)∧ys.length<sizeLine∧Same H3 (upd H5 Dd (.lst (ys++[.str (S [c])])))∧upd H5 Dd (.lst (ys++[.str (S [c])])) Dd=some (.lst (aZ (((aK n).take (j+1)).filter (nE x)))):=fun ok H5 s5=>by
     refine⟨_,s5 _ _ e4,?_,(s4.trans s5).upd hD,?_⟩
     ·rw[bA];exact aP (by omega)
     ·rw[aB,ht,ok]
      show some (HO.lst _)=some (HO.lst (aZ (_++[c])))
      rw[cK]
    refine⟨_,rfl,rfl,_,rfl,fA (fun e=>?_) (fun e=>?_)⟩
    ·rw[uE,gG] at e
     have e':x=[]:=by simpa using e
     refine gY ⟨_,rfl,app (by rw[e'];rfl) H4 (Same.refl _)⟩
    ·rw[uE,gG] at e
     have e':x≠[]:=by simpa using e
     obtain⟨u,z,rfl⟩:∃ u z,x=u++[z]:=⟨x.dropLast,x.getLast e',(aQG e').symm⟩
     have hz:cE z:=aN (ho z (by simp))
     refine⟨_,rfl,_,rfl,_,rfl,_,_,z,rfl,rfl,by rw[cH];exact aI (by simp at hxd ⊢;omega),by rw[Lk];exact qT u z,z,rfl,hz,fun H5 s5=>⟨rfl,_,rfl,?_⟩⟩
     rw[gG]
     have ok:nE (u++[z]) c=!decide ([c]=[con z]):=by
      unfold nE
      simp
     rw[← ok]
     refine fA (fun q=>⟨_,rfl,app q H5 s5⟩) (fun q=>⟨s4.trans s5,?_⟩)
     have q':nE (u++[z]) c=false:=by simpa using q
     rw[s5 _ _ e4,ht,q']
     simp
   ·rintro H4 ⟨s4,e4⟩
    rw[bA,l5] at e4
    have hpos:=F0 (x:=x) h1 h4
    have hsz:((aK n).filter (nE x)).length≤8:=by
     have q1:=aXC (nE x) (aK n)
     rw[kN h1 h4] at q1
     omega
    have hDf:Dd≠fl:=f3.ne hD
    refine⟨_,rfl,_,rfl,_,rfl,_,rfl,Dd,_,rfl,.inl (SqL.of e4),fl,sc,_,rfl,f3.same s4,?_,?_,fun g H5 g0 g1 f5 k5=>?_⟩
    ·rw[bA];omega
    ·rw[bA];omega
    rw[bA] at g1
    have hg:g.toNat<((aK n).filter (nE x)).length:=by omega
    have hmem:=aXF hg
    have hat:sI (aZ ((aK n).filter (nE x))) g=some (.str (S [((aK n).filter (nE x))[g.toNat]])):=lM g0 (mI (b0 hg))
    generalize ((aK n).filter (nE x))[g.toNat]=c at hat hmem
    obtain⟨hm1,hm2⟩:=aQl.mp hmem
    refine⟨Dd,_,g,_,rfl,rfl,SqL.of (k5 _ _ e4 hDf),hat,_,_,rfl,rfl,?_,?_⟩
    ·rw[cH,cH];exact aI (by simp;omega)
    ·rw[lB]
     refine⟨x++[c],_,_,rfl,?_,nO (OfN.all ho) (aN hm1) hp hm2,?_,f5,(k3.trans s4.kp).trans k5,k5 _ _ (s4 _ _ e3) hlf⟩
     ·intro c' hc'
      rcases j9.mp hc' with q | q
      ·exact ho c' q
      ·rw[d6.mp q];exact hm1
     ·rw[c6,hxl];rfl
  ·rintro _ H3 ⟨x,v5,v6,rfl,ho,hp,hxl,f3,k3,e3⟩
   exact⟨_,rfl,k x H3 ho hp (by omega) f3 k3⟩
theorem IS{f:Addr}{fd:FuncData}(D:Df K mg "_law_back" BL ["_law_word_here"] f fd)(T:Txt P w K mg NR NW NQ NY NX NS NT NV NU NZ N0 f_NoAlphabet fd_NoAlphabet)(c_zx:Cl P w K mg base "_law_contrary" ["_law_letter"] 1 jI):Cl P w K mg base "_law_back" ["_law_word_here"] 2 vH:=by
 refine D.cl (D.F.ok IR (fun vs H Q E h=>?_) (fun cdv A outer s H vs Q E hr h=>?_))
 ·obtain⟨x,rfl,_⟩:=h
  rfl
 ·obtain⟨x,rfl,hx,hlen,k⟩:=h
  refine⟨_,(aF (aQ (cO (K:=K) rfl k7 aXA aXB (mG (K:=K) rfl) bV (aA (cM (sc0:=aG BL) (N:=["_law_word_here"]) (ix:=[]) (by decide +kernel) rfl rfl rfl (Ii (by rfl) T.b_reversed (aA (pv 0) aC)) (fun _ _ _=>bW) (fun _ _ _=>(pC c_zx hr (aA (pv 0) aC)))) aC)))),?_⟩
  refine⟨rfl,_,rfl,S x,rfl,by rw[cH];exact hlen,fun Dd hD=>?_⟩
  refine qN (w:=x) (fun i H1=>Same H H1∧H1 Dd=some (.lst (aZ ((x.reverse.take i).map con)))) ⟨Same.new hD,aB⟩ ?_ ?_
  ·rintro i c H1 hc ⟨s1,e1⟩
   have hcL:cE c:=hx c (aQM.mp (b8 hc))
   have hi:i<x.length:=by have:=(a9.mp hc).1;simpa using this
   refine⟨_,rfl,c,rfl,hcL,fun H2 s2=>⟨_,s2 _ _ e1,?_,(s1.trans s2).upd hD,?_⟩⟩
   ·rw[bA,b7,j6];exact aP (by omega)
   ·rw[aB,bF hc,i7,← cK];rfl
  ·rintro H1 ⟨s1,e1⟩
   have eb:(x.reverse.take x.length).map con=back x:=by
    rw[aQA (by simp)]
    unfold back
    rw[aXY]
   rw[eb] at e1
   have e2:SqL K H1 Dd (((back x).map fun c=>S [c]).map V.str):=by rw[← lY];exact SqL.of e1
   refine⟨_,Dd,_,rfl,rfl,e2,iZ _ (by rw[dA];omega),?_⟩
   rw[kW]
   exact k H1 s1
theorem Iz{f:Addr}{fd:FuncData}(D:Df K mg "contrary" Fr ["letter"] f fd)(T:Txt P w K mg NR NW NQ NY NX NS NT NV NU NZ N0 f_NoAlphabet fd_NoAlphabet):Cl P w K mg base "contrary" ["letter"] 1 jI:=by
 refine D.cl (D.F.ok J_ (fun vs H Q E h=>?_) (fun cdv A outer s H vs Q E hr h=>?_))
 ·obtain⟨c,rfl,_⟩:=h
  rfl
 ·obtain⟨c,rfl,hc,k⟩:=h
  refine⟨_,(aF (aQ (aV (Jp T.t_CONTRARIES) (eR (v:=.ref NR) (by rfl) T.m_CONTRARIES rfl) (pv 0) (fun _ _=>rfl)))),?_⟩
  exact⟨_,rfl,rfl,_,rfl,.inl ⟨_,yG hc,k H (Same.refl H)⟩⟩
theorem LO{f:Addr}{fd:FuncData}(D:Df K mg "laid_out" HR ["text"] f fd)(T:Txt P w K mg NR NW NQ NY NX NS NT NV NU NZ N0 f_NoAlphabet fd_NoAlphabet)(c_zf1:Cl P w K mg base "contrary" ["letter"] 1 jI):Cl P w K mg base "laid_out" ["text"] 2 tM:=by
 refine D.cl (D.F.ok sc_z9 (fun vs H Q E h=>?_) (fun cdv A outer s H vs Q E hr h=>?_))
 ·obtain⟨x,rfl,_⟩:=h
  rfl
 ·obtain⟨x,rfl,hx,hlen,k⟩:=h
  refine⟨_,(aD (aM (i:=1) sc_z9.nd rfl (Or.inl rfl) (cP aC))
   (aD (cW l4 rfl (iM (pv 0)) (aX (i:=2) sc_z9.nd rfl (Or.inl rfl)) (aF (cR (pw_and (aT BU (aL (bM (K:=K) rfl) (by rfl) T.b_len m4 (aA (pv 1) aC)) aH (aS _)) (pw_and1 (aT eM (aV (aO (K:=K) rfl) (pv 1) (Es AV aH) (fun _ _=>rfl)) (pC c_zf1 hr (aA (pv 2) aC)) (aS _)))).pt (aF (cA (dH (K:=K) rfl j7 aQy aQz ED (pv 1)))) (aF (cA (cO (K:=K) rfl j7 o0 o6 bX (pv 1) (aA (pv 2) aC)))))))
   (aF (aQ (cO (K:=K) rfl k7 aXA aXB (mG (K:=K) rfl) bV (aA (pv 1) aC)))))),?_⟩
  refine⟨aI (by simp),fun l hl=>?_⟩
  refine⟨_,rfl,S x,rfl,kR (w:=x) (fun i σ H1=>(∃ v,σ=[some (.str (S x)),some (.ref l),v])∧Same H H1∧H1 l=some (.lst (aZ (iR [] (x.take i)).reverse))) ⟨⟨none,rfl⟩,Same.new hl,aB⟩ ?_ ?_⟩
  ·rintro i c σ H1 hc ⟨⟨v,rfl⟩,s1,e1⟩
   have hi:i<x.length:=(a9.mp hc).1
   have hcL:cE c:=hx c (b8 hc)
   have hn:iR [] (x.take (i+1))=push (iR [] (x.take i)) c:=by rw[bF hc,hZ]
   have hsz:(iR [] (x.take i)).length≤60000:=by
    have:=pZ (x.take i) []
    rw[j6] at this
    simp at this
    omega
   refine⟨_,rfl,l,_,rfl,.inl (SqL.of e1),_,_,rfl,rfl,_,rfl,fA (fun e=>?_) (fun e=>?_)⟩
   ·have hne:0<(iR [] (x.take i)).length:=by
     have e':=of_decide_eq_true e
     rw[bA,aQL] at e'
     omega
    obtain⟨y,r,hk⟩:∃ y r,iR [] (x.take i)=y::r:=by
     cases hq:iR [] (x.take i) with
     | nil=>rw[hq] at hne;simp at hne
     | cons y r=>exact⟨y,r,rfl⟩
    rw[hk] at e1 hn hsz
    have e2:H1 l=some (.lst (aZ r.reverse++[.str (S [y])])):=by rw[e1,u6,cK]
    refine⟨_,rfl,_,rfl,l,_,_,_,rfl,rfl,SqL.of e2,qT _ _,_,rfl,c,rfl,hcL,fun H2 s2=>⟨rfl,_,rfl,fA (fun q=>?_) (fun q=>?_)⟩⟩
    ·rw[gG] at q
     have q':y=con c:=by simpa using q
     have hp:push (y::r) c=r:=by unfold push;dsimp only;rw[if_pos q']
     rw[hp] at hn
     refine⟨_,rfl,.inl ⟨rfl,_,SqL.of (s2 _ _ e2)⟩,l,_,_,rfl,rfl,s2 _ _ e2,by simp;rfl,⟨_,rfl⟩,(s1.trans s2).upd hl,?_⟩
     rw[aB,hn]
     simp
    ·rw[gG] at q
     have q':¬ y=con c:=by simpa using q
     have hp:push (y::r) c=c::y::r:=by unfold push;dsimp only;rw[if_neg q']
     rw[hp] at hn
     refine⟨_,rfl,.inl ⟨rfl,_,SqL.of (s2 _ _ e2)⟩,_,rfl,l,_,_,rfl,rfl,s2 _ _ e2,?_,⟨_,rfl⟩,(s1.trans s2).upd hl,?_⟩
     ·rw[c6,bA,aQL]
      rw[l7] at hsz
      have h9:r.length+1≤100000:=by omega
      exact m9 h9 (by decide)
     ·rw[aB,hn,u6,u6,cK,cK]
   ·have hk:iR [] (x.take i)=[]:=by
     cases hq:iR [] (x.take i) with
     | nil=>rfl
     | cons y r =>
      exfalso
      apply e
      apply decide_eq_true
      rw[bA,aQL,hq]
      simp
    rw[hk] at e1 hn
    refine fQ ⟨_,rfl,.inl ⟨rfl,_,SqL.of e1⟩,_,rfl,l,_,_,rfl,rfl,e1,?_,⟨_,rfl⟩,s1.upd hl,?_⟩
    ·show (0:Nat)<sizeLine;decide
    ·rw[aB,hn]
     rfl
  ·rintro σ H1 ⟨⟨v,rfl⟩,s1,e1⟩
   rw[l5] at e1
   have e2:SqL K H1 l ((lay x).map (fun c=>S [c]) |>.map V.str):=by
    rw[← lY];exact SqL.of e1
   refine⟨rfl,_,rfl,_,l,_,rfl,rfl,e2,iZ _ (j8 (iF x) (by omega)),?_⟩
   rw[kW]
   exact k H1 s1
theorem KM{f:Addr}{fd:FuncData}(D:Df K mg "turned_back" GG ["word"] f fd)(T:Txt P w K mg NR NW NQ NY NX NS NT NV NU NZ N0 f_NoAlphabet fd_NoAlphabet)(c_zf1:Cl P w K mg base "contrary" ["letter"] 1 jI):Cl P w K mg base "turned_back" ["word"] 2 nD:=by
 refine D.cl (D.F.ok KN (fun vs H Q E h=>?_) (fun cdv A outer s H vs Q E hr h=>?_))
 ·obtain⟨x,rfl,_⟩:=h
  rfl
 ·obtain⟨x,rfl,hx,hlen,k⟩:=h
  refine⟨_,(aF (aQ (cO (K:=K) rfl k7 aXA aXB (mG (K:=K) rfl) bV (aA (cM (sc0:=aG GG) (N:=["word"]) (ix:=[]) (by decide +kernel) rfl rfl rfl (Gk (by rfl) T.b_reversed (aA (pv 0) aC)) (fun _ _ _=>bW) (fun _ _ _=>(pC c_zf1 hr (aA (pv 0) aC)))) aC)))),?_⟩
  refine⟨rfl,_,rfl,S x,rfl,by rw[cH];exact hlen,fun Dd hD=>?_⟩
  refine qN (w:=x) (fun i H1=>Same H H1∧H1 Dd=some (.lst (aZ ((x.reverse.take i).map con)))) ⟨Same.new hD,aB⟩ ?_ ?_
  ·rintro i c H1 hc ⟨s1,e1⟩
   have hcL:cE c:=hx c (aQM.mp (b8 hc))
   have hi:i<x.length:=by have:=(a9.mp hc).1;simpa using this
   refine⟨_,rfl,c,rfl,hcL,fun H2 s2=>⟨_,s2 _ _ e1,?_,(s1.trans s2).upd hD,?_⟩⟩
   ·rw[bA,b7,j6];exact m9 (show _≤60000 by omega) (by decide)
   ·rw[aB,bF hc,i7,← cK];rfl
  ·rintro H1 ⟨s1,e1⟩
   have eb:(x.reverse.take x.length).map con=back x:=by
    rw[aQA (by simp)]
    unfold back
    rw[aXY]
   rw[eb] at e1
   have e2:SqL K H1 Dd (((back x).map fun c=>S [c]).map V.str):=by rw[← lY];exact SqL.of e1
   refine⟨_,Dd,_,rfl,rfl,e2,iZ _ (by rw[dA];omega),?_⟩
   rw[kW]
   exact k H1 s1
theorem IU{f:Addr}{fd:FuncData}(D:Df K mg "joined" DZ ["one","other"] f fd)(T:Txt P w K mg NR NW NQ NY NX NS NT NV NU NZ N0 f_NoAlphabet fd_NoAlphabet)(c_z9:Cl P w K mg base "laid_out" ["text"] 2 tM):Cl P w K mg base "joined" ["one","other"] 3 mJ:=by
 refine D.cl (D.F.ok J1 (fun vs H Q E h=>?_) (fun cdv A outer s H vs Q E hr h=>?_))
 ·obtain⟨u,x,rfl,_⟩:=h
  rfl
 ·obtain⟨u,x,rfl,hu,hx,hlen,k⟩:=h
  refine⟨_,(aF (aQ (pC c_z9 hr (aA (bG eB (pv 0) (pv 1)) aC)))),?_⟩
  refine⟨_,rfl,_,rfl,_,_,rfl,rfl,by rw[cH,cH];exact aI (by omega),u++x,by rw[lB];rfl,AllL.app.mpr ⟨hu,hx⟩,by rw[c6];omega,k⟩
theorem Lg{f:Addr}{fd:FuncData}(D:Df K mg "letters_of" JM ["n"] f fd)(T:Txt P w K mg NR NW NQ NY NX NS NT NV NU NZ N0 f_NoAlphabet fd_NoAlphabet):Cl P w K mg base "letters_of" ["n"] 1 (D6 K):=by
 refine D.cl (D.F.ok L7 (fun vs H Q E h=>?_) (fun cdv A outer s H vs Q E hr h=>?_))
 ·obtain⟨n,rfl,_⟩:=h
  rfl
 ·obtain⟨n,rfl,h1,h4,k⟩:=h
  refine⟨_,(aF (aQ (eO (Gb (K:=K) rfl) (eR (v:=.ref NW) (by rfl) T.m_LETTERS rfl) fF (eT (bG kB aH (pv 0)))))),?_⟩
  refine⟨_,rfl,_,_,rfl,rfl,.inl ⟨by decide,by decide⟩,_,rfl,NW,letV,2 * n,rfl,T.t_LETTERS _,rfl,?_,?_,fun _ p hp=>?_,fun e=>?_⟩
  ·show some (2 * ((n:Nat):Int))=_;congr 1
  ·rw[zO];omega
  ·exact k p _ (Same.new hp) (by rw[← tO h1 h4];exact SqT.of aB)
  ·refine k _ _ (Same.refl H) ?_
   rw[← tO h1 h4,aQA (by omega)]
   exact T.t_LETTERS _
theorem LW{f:Addr}{fd:FuncData}(D:Df K mg "first_letters" J7 ["n"] f fd)(T:Txt P w K mg NR NW NQ NY NX NS NT NV NU NZ N0 f_NoAlphabet fd_NoAlphabet):Cl P w K mg base "first_letters" ["n"] 1 lU:=by
 refine D.cl (D.F.ok LL (fun vs H Q E h=>?_) (fun cdv A outer s H vs Q E hr h=>?_))
 ·obtain⟨n,rfl,_⟩:=h
  rfl
 ·obtain⟨n,rfl,h1,h4,k⟩:=h
  refine⟨_,(aF (aQ (CQ (Dn (K:=K) rfl) (eR (v:=.ref NW) (by rfl) T.m_LETTERS rfl) fF (eT (bG kB aH (pv 0))) (eT aH)))),?_⟩
  refine⟨_,rfl,_,_,rfl,rfl,.inl ⟨by decide,by decide⟩,_,rfl,_,rfl,NW,letV,2 * n,rfl,T.t_LETTERS _,rfl,?_,rfl,?_,fun p hp=>?_⟩
  ·show some (2 * ((n:Nat):Int))=_;congr 1
  ·rw[zO];omega
  ·rw[CD h1 h4]
   exact k p _ hp (Same.new hp) aB
theorem J6{f:Addr}{fd:FuncData}(D:Df K mg "_wall" Ei ["k"] f fd)(T:Txt P w K mg NR NW NQ NY NX NS NT NV NU NZ N0 f_NoAlphabet fd_NoAlphabet):Cl P w K mg base "_wall" ["k"] 1 KP:=by
 refine D.cl (D.F.ok Jh (fun vs H Q E h=>?_) (fun cdv A outer s H vs Q E hr h=>?_))
 ·exact h.elim
 ·exact h.elim
theorem Mi{f:Addr}{fd:FuncData}(D:DfM K N0 "round_told" "Weave.round_told" Je ["self","letter"] f fd)(T:Txt P w K mg NR NW NQ NY NX NS NT NV NU NZ N0 f_NoAlphabet fd_NoAlphabet):pQ P w K mg base N0 "round_told" ["self","letter"] 1 KP:=by
 refine D.cl (D.F.ok K9 (fun vs H Q E h=>?_) (fun cdv A outer s H vs Q E hr h=>?_))
 ·exact h.elim
 ·exact h.elim
theorem LA{f:Addr}{fd:FuncData}(D:DfM K N0 "__init__" "Weave.__init__" IM ["self"] f fd)(T:Txt P w K mg NR NW NQ NY NX NS NT NV NU NZ N0 f_NoAlphabet fd_NoAlphabet):pQ P w K mg base N0 "__init__" ["self"] 1 (xL N0):=by
 refine D.cl (D.F.ok LC (fun vs H Q E h=>?_) (fun cdv A outer s H vs Q E hr h=>?_))
 ·obtain⟨p,dx,rfl,_⟩:=h
  rfl
 ·obtain⟨p,dx,rfl,hp,k⟩:=h
  refine⟨_,(aD (pW (K:=K) rfl (pv 0) (cP (aA aH aC)) rfl)
   (aD (pW (K:=K) rfl (pv 0) (cP (aA bV aC)) rfl)
   (aD (pW (K:=K) rfl (pv 0) (cP (aA yN aC)) rfl)
   (aF (pW (K:=K) rfl (pv 0) (cP aC) rfl))))),?_⟩
  refine⟨by decide,fun q1 h1=>?_⟩
  have F1:=pK (HO.lst [.int 0]) (.ins N0 dx (fY "heads" (.ref q1) [])) hp h1
  refine⟨_,rfl,p,N0,dx,[],rfl,jC _ hp h1,T.o_Weave.cl,T.n_Weave_heads,(by show 0<1000;decide),?_⟩
  refine⟨by decide,fun q2 h2=>?_⟩
  have F2:=pK (HO.lst [.str (S [])]) (.ins N0 dx (fY "turns" (.ref q2) (fY "heads" (.ref q1) []))) F1.1 h2
  refine⟨_,rfl,p,N0,dx,_,rfl,jC _ F1.1 h2,T.o_Weave.cl,T.n_Weave_turns,(by show 1<1000;decide),?_⟩
  intro d hd
  have hpd:=jC (.dK []) F2.1 hd
  refine⟨(by show 1≤sizeLine;decide),fun q3 h3=>?_⟩
  have F3:=pK (HO.lst [.ref d]) (.ins N0 dx (fY "ways" (.ref q3) (fY "turns" (.ref q2) (fY "heads" (.ref q1) [])))) hpd h3
  refine⟨_,rfl,p,N0,dx,_,rfl,jC _ hpd h3,T.o_Weave.cl,T.n_Weave_ways,(by show 2<1000;decide),?_⟩
  refine⟨by decide,fun q4 h4=>?_⟩
  have F4:=pK (HO.lst []) (.ins N0 dx (wf q1 q2 q3 q4)) F3.1 h4
  refine⟨_,rfl,p,N0,dx,_,rfl,jC _ F3.1 h4,T.o_Weave.cl,T.n_Weave_alike,(by show 3<1000;decide),?_⟩
  have n1:q1≠p:=(aJ hp h1).symm
  have n2:q2≠p:=(aJ F1.1 h2).symm
  have n3:d≠p:=(aJ F2.1 hd).symm
  have n4:q3≠p:=(aJ hpd h3).symm
  have m1:∀ {x:Addr},x≠p→(∀ o,H x=some o→False)→H x=none:=fun {x} _ z=>by
   cases e:H x with
   | none=>rfl
   | some o=>exact(z o e).elim
  have z1:H q1=none:=h1
  have s1:∀ b o,H b=some o→b≠p→_:=fun b o e hb=>F1.2.2 b o e hb
  have s2:∀ b o,H b=some o→b≠p→_:=fun b o e hb=>F2.2.2 b o (s1 b o e hb) hb
  have s3:∀ b o,H b=some o→b≠p→_:=fun b o e hb=>jC (.dK []) (s2 b o e hb) hd
  have s4:∀ b o,H b=some o→b≠p→_:=fun b o e hb=>F3.2.2 b o (s3 b o e hb) hb
  have kp:∀ b o,H b=some o→b≠p→_:=fun b o e hb=>F4.2.2 b o (s4 b o e hb) hb
  have e1:=F4.2.2 _ _ (F3.2.2 _ _ (jC (.dK []) (F2.2.2 _ _ F1.2.1 n1) hd) n1) n1
  have e2:=F4.2.2 _ _ (F3.2.2 _ _ (jC (.dK []) F2.2.1 hd) n2) n2
  have e3:=F4.2.2 _ _ F3.2.1 n4
  have ed:=F4.2.2 _ _ (F3.2.2 _ _ aB n3) n3
  refine k [q1,q2,q3,q4,d] _ (fun x hx=>?_) ⟨dx,q1,q2,q3,q4,[d],[],rfl,⟨?_,F4.1,e1,e2,e3,F4.2.1,rfl,fun i d' es h1' h2'=>?_,rfl,fun j a' e h1' h2'=>(by simp at h1')⟩⟩ kp
  ·simp only [d3,l8,or_false] at hx
   rcases hx with rfl | rfl | rfl | rfl | rfl
   ·exact h1
   ·exact m1 n2 fun o e=>by have:=h2.symm.trans (s1 _ o e n2);cases this
   ·exact m1 n4 fun o e=>by have:=h3.symm.trans (s3 _ o e n4);cases this
   ·have n5:x≠p:=(aJ F3.1 h4).symm
    exact m1 n5 fun o e=>by have:=h4.symm.trans (s4 _ o e n5);cases this
   ·exact m1 n3 fun o e=>by have:=hd.symm.trans (s2 _ o e n3);cases this
  ·have v1:(HO.lst [V.int 0])≠.lst [.str (S [])]:=by intro z;cases z
   have v2:(HO.lst [V.int 0])≠.lst [.ref d]:=by intro z;cases z
   have v3:(HO.lst [V.int 0])≠.lst []:=by intro z;cases z
   have v4:(HO.lst [V.str (S [])])≠.lst [.ref d]:=by intro z;cases z
   have v5:(HO.lst [V.str (S [])])≠.lst []:=by intro z;cases z
   have v6:(HO.lst [V.ref d])≠.lst []:=by intro z;cases z
   have w1:=bY e1 e2 v1
   have w2:=bY e1 e3 v2
   have w3:=bY e1 F4.2.1 v3
   have w4:=bY e1 ed (by intro z;cases z)
   have w5:=bY e2 e3 v4
   have w6:=bY e2 F4.2.1 v5
   have w7:=bY e2 ed (by intro z;cases z)
   have w8:=bY e3 F4.2.1 v6
   have w9:=bY e3 ed (by intro z;cases z)
   have w10:=bY F4.2.1 ed (by intro z;cases z)
   simp[w1,w2,w3,w4,w5,w6,w7,w8,w9,w10]
  ·cases i with
   | zero =>
    have q1':d=d':=by simpa using h1'
    have q2':([]:List wU)=es:=by simpa [Ku] using h2'
    subst q1' q2'
    exact⟨[],ed,.nil⟩
   | succ i=>simp at h1'
theorem LP{f:Addr}{fd:FuncData}(D:DfM K N0 "end_of" "Weave.end_of" JB ["self","place","told"] f fd)(T:Txt P w K mg NR NW NQ NY NX NS NT NV NU NZ N0 f_NoAlphabet fd_NoAlphabet)(c_zm1:Cl P w K mg base "joined" ["one","other"] 3 mJ):pQ P w K mg base N0 "end_of" ["self","place","told"] 4 (Ah N0):=by
 refine D.cl (D.F.ok sc_zy (fun vs H Q E h=>?_) (fun cdv A outer s H vs Q E hr h=>?_))
 ·obtain⟨_,_,_,_,_,p,M,Z,i,x,rfl,_⟩:=h
  rfl
 ·obtain⟨hf,φ,ρ,rk,L,p,M,Z,i,x,rfl,hW,I,hL,hi,hx,hxp,hxl,k⟩:=h
  refine⟨_,(aD (kK l4 (aT jV (aV (aO (K:=K) rfl) (cL (K:=K) rfl (pv 0) rfl) (pv 1) (fun _ _=>rfl)) (pv 1) (aS _)) (aD (aM (i:=3) sc_zy.nd rfl (Or.inl rfl) (aV (aO (K:=K) rfl) (cL (K:=K) rfl (pv 0) rfl) (pv 1) (fun _ _=>rfl)))
   (aD (eV (pC c_zm1 hr (aA (aV (aO (K:=K) rfl) (cL (K:=K) rfl (pv 0) rfl) (pv 1) (fun _ _=>rfl)) (aA (aV (aO (K:=K) rfl) (cL (K:=K) rfl (pv 0) rfl) (pv 3) (fun _ _=>rfl)) aC))) (gH (cL (K:=K) rfl (pv 0) rfl) (pv 1) dR))
   (aD (eV (aV (aO (K:=K) rfl) (cL (K:=K) rfl (pv 0) rfl) (pv 3) (fun _ _=>rfl)) (gH (cL (K:=K) rfl (pv 0) rfl) (pv 1) dR))
   (aD (aM (i:=2) sc_zy.nd rfl (Or.inl rfl) (pC c_zm1 hr (aA (pv 2) (aA (aV (aO (K:=K) rfl) (cL (K:=K) rfl (pv 0) rfl) (pv 1) (fun _ _=>rfl)) aC))))
   (aF (aM (i:=1) sc_zy.nd rfl (Or.inl rfl) (aV (aO (K:=K) rfl) (cL (K:=K) rfl (pv 0) rfl) (pv 1) (fun _ _=>rfl)))))))))
   (aF (aQ (bH (aA (pv 1) (aA (pv 2) aC)))))),?_⟩
  refine⟨fun m σ H'=>∃ (j:Nat) (Z':WvS) (y:List Nat) (v3:Option V),m=rk j∧σ=[some (.ref p),some (.int (j:Nat)),some (.str (S y)),v3]∧Kept N0 hf φ ρ rk L p M H H' Z Z'∧j<Z.hs.length∧ρ j=ρ i∧AllL y∧y=lay (x++(back (φ i)++φ j)),⟨rk i,i,Z,x,none,rfl,rfl,⟨hW,I,rfl,rfl,rfl,FrW.refl _ _⟩,hi,rfl,hx,?_⟩,?_⟩
  ·rw[← eI x _ hx (AllL.app.mpr ⟨aR (I.fa i).1,(I.fa i).1⟩),eX (I.fa i).1,m7,hxp]
  rintro m _ H1 ⟨j,Z1,y,v3,rfl,rfl,K1,hj,hρ,hy,hye⟩
  obtain⟨dx,hd,tn,wy,al,ds,as,hM,w1⟩:=id K1.at'
  have I1:=K1.wi
  have hj1:j<Z1.hs.length:=by rw[K1.ln];exact hj
  obtain⟨a,ha⟩:∃ a,Z1.hs[j]?=some a:=⟨_,b0 hj1⟩
  obtain⟨a1,a2,a3,a4⟩:=I1.hd j a ha
  refine⟨_,rfl,p,N0,dx,_,_,rfl,w1.ob,T.o_Weave.cl,T.n_Weave_heads,gD _ _ _ _,_,rfl,hd,_,_,_,rfl,rfl,SqL.of w1.hh,cN (iV ha),_,rfl,rfl,_,rfl,?_⟩
  by_cases hja:a=j
  ·subst hja
   rw[show decide (V.int ((a:Nat):Int)=V.int ((a:Nat):Int))=true from decide_eq_true rfl]
   refine fQ ?_
   have hr:ρ i=a:=by rw[← hρ];exact a4 rfl
   refine⟨_,rfl,_,rfl,(by show 2≤sizeLine;decide),fun t ht=>?_⟩
   have s2:=Same.new (o:=HO.tup [.int ((a:Nat):Int),.str (S y)]) ht
   refine k t _ Z1 ⟨K1.at'.same s2,I1,K1.ws,K1.al,K1.ln,fun b o e n=>s2 _ _ (K1.fr b o e n)⟩ ?_
   rw[aB,hr,← hye]
  ·rw[show decide (V.int ((a:Nat):Int)=V.int ((j:Nat):Int))=false from decide_eq_false (fun z=>hja (by have:=V.int.inj z;omega))]
   refine gY ?_
   refine⟨fun σ' H'=>∃ (j':Nat) (Z':WvS) (y':List Nat) (v3:Option V),rk j' < rk j∧σ'=[some (.ref p),some (.int (j':Nat)),some (.str (S y')),v3]∧Kept N0 hf φ ρ rk L p M H H' Z Z'∧j' < Z.hs.length∧ρ j'=ρ i∧AllL y'∧y'=lay (x++(back (φ i)++φ j')),fun σ' H' ⟨j',Z',y',v3,q0,q1⟩=>⟨rk j',q0,j',Z',y',v3,rfl,q1⟩,?_⟩
   have ha1:a<Z1.hs.length:=a1
   obtain⟨b,hb⟩:∃ b,Z1.hs[a]?=some b:=⟨_,b0 ha1⟩
   obtain⟨t,ht⟩:∃ t,Z1.ts[j]?=some t:=⟨_,b0 (by rw[I1.lt];exact hj1)⟩
   obtain⟨u,hu⟩:∃ u,Z1.ts[a]?=some u:=⟨_,b0 (by rw[I1.lt];exact ha1)⟩
   obtain⟨I2,et,hrb,hρb⟩:=I1.comp ha hja hb ht hu
   obtain⟨tA,tl⟩:AllL t∧t.length≤2 * L:=by rw[I1.tn j a t ha ht];exact iS I1 j a
   obtain⟨uA,ul⟩:AllL u∧u.length≤2 * L:=by rw[I1.tn a b u hb hu];exact iS I1 a b
   refine⟨_,rfl,p,N0,dx,_,_,rfl,w1.ob,T.o_Weave.cl,T.n_Weave_heads,gD _ _ _ _,_,rfl,hd,_,_,_,rfl,rfl,SqL.of w1.hh,cN (iV ha),?_⟩
   refine⟨_,rfl,p,N0,dx,_,_,rfl,w1.ob,T.o_Weave.cl,T.n_Weave_turns,iN _ _ _ _,_,rfl,tn,_,_,_,rfl,rfl,SqL.of w1.ht,cN (lR ht),?_⟩
   refine⟨_,rfl,p,N0,dx,_,_,rfl,w1.ob,T.o_Weave.cl,T.n_Weave_turns,iN _ _ _ _,_,rfl,tn,_,_,_,rfl,rfl,SqL.of w1.ht,cN (lR hu),?_⟩
   refine⟨t,u,rfl,tA,uA,by omega,fun H2 s2=>?_⟩
   have w2:=w1.same s2
   refine⟨_,rfl,p,N0,dx,_,_,rfl,w2.ob,T.o_Weave.cl,T.n_Weave_turns,iN _ _ _ _,_,rfl,tn,_,_,j,rfl,rfl,w2.ht,nP (by omega) (by rw[bN,I1.lt];omega),?_⟩
   rw[pJ]
   have w3:=w2.upTn (Z1.ts.set j (lay (t++u)))
   have f3:FrW M H2 (upd H2 tn (.lst (cF (Z1.ts.set j (lay (t++u)))))):=by rw[hM];exact WvC.put1 (by simp)
   generalize upd H2 tn (.lst (cF (Z1.ts.set j (lay (t++u)))))=H3 at w3 f3
   refine⟨_,rfl,p,N0,dx,_,_,rfl,w3.ob,T.o_Weave.cl,T.n_Weave_heads,gD _ _ _ _,_,rfl,hd,_,_,_,rfl,rfl,SqL.of w3.hh,cN (iV hb),?_⟩
   refine⟨_,rfl,p,N0,dx,_,_,rfl,w3.ob,T.o_Weave.cl,T.n_Weave_heads,gD _ _ _ _,_,rfl,hd,_,_,j,rfl,rfl,w3.hh,nP (by omega) (by rw[dQ];show ((j:Nat):Int)<((Z1.hs.length:Nat):Int);omega),?_⟩
   rw[xK]
   have w4:=w3.upHd (Z1.hs.set j b)
   have f4:FrW M H3 (upd H3 hd (.lst (cT (Z1.hs.set j b)))):=by rw[hM];exact WvC.put1 (by simp)
   show sO _ _ _ _ (upd H3 hd (.lst (cT (Z1.hs.set j b))))
   generalize upd H3 hd (.lst (cT (Z1.hs.set j b)))=H4 at w4 f4
   have hjt:(Z1.ts.set j (lay (t++u)))[j]?=some (lay (t++u)):=y0 (by rw[I1.lt];exact hj1)
   have hjh:(Z1.hs.set j b)[j]?=some b:=y0 hj1
   refine⟨_,rfl,_,rfl,p,N0,dx,_,_,rfl,w4.ob,T.o_Weave.cl,T.n_Weave_turns,iN _ _ _ _,_,rfl,tn,_,_,_,rfl,rfl,SqL.of w4.ht,cN (lR hjt),?_⟩
   have yl:y.length≤5 * L:=by
    rw[hye]
    have:=iF (x++(back (φ i)++φ j))
    rw[c6,c6,dA] at this
    have:=(I.fa i).2
    have:=(I.fa j).2
    omega
   obtain⟨vA,vl⟩:AllL (lay (t++u))∧(lay (t++u)).length≤2 * L:=by rw[et];exact iS I1 j b
   refine⟨y,lay (t++u),rfl,hy,vA,by omega,fun H5 s5=>?_⟩
   have w5:=w4.same s5
   refine⟨_,rfl,p,N0,dx,_,_,rfl,w5.ob,T.o_Weave.cl,T.n_Weave_heads,gD _ _ _ _,_,rfl,hd,_,_,_,rfl,rfl,SqL.of w5.hh,cN (iV hjh),?_⟩
   have f5:FrW M H H5:=fun b o e n=>s5 _ _ (f4 _ _ (f3 _ _ (s2 _ _ (K1.fr b o e n)) n) n)
   refine⟨b,_,lay (y++lay (t++u)),_,hrb,rfl,⟨⟨dx,hd,tn,wy,al,ds,as,hM,w5⟩,I2,K1.ws,K1.al,by show (Z1.hs.set j b).length=_;rw[p5];exact K1.ln,f5⟩,by rw[← K1.ln];exact(I1.hd a b hb).1,hρb.trans hρ,gR (AllL.app.mpr ⟨hy,vA⟩),?_⟩
   rw[et,hye]
   have:=MJ (a:=x++back (φ i)) (b:=φ j) (c:=φ b) (AllL.app.mpr ⟨hx,aR (I.fa i).1⟩) (I.fa j).1 (I.fa b).1
   simp only [l6] at this
   exact this
theorem LX{f:Addr}{fd:FuncData}(D:DfM K N0 "head_of" "Weave.head_of" Im ["self","place"] f fd)(T:Txt P w K mg NR NW NQ NY NX NS NT NV NU NZ N0 f_NoAlphabet fd_NoAlphabet)(c_zy:pQ P w K mg base N0 "end_of" ["self","place","told"] 4 (Ah N0)):pQ P w K mg base N0 "head_of" ["self","place"] 5 (vT N0):=by
 obtain⟨f_zy,fd_zy,G_zy,m_zy,b_zy⟩:=c_zy
 refine D.cl (D.F.ok L8 (fun vs H Q E h=>?_) (fun cdv A outer s H vs Q E hr h=>?_))
 ·obtain⟨_,_,_,_,_,p,M,Z,i,rfl,_⟩:=h
  rfl
 ·obtain⟨hf,φ,ρ,rk,L,p,M,Z,i,rfl,hW,I,hL,hi,k⟩:=h
  refine⟨_,(aF (aQ (aV (cG (K:=K) rfl) (eQ (pv 0) T.o_Weave.cl m_zy G_zy (hr.mono (by decide)) b_zy .nil fX (aA (pv 1) (aA bV aC))) aH (fun _ _=>rfl)))),?_⟩
  obtain⟨dx,hd,tn,wy,al,ds,as,hM,w1⟩:=id hW
  refine⟨_,rfl,p,dx,_,rfl,w1.ob,iD _ _ _ _ (by decide +kernel) (by decide +kernel) (by decide +kernel) (by decide +kernel),_,rfl,hf,φ,ρ,rk,L,p,M,Z,i,[],rfl,hW,I,hL,hi,AllL.nil,rfl,by simp,fun t H1 Z1 K1 et=>?_⟩
  exact⟨t,_,0,.int (ρ i:Nat),rfl,rfl,SqT.of et,rfl,k H1 Z1 K1⟩
theorem LE{f:Addr}{fd:FuncData}(D:DfM K N0 "goal_of" "Weave.goal_of" Jq ["self","head","letter"] f fd)(T:Txt P w K mg NR NW NQ NY NX NS NT NV NU NZ N0 f_NoAlphabet fd_NoAlphabet)(c_zt:pQ P w K mg base N0 "head_of" ["self","place"] 5 (vT N0)):pQ P w K mg base N0 "goal_of" ["self","head","letter"] 6 (vI N0):=by
 obtain⟨f_zt,fd_zt,G_zt,m_zt,b_zt⟩:=c_zt
 refine D.cl (D.F.ok sc_zv (fun vs H Q E h=>?_) (fun cdv A outer s H vs Q E hr h=>?_))
 ·obtain⟨_,_,_,_,_,p,M,Z,i,c,es,rfl,_⟩:=h
  rfl
 ·obtain⟨hf,φ,ρ,rk,L,p,M,Z,i,c,es,rfl,hW,I,hL,hes,k⟩:=h
  refine⟨_,(aD (aM (i:=3) sc_zv.nd rfl (Or.inl rfl) (yJ (m9 (t5 (by decide:1≤64) _) hr.units) (aV (aO (K:=K) rfl) (cL (K:=K) rfl (pv 0) rfl) (pv 1) (fun _ _=>rfl)) (pv 2) ⟨rfl,rfl,rfl,rfl⟩))
   (aF (aQ (gW (aT wH (pv 3) eZ (aS _)) eZ (eQ (pv 0) T.o_Weave.cl m_zt G_zt (hr.mono (by decide)) b_zt .nil fX (aA (aV (cG (K:=K) rfl) (pv 3) aH (fun _ _=>rfl)) aC)))))),?_⟩
  obtain⟨dx,hd,tn,wy,al,ds,as,hM,w1⟩:=id hW
  obtain⟨d,hd'⟩:∃ d,ds[i]?=some d:=⟨_,b0 (by rw[w1.ld];exact(a9.mp hes).1)⟩
  obtain⟨kvs,a6,hk⟩:=w1.dc i d es hd' hes
  refine⟨_,rfl,p,N0,dx,_,_,rfl,w1.ob,T.o_Weave.cl,T.n_Weave_ways,pU _ _ _ _,_,rfl,wy,_,_,.ref d,rfl,rfl,SqL.of w1.hw,cN (by rw[c7,hd'];rfl),d,rfl,.inl ⟨kvs,.inl a6⟩,_,rfl,_,DGet.k (k:=.inr (S [c])) a6,?_⟩
  have hv:=hk.val (c:=c)
  refine⟨_,rfl,rfl,_,rfl,?_⟩
  cases e:dD es c with
  | none =>
   rw[e] at hv
   have hv:cZ kvs (Sum.inr (S [c]))=none:=hv
   rw[hv]
   show Q .non H
   have:=k H Z ⟨hW,I,rfl,rfl,rfl,FrW.refl _ _⟩
   rw[e] at this
   exact this
  | some r =>
   rw[e] at hv
   obtain⟨t,hv,ht⟩:=(show ∃ t,cZ kvs (Sum.inr (S [c]))=some (V.ref t)∧H t=some (HO.tup [V.int (r.1:Nat),V.str (S r.2)]) from hv)
   rw[hv]
   rw[e] at k
   have hg:=((I.wy i es hes).2 _ (dW e)).2.1
   refine⟨_,rfl,p,dx,_,rfl,w1.ob,iD _ _ _ _ (by decide +kernel) (by decide +kernel) (by decide +kernel) (by decide +kernel),_,rfl,t,_,0,.int (r.1:Nat),rfl,rfl,SqT.of ht,rfl,hf,φ,ρ,rk,L,p,M,Z,r.1,rfl,hW,I,hL,hg,fun H1 Z1 K1=>k H1 Z1 K1⟩
theorem Ly{f:Addr}{fd:FuncData}(D:DfM K N0 "new_place" "Weave.new_place" Jk ["self"] f fd)(T:Txt P w K mg NR NW NQ NY NX NS NT NV NU NZ N0 f_NoAlphabet fd_NoAlphabet):pQ P w K mg base N0 "new_place" ["self"] 1 (E6 N0):=by
 refine D.cl (D.F.ok sc_zj (fun vs H Q E h=>?_) (fun cdv A outer s H vs Q E hr h=>?_))
 ·obtain⟨p,M,Z,rfl,_⟩:=h
  rfl
 ·obtain⟨p,M,Z,rfl,hW,l1,l2,l3,k⟩:=h
  refine⟨_,(aD (aM (i:=1) sc_zj.nd rfl (Or.inl rfl) (aL (bM (K:=K) rfl) (by rfl) T.b_len m4 (aA (cL (K:=K) rfl (pv 0) rfl) aC)))
   (aD (cA (cO (K:=K) rfl j7 o0 o6 bX (cL (K:=K) rfl (pv 0) rfl) (aA (pv 1) aC)))
   (aD (cA (cO (K:=K) rfl j7 o0 o6 bX (cL (K:=K) rfl (pv 0) rfl) (aA bV aC)))
   (aD (cA (cO (K:=K) rfl j7 o0 o6 bX (cL (K:=K) rfl (pv 0) rfl) (aA yN aC)))
   (aF (aQ (pv 1))))))),?_⟩
  obtain⟨dx,hd,tn,wy,al,ds,as,hM,w1⟩:=id hW
  refine⟨_,rfl,p,N0,dx,_,_,rfl,w1.ob,T.o_Weave.cl,T.n_Weave_heads,gD _ _ _ _,hd,_,rfl,.inl (SqL.of w1.hh),?_⟩
  have hlen:(V.int (((cT Z.hs).length:Nat):Int))=V.int ((Z.hs.length:Nat):Int):=by rw[dQ]
  rw[hlen]
  refine⟨_,rfl,p,N0,dx,_,_,rfl,w1.ob,T.o_Weave.cl,T.n_Weave_heads,gD _ _ _ _,.inl ⟨rfl,_,SqL.of w1.hh⟩,_,rfl,hd,_,_,rfl,rfl,w1.hh,by rw[dQ];exact aP (by omega),?_⟩
  rw[rM]
  have w2:=w1.upHd (Z.hs++[Z.hs.length])
  have f2:FrW M H (upd H hd (.lst (cT (Z.hs++[Z.hs.length])))):=by rw[hM];exact WvC.put1 (by simp)
  show sO _ _ _ _ (upd H hd (.lst (cT (Z.hs++[Z.hs.length]))))
  generalize upd H hd (.lst (cT (Z.hs++[Z.hs.length])))=H2 at w2 f2
  refine⟨_,rfl,p,N0,dx,_,_,rfl,w2.ob,T.o_Weave.cl,T.n_Weave_turns,iN _ _ _ _,.inl ⟨rfl,_,SqL.of w2.ht⟩,tn,_,_,rfl,rfl,w2.ht,by rw[bN];exact aP (by show Z.ts.length≤_;omega),?_⟩
  have et:cF Z.ts++[.str (Str.ofString "")]=cF (Z.ts++[[]]):=by unfold cF;rw[i7];rfl
  show sO _ _ _ _ (upd H2 tn (.lst (cF Z.ts++[.str (Str.ofString "")])))
  rw[et]
  have w3:=w2.upTn (Z.ts++[[]])
  have f3:FrW M H2 (upd H2 tn (.lst (cF (Z.ts++[[]])))):=by rw[hM];exact WvC.put1 (by simp)
  generalize upd H2 tn (.lst (cF (Z.ts++[[]])))=H3 at w3 f3
  refine⟨_,rfl,p,N0,dx,_,_,rfl,w3.ob,T.o_Weave.cl,T.n_Weave_ways,pU _ _ _ _,.inl ⟨rfl,_,SqL.of w3.hw⟩,fun d hd0=>?_⟩
  have hw3:upd H3 d (.dK []) wy=some (.lst (ds.map V.ref)):=jC _ w3.hw hd0
  refine⟨wy,_,_,rfl,rfl,hw3,by rw[b7,w3.ld];exact aP (by show Z.ws.length≤_;omega),?_⟩
  have w4:=w3.upNew hd0
  have ed:ds.map V.ref++[V.ref d]=(ds++[d]).map V.ref:=by rw[i7];rfl
  refine⟨_,rfl,?_⟩
  show Q _ (upd (upd H3 d (.dK [])) wy (.lst (ds.map V.ref++[V.ref d])))
  rw[ed]
  have hdH:H d=none:=by
   cases e:H d with
   | none=>rfl
   | some o =>
    by_cases q:d∈M
    ·exfalso
     have:d∈hd::tn::wy::al::ds:=by rw[← hM];exact q
     rcases d3.mp this with rfl | this
     ·rw[w3.hh] at hd0;cases hd0
     rcases d3.mp this with rfl | this
     ·rw[w3.ht] at hd0;cases hd0
     rcases d3.mp this with rfl | this
     ·rw[w3.hw] at hd0;cases hd0
     rcases d3.mp this with rfl | this
     ·rw[w3.ha] at hd0;cases hd0
     ·obtain⟨i,hi⟩:=p8 this
      obtain⟨es,hes⟩:∃ es,Z.ws[i]?=some es:=⟨_,b0 (by rw[← w1.ld];exact(a9.mp hi).1)⟩
      obtain⟨kvs,z,_⟩:=w3.dc i d es hi hes
      rw[z] at hd0;cases hd0
    ·rw[f3 _ _ (f2 _ _ e q) q] at hd0;cases hd0
  refine k d _ ⟨dx,hd,tn,wy,al,ds++[d],as,by rw[hM];rfl,w4⟩ hdH fun b o e n=>?_
  have n1:b≠wy:=fun z=>n (by rw[z,hM];simp)
  rw[aE n1,aE (aJ (f3 _ _ (f2 _ _ e n) n) hd0)]
  exact f3 _ _ (f2 _ _ e n) n
theorem KA{f:Addr}{fd:FuncData}(D:DfM K N0 "lay_way" "Weave.lay_way" Jl ["self","place","letter","goal","told"] f fd)(T:Txt P w K mg NR NW NQ NY NX NS NT NV NU NZ N0 f_NoAlphabet fd_NoAlphabet)(c_z2:Cl P w K mg base "turned_back" ["word"] 2 nD)(c_zm1:Cl P w K mg base "joined" ["one","other"] 3 mJ):pQ P w K mg base N0 "lay_way" ["self","place","letter","goal","told"] 4 (A0 N0):=by
 refine D.cl (D.F.ok sc_zs (fun vs H Q E h=>?_) (fun cdv A outer s H vs Q E hr h=>?_))
 ·obtain⟨_,_,_,_,_,p,M,Z,i,c,g,t,es,rfl,_⟩:=h
  rfl
 ·obtain⟨hf,φ,ρ,rk,L,p,M,Z,i,c,g,t,es,rfl,hW,I,hL,hes,hc,hg,ht,hal,k⟩:=h
  refine⟨_,(aD (aM (i:=5) sc_zs.nd rfl (Or.inl rfl) (Et (aV (aO (K:=K) rfl) (cL (K:=K) rfl (pv 0) rfl) (pv 1) (fun _ _=>rfl)) (pv 2) (bH (aA (pv 3) (aA (pv 4) aC))) ⟨rfl,rfl,rfl,rfl⟩))
   (aF (cR (aT (GI (K:=K) rfl hr.units0) (pv 5) (bH (aA (pv 3) (aA (pv 4) aC))) (aS _)) (aF (cA (cO (K:=K) rfl j7 o0 o6 bX (cL (K:=K) rfl (pv 0) rfl) (aA (bH (aA (pv 3) (aA (pC c_zm1 hr (aA (pC c_z2 hr (aA (pv 4) aC)) (aA (aV (cG (K:=K) rfl) (pv 5) aH (fun _ _=>rfl)) aC))) (aA (aV (cG (K:=K) rfl) (pv 5) aH (fun _ _=>rfl)) aC)))) aC)))) bI))),?_⟩
  obtain⟨dx,hd,tn,wy,al,ds,as,hM,w1⟩:=id hW
  obtain⟨d,hd'⟩:∃ d,ds[i]?=some d:=⟨_,b0 (by rw[w1.ld];exact(a9.mp hes).1)⟩
  obtain⟨kvs,a6,hk⟩:=w1.dc i d es hd' hes
  have el:es.length≤8:=vE (I.wy i es hes).1 fun e he=>((I.wy i es hes).2 e he).1
  have kl:kvs.length≤8:=by rw[aQk hk];exact el
  refine⟨_,rfl,p,N0,dx,_,_,rfl,w1.ob,T.o_Weave.cl,T.n_Weave_ways,pU _ _ _ _,_,rfl,wy,_,_,.ref d,rfl,rfl,SqL.of w1.hw,cN (by rw[c7,hd'];rfl),d,rfl,.inl ⟨kvs,.inl a6⟩,_,rfl,_,rfl,_,rfl,(by show 2≤sizeLine;decide),fun q hq=>?_⟩
  have s1:=Same.new (o:=HO.tup [.int ((g:Nat):Int),.str (S t)]) hq
  have e1:upd H q (.tup [.int ((g:Nat):Int),.str (S t)]) q=some (.tup [.int ((g:Nat):Int),.str (S t)]):=aB
  generalize upd H q (.tup [.int ((g:Nat):Int),.str (S t)])=H1 at s1 e1
  have w2:=w1.same s1
  have hk1:DcIs H1 kvs es:=hk.mono fun t xs z=>s1 _ _ z
  have hv:=hk1.val (c:=c)
  refine⟨kvs,.inr (S [c]),s1 _ _ a6,(by rw[sizeLine_eq];omega),rfl,?_,?_⟩
  ·intro v e
   cases ew:dD es c with
   | none =>
    rw[ew] at hv
    rw[show cZ kvs (Sum.inr (S [c]))=none from hv] at e
    cases e
   | some r =>
    rw[ew] at hv
    obtain⟨q2,hv2,ht2⟩:=(show ∃ t,cZ kvs (Sum.inr (S [c]))=some (V.ref t)∧H1 t=some (HO.tup [V.int (r.1:Nat),V.str (S r.2)]) from hv)
    rw[hv2] at e
    cases e
    have hr:=(I.wy i es hes).2 _ (dW ew)
    refine⟨_,rfl,_,rfl,_,rfl,(by show 2≤sizeLine;decide),fun q3 hq3=>?_⟩
    have s3:=Same.new (o:=HO.tup [.int ((g:Nat):Int),.str (S t)]) hq3
    have e3:upd H1 q3 (.tup [.int ((g:Nat):Int),.str (S t)]) q3=some (.tup [.int ((g:Nat):Int),.str (S t)]):=aB
    generalize upd H1 q3 (.tup [.int ((g:Nat):Int),.str (S t)])=H3 at s3 e3
    refine⟨q2,q3,_,_,rfl,rfl,.inr ⟨SqT.of (s3 _ _ ht2),SqT.of e3⟩,rfl,rfl,_,rfl,?_⟩
    have w3:=w2.same s3
    have s13:=s1.trans s3
    show (if (!iA [.int ((r.1:Nat):Int),.str (S r.2)] [.int ((g:Nat):Int),.str (S t)])=true then _ else _)
    rw[zB]
    by_cases hsame:(r.1,r.2)=(g,t)
    ·rw[decide_eq_true hsame]
     refine fQ ?_
     have hl:bD Z i c g t es=Z:=by unfold bD;rw[ew];exact if_pos hsame
     have:=k H3 (by rw[hl];exact(hW.same s1).same s3) (FrW.ofSame s13)
     exact this
    ·rw[decide_eq_false hsame]
     refine gY ?_
     obtain⟨tA,tl⟩:AllL t∧t.length≤3 * L:=by rw[ht];exact pR I hc i g
     obtain⟨rA,rl⟩:AllL r.2∧r.2.length≤3 * L:=by rw[show r.2=_ from hr.2.2];exact pR I hc i r.1
     refine⟨_,rfl,p,N0,dx,_,_,rfl,w3.ob,T.o_Weave.cl,T.n_Weave_alike,rD _ _ _ _,.inl ⟨rfl,_,SqL.of w3.ha⟩,_,rfl,_,rfl,t,rfl,tA,by omega,fun H4 s4=>?_⟩
     have ht4:=s4 _ _ (s3 _ _ ht2)
     refine⟨_,rfl,q2,_,1,.str (S r.2),rfl,rfl,SqT.of ht4,rfl,back t,r.2,rfl,aR tA,rA,by rw[dA];omega,fun H5 s5=>?_⟩
     refine⟨_,rfl,q2,_,0,.int (r.1:Nat),rfl,rfl,SqT.of (s5 _ _ ht4),rfl,(by show 3≤sizeLine;decide),fun q4 hq4=>?_⟩
     have s6:=Same.new (o:=HO.tup [.int ((g:Nat):Int),.str (S (lay (back t++r.2))),.int ((r.1:Nat):Int)]) hq4
     have e6:upd H5 q4 (.tup [.int ((g:Nat):Int),.str (S (lay (back t++r.2))),.int ((r.1:Nat):Int)]) q4=some (.tup [.int ((g:Nat):Int),.str (S (lay (back t++r.2))),.int ((r.1:Nat):Int)]):=aB
     generalize upd H5 q4 (.tup [.int ((g:Nat):Int),.str (S (lay (back t++r.2))),.int ((r.1:Nat):Int)])=H6 at s6 e6
     have w6:=((w3.same s4).same s5).same s6
     refine⟨al,_,_,rfl,rfl,w6.ha,by rw[b7,w6.la];exact m9 hal (by decide),?_⟩
     have w7:=w6.upAl (as++[q4]) (Z.al++[(g,lay (back t++r.2),r.1)]) (by rw[c6,c6,w6.la];rfl) (fun j b e h1 h2=>by
      rcases eG h2 with ⟨z,h2⟩ | ⟨z,rfl⟩
      ·rw[p6 (by rw[w6.la];exact z)] at h1
       exact w6.at' j b e h1 h2
      ·rcases eG h1 with ⟨z',_⟩ | ⟨_,rfl⟩
       ·rw[w6.la] at z';omega
       ·exact e6)
     have ea:as.map V.ref++[V.ref q4]=(as++[q4]).map V.ref:=by rw[i7];rfl
     show Hr _ _ (upd H6 al (.lst (as.map V.ref++[V.ref q4])))
     rw[ea]
     have hl:bD Z i c g t es={ Z with al:=Z.al++[(g,lay (back t++r.2),r.1)] }:=by unfold bD;rw[ew];exact if_neg hsame
     refine k _ (by rw[hl];exact⟨dx,hd,tn,wy,al,ds,as++[q4],hM,w7⟩) fun b o e n=>?_
     rw[aE (fun z=>n (by rw[z,hM];simp))]
     exact s6 _ _ (s5 _ _ (s4 _ _ (s13 _ _ e)))
  ·intro e
   cases ew:dD es c with
   | some r =>
    rw[ew] at hv
    obtain⟨q2,hv2,ht2⟩:=(show ∃ t,cZ kvs (Sum.inr (S [c]))=some (V.ref t)∧H1 t=some (HO.tup [V.int (r.1:Nat),V.str (S r.2)]) from hv)
    rw[hv2] at e
    cases e
   | none =>
    have w3:=w2.upDc hd' (dE kvs (.inr (S [c])) (.ref q)) (es++[(c,g,t)]) (hk1.put ew e1)
    have f3:FrW M H1 (upd H1 d (.dK (dE kvs (.inr (S [c])) (.ref q)))):=by rw[hM];exact WvC.put1 (by simp[b8 hd'])
    have e2:upd H1 d (.dK (dE kvs (.inr (S [c])) (.ref q))) q=some (.tup [.int ((g:Nat):Int),.str (S t)]):=by rw[aE (bY e1 (s1 _ _ a6) (by intro z;cases z))];exact e1
    generalize upd H1 d (.dK (dE kvs (.inr (S [c])) (.ref q)))=H2 at w3 f3 e2
    refine⟨_,rfl,_,rfl,_,rfl,(by show 2≤sizeLine;decide),fun q3 hq3=>?_⟩
    have s3:=Same.new (o:=HO.tup [.int ((g:Nat):Int),.str (S t)]) hq3
    have e3:upd H2 q3 (.tup [.int ((g:Nat):Int),.str (S t)]) q3=some (.tup [.int ((g:Nat):Int),.str (S t)]):=aB
    generalize upd H2 q3 (.tup [.int ((g:Nat):Int),.str (S t)])=H3 at s3 e3
    refine⟨q,q3,_,_,rfl,rfl,.inr ⟨SqT.of (s3 _ _ e2),SqT.of e3⟩,rfl,rfl,_,rfl,?_⟩
    show (if (!iA [.int ((g:Nat):Int),.str (S t)] [.int ((g:Nat):Int),.str (S t)])=true then _ else _)
    rw[zB,decide_eq_true rfl]
    refine fQ ?_
    have hl:bD Z i c g t es={ Z with ws:=Z.ws.set i (es++[(c,g,t)]) }:=by unfold bD;rw[ew]
    refine k H3 (by rw[hl];exact⟨dx,hd,tn,wy,al,ds,as,hM,w3.same s3⟩) fun b o e n=>s3 _ _ (f3 _ _ (s1 _ _ e) n)
theorem Lx{f:Addr}{fd:FuncData}(D:DfM K N0 "put_under" "Weave.put_under" JS ["self","head","above","turn"] f fd)(T:Txt P w K mg NR NW NQ NY NX NS NT NV NU NZ N0 f_NoAlphabet fd_NoAlphabet)(c_z2:Cl P w K mg base "turned_back" ["word"] 2 nD)(c_zm1:Cl P w K mg base "joined" ["one","other"] 3 mJ)(c_zs:pQ P w K mg base N0 "lay_way" ["self","place","letter","goal","told"] 4 (A0 N0)):pQ P w K mg base N0 "put_under" ["self","head","above","turn"] 5 (D7 N0):=by
 obtain⟨f_zs,fd_zs,G_zs,m_zs,b_zs⟩:=c_zs
 refine D.cl (D.F.ok sc_zk (fun vs H Q E h=>?_) (fun cdv A outer s H vs Q E hr h=>?_))
 ·obtain⟨_,_,_,_,_,_,_,p,M,Z,hd,ab,t,es,rfl,_⟩:=h
  rfl
 ·obtain⟨hf,φ,ρ,rk,ρ1,rk1,L,p,M,Z,ho,ab,t,es,rfl,hW,I,I1,hL,hes,hho,hab,hne,ht,hal,k⟩:=h
  refine⟨_,(aD (eV (pv 2) (gH (cL (K:=K) rfl (pv 0) rfl) (pv 1) dR))
   (aD (eV (pv 3) (gH (cL (K:=K) rfl (pv 0) rfl) (pv 1) dR))
   (aF (cW l4 rfl (dF (K:=K) rfl (aY (As rfl) (by rfl) T.b_list boot_list (aA (CM (aV (aO (K:=K) rfl) (cL (K:=K) rfl (pv 0) rfl) (pv 1) (fun _ _=>rfl))) aC))) (hJ (K:=K) rfl rfl (bK (aX (i:=4) sc_zk.nd rfl (Or.inl rfl)) (bK (aX (i:=5) sc_zk.nd rfl (Or.inl rfl)) fH))) (aF (cA (eQ (pv 0) T.o_Weave.cl m_zs G_zs (hr.mono (by decide)) b_zs .nil fX (aA (pv 2) (aA (pv 4) (aA (aV (cG (K:=K) rfl) (pv 5) aH (fun _ _=>rfl)) (aA (pC c_zm1 hr (aA (pC c_z2 hr (aA (pv 3) aC)) (aA (aV (cG (K:=K) rfl) (pv 5) aH (fun _ _=>rfl)) aC))) aC))))))))))),?_⟩
  obtain⟨dx,hd,tn,wy,al,ds,as,hM,w1⟩:=id hW
  obtain⟨tA,tl⟩:AllL t∧t.length≤2 * L:=by rw[ht];exact iS I ho ab
  have el:es.length≤8:=vE (I.wy ho es hes).1 fun e he=>((I.wy ho es hes).2 e he).1
  refine⟨_,rfl,_,rfl,p,N0,dx,_,_,rfl,w1.ob,T.o_Weave.cl,T.n_Weave_heads,gD _ _ _ _,_,rfl,hd,_,_,ho,rfl,rfl,w1.hh,nP (by omega) (by rw[dQ];omega),?_⟩
  rw[xK]
  have w2:=w1.upHd (Z.hs.set ho ab)
  have f2:FrW M H (upd H hd (.lst (cT (Z.hs.set ho ab)))):=by rw[hM];exact WvC.put1 (by simp)
  show sO _ _ _ _ (upd H hd (.lst (cT (Z.hs.set ho ab))))
  generalize upd H hd (.lst (cT (Z.hs.set ho ab)))=H2 at w2 f2
  refine⟨_,rfl,_,rfl,p,N0,dx,_,_,rfl,w2.ob,T.o_Weave.cl,T.n_Weave_turns,iN _ _ _ _,_,rfl,tn,_,_,ho,rfl,rfl,w2.ht,nP (by omega) (by rw[bN];show ((ho:Nat):Int)<((Z.ts.length:Nat):Int);rw[I.lt];omega),?_⟩
  rw[pJ]
  have w3:=w2.upTn (Z.ts.set ho t)
  have f3:FrW M H2 (upd H2 tn (.lst (cF (Z.ts.set ho t)))):=by rw[hM];exact WvC.put1 (by simp)
  dsimp only
  generalize upd H2 tn (.lst (cF (Z.ts.set ho t)))=H3 at w3 f3
  have w3:WvC N0 H3 p dx hd tn wy al ds as (dP Z ho ab t):=w3
  have f13:FrW M H H3:=fun b o e n=>f3 _ _ (f2 _ _ e n) n
  obtain⟨d,hd'⟩:∃ d,ds[ho]?=some d:=⟨_,b0 (by rw[w1.ld];exact(a9.mp hes).1)⟩
  obtain⟨kvs,a6,hk⟩:=w3.dc ho d es hd' hes
  refine⟨_,rfl,p,N0,dx,_,_,rfl,w3.ob,T.o_Weave.cl,T.n_Weave_ways,pU _ _ _ _,_,rfl,wy,_,_,.ref d,rfl,rfl,SqL.of w3.hw,cN (by rw[c7,hd'];rfl),d,kvs,rfl,a6,fun v hv=>?_⟩
  have s4:=Same.new (o:=HO.ext fun h=>h.IsItemsView v d) hv
  refine⟨v,d,kvs,rfl,aB,s4 _ _ a6,fun l ps H5 hl s5 e5 hlen hat=>?_⟩
  have s35:=s4.trans s5
  have w5:=w3.same s35
  have hlM:l ∉ M:=fun z=>by
   rw[hM] at z
   have no:∀ {o:HO},H3 l=some o→False:=fun q=>by rw[s4 _ _ q] at hl;cases hl
   rcases d3.mp z with rfl | z
   ·exact no w3.hh
   rcases d3.mp z with rfl | z
   ·exact no w3.ht
   rcases d3.mp z with rfl | z
   ·exact no w3.hw
   rcases d3.mp z with rfl | z
   ·exact no w3.ha
   ·obtain⟨i,hi⟩:=p8 z
    obtain⟨es',hes'⟩:∃ es,Z.ws[i]?=some es:=⟨_,b0 (by rw[← w1.ld];exact(a9.mp hi).1)⟩
    obtain⟨kvs',q,_⟩:=w3.dc i l es' hi hes'
    exact no q
  refine⟨l,rfl,⟨_,SqL.of e5⟩,fB (K:=K) (a:=l) (xs:=ps.map V.ref) (fun i σ H6=>∃ v4 v5:Option V,σ=[some (.ref p),some (.int (ho:Nat)),some (.int (ab:Nat)),some (.str (S t)),v4,v5]∧Wat N0 H6 p M (underW ab t (dP Z ho ab t) (es.take i))∧FrW M H5 H6) ⟨none,none,rfl,⟨dx,hd,tn,wy,al,ds,as,hM,w5⟩,FrW.refl _ _⟩ (fun i σ H6 _ ⟨_,_,_,_,f⟩=>SqL.of (f _ _ e5 hlM)) ?_ ?_⟩
  ·rintro i x _ H6 hx ⟨v4,v5,rfl,W6,f6⟩
   rw[c7] at hx
   obtain⟨q,hq,rfl⟩:=i6.mp hx
   have hi:i<es.length:=by
    have:=(a9.mp hq).1
    rw[hlen,aQk hk] at this
    exact this
   obtain⟨e,he⟩:∃ e,es[i]?=some e:=⟨_,b0 hi⟩
   obtain⟨kv,hkv,ek,wt,ew,ewt⟩:=nX hk he
   have hem:=b8 he
   obtain⟨c1,c2,c3⟩:=(I.wy ho es hes).2 e hem
   have ea:=hat i q kv hq hkv
   rw[ek,ew] at ea
   have ea:H5 q=some (.tup [.str (S [e.1]),.ref wt]):=ea
   have qM:∀ {b:Addr} {xs:List V},H5 b=some (.tup xs)→b ∉ M:=fun {b xs} z=>by rw[hM];exact w5.out z (by intro xs z;cases z) (by intro kvs z;cases z)
   have ea6:=f6 _ _ ea (qM ea)
   have ewt5:=s35 _ _ ewt
   have ewt6:=f6 _ _ ewt5 (qM ewt5)
   refine⟨q,_,rfl,.inr (SqT.of ea6),rfl,_,_,rfl,_,_,rfl,rfl,?_⟩
   obtain⟨dx',hd6,tn6,wy6,al6,ds6,as6,hM6,w6⟩:=id W6
   have hes':∀ x∈es.take i,cE x.1∧x.2.1<(dP Z ho ab t).hs.length∧x.2.2=lay (back (φ ho)++(hf x.1++φ x.2.1)):=fun x hx=>by
    obtain⟨z1,z2,z3⟩:=(I.wy ho es hes).2 x (u8 hx)
    refine⟨z1,?_,z3⟩
    show x.2.1<(Z.hs.set ho ab).length
    rw[p5];exact z2
   have lu:(dP Z ho ab t).hs.length=Z.hs.length:=by show (Z.hs.set ho ab).length=_;rw[p5]
   obtain⟨I6,h6⟩:=sU ht I1 (by rw[lu];exact hab) hes'
   obtain⟨ea',hea'⟩:∃ ea,(underW ab t (dP Z ho ab t) (es.take i)).ws[ab]?=some ea:=⟨_,b0 (by rw[I6.lw,h6,lu];exact hab)⟩
   have hgd:(underW ab t (dP Z ho ab t) (es.take i)).ws.getD ab []=ea':=by rw[c5,hea'];rfl
   obtain⟨eA,e3l⟩:AllL e.2.2∧e.2.2.length≤3 * L:=by rw[c3];exact pR I c1 ho e.2.1
   have hal6:=lG (ab:=ab) (t:=t) (es:=es.take i) (T:=dP Z ho ab t)
   have htl:(es.take i).length≤8:=by rw[j6];omega
   have hal7:(dP Z ho ab t).al.length=Z.al.length:=rfl
   refine⟨_,rfl,p,dx',_,rfl,w6.ob,iD _ _ _ _ (by decide +kernel) (by decide +kernel) (by decide +kernel) (by decide +kernel),_,rfl,_,rfl,_,rfl,wt,_,0,.int (e.2.1:Nat),rfl,rfl,SqT.of ewt6,rfl,_,rfl,t,rfl,tA,by omega,fun H7 s7=>?_⟩
   refine⟨_,rfl,wt,_,1,.str (S e.2.2),rfl,rfl,SqT.of (s7 _ _ ewt6),rfl,back t,e.2.2,rfl,aR tA,eA,by rw[dA];omega,fun H8 s8=>?_⟩
   refine⟨hf,φ,ρ1,rk1,L,p,M,_,ab,e.1,e.2.1,lay (back t++e.2.2),ea',rfl,(W6.same s7).same s8,I6,hL,hea',c1,by rw[h6,lu];exact c2,?_,by omega,fun H9 W9 f9=>?_⟩
   ·rw[ht,c3]
    exact Ng (I.fa ho).1 (I.fa ab).1 (I.fa e.2.1).1 (I.ha e.1 c1).1
   ·have tk:es.take (i+1)=es.take i++[e]:=by rw[t9,he];rfl
    refine⟨_,_,rfl,?_,fun b o z n=>f9 _ _ (s8 _ _ (s7 _ _ (f6 b o z n))) n⟩
    rw[tk,xQ,hgd]
    exact W9
  ·rintro _ H6 ⟨v4,v5,rfl,W6,f6⟩
   rw[b7,hlen,aQk hk,l5] at W6
   exact k H6 W6 fun b o z n=>f6 _ _ (s35 _ _ (f13 b o z n)) n
theorem Kw{f:Addr}{fd:FuncData}(D:DfM K N0 "fold" "Weave.fold" Io ["self"] f fd)(T:Txt P w K mg NR NW NQ NY NX NS NT NV NU NZ N0 f_NoAlphabet fd_NoAlphabet)(c_z2:Cl P w K mg base "turned_back" ["word"] 2 nD)(c_zm1:Cl P w K mg base "joined" ["one","other"] 3 mJ)(c_zy:pQ P w K mg base N0 "end_of" ["self","place","told"] 4 (Ah N0))(c_zk:pQ P w K mg base N0 "put_under" ["self","head","above","turn"] 5 (D7 N0)):pQ P w K mg base N0 "fold" ["self"] 6 (BY N0):=by
 obtain⟨f_zy,fd_zy,G_zy,m_zy,b_zy⟩:=c_zy
 obtain⟨f_zk,fd_zk,G_zk,m_zk,b_zk⟩:=c_zk
 refine D.cl (D.F.ok sc_z5 (fun vs H Q E h=>?_) (fun cdv A outer s H vs Q E hr h=>?_))
 ·obtain⟨_,_,_,_,p,M,Z,E',rfl,_⟩:=h
  rfl
 ·obtain⟨hf,φ,rk,L,p,M,Z,E',rfl,hW,I,X,LI0,hL,hN,hal,k⟩:=h
  refine⟨_,(aF (kK l4 (aT BU (aL (bM (K:=K) rfl) (by rfl) T.b_len m4 (aA (cL (K:=K) rfl (pv 0) rfl) aC)) aH (aS _)) (aD (aM (i:=1) sc_z5.nd rfl (Or.inl rfl) (cO (K:=K) rfl j7 aQy aQz xH (cL (K:=K) rfl (pv 0) rfl) (aA aH aC)))
   (aD (aM (i:=2) sc_z5.nd rfl (Or.inl rfl) (eQ (pv 0) T.o_Weave.cl m_zy G_zy (hr.mono (by decide)) b_zy .nil fX (aA (aV (cG (K:=K) rfl) (pv 1) aH (fun _ _=>rfl)) (aA bV aC))))
   (aD (aM (i:=3) sc_z5.nd rfl (Or.inl rfl) (eQ (pv 0) T.o_Weave.cl m_zy G_zy (hr.mono (by decide)) b_zy .nil fX (aA (aV (cG (K:=K) rfl) (pv 1) aH (fun _ _=>rfl)) (aA (aV (cG (K:=K) rfl) (pv 1) aH (fun _ _=>rfl)) aC))))
   (aF (cR (aT jV (aV (cG (K:=K) rfl) (pv 2) aH (fun _ _=>rfl)) (aV (cG (K:=K) rfl) (pv 3) aH (fun _ _=>rfl)) (aS _)) (aF (cA (eQ (pv 0) T.o_Weave.cl m_zk G_zk (hr.mono (by decide)) b_zk .nil fX (aA (aV (cG (K:=K) rfl) (pv 2) aH (fun _ _=>rfl)) (aA (aV (cG (K:=K) rfl) (pv 3) aH (fun _ _=>rfl)) (aA (pC c_zm1 hr (aA (pC c_z2 hr (aA (aV (cG (K:=K) rfl) (pv 2) aH (fun _ _=>rfl)) aC)) (aA (aV (cG (K:=K) rfl) (pv 3) aH (fun _ _=>rfl)) aC))) aC)))))) bI))))))),?_⟩
  refine⟨fun m σ H'=>∃ (ρ rk':Nat→Nat) (Z':WvS) (v1 v2 v3:Option V),m=9 * AC ρ Z.hs.length+Z'.al.length∧m≤18100∧σ=[some (.ref p),v1,v2,v3]∧Wat N0 H' p M Z'∧WI hf φ ρ rk' L Z'∧EI E' ρ Z'∧LI E' ρ Z'∧(∀ x,ρ (ρ x)=ρ x)∧Z'.hs.length=Z.hs.length∧FrW M H H',⟨_,(fun x=>x),rk,Z,none,none,none,rfl,?_,rfl,hW,I,X,LI0,(fun _=>rfl),rfl,FrW.refl _ _⟩,?_⟩
  ·have:=IF (ρ:=fun x=>x) Z.hs.length
   omega
  rintro m _ H1 ⟨ρ,rk1,Z1,v1,v2,v3,hm,hm2,rfl,W1,I1,X1,LI1,hid,hl1,f1⟩
  obtain⟨dx,hd,tn,wy,al,ds,as,hM,w1⟩:=id W1
  refine⟨_,rfl,p,N0,dx,_,_,rfl,w1.ob,T.o_Weave.cl,T.n_Weave_alike,rD _ _ _ _,al,_,rfl,.inl (SqL.of w1.ha),_,_,rfl,rfl,_,rfl,?_⟩
  cases hal1:Z1.al with
  | nil =>
   have has:as=[]:=r9.mp (by rw[w1.la,hal1];rfl)
   subst has
   refine fQ ?_
   exact k ρ rk1 H1 Z1 W1 I1 X1 LI1 hal1 hid hl1 f1
  | cons pr rest =>
   obtain⟨a,tt,b⟩:=pr
   obtain⟨q0,as',rfl⟩:∃ q0 as',as=q0::as':=by
    cases as with
    | nil=>have:=w1.la;rw[hal1] at this;simp at this
    | cons q0 as'=>exact⟨q0,as',rfl⟩
   refine fA (fun _=>?_) (fun z=>absurd (decide_eq_true (show (0:Int)<(((q0::as').map V.ref).length:Nat) by rw[b7,l7];omega)) z)
   have hq0:H1 q0=some (.tup [.int (a:Nat),.str (S tt),.int (b:Nat)]):=w1.at' 0 q0 (a,tt,b) rfl (by rw[hal1];rfl)
   obtain⟨p1,p2,p3⟩:=I1.al (a,tt,b) (by rw[hal1];exact i9)
   have p1:a<Z1.hs.length:=p1
   have p2:b<Z1.hs.length:=p2
   have p3:tt=lay (back (φ a)++φ b):=p3
   obtain⟨tA,tl⟩:AllL tt∧tt.length≤2 * L:=by rw[p3];exact iS I1 a b
   refine⟨fun σ' H'=>∃ (ρ' rk':Nat→Nat) (Z':WvS) (v1 v2 v3:Option V),9 * AC ρ' Z.hs.length+Z'.al.length<m∧σ'=[some (.ref p),v1,v2,v3]∧Wat N0 H' p M Z'∧WI hf φ ρ' rk' L Z'∧EI E' ρ' Z'∧LI E' ρ' Z'∧(∀ x,ρ' (ρ' x)=ρ' x)∧Z'.hs.length=Z.hs.length∧FrW M H H',fun σ' H' ⟨ρ',rk',Z',v1,v2,v3,q0,q1⟩=>⟨_,q0,ρ',rk',Z',v1,v2,v3,rfl,by omega,q1⟩,?_⟩
   refine⟨_,rfl,p,N0,dx,_,_,rfl,w1.ob,T.o_Weave.cl,T.n_Weave_alike,rD _ _ _ _,.inl ⟨rfl,_,SqL.of w1.ha⟩,al,_,0,0,.ref q0,rfl,rfl,w1.ha,by decide,by decide,aXe (by decide) (by rw[b7,l7];omega),rfl,?_⟩
   have w2:=w1.upAl as' rest (by have:=w1.la;rw[hal1] at this;simpa using this) (fun j x e h1 h2=>w1.at' (j+1) x e h1 (by rw[hal1];exact h2))
   have f2:FrW M H1 (upd H1 al (.lst (as'.map V.ref))):=by rw[hM];exact WvC.put1 (by simp)
   show sO _ _ _ _ (upd H1 al (.lst (as'.map V.ref)))
   generalize upd H1 al (.lst (as'.map V.ref))=H2 at w2 f2
   have q0M:q0 ∉ M:=by rw[hM];exact w1.out hq0 (by intro xs z;cases z) (by intro kvs z;cases z)
   have hq2:=f2 _ _ hq0 q0M
   have I2:WI hf φ ρ rk1 L { Z1 with al:=rest }:=I1.alDrop fun e he=>by rw[hal1];exact g9 _ he
   have W2:Wat N0 H2 p M { Z1 with al:=rest }:=⟨dx,hd,tn,wy,al,ds,as',hM,w2⟩
   refine⟨_,rfl,p,dx,_,rfl,w2.ob,iD _ _ _ _ (by decide +kernel) (by decide +kernel) (by decide +kernel) (by decide +kernel),_,rfl,q0,_,0,.int (a:Nat),rfl,rfl,SqT.of hq2,rfl,hf,φ,ρ,rk1,L,p,M,_,a,[],rfl,W2,I2,hL,p1,AllL.nil,rfl,by simp,fun t1 H3 Z3 K3 e3=>?_⟩
   have e3:H3 t1=some (.tup [.int (ρ a:Nat),.str (S (lay (back (φ a)++φ (ρ a))))]):=e3
   obtain⟨dx3,hd3,tn3,wy3,al3,ds3,as3,hM3,w3⟩:=id K3.at'
   have hq3:=K3.fr _ _ hq2 q0M
   refine⟨_,rfl,p,dx3,_,rfl,w3.ob,iD _ _ _ _ (by decide +kernel) (by decide +kernel) (by decide +kernel) (by decide +kernel),_,rfl,q0,_,2,.int (b:Nat),rfl,rfl,SqT.of hq3,rfl,_,rfl,q0,_,1,.str (S tt),rfl,rfl,SqT.of hq3,rfl,hf,φ,ρ,rk1,L,p,M,_,b,tt,rfl,K3.at',K3.wi,hL,by rw[K3.ln];exact p2,tA,by rw[p3,GD],by omega,fun t2 H4 Z4 K4 e4=>?_⟩
   have et:lay (tt++(back (φ b)++φ (ρ b)))=lay (back (φ a)++φ (ρ b)):=by
    rw[p3,hU _ _ (AllL.app.mpr ⟨aR (I1.fa a).1,(I1.fa b).1⟩),l6]
    exact hX (aR (I1.fa a).1) (I1.fa b).1 (I1.fa (ρ b)).1
   rw[et] at e4
   have t1M:t1 ∉ M:=by rw[hM3];exact w3.out e3 (by intro xs z;cases z) (by intro kvs z;cases z)
   have e34:=K4.fr _ _ e3 t1M
   have hln:Z4.hs.length=Z1.hs.length:=K4.ln.trans K3.ln
   have hws:Z4.ws=Z1.ws:=K4.ws.trans K3.ws
   have hal4:Z4.al=rest:=K4.al.trans K3.al
   have X4:EI E' ρ { Z4 with al:=(a,tt,b)::Z4.al }:=X1.move hws (by rw[hal1];show (a,tt,b)::Z4.al=_;rw[hal4]) hln
   have rab:Rel E' a b:=LI1.al a tt b (by rw[hal1];exact i9)
   have LI4:LI E' ρ Z4:=LI1.move fun e he=>by rw[hal4] at he;rw[hal1];exact g9 _ he
   have of4:OfE E' Z4:=fun i fs hi e he=>(X1.ofE LI1) i fs (by rw[← hws];exact hi) e he
   have f14:FrW M H H4:=fun x o e n=>K4.fr _ _ (K3.fr _ _ (f2 _ _ (f1 x o e n) n) n) n
   have hrl:m=9 * AC ρ Z.hs.length+(rest.length+1):=by rw[hm,hal1,l7]
   refine⟨_,rfl,t1,_,0,.int (ρ a:Nat),rfl,rfl,SqT.of e34,rfl,_,rfl,t2,_,0,.int (ρ b:Nat),rfl,rfl,SqT.of e4,rfl,rfl,_,rfl,?_⟩
   by_cases hab:ρ a=ρ b
   ·rw[show decide (V.int ((ρ a:Nat):Int)=V.int ((ρ b:Nat):Int))=true from decide_eq_true (by rw[hab])]
    refine fQ ?_
    exact⟨ρ,rk1,Z4,_,_,_,by rw[hal4];omega,rfl,K4.at',K4.wi,X4.pop hab,LI4,hid,hln.trans hl1,f14⟩
   ·rw[show decide (V.int ((ρ a:Nat):Int)=V.int ((ρ b:Nat):Int))=false from decide_eq_false (fun z=>hab (by have:=V.int.inj z;omega))]
    refine gY ?_
    obtain⟨dx4,hd4,tn4,wy4,al4,ds4,as4,hM4,w4⟩:=id K4.at'
    obtain⟨oA,ol⟩:=iS I1 a (ρ a)
    obtain⟨oB,ol2⟩:=iS I1 a (ρ b)
    refine⟨_,rfl,p,dx4,_,rfl,w4.ob,iD _ _ _ _ (by decide +kernel) (by decide +kernel) (by decide +kernel) (by decide +kernel),_,rfl,t1,_,0,.int (ρ a:Nat),rfl,rfl,SqT.of e34,rfl,_,rfl,t2,_,0,.int (ρ b:Nat),rfl,rfl,SqT.of e4,rfl,_,rfl,t1,_,1,.str (S (lay (back (φ a)++φ (ρ a)))),rfl,rfl,SqT.of e34,rfl,_,rfl,oA,by omega,fun H5 s5=>?_⟩
    refine⟨_,rfl,t2,_,1,.str (S (lay (back (φ a)++φ (ρ b)))),rfl,rfl,SqT.of (s5 _ _ e4),rfl,_,_,rfl,aR oA,oB,by rw[dA];omega,fun H6 s6=>?_⟩
    have ht:lay (back (lay (back (φ a)++φ (ρ a)))++lay (back (φ a)++φ (ρ b)))=lay (back (φ (ρ a))++φ (ρ b)):=by
     rw[Nu (I1.fa a).1 (I1.fa (ρ a)).1]
     exact No (I1.fa (ρ a)).1 (I1.fa a).1 (I1.fa (ρ b)).1
    rw[ht]
    have I4:=K4.wi
    obtain⟨ra1,ra2⟩:=I4.rt a (by rw[hln];exact p1)
    obtain⟨rb1,rb2⟩:=I4.rt b (by rw[hln];exact p2)
    obtain⟨es,hes⟩:∃ es,Z4.ws[ρ a]?=some es:=⟨_,b0 (by rw[I4.lw];exact ra1)⟩
    obtain⟨o1,o2,o3⟩:=Iu I4 X4 (by rw[hln];exact p1) (by rw[hln];exact p2) rfl rfl hab rfl hes
    have hel:es.length≤8:=vE (I4.wy _ es hes).1 fun e he=>((I4.wy _ es hes).2 e he).1
    refine⟨hf,φ,ρ,rk1,_,_,L,p,M,Z4,ρ a,ρ b,_,es,rfl,(K4.at'.same s5).same s6,I4,I4.under ra2 rb2 hab rfl,hL,hes,ra1,rb1,hab,rfl,by rw[hal4];omega,fun H7 W7 f7=>?_⟩
    have rb3:ρ (ρ b)=ρ b:=hid b
    have lu:=LI4.under rab rfl rfl (lay (back (φ (ρ a))++φ (ρ b)))
    have rhd:Rel E' (ρ a) (ρ b):=((LI4.ro a).symm.trans rab).trans (LI4.ro b)
    have liu:=LI.underW (t:=lay (back (φ (ρ a))++φ (ρ b))) (es:=es) lu (fun i fs hi e he=>of4 i fs hi e he) (fun e he=>by
     obtain⟨u,v,z1,z2,z3⟩:=of4 _ es hes e he
     exact⟨u,v,z1,z2.trans rhd,z3⟩) (by show ρ b<Z4.ws.length;rw[I4.lw];exact rb1)
    have hcnt:=B7 (N:=Z.hs.length) (hd:=ρ a) (ab:=ρ b) (by rw[← hl1,← hln];exact ra1) (hid a) rb3 hab
    have hul:=lG (ab:=ρ b) (t:=lay (back (φ (ρ a))++φ (ρ b))) (es:=es) (T:=dP Z4 (ρ a) (ρ b) (lay (back (φ (ρ a))++φ (ρ b))))
    have hul2:(dP Z4 (ρ a) (ρ b) (lay (back (φ (ρ a))++φ (ρ b)))).al.length=rest.length:=by show Z4.al.length=_;rw[hal4]
    refine⟨ρU ρ (ρ a) (ρ b),_,_,_,_,_,by omega,rfl,W7,o1,o2,liu,B4 hid rb3 hab,?_,fun x o e n=>f7 _ _ (s6 _ _ (s5 _ _ (f14 x o e n))) n⟩
    rw[o3,p5]
    exact hln.trans hl1
theorem K0{f:Addr}{fd:FuncData}(D:DfM K N0 "lay_word" "Weave.lay_word" HV ["self","word","told"] f fd)(T:Txt P w K mg NR NW NQ NY NX NS NT NV NU NZ N0 f_NoAlphabet fd_NoAlphabet)(c_zf1:Cl P w K mg base "contrary" ["letter"] 1 jI)(c_z2:Cl P w K mg base "turned_back" ["word"] 2 nD)(c_zj:pQ P w K mg base N0 "new_place" ["self"] 1 (E6 N0))(c_zs:pQ P w K mg base N0 "lay_way" ["self","place","letter","goal","told"] 4 (A0 N0)):pQ P w K mg base N0 "lay_word" ["self","word","told"] 5 (BS N0):=by
 obtain⟨f_zj,fd_zj,G_zj,m_zj,b_zj⟩:=c_zj
 obtain⟨f_zs,fd_zs,G_zs,m_zs,b_zs⟩:=c_zs
 refine D.cl (D.F.ok sc_zo (fun vs H Q E h=>?_) (fun cdv A outer s H vs Q E hr h=>?_))
 ·obtain⟨_,_,_,_,p,M,Z,E',wd,t,rfl,_⟩:=h
  rfl
 ·obtain⟨hf,φ,rk,L,p,M,Z,E',wd,t,rfl,hW,I,X,LI0,hsy,hL,hφ,h0,hN,hal,hwA,hcon,htold,hlen,k⟩:=h
  refine⟨_,(aD (aM (i:=3) sc_zo.nd rfl (Or.inl rfl) aH)
   (aF (cW l4 rfl (Bf (by rfl) T.b_enumerate (aA (pv 1) aC)) (hJ (K:=K) rfl rfl (bK (aX (i:=4) sc_zo.nd rfl (Or.inl rfl)) (bK (aX (i:=5) sc_zo.nd rfl (Or.inl rfl)) fH))) (aD (aM (i:=6) sc_zo.nd rfl (Or.inl rfl) (dI eM (pv 4) (bG Av (aL eJ (by rfl) T.b_len m4 (aA (pv 1) aC)) aH) (aS _)))
   (iJ (aM (i:=7) sc_zo.nd rfl (Or.inl rfl) (gW (fP (pv 6)) aH (yM (pv 0) T.o_Weave.cl m_zj G_zj (hr.mono (by decide)) b_zj .nil fX)))
   (iJ (aM (i:=8) sc_zo.nd rfl (Or.inl rfl) (gW (fP (pv 6)) (pv 2) bV))
   (aD (cA (eQ (pv 0) T.o_Weave.cl m_zs G_zs (hr.mono (by decide)) b_zs .nil fX (aA (pv 3) (aA (pv 5) (aA (pv 7) (aA (pv 8) aC))))))
   (aD (cA (eQ (pv 0) T.o_Weave.cl m_zs G_zs (hr.mono (by decide)) b_zs .nil fX (aA (pv 7) (aA (pC c_zf1 hr (aA (pv 5) aC)) (aA (pv 3) (aA (pC c_z2 hr (aA (pv 8) aC)) aC))))))
   (aF (aM (i:=3) sc_zo.nd rfl (Or.inl rfl) (pv 7))))))))))),?_⟩
  refine⟨_,rfl,S wd,rfl,zH (w:=wd) (fun i σ H2=>∃ (v4 v5 v6 v7 v8:Option V) (hr:Nat) (M2:List Addr) (Z2:WvS) (φ2:Nat→List Nat) (E2:Nat→Nat→Nat→Prop),σ=[some (.ref p),some (.str (S wd)),some (.str (S t)),some (.int (hr:Nat)),v4,v5,v6,v7,v8]∧Wat N0 H2 p M2 Z2∧MU H M M2∧FrW M H H2∧WI hf φ2 (fun x=>x) rk L Z2∧EI E2 (fun x=>x) Z2∧LI E2 (fun x=>x) Z2∧Me E2∧(∀ p c q,E2 p c q↔E' p c q∨FlE Z.hs.length wd i p c q)∧φ2 0=[]∧Fw E2 (fun x=>x) 0 (wd.take i) hr∧hr<Z2.hs.length∧hr=cJ Z.hs.length wd.length i∧Z2.hs.length=Z.hs.length+min i (wd.length - 1)∧Z2.al.length≤Z.al.length+2 * i∧(i<wd.length→φ2 hr=lay (back (Hw hf (wd.take i))))∧(i=wd.length→hr=0)) ?_ ?_ ?_⟩
  ·exact⟨_,_,_,_,_,0,M,Z,φ,E',rfl,hW,MU.refl _ _,FrW.refl _ _,I,X,LI0,hsy,fun p c q=>⟨.inl,fun z=>z.elim id fun ⟨j,hj,_⟩=>absurd hj (y4 _)⟩,hφ,rfl,h0,by unfold cJ;rw[if_pos (.inl rfl)],by rw[Nat.zero_min];rfl,b9 _,fun _=>hφ,fun _=>rfl⟩
  ·rintro i c q _ H2 hc hq2 ⟨v4,v5,v6,v7,v8,hr,M2,Z2,φ2,E2,rfl,W2,u2,f2,I2,X2,LI2,sy2,mo2,φ20,fw2,hrl,hrp,ln2,al2,hφr,_⟩
   have hi:i<wd.length:=(a9.mp hc).1
   have hcL:cE c:=hwA c (b8 hc)
   have tk:wd.take (i+1)=wd.take i++[c]:=bF hc
   have huA:AllL (Hw hf (wd.take i)):=zY (fun c hc=>(I.ha c hc).1) fun x hx=>hwA x (u8 hx)
   have hcA:=(I.ha c hcL).1
   have hφr:=hφr hi
   have s3:=Same.new (o:=HO.tup [.int ((i:Nat):Int),.str (S [c])]) hq2
   refine⟨q,_,rfl,.inr (SqT.of aB),rfl,_,_,rfl,_,_,rfl,rfl,?_⟩
   generalize upd H2 q (.tup [.int ((i:Nat):Int),.str (S [c])])=H3 at s3
   refine⟨_,rfl,_,rfl,S wd,rfl,aI (by rw[cH];omega),_,_,rfl,rfl,rfl,?_⟩
   have W3:=W2.same s3
   have f3:FrW M H H3:=fun b o e n=>s3 _ _ (f2 b o e n)
   have hb:decide (V.int ((i:Nat):Int)=V.int ((((S wd).length:Nat):Int) - 1))=decide (i+1=wd.length):=by
    rw[cH]
    refine decide_eq_decide.mpr ⟨fun z=>by have:=V.int.inj z;omega,fun z=>by congr 1;omega⟩
   dsimp only
   rw[hb]
   generalize hlast:decide (i+1=wd.length)=lastb
   refine⟨fun σ H'=>∃ (v8:Option V) (g:Nat) (M4:List Addr) (Z4:WvS) (φ4:Nat→List Nat),σ=[some (.ref p),some (.str (S wd)),some (.str (S t)),some (.int (hr:Nat)),some (.int ((i:Nat):Int)),some (.str (S [c])),some (.bl lastb),some (.int (g:Nat)),v8]∧Wat N0 H' p M4 Z4∧MU H M M4∧FrW M H H'∧WI hf φ4 (fun x=>x) rk L Z4∧EI E2 (fun x=>x) Z4∧LI E2 (fun x=>x) Z4∧φ4 0=[]∧hr<Z4.hs.length∧g<Z4.hs.length∧g=cJ Z.hs.length wd.length (i+1)∧Z4.hs.length=Z.hs.length+min (i+1) (wd.length - 1)∧Z4.al.length≤Z.al.length+2 * i∧φ4 hr=lay (back (Hw hf (wd.take i)))∧(lastb=true→g=0)∧(lastb=false→φ4 g=lay (back (Hw hf (wd.take (i+1))))),?_,?_⟩
   ·refine⟨_,rfl,_,rfl,?_⟩
    cases lastb with
    | true=>exact gY ⟨_,0,M2,Z2,φ2,rfl,W3,u2,f3,I2,X2,LI2,φ20,hrl,by omega,by have hl:i+1=wd.length:=of_decide_eq_true hlast;unfold cJ;rw[if_pos (.inr hl)],by have hl:i+1=wd.length:=of_decide_eq_true hlast;omega,al2,hφr,fun _=>rfl,fun z=>by cases z⟩
    | false =>
     refine fQ ?_
     obtain⟨dx,hd,tn,wy,al,ds,as,hM,w3⟩:=id W3
     refine⟨_,rfl,p,dx,_,rfl,w3.ob,iD _ _ _ _ (by decide +kernel) (by decide +kernel) (by decide +kernel) (by decide +kernel),p,M2,Z2,rfl,W3,by omega,by rw[I2.lt];omega,by rw[I2.lw];omega,fun d H4 W4 hd4 f4=>?_⟩
     have hold:∀ {x:Nat},x<Z2.hs.length→φN φ2 Z2.hs.length (lay (back (Hw hf (wd.take (i+1))))) x=φ2 x:=fun {x} hx=>by unfold φN;rw[if_neg (by omega)]
     have hA1:AllL (Hw hf (wd.take (i+1))):=zY (fun c hc=>(I.ha c hc).1) fun x hx=>hwA x (u8 hx)
     have ln4:(DT Z2).hs.length=Z2.hs.length+1:=by show (Z2.hs++[Z2.hs.length]).length=_;rw[c6];rfl
     refine⟨_,Z2.hs.length,M2++[d],DT Z2,_,rfl,W4,fun x hx=>?_,?_,I2.new (gR (aR hA1)) (hlen (i+1) (by omega)),X2.new I2.lw,⟨LI2.ro,LI2.al⟩,?_,by omega,by omega,(by have hl:¬ i+1=wd.length:=of_decide_eq_false hlast;unfold cJ;rw[if_neg (by omega)];omega),(by have hl:¬ i+1=wd.length:=of_decide_eq_false hlast;omega),al2,?_,fun z=>(by cases z),fun _=>?_⟩
     ·rcases j9.mp hx with z | z
      ·exact u2 x z
      ·rw[d6.mp z]
       by_cases hdM:d∈M
       ·exact .inl hdM
       ·refine .inr ?_
        cases e:H d with
        | none=>rfl
        | some o=>rw[f3 d o e hdM] at hd4;cases hd4
     ·exact FrW.trans f3 u2 f4
     ·rw[hold (by omega)];exact φ20
     ·rw[hold hrl];exact hφr
     ·unfold φN;rw[if_pos rfl]
   rintro _ H4 ⟨v8',g,M4,Z4,φ4,rfl,W4,u4,f4,I4,X4,LI4,φ40,hr4,hg4,hgp,l42,al4,hφ4,hg0,hgn⟩
   refine⟨fun σ H'=>∃ (pt:List Nat),σ=[some (.ref p),some (.str (S wd)),some (.str (S t)),some (.int (hr:Nat)),some (.int ((i:Nat):Int)),some (.str (S [c])),some (.bl lastb),some (.int (g:Nat)),some (.str (S pt))]∧H'=H4∧pt=lay (back (φ4 hr)++(hf c++φ4 g)),?_,?_⟩
   ·refine⟨_,rfl,_,rfl,?_⟩
    cases lastb with
    | true =>
     have hl:i+1=wd.length:=of_decide_eq_true hlast
     refine gY ⟨_,rfl,t,rfl,rfl,?_⟩
     rw[htold (by intro z;rw[z] at hi;simp at hi),hφ4,hg0 rfl,φ40,Ca huA hcA,← tk,hl,l5]
    | false =>
     refine fQ ⟨[],rfl,rfl,?_⟩
     rw[hφ4,hgn rfl,tk,EM huA hcA]
   rintro _ _ ⟨pt,rfl,rfl,hpt⟩
   obtain⟨pA,pl⟩:AllL pt∧pt.length≤3 * L:=by rw[hpt];exact pR I4 hcL hr g
   obtain⟨es,hes⟩:∃ es,Z4.ws[hr]?=some es:=⟨_,b0 (by rw[I4.lw];exact hr4)⟩
   obtain⟨dx,hd,tn,wy,al,ds,as,hM,w4⟩:=id W4
   refine⟨_,rfl,p,dx,_,rfl,w4.ob,iD _ _ _ _ (by decide +kernel) (by decide +kernel) (by decide +kernel) (by decide +kernel),_,rfl,_,rfl,_,rfl,_,rfl,hf,φ4,(fun x=>x),rk,L,p,M4,Z4,hr,c,g,pt,es,rfl,W4,I4,hL,hes,hcL,hg4,hpt,by omega,fun H5 W5 f5=>?_⟩
   have I5:=I4.lay hes hcL hg4 hpt
   have X5:=X4.lay' (t:=pt) (c:=c) hes rfl hr4 hg4
   obtain⟨h5,_⟩:=iQ (S:=Z4) hr c g pt es
   have la5:=lN (S:=Z4) (i:=hr) (c:=c) (g:=g) (t:=pt) (es:=es)
   have m5:∀ p' c' q',E2 p' c' q'→(E2 p' c' q'∨(p'=hr∧c'=c∧q'=g)):=fun _ _ _ z=>.inl z
   have LI5:=(LI4.mono m5).lay' (t:=pt) ((X4.ofE LI4).mono m5) hes (.inr ⟨rfl,rfl,rfl⟩)
   generalize bD Z4 hr c g pt es=Z5 at W5 I5 X5 LI5 h5 la5
   obtain⟨es',hes'⟩:∃ es,Z5.ws[g]?=some es:=⟨_,b0 (by rw[I5.lw,h5];exact hg4)⟩
   obtain⟨dx5,hd5,tn5,wy5,al5,ds5,as5,hM5,w5⟩:=id W5
   refine⟨_,rfl,p,dx5,_,rfl,w5.ob,iD _ _ _ _ (by decide +kernel) (by decide +kernel) (by decide +kernel) (by decide +kernel),_,rfl,_,rfl,c,rfl,hcL,fun H6 s6=>?_⟩
   refine⟨_,rfl,_,rfl,pt,rfl,pA,by omega,fun H7 s7=>?_⟩
   have hbp:back pt=lay (back (φ4 g)++(hf (con c)++φ4 hr)):=by
    rw[hpt,hcon c hcL]
    exact Nv (I4.fa hr).1 (I4.fa g).1 hcA
   refine⟨hf,φ4,(fun x=>x),rk,L,p,M4,Z5,g,con c,hr,back pt,es',rfl,(W5.same s6).same s7,I5,hL,hes',cV hcL,by rw[h5];exact hr4,hbp,by omega,fun H8 W8 f8=>?_⟩
   have I8:=I5.lay hes' (cV hcL) (by rw[h5];exact hr4) hbp
   have X8:=X5.lay' (t:=back pt) (c:=con c) hes' rfl (by rw[h5];exact hg4) (by rw[h5];exact hr4)
   obtain⟨h8,_⟩:=iQ (S:=Z5) g (con c) hr (back pt) es'
   have la8:=lN (S:=Z5) (i:=g) (c:=con c) (g:=hr) (t:=back pt) (es:=es')
   have m8:∀ p' c' q',(E2 p' c' q'∨(p'=hr∧c'=c∧q'=g))→((E2 p' c' q'∨(p'=hr∧c'=c∧q'=g))∨(p'=g∧c'=con c∧q'=hr)):=fun _ _ _ z=>.inl z
   have LI8:=(LI5.mono m8).lay' (t:=back pt) ((X5.ofE LI5).mono m8) hes' (.inr ⟨rfl,rfl,rfl⟩)
   generalize bD Z5 g (con c) hr (back pt) es'=Z8 at W8 I8 X8 LI8 h8 la8
   have ff:FrW M H H8:=fun b o e n=>by
    have nM:b ∉ M4:=fun z=>(u4 b z).elim n fun q=>by rw[e] at q;cases q
    exact f8 _ _ (s7 _ _ (s6 _ _ (f5 _ _ (f4 b o e n) nM))) nM
   refine⟨_,rfl,_,_,_,_,_,g,M4,Z8,φ4,_,rfl,W8,u4,ff,I8,X8,LI8,?_,?_,φ40,?_,by rw[h8,h5];exact hg4,hgp,by rw[h8,h5];exact l42,by omega,fun hlt=>?_,fun hl=>?_⟩
   ·rintro p' c' q' ((z | ⟨rfl,rfl,rfl⟩) | ⟨rfl,rfl,rfl⟩)
    ·obtain⟨a,b⟩:=sy2 _ _ _ z
     exact⟨a,.inl (.inl b)⟩
    ·exact⟨hcL,.inr ⟨rfl,rfl,rfl⟩⟩
    ·exact⟨cV hcL,.inl (.inr ⟨rfl,aW hcL,rfl⟩)⟩
   ·intro p' c' q'
    rw[FlE.succ hc,mo2,← hrp,← hgp]
    constructor
    ·rintro((z | z) | z)
     ·exact z.elim .inl fun z=>.inr (.inl z)
     ·exact .inr (.inr (.inl ⟨z.2.1,z.1,z.2.2⟩))
     ·exact .inr (.inr (.inr ⟨z.2.1,z.1,z.2.2⟩))
    ·rintro(z | z | z | z)
     ·exact .inl (.inl (.inl z))
     ·exact .inl (.inl (.inr z))
     ·exact .inl (.inr ⟨z.2.1,z.1,z.2.2⟩)
     ·exact .inr ⟨z.2.1,z.1,z.2.2⟩
   ·rw[tk]
    exact(fw2.mono fun p c q z=>.inl (.inl z)).app ⟨hr,g,rfl,.inl (.inr ⟨rfl,rfl,rfl⟩),rfl⟩
   ·have:lastb=false:=by rw[← hlast];exact decide_eq_false (by omega)
    exact hgn this
   ·have:lastb=true:=by rw[← hlast];exact decide_eq_true hl
    exact hg0 this
  ·rintro σ H2 ⟨v4,v5,v6,v7,v8,hr,M2,Z2,φ2,E2,rfl,W2,u2,f2,I2,X2,LI2,sy2,mo2,φ20,fw2,hrl,hrp,ln2,al2,_,hr0⟩
   have hr0:=hr0 rfl
   subst hr0
   rw[l5] at fw2
   exact k M2 H2 Z2 φ2 E2 W2 u2 f2 I2 X2 LI2 sy2 mo2 φ20 fw2 (by rw[ln2,Nat.min_eq_right (by omega)]) al2
theorem L9{f:Addr}{fd:FuncData}(D:Df K mg "numbers_of_heads" Ik ["n","weave"] f fd)(T:Txt P w K mg NR NW NQ NY NX NS NT NV NU NZ N0 f_NoAlphabet fd_NoAlphabet)(c_z6:Cl P w K mg base "letters_of" ["n"] 1 (D6 K))(c_zt:pQ P w K mg base N0 "head_of" ["self","place"] 5 (vT N0))(c_zv:pQ P w K mg base N0 "goal_of" ["self","head","letter"] 6 (vI N0)):Cl P w K mg base "numbers_of_heads" ["n","weave"] 7 (Bd N0):=by
 obtain⟨f_zt,fd_zt,G_zt,m_zt,b_zt⟩:=c_zt
 obtain⟨f_zv,fd_zv,G_zv,m_zv,b_zv⟩:=c_zv
 refine D.cl (D.F.ok sc_zd (fun vs H Q E h=>?_) (fun cdv A outer s H vs Q E hr h=>?_))
 ·obtain⟨_,_,_,_,_,n,p,M,Z,rfl,_⟩:=h
  rfl
 ·obtain⟨hf,φ,ρ,rk,L,n,p,M,Z,rfl,h1,h4,hW,I,hL,h0,hN,k⟩:=h
  refine⟨_,(aD (aM (i:=2) sc_zd.nd rfl (Or.inl rfl) (cP (aA (eQ (pv 1) T.o_Weave.cl m_zt G_zt (hr.mono (by decide)) b_zt .nil fX (aA aH aC)) aC)))
   (aD (aM (i:=3) sc_zd.nd rfl (Or.inl rfl) (Hb (Dy (aV (aO (K:=K) rfl) (pv 2) aH (fun _ _=>rfl)) aH FT) rfl rfl (by simp) (by decide)))
   (aD (aM (i:=4) sc_zd.nd rfl (Or.inl rfl) aH)
   (aD (kK l4 (aT BH (pv 4) (aL (bM (K:=K) rfl) (by rfl) T.b_len m4 (aA (pv 2) aC)) (aS _)) (aD (cW l4 rfl (fT (K:=K) rfl (pC c_z6 hr (aA (pv 0) aC))) (aX (i:=5) sc_zd.nd rfl (Or.inl rfl)) (aD (aM (i:=6) sc_zd.nd rfl (Or.inl rfl) (eQ (pv 1) T.o_Weave.cl m_zv G_zv (hr.mono (by decide)) b_zv .nil fX (aA (aV (aO (K:=K) rfl) (pv 2) (pv 4) (fun _ _=>rfl)) (aA (pv 5) aC))))
   (aF (cR (pw_and (aT vX (pv 6) eZ (aS _)) (pw_and1 (IT (CK (m9 (t5 (by decide:1≤64) _) hr.units) (pv 6) (pv 3)) (by rfl)))).pt (aD (mF (m9 (t5 (by decide:1≤64) _) hr.units) (pv 3) (pv 6) (aL (bM (K:=K) rfl) (by rfl) T.b_len m4 (aA (pv 2) aC)) (by rfl))
   (aF (cA (cO (K:=K) rfl j7 o0 o6 bX (pv 2) (aA (pv 6) aC))))) bI))))
   (aF (JC (i:=4) sc_zd.nd rfl (Or.inl rfl) aH Iv))))
   (aF (aQ (pv 3))))))),?_⟩
  obtain⟨dx,hd,tn,wy,al,a1⟩:=hW.self
  refine⟨_,rfl,p,dx,_,rfl,a1,iD _ _ _ _ (by decide +kernel) (by decide +kernel) (by decide +kernel) (by decide +kernel),hf,φ,ρ,rk,L,p,M,Z,0,rfl,hW,I,hL,h0,fun H1 Z1 K1=>?_⟩
  refine⟨(by show 1≤sizeLine;decide),fun hs hh=>?_⟩
  have hhM:hs ∉ M:=K1.at'.new hh
  have hhH:=K1.free hhM hh
  have K2:=K1.same (Same.new (o:=HO.lst [.int ((ρ 0:Nat):Int)]) hh)
  have e2:upd H1 hs (.lst [.int ((ρ 0:Nat):Int)]) hs=some (.lst (cT [ρ 0])):=aB
  generalize upd H1 hs (.lst [.int ((ρ 0:Nat):Int)])=H2 at K2 e2
  intro q hq
  have hqM:q ∉ M:=K2.at'.new hq
  have hqH:=K2.free hqM hq
  have s3:=Same.new (o:=HO.dK []) hq
  refine⟨_,rfl,hs,_,0,.int ((ρ 0:Nat):Int),rfl,rfl,SqL.of (s3 _ _ e2),rfl,?_⟩
  refine⟨aB,[(.inl ((ρ 0:Nat):Int),.int 0)],rfl,(by show 1≤15;decide),?_⟩
  have s4:Same H2 (upd (upd H2 q (.dK [])) q (.dK [(.inl ((ρ 0:Nat):Int),.int 0)])):=fun b o e=>by
   have n:b≠q:=aJ e hq
   rw[aE n,aE n];exact e
  have e4:upd (upd H2 q (.dK [])) q (.dK [(.inl ((ρ 0:Nat):Int),.int 0)]) q=some (.dK (eY [ρ 0])):=aB
  show sO _ _ _ _ (upd (upd H2 q (.dK [])) q (.dK [(.inl ((ρ 0:Nat):Int),.int 0)]))
  have K3:=K2.same s4
  have e3:=s4 _ _ e2
  generalize upd (upd H2 q (.dK [])) q (.dK [(.inl ((ρ 0:Nat):Int),.int 0)])=H3 at e4 K3 e3
  have hr0:ρ 0<Z.hs.length:=(I.rt 0 h0).1
  refine⟨fun m0 σ H'=>∃ (v5 v6:Option V) (dn:Nat) (Z':WvS) (ord:List Nat),m0+dn=1000∧σ=[some (.int (n:Nat)),some (.ref p),some (.ref hs),some (.ref q),some (.int (dn:Nat)),v5,v6]∧Kept N0 hf φ ρ rk L p M H H' Z Z'∧H' hs=some (.lst (cT ord))∧H' q=some (.dK (eY ord))∧OrdOk Z.hs.length ord∧cD (gJ ρ Z) (aK (n:Nat)) 1000 0 [ρ 0]=cD (gJ ρ Z) (aK (n:Nat)) m0 dn ord,⟨1000,none,none,0,Z1,[ρ 0],rfl,rfl,K3,e3,e4,⟨by simp,fun x hx=>by rw[d6.mp hx];exact hr0⟩,rfl⟩,?_⟩
  rintro m0 _ H4 ⟨v5,v6,dn,Z4,ord,hmd,rfl,K4,e34,e44,ok,hup⟩
  have hol:=ok.len
  refine⟨_,rfl,_,rfl,hs,_,rfl,.inl (SqL.of e34),_,_,rfl,rfl,_,rfl,?_⟩
  refine fA (fun z=>?_) (fun z=>?_)
  rotate_left
  ·have hge:ord.length≤dn:=by
    have:¬ ((dn:Nat):Int)<(((cT ord).length:Nat):Int):=fun y=>z (decide_eq_true y)
    rw[dQ] at this
    omega
   rw[oN _ _ _ _ _ hge] at hup
   refine⟨_,rfl,k q H4 Z4 K4 hqH ?_ ?_ ?_⟩
   ·rw[hup];exact e44
   ·rw[hup];omega
   ·rw[hup];exact ok.2
  ·have hlt:dn<ord.length:=by
    have:((dn:Nat):Int)<(((cT ord).length:Nat):Int):=of_decide_eq_true z
    rw[dQ] at this
    omega
   obtain⟨s,hs'⟩:∃ s,ord[dn]?=some s:=⟨_,b0 hlt⟩
   have hsl:s<Z.hs.length:=ok.2 s (b8 hs')
   obtain⟨m1,rfl⟩:∃ m1,m0=m1+1:=⟨m0 - 1,by omega⟩
   rw[lS _ _ _ _ _ hs'] at hup
   refine⟨fun σ' H'=>∃ (v5 v6:Option V) (Z':WvS) (ord':List Nat),σ'=[some (.int (n:Nat)),some (.ref p),some (.ref hs),some (.ref q),some (.int ((dn+1:Nat):Int)),v5,v6]∧Kept N0 hf φ ρ rk L p M H H' Z Z'∧H' hs=some (.lst (cT ord'))∧H' q=some (.dK (eY ord'))∧OrdOk Z.hs.length ord'∧cD (gJ ρ Z) (aK (n:Nat)) 1000 0 [ρ 0]=cD (gJ ρ Z) (aK (n:Nat)) m1 (dn+1) ord',fun σ' H' ⟨v5,v6,Z',ord',e,s⟩=>⟨m1,by omega,v5,v6,dn+1,Z',ord',by omega,e,s⟩,?_⟩
   refine⟨_,rfl,n,rfl,h1,h4,fun t H5 s7 ht=>⟨t,rfl,⟨_,ht⟩,?_⟩⟩
   refine Bj (K:=K) (a:=t) (xs:=aZ (aK (n:Nat))) (fun i σ H'=>∃ (v5 v6:Option V) (Z':WvS),σ=[some (.int (n:Nat)),some (.ref p),some (.ref hs),some (.ref q),some (.int ((dn:Nat):Int)),v5,v6]∧Kept N0 hf φ ρ rk L p M H H' Z Z'∧H' hs=some (.lst (cT (cB (gJ ρ Z s) ((aK (n:Nat)).take i) ord)))∧H' q=some (.dK (eY (cB (gJ ρ Z s) ((aK (n:Nat)).take i) ord)))∧OrdOk Z.hs.length (cB (gJ ρ Z s) ((aK (n:Nat)).take i) ord)∧SqT K H' t (aZ (aK (n:Nat)))) ⟨_,_,Z4,rfl,K4.same s7,s7 _ _ e34,s7 _ _ e44,ok,ht⟩ ?_ ?_ ?_
   ·rintro i σ H' _ ⟨_,_,_,_,_,_,_,_,s8⟩
    exact s8
   ·rintro i x _ H6 hx ⟨v5,v6,Z6,rfl,K6,e36,e46,ok6,ht6⟩
    obtain⟨c,hc,rfl⟩:∃ c,(aK (n:Nat))[i]?=some c∧x=.str (S [c]):=by
     unfold aZ at hx
     rw[c7] at hx
     cases e:(aK (n:Nat))[i]? with
     | none=>rw[e] at hx;cases hx
     | some c=>rw[e] at hx;cases hx;exact⟨c,rfl,rfl⟩
    have tk:(aK (n:Nat)).take (i+1)=(aK (n:Nat)).take i++[c]:=bF hc
    rw[tk,rT]
    obtain⟨r,hr⟩:=eF (gJ ρ Z s) ((aK (n:Nat)).take i) ord
    have hat:(cB (gJ ρ Z s) ((aK (n:Nat)).take i) ord)[dn]?=some s:=by rw[hr,p6 hlt];exact hs'
    generalize cB (gJ ρ Z s) ((aK (n:Nat)).take i) ord=oi at e36 e46 ok6 hat
    have hoi:=ok6.len
    obtain⟨es,hes⟩:∃ es,Z6.ws[s]?=some es:=⟨_,b0 (by rw[K6.wi.lw,K6.ln];exact hsl)⟩
    have hdl:gJ ρ Z s c=(dD es c).map fun r=>ρ r.1:=by
     unfold gJ
     rw[c5,← K6.ws,hes]
     rfl
    obtain⟨dx6,hd6,tn6,wy6,al6,a6⟩:=K6.at'.self
    refine⟨_,rfl,p,dx6,_,rfl,a6,iD _ _ _ _ (by decide +kernel) (by decide +kernel) (by decide +kernel) (by decide +kernel),_,rfl,_,rfl,hs,_,_,.int ((s:Nat):Int),rfl,rfl,SqL.of e36,cN (iV hat),_,rfl,hf,φ,ρ,rk,L,p,M,Z6,s,c,es,rfl,K6.at',K6.wi,hL,hes,fun H7 Z7 K7=>?_⟩
    have e37:=K7.fr _ _ e36 hhM
    have e47:=K7.fr _ _ e46 hqM
    have K67:=K6.trans K7
    have htM:SqT K H7 t (aZ (aK (n:Nat))):=Ig K6.at' K7.fr ht6
    rw[hdl]
    cases ew:dD es c with
    | none =>
     refine⟨_,rfl,rfl,_,rfl,?_⟩
     show ∃ (v5 v6:Option V) (Z':WvS),_
     exact⟨_,_,Z7,rfl,K67,e37,e47,ok6,htM⟩
    | some rr =>
     have hgl:ρ rr.1<Z.hs.length:=by
      have:=((K6.wi.wy s es hes).2 _ (dW ew)).2.1
      have:=(K6.wi.rt rr.1 this).1
      rw[K6.ln] at this
      exact this
     show _
     dsimp only [y6]
     generalize ρ rr.1=g at hgl
     refine⟨_,rfl,rfl,_,rfl,?_⟩
     refine(show tB (Bh (Ak 6) (Ak 3)) _ H7 _ from ?_)
     refine⟨_,rfl,_,rfl,q,_,rfl,DGet.k (k:=.inl ((g:Nat):Int)) e47,_,rfl,?_⟩
     rw[vP]
     by_cases hin:g∈oi
     ·rw[if_pos hin,if_pos hin]
      show ∃ (v5 v6:Option V) (Z':WvS),_
      exact⟨_,_,Z7,rfl,K67,e37,e47,ok6,htM⟩
     ·rw[if_neg hin,if_neg hin]
      have hl1000:oi.length<sizeLine:=aP (by omega)
      refine⟨_,rfl,hs,_,rfl,.inl (SqL.of e37),_,rfl,_,rfl,q,_,rfl,DPut.k (k:=.inl ((g:Nat):Int)) e47 (by rw[xW];exact hl1000),?_⟩
      have hnl:V.int (((cT oi).length:Nat):Int)=V.int ((oi.length:Nat):Int):=by rw[dQ]
      rw[hnl,Dw hin]
      have K8:=K67.setD (o:=HO.dK (eY (oi++[g]))) hqM hqH e47
      have e48:upd H7 q (.dK (eY (oi++[g]))) q=some (.dK (eY (oi++[g]))):=aB
      have nqh:hs≠q:=bY e37 e47 (by intro z;cases z)
      have e38:upd H7 q (.dK (eY (oi++[g]))) hs=some (.lst (cT oi)):=by rw[aE nqh];exact e37
      have ht8:SqT K (upd H7 q (.dK (eY (oi++[g])))) t (aZ (aK (n:Nat))):=by
       rcases htM with (z | ⟨o,z⟩) | z
       ·exact .inl (.inl (by rw[aE (bY z e47 (by intro y;cases y))];exact z))
       ·exact .inl (.inr ⟨o,by rw[aE (bY z e47 (by intro y;cases y))];exact z⟩)
       ·exact .inr z
      generalize upd H7 q (.dK (eY (oi++[g])))=H8 at K8 e48 e38 ht8
      refine⟨_,rfl,.inl ⟨rfl,_,SqL.of e38⟩,_,rfl,hs,_,_,rfl,rfl,e38,by rw[dQ];exact hl1000,?_⟩
      refine⟨_,_,Z7,rfl,K8.set hhM hhH e38,?_,?_,ok6.snoc hgl hin,JR e38 ht8⟩
      ·rw[aB,rM]
      ·rw[aE nqh.symm];exact e48
   ·rintro σ H6 ⟨v5,v6,Z6,rfl,K6,e36,e46,ok6,_⟩
    rw[bA,l5] at e36 e46 ok6
    exact⟨_,rfl,_,_,rfl,rfl,v5,v6,Z6,_,rfl,K6,e36,e46,ok6,hup⟩
theorem LM{f:Addr}{fd:FuncData}(D:Df K mg "place_told" Ep ["n","weave","numbers","head"] f fd)(T:Txt P w K mg NR NW NQ NY NX NS NT NV NU NZ N0 f_NoAlphabet fd_NoAlphabet)(c_zr:Cl P w K mg base "first_letters" ["n"] 1 lU)(c_zv:pQ P w K mg base N0 "goal_of" ["self","head","letter"] 6 (vI N0)):Cl P w K mg base "place_told" ["n","weave","numbers","head"] 7 (yY N0):=by
 obtain⟨f_zv,fd_zv,G_zv,m_zv,b_zv⟩:=c_zv
 refine D.cl (D.F.ok sc_z3 (fun vs H Q E h=>?_) (fun cdv A outer s H vs Q E hr h=>?_))
 ·obtain⟨_,_,_,_,_,n,p,M,Z,t,s,ord,rfl,_⟩:=h
  rfl
 ·obtain⟨hf,φ,ρ,rk,L,n,p,M,Z,t,s,ord,rfl,h1,h4,hW,I,hL,hsl,hN,hmem,k⟩:=h
  refine⟨_,(aD (lV (i:=4) (sc0:=aG Ep) (N:=["n","weave","numbers","head","goals"]) (ix:=[1,3]) sc_z3.nd rfl rfl (by decide +kernel) rfl rfl rfl (fT (K:=K) rfl (pC c_zr hr (aA (pv 0) aC))) (fun _ _ _=>bW) (fun _ _ _=>(eQ (pv 1) T.o_Weave.cl m_zv G_zv (hr.mono (by decide)) b_zv .nil fX (aA (pv 2) (aA (pv 0) aC)))))
   (aF (aQ (aY (bP (K:=K) rfl) (by rfl) T.b_tuple boot_tuple (aA (cM (sc0:=aG Ep) (N:=["n","weave","numbers","head","goals"]) (ix:=[2]) (by decide +kernel) rfl rfl rfl (dF (K:=K) rfl (pv 4)) (fun _ _ _=>bW) (fun _ _ _=>(gW (aT wH (pv 0) eZ (aS _)) eZ (wB (m9 (t5 (by decide:1≤64) _) hr.units) (pv 1) (pv 0) (fun _ _=>rfl))))) aC))))),?_⟩
  obtain⟨on,hN⟩:=hN
  have htM:t ∉ M:=hW.out hN (by intro xs z;cases z) (by intro kvs z;cases z)
  have ll:(cS n).length=n:=(pO h1 h4).len
  have lln:(bE n).length=n:=cC h4
  refine⟨_,rfl,n,rfl,h1,h4,fun tl H1 htl s1 etl=>⟨tl,rfl,⟨_,SqT.of etl⟩,fun Dd hD=>?_⟩⟩
  have K1:Kept N0 hf φ ρ rk L p M H H1 Z Z:=(Kept.refl hW I).same s1
  have hDM:Dd ∉ M:=K1.at'.new hD
  have hDH:=K1.free hDM hD
  have tlM:tl ∉ M:=K1.at'.out etl (by intro xs z;cases z) (by intro kvs z;cases z)
  refine eW (xs:=cF (cS n)) (fun i H2=>∃ Z2,Kept N0 hf φ ρ rk L p M H H2 Z Z2∧H2 tl=some (.tup (cF (cS n)))∧H2 Dd=some (.lst (((bE n).take i).map fun c=>iI (gJ ρ Z s c)))) ⟨Z,K1.same (Same.new hD),by rw[aE (aJ etl hD)];exact etl,aB⟩ (fun i H2 _ ⟨_,_,h,_⟩=>SqT.of h) ?_ ?_
  ·rintro i v H2 hv ⟨Z2,K2,e2t,e2⟩
   obtain⟨rfl,hi⟩:=A4 h4 hv
   have hci:=EO hv
   obtain⟨es,hes⟩:∃ es,Z2.ws[s]?=some es:=⟨_,b0 (by rw[K2.wi.lw,K2.ln];exact hsl)⟩
   have hdl:gJ ρ Z s (97+i)=(dD es (97+i)).map fun r=>ρ r.1:=by
    unfold gJ
    rw[c5,← K2.ws,hes]
    rfl
   obtain⟨dx2,hd2,tn2,wy2,al2,a2⟩:=K2.at'.self
   refine⟨_,rfl,p,dx2,_,rfl,a2,iD _ _ _ _ (by decide +kernel) (by decide +kernel) (by decide +kernel) (by decide +kernel),_,rfl,_,rfl,hf,φ,ρ,rk,L,p,M,Z2,s,97+i,es,rfl,K2.at',K2.wi,hL,hes,fun H3 Z3 K3=>?_⟩
   have e3:=K3.fr _ _ e2 hDM
   have fin:∀ y,y=iI (gJ ρ Z s (97+i))→∃ ys,H3 Dd=some (.lst ys)∧ys.length<sizeLine∧∃ Z2,Kept N0 hf φ ρ rk L p M H (upd H3 Dd (.lst (ys++[y]))) Z Z2∧upd H3 Dd (.lst (ys++[y])) tl=some (.tup (cF (cS n)))∧upd H3 Dd (.lst (ys++[y])) Dd=some (.lst (((bE n).take (i+1)).map fun c=>iI (gJ ρ Z s c))):=fun y hy=>by
    refine⟨_,e3,?_,Z3,(K2.trans K3).set hDM hDH e3,?_,?_⟩
    ·rw[b7,j6];exact aP (by omega)
    ·rw[aE (bY (K3.fr _ _ e2t tlM) e3 (by intro z;cases z))];exact K3.fr _ _ e2t tlM
    ·rw[aB,t9,hci,i7,hy];rfl
   cases ew:dD es (97+i) with
   | none=>exact fin _ (by rw[hdl,ew];rfl)
   | some r=>exact fin _ (by rw[hdl,ew];rfl)
  ·rintro H2 ⟨Z2,K2,e2t,e2⟩
   rw[bN,ll,aQA (by omega)] at e2
   refine⟨_,rfl,Dd,rfl,⟨_,SqL.of e2⟩,fun Ee hE=>?_⟩
   have hEM:Ee ∉ M:=K2.at'.new hE
   have hN2:=K2.fr _ _ hN htM
   refine jM (xs:=(bE n).map fun c=>iI (gJ ρ Z s c)) (fun i H3=>Same H2 H3∧H3 Ee=some (.lst ((fK (gJ ρ Z) ((bE n).take i) ord s).map iI))) ⟨Same.new hE,aB⟩ (fun i H3 _ h=>SqL.of (h.1 _ _ e2)) ?_ ?_
   ·rintro i v H3 hv ⟨s3,e3⟩
    rw[c7] at hv
    obtain⟨c,hc,rfl⟩:=i6.mp hv
    have hi:i<n:=by have:=(a9.mp hc).1;omega
    have hcm:=dM h1 h4 (b8 hc)
    have fin:∀ y,y=iI ((gJ ρ Z s c).map fun g=>ord.idxOf g)→(HO.lst ((fK (gJ ρ Z) ((bE n).take i) ord s).map iI++[y]))=HO.lst ((fK (gJ ρ Z) ((bE n).take (i+1)) ord s).map iI):=fun y hy=>by
     rw[bF hc,hy]
     unfold fK
     rw[i7,i7]
     rfl
    have sm:((fK (gJ ρ Z) ((bE n).take i) ord s).map iI).length<sizeLine:=by
     unfold fK
     rw[b7,b7,j6];exact aP (by omega)
    cases ed:gJ ρ Z s c with
    | none =>
     refine⟨_,rfl,rfl,_,rfl,?_⟩
     refine⟨_,e3,sm,s3.upd hE,?_⟩
     rw[aB,fin _ (by rw[ed];rfl)]
    | some g =>
     refine⟨_,rfl,rfl,_,rfl,?_⟩
     have hg:DGet H3 t (.int ((g:Nat):Int)) (some (.int (ord.idxOf g:Nat))):=by
      have:=DGet.fk (k:=.inl ((g:Nat):Int)) (s3 _ _ hN2)
      rw[vP,if_pos (hmem c hcm g ed)] at this
      exact this
     refine⟨_,rfl,_,rfl,t,.int (ord.idxOf g:Nat),rfl,hg,?_⟩
     refine⟨_,e3,sm,s3.upd hE,?_⟩
     rw[aB,fin _ (by rw[ed];rfl)]
   ·rintro H3 ⟨s3,e3⟩
    rw[b7,l5] at e3
    refine⟨Ee,_,rfl,.inl ⟨SqL.of e3,fun q hq=>?_⟩⟩
    have K3:=(K2.same s3).same (Same.new (o:=HO.tup ((fK (gJ ρ Z) (bE n) ord s).map iI)) hq)
    exact k q _ Z2 K3 ((K2.same s3).free ((K2.same s3).at'.new hq) hq) aB
theorem JP{f:Addr}{fd:FuncData}(D:Df K mg "web_of" BJ ["n","words"] f fd)(T:Txt P w K mg NR NW NQ NY NX NS NT NV NU NZ N0 f_NoAlphabet fd_NoAlphabet)(c_zn:pQ P w K mg base N0 "__init__" ["self"] 1 (xL N0))(c_zo:pQ P w K mg base N0 "lay_word" ["self","word","told"] 5 (BS N0))(c_z5:pQ P w K mg base N0 "fold" ["self"] 6 (BY N0))(c_zd:Cl P w K mg base "numbers_of_heads" ["n","weave"] 7 (Bd N0))(c_z3:Cl P w K mg base "place_told" ["n","weave","numbers","head"] 7 (yY N0)):Cl P w K mg base "web_of" ["n","words"] 8 (EZ K):=by
 obtain⟨f_zn,fd_zn,G_zn,m_zn,b_zn⟩:=c_zn
 obtain⟨f_zo,fd_zo,G_zo,m_zo,b_zo⟩:=c_zo
 obtain⟨f_z5,fd_z5,G_z5,m_z5,b_z5⟩:=c_z5
 refine D.cl (D.F.ok sc_zl1 (fun vs H Q E h=>?_) (fun cdv A outer s H vs Q E hr h=>?_))
 ·obtain⟨n,a,rs,rfl,_⟩:=h
  rfl
 ·obtain⟨n,a,rs,rfl,h1,h4,ea,hlen,hall,k⟩:=h
  refine⟨_,(aD (aM (i:=2) sc_zl1.nd rfl (Or.inr rfl) (EJ (T.o_Weave.make m_zn) G_zn (hr.mono (by decide)) (by rfl) T.m_Weave b_zn .nil fX))
   (aD (cW l4 rfl (Hu (dF (K:=K) rfl (pv 1)) (fT (K:=K) rfl (pv 1))) (aX (i:=3) sc_zl1.nd rfl (Or.inl rfl)) (aF (cA (eQ (pv 2) T.o_Weave.cl m_zo G_zo (hr.mono (by decide)) b_zo .nil fX (aA (pv 3) (aA bV aC))))))
   (aD (cA (yM (pv 2) T.o_Weave.cl m_z5 G_z5 (hr.mono (by decide)) b_z5 .nil fX))
   (aD (aM (i:=4) sc_zl1.nd rfl (Or.inr rfl) (pC c_zd hr (aA (pv 0) (aA (pv 2) aC))))
   (aF (aQ (aY (bP (K:=K) rfl) (by rfl) T.b_tuple boot_tuple (aA (En (H0:=H) rfl (cM (sc0:=aG BJ) (N:=["n","words","weave","word","numbers"]) (ix:=[0,2,4]) (by decide +kernel) rfl rfl rfl (Ez (pv 4)) (fun _ _ _=>bW) (fun _ _ _=>(pC c_z3 hr (aA (pv 1) (aA (pv 2) (aA (pv 3) (aA (pv 0) aC)))))))) aC)))))))),?_⟩
  intro p dx hp hdx hne
  have hp0:upd (upd H dx (.own p)) p (.ins N0 dx []) p=some (.ins N0 dx []):=aB
  have sN:∀ b o,H b=some o→upd (upd H dx (.own p)) p (.ins N0 dx []) b=some o:=fun b o e=>by rw[aE (aJ e hp),aE (aJ e hdx)];exact e
  refine⟨p,dx,rfl,hp0,fun M H1 hM1 hW1 kp1=>⟨rfl,?_⟩⟩
  have s1:Same H H1:=fun b o e=>kp1 b o (sN b o e) (aJ e hp)
  have fr1:∀ x∈M,H x=none:=fun x hx=>by
   have:=hM1 x hx
   cases e:H x with
   | none=>rfl
   | some o=>rw[sN _ _ e] at this;cases this
  refine Ft (K:=K) (a:=a) (xs:=cF rs) (fun i σ H2=>∃ (v3:Option V) (M2:List Addr) (Z2:WvS) (φ2:Nat→List Nat) (E2:Nat→Nat→Nat→Prop),σ=[some (.int (n:Nat)),some (.ref a),some (.ref p),v3,none]∧Wat N0 H2 p M2 Z2∧(∀ x∈M2,H x=none)∧Same H H2∧WI (fun _=>[]) φ2 (fun x=>x) (fun _=>0) 0 Z2∧EI E2 (fun x=>x) Z2∧LI E2 (fun x=>x) Z2∧Me E2∧φ2 0=[]∧(∀ p c q,E2 p c q↔fC 1 (rs.take i) p c q)∧0<Z2.hs.length∧Z2.hs.length=Lu 1 (rs.take i)∧Z2.hs.length≤1+i * 80∧Z2.al.length≤i * 160) (fun Q q=>⟨_,rfl,q⟩) ea ?_ ?_ ?_ ?_
  ·exact⟨none,M,Ku,_,_,rfl,hW1,fr1,s1,WI.init (fun c _=>⟨AllL.nil,b9 _⟩),EI.init,⟨fun x=>.refl x,fun x t y z=>by cases z⟩,fun _ _ _ z=>z.elim,rfl,fun p c q=>Iff.rfl,(by decide),rfl,(by decide),(by decide)⟩
  ·rintro i σ H2 _ ⟨_,_,_,_,_,_,_,_,s2,_⟩
   exact s2
  ·rintro i v _ H2 hv ⟨v3,M2,Z2,φ2,E2,rfl,W2,fr2,s2,I2,X2,LI2,sy2,φ20,fe2,l0,ln,l1,l2⟩
   obtain⟨x,hx,rfl⟩:=gM hv
   have hi:i<rs.length:=(a9.mp hx).1
   obtain⟨xA,xl⟩:=hall x (b8 hx)
   have tk:rs.take (i+1)=rs.take i++[x]:=by rw[t9,hx];rfl
   obtain⟨dx2,hd2,tn2,wy2,al2,a2⟩:=W2.self
   have hH:∀ w:List Nat,Hw (fun _=>[]) w=[]:=fun w=>by unfold Hw;simp
   refine⟨_,rfl,p,dx2,_,rfl,a2,iD _ _ _ _ (by decide +kernel) (by decide +kernel) (by decide +kernel) (by decide +kernel),_,rfl,(fun _=>[]),φ2,(fun _=>0),0,p,M2,Z2,E2,x,[],rfl,W2,I2,X2,LI2,sy2,by decide,φ20,l0,by omega,by omega,xA,fun c _=>rfl,fun _=>by rw[hH];rfl,fun j _=>by rw[hH];exact b9 _,fun M3 H3 Z3 φ3 E3 W3 u3 f3 I3 X3 LI3 sy3 mo3 φ30 fw3 m1 m3=>?_⟩
   have s3:Same H H3:=fun b o e=>f3 b o (s2 _ _ e) fun z=>by rw[fr2 b z] at e;cases e
   refine⟨_,M3,Z3,φ3,E3,rfl,W3,fun y hy=>?_,s3,I3,X3,LI3,sy3,φ30,fun p' c' q'=>?_,by omega,?_,by omega,by omega⟩
   ·rcases u3 y hy with z | z
    ·exact fr2 y z
    ·exact s2.free z
   ·rw[tk,sC,mo3,fe2,← ln]
   ·rw[tk,zM,m1,ln]
  ·rintro _ H2 ⟨v3,M2,Z2,φ2,E2,rfl,W2,fr2,s2,I2,X2,LI2,sy2,φ20,fe2,l0,ln,l1,l2⟩
   rw[bN,l5] at fe2
   rw[bN] at l1 l2
   obtain⟨dx2,hd2,tn2,wy2,al2,a2⟩:=W2.self
   refine⟨_,rfl,p,dx2,_,rfl,a2,iD _ _ _ _ (by decide +kernel) (by decide +kernel) (by decide +kernel) (by decide +kernel),(fun _=>[]),φ2,(fun _=>0),0,p,M2,Z2,E2,rfl,W2,I2,X2,LI2,by decide,by omega,by omega,fun ρ rk3 H3 Z3 W3 I3 X3 LI3 al3 hid3 ln3 f3=>?_⟩
   have aut:=II I3 X3 LI3 al3 hid3 fe2 0
   have s3:Same H H3:=fun b o e=>f3 b o (s2 _ _ e) fun z=>by rw[fr2 b z] at e;cases e
   refine⟨_,rfl,_,rfl,(fun _=>[]),φ2,ρ,rk3,0,n,p,M2,Z3,rfl,h1,h4,W3,I3,by decide,by rw[ln3];exact l0,by rw[ln3];omega,fun t H4 Z4 K4 ht et hol hox=>?_⟩
   have hcl:=gL (δ:=gJ ρ Z3) (ls:=aK (n:Nat)) 1000 0 [ρ 0] (fun i s hi=>absurd hi (y4 _)) (by omega)
   have hweb:eE (fun s c=>if ρ s=s then gJ ρ Z3 s c else none) n (ρ 0) 1000=(cD (gJ ρ Z3) (aK (n:Nat)) 1000 0 [ρ 0]).map (fK (gJ ρ Z3) (bE n) (cD (gJ ρ Z3) (aK (n:Nat)) 1000 0 [ρ 0])):=(Fd hid3).symm
   generalize cD (gJ ρ Z3) (aK (n:Nat)) 1000 0 [ρ 0]=ord at et hol hox hcl hweb
   have htM:=W3.new ht
   have ht0:H t=none:=s3.free ht
   have sK:∀ {G:Hp} {Zg:WvS},Kept N0 (fun _=>[]) φ2 ρ rk3 0 p M2 H3 G Z3 Zg→Same H G:=fun K b o e=>K.fr b o (s3 _ _ e) fun z=>by rw[fr2 b z] at e;cases e
   refine⟨_,rfl,t,_,rfl,.inl ⟨et,fun o Dd hD=>?_⟩⟩
   have K5:=K4.setD (o:=HO.frz o (.dK (eY ord))) htM ht et
   have e5:upd H4 t (.frz o (.dK (eY ord))) t=some (.frz o (.dK (eY ord))):=aB
   generalize upd H4 t (.frz o (.dK (eY ord)))=H5 at K5 e5 hD
   have hDM:Dd ∉ M2:=K5.at'.new hD
   have hD3:H3 Dd=none:=K5.free hDM hD
   have htD:t≠Dd:=aJ e5 hD
   refine CJ (d:=t) (o:=o) (kvs:=eY ord) (fun i G=>∃ (Zg:WvS) (qs:List Addr),Kept N0 (fun _=>[]) φ2 ρ rk3 0 p M2 H3 G Z3 Zg∧G t=some (.frz o (.dK (eY ord)))∧qs.length=i∧G Dd=some (.lst (qs.map V.ref))∧∀ (j:Nat) (q:Addr) (s:Nat),qs[j]?=some q→ord[j]?=some s→G q=some (.tup ((fK (gJ ρ Z3) (bE n) ord s).map iI))) ⟨Z4,[],K5.same (Same.new hD),by rw[aE htD];exact e5,rfl,aB,fun j q s z=>by simp at z⟩ (fun i G _ ⟨_,_,_,h,_⟩=>h) ?_ ?_
   ·rintro i ky v G hk ⟨Zg,qs,Kg,eg,hql,eD,hqs⟩
    obtain⟨s,hs,rfl⟩:∃ s,ord[i]?=some s∧ky=.inl ((s:Nat):Int):=by
     unfold eY at hk
     rw[c7] at hk
     obtain⟨gk,hgk,e⟩:=i6.mp hk
     rw[aZc] at hgk
     obtain⟨s,hs,rfl⟩:=i6.mp hgk
     exact⟨s,hs,(aJ0 e).1.symm⟩
    have hsm:=b8 hs
    have hil:i<ord.length:=(a9.mp hs).1
    refine⟨_,rfl,_,rfl,_,rfl,_,rfl,(fun _=>[]),φ2,ρ,rk3,0,n,p,M2,Zg,t,s,ord,rfl,h1,h4,Kg.at',Kg.wi,by decide,by rw[Kg.ln];exact hox s hsm,⟨o,eg⟩,fun c hc g hg=>hcl s hsm c hc g (by rw[← yT Kg];exact hg),fun q G6 Z6 K6 hq eq=>?_⟩
    rw[yT Kg] at eq
    have eD6:=K6.fr _ _ eD hDM
    have eg6:=K6.fr _ _ eg htM
    refine⟨_,eD6,by rw[b7,hql];exact aP (by omega),Z6,qs++[q],(Kg.trans K6).set hDM hD3 eD6,by rw[aE htD];exact eg6,by rw[c6,hql];rfl,by rw[aB,i7];rfl,fun j q' s' hj hs'=>?_⟩
    rcases eG hj with ⟨z,hj⟩ | ⟨z,rfl⟩
    ·have e0:=hqs j q' s' hj hs'
     have e6:=K6.fr _ _ e0 (Kg.at'.out e0 (by intro xs z;cases z) (by intro kvs z;cases z))
     rw[aE (bY e6 eD6 (by intro z;cases z))]
     exact e6
    ·rw[z,hql,hs] at hs'
     cases hs'
     rw[aE (bY eq eD6 (by intro z;cases z))]
     exact eq
   ·rintro G ⟨Zg,qs,Kg,eg,hql,eD,hqs⟩
    refine⟨_,.inr ⟨t,o,_,eg,fun o v z=>(by rw[ht0] at z;cases z),rfl⟩,?_⟩
    have s6:Same H (upd G t (.dK (eY ord))):=(sK Kg).upd ht0
    have eD6:upd G t (.dK (eY ord)) Dd=some (.lst (qs.map V.ref)):=by rw[aE htD.symm];exact eD
    refine⟨Dd,_,rfl,.inl ⟨SqL.of eD6,fun r hr=>k r _ ρ _ (s6.upd' hr) aut hid3 ⟨qs,aB,?_,fun i q row hq hrow=>?_⟩ (by rw[hweb,b7];exact hol)⟩⟩
    ·rw[hweb,b7,hql,xW]
    ·rw[hweb,c7] at hrow
     obtain⟨s,hs,rfl⟩:=i6.mp hrow
     have e0:=hqs i q s hq hs
     have e6:upd G t (.dK (eY ord)) q=_:=(aE (bY e0 eg (by intro z;cases z))).trans e0
     rw[aE (aJ e6 hr)]
     exact e6
theorem Ks{f:Addr}{fd:FuncData}(D:Df K mg "_law_two_places" Jd ["_law_ways"] f fd)(T:Txt P w K mg NR NW NQ NY NX NS NT NV NU NZ N0 f_NoAlphabet fd_NoAlphabet):Cl P w K mg base "_law_two_places" ["_law_ways"] 1 (AH K):=by
 refine D.cl (D.F.ok sc_zp (fun vs H Q E h=>?_) (fun cdv A outer s H vs Q E hr h=>?_))
 ·obtain⟨l,vs',ws,rfl,_⟩:=h
  rfl
 ·obtain⟨l,vs',ws,rfl,el,hlen,hvs,hl200,hlow,kd,kc⟩:=h
  refine⟨_,(aD (aM (i:=1) sc_zp.nd rfl (Or.inl rfl) rB)
   (aD (cW l4 rfl (dF (K:=K) rfl (pv 0)) (hJ (K:=K) rfl rfl (bK (aX (i:=2) sc_zp.nd rfl (Or.inl rfl)) (bK (aX (i:=3) sc_zp.nd rfl (Or.inl rfl)) (bK (aX (i:=4) sc_zp.nd rfl (Or.inl rfl)) fH)))) (aF (cW l4 rfl (dF (K:=K) rfl (cP (aA (bH (aA (bH (aA (pv 2) (aA (pv 3) aC))) (aA (pv 4) aC))) (aA (bH (aA (bH (aA (pv 4) (aA (dH (K:=K) rfl k7 aQ3 aQ4 kI (pv 3)) aC))) (aA (pv 2) aC))) aC)))) (hJ (K:=K) rfl rfl (bK (aX (i:=5) sc_zp.nd rfl (Or.inl rfl)) (bK (aX (i:=6) sc_zp.nd rfl (Or.inl rfl)) fH))) (aF (cR (aT jV (Ci (m9 (t5 (by decide:1≤64) _) hr.units) (pv 1) (pv 5) (pv 6) ⟨rfl,rfl,rfl,rfl⟩) (pv 6) (aS _)) (aF (aQ (bH (aA (wB (m9 (t5 (by decide:1≤64) _) hr.units) (pv 1) (pv 5) (fun _ _=>rfl)) (aA (pv 6) aC))))) bI)))))
   (aF (aQ eZ)))),?_⟩
  intro d hd
  have s1:=Same.new (o:=HO.dT []) hd
  have ed:upd H d (.dT []) d=some (.dT []):=aB
  generalize upd H d (.dT [])=H1 at s1 ed
  refine⟨_,rfl,l,rfl,⟨_,SqL.of (s1 _ _ el)⟩,fB (K:=K) (a:=l) (xs:=vs') (fun i σ H2=>∃ (v2 v3 v4 v5 v6:Option V) (kvs:List (List cQ×V)) (g:Nat→Nat→Option Nat),σ=[some (.ref l),some (.ref d),v2,v3,v4,v5,v6]∧Same H H2∧H2 d=some (.dT kvs)∧TabW kvs g∧kvs.length≤2 * i∧MX ws g∧∀ e∈ws.take i,g e.1 e.2.1=some e.2.2∧g e.2.2 (con e.2.1)=some e.1) ⟨none,none,none,none,none,[],_,rfl,s1,ed,TabW.nil,b9 _,fun p c q z=>(by cases z),fun e he=>(by simp at he)⟩ (fun i σ H2 _ ⟨_,_,_,_,_,_,_,_,s2,_⟩=>SqL.of (s2 _ _ el)) ?_ ?_⟩
  ·rintro i v _ H2 hv ⟨v2,v3,v4,v5,v6,kvs,g,rfl,s2,ed2,tb,kl,go,full⟩
   obtain⟨e,he⟩:∃ e,ws[i]?=some e:=⟨_,b0 (by rw[← hlen];exact(a9.mp hv).1)⟩
   obtain⟨t,rfl,et⟩:=hvs i v e hv he
   have hem:=b8 he
   obtain⟨eL,elo⟩:=hlow e hem
   have et2:=s2 _ _ et
   refine⟨t,_,rfl,.inr (SqT.of et2),rfl,_,_,rfl,_,_,rfl,_,_,rfl,rfl,?_⟩
   have hd0:H d=none:=hd
   refine⟨_,rfl,_,rfl,aI (by simp),fun k1 hk1=>?_⟩
   have s3:=Same.new (o:=HO.tup [.int ((e.1:Nat):Int),.str (S [e.2.1])]) hk1
   have e3:upd H2 k1 (.tup [.int ((e.1:Nat):Int),.str (S [e.2.1])]) k1=some (.tup ((dY e.1 e.2.1).map kV)):=aB
   generalize upd H2 k1 (.tup [.int ((e.1:Nat):Int),.str (S [e.2.1])])=H3 at s3 e3
   refine⟨_,rfl,aI (by simp),fun k2 hk2=>?_⟩
   have s4:=Same.new (o:=HO.tup [.ref k1,.int ((e.2.2:Nat):Int)]) hk2
   have e4:upd H3 k2 (.tup [.ref k1,.int ((e.2.2:Nat):Int)]) k2=some (.tup [.ref k1,.int ((e.2.2:Nat):Int)]):=aB
   generalize upd H3 k2 (.tup [.ref k1,.int ((e.2.2:Nat):Int)])=H4 at s4 e4
   refine⟨_,rfl,_,rfl,rfl,S [e.2.1],rfl,rfl,by rw[fW eL elo];exact nS _,?_⟩
   rw[fW eL elo]
   refine⟨aI (by simp),fun k3 hk3=>?_⟩
   have s5:=Same.new (o:=HO.tup [.int ((e.2.2:Nat):Int),.str (S [con e.2.1])]) hk3
   have e5:upd H4 k3 (.tup [.int ((e.2.2:Nat):Int),.str (S [con e.2.1])]) k3=some (.tup ((dY e.2.2 (con e.2.1)).map kV)):=aB
   generalize upd H4 k3 (.tup [.int ((e.2.2:Nat):Int),.str (S [con e.2.1])])=H5 at s5 e5
   refine⟨_,rfl,aI (by simp),fun k4 hk4=>?_⟩
   have s6:=Same.new (o:=HO.tup [.ref k3,.int ((e.1:Nat):Int)]) hk4
   have e6:upd H5 k4 (.tup [.ref k3,.int ((e.1:Nat):Int)]) k4=some (.tup [.ref k3,.int ((e.1:Nat):Int)]):=aB
   generalize upd H5 k4 (.tup [.ref k3,.int ((e.1:Nat):Int)])=H6 at s6 e6
   refine⟨aI (by simp),fun L hL=>?_⟩
   have s7:=Same.new (o:=HO.lst [.ref k2,.ref k4]) hL
   have e7:upd H6 L (.lst [.ref k2,.ref k4]) L=some (.lst [.ref k2,.ref k4]):=aB
   generalize upd H6 L (.lst [.ref k2,.ref k4])=H7 at s7 e7
   have s27:=(((s3.trans s4).trans s5).trans s6).trans s7
   have d7:=s27 _ _ ed2
   have e37:=(((s4.trans s5).trans s6).trans s7) _ _ e3
   have e47:=((s5.trans s6).trans s7) _ _ e4
   have e57:=(s6.trans s7) _ _ e5
   have e67:=s7 _ _ e6
   have sH7:=s2.trans s27
   have items:∀ (j:Nat) (x:V),[V.ref k2,.ref k4][j]?=some x→∃ (t k:Addr) (a c pl:Nat),x=.ref t∧H7 t=some (.tup [.ref k,.int (pl:Nat)])∧H7 k=some (.tup ((dY a c).map kV))∧kZ ws a c pl∧((j=0∧a=e.1∧c=e.2.1∧pl=e.2.2)∨(j=1∧a=e.2.2∧c=con e.2.1∧pl=e.1)):=fun j x hx=>by
    match j,hx with
    | 0,hx=>cases hx;exact⟨k2,k1,e.1,e.2.1,e.2.2,rfl,e47,e37,.inl hem,.inl ⟨rfl,rfl,rfl,rfl⟩⟩
    | 1,hx=>cases hx;exact⟨k4,k3,e.2.2,con e.2.1,e.1,rfl,e67,e57,.inr ⟨e.2.1,rfl,hem⟩,.inr ⟨rfl,rfl,rfl,rfl⟩⟩
   refine⟨L,rfl,⟨_,SqL.of e7⟩,fB (K:=K) (a:=L) (xs:=[.ref k2,.ref k4]) (fun j σ G=>∃ (v5 v6:Option V) (kvs:List (List cQ×V)) (g:Nat→Nat→Option Nat),σ=[some (.ref l),some (.ref d),some (.int (e.1:Nat)),some (.str (S [e.2.1])),some (.int (e.2.2:Nat)),v5,v6]∧(∀ b o,H7 b=some o→b≠d→G b=some o)∧G d=some (.dT kvs)∧TabW kvs g∧kvs.length≤2 * i+j∧MX ws g∧(∀ e∈ws.take i,g e.1 e.2.1=some e.2.2∧g e.2.2 (con e.2.1)=some e.1)∧(1≤j→g e.1 e.2.1=some e.2.2)∧(2≤j→g e.2.2 (con e.2.1)=some e.1)) ⟨_,_,kvs,g,rfl,fun b o z _=>z,d7,tb,kl,go,full,fun z=>(by omega),fun z=>(by omega)⟩ (fun j σ G _ ⟨_,_,_,_,_,f,_⟩=>SqL.of (f _ _ e7 (bY e7 d7 (by intro z;cases z)))) ?_ ?_⟩
   ·rintro j x _ G hx ⟨v5,v6,kvs,g,rfl,f,dG,tb,kl,go,full,f1,f2⟩
    obtain⟨t,k,a,c,pl,rfl,et',ek,hE,hcase⟩:=items j x hx
    have hj:j<2:=(a9.mp hx).1
    have hi200:i<200:=by have:=(a9.mp he).1;omega
    have etG:=f _ _ et' (bY et' d7 (by intro z;cases z))
    have ekG:=f _ _ ek (bY ek d7 (by intro z;cases z))
    have sHG:Same H G:=fun b o z=>f b o (sH7 b o z) (aJ z hd0)
    have tba:=tb a c
    refine⟨t,_,rfl,.inr (SqT.of etG),rfl,_,_,rfl,_,_,rfl,rfl,?_⟩
    refine⟨_,rfl,d,rfl,.inr ⟨kvs,.inl dG⟩,_,rfl,_,rfl,kvs,dY a c,k,dG,aP (by omega),rfl,ekG,fun v hv=>?_,fun hn=>?_⟩
    ·cases eg:g a c with
     | none=>rw[eg] at tba;rw[tba] at hv;cases hv
     | some q =>
      rw[eg] at tba
      rw[tba] at hv
      cases hv
      refine⟨_,rfl,rfl,_,rfl,?_⟩
      by_cases hq:q=pl
      ·subst hq
       rw[decide_eq_true rfl]
       refine fQ ⟨_,_,kvs,g,rfl,f,dG,tb,by omega,go,full,fun z=>?_,fun z=>?_⟩
       ·rcases hcase with ⟨rfl,rfl,rfl,rfl⟩ | ⟨rfl,_⟩
        ·exact eg
        ·exact f1 (by omega)
       ·rcases hcase with ⟨rfl,_⟩ | ⟨rfl,rfl,rfl,rfl⟩
        ·omega
        ·exact eg
      ·rw[decide_eq_false (fun z=>hq (by have:=V.int.inj z;omega))]
       have hg:DGet G d (.ref k) (some (.int (q:Nat))):=by
        have:=DGet.t (k:=dY a c) dG ekG
        rw[tba] at this
        exact this
       refine gY ⟨_,rfl,_,rfl,d,.int (q:Nat),rfl,hg,_,rfl,aI (by simp),fun p hp=>?_⟩
       exact kc q pl p _ (sHG.trans (Same.new hp)) hq ⟨a,c,go a c q eg,hE⟩ aB
    ·have eg:g a c=none:=by
      rw[hn] at tba
      cases eg:g a c with
      | none=>rfl
      | some q=>rw[eg] at tba;cases tba
     refine⟨_,rfl,rfl,_,rfl,?_⟩
     rw[decide_eq_true rfl]
     have keep:∀ {x y q:Nat},g x y=some q→(if x=a∧y=c then some pl else g x y)=some q:=fun {x y q} z=>by
      rw[if_neg (fun w=>by rw[w.1,w.2,eg] at z;cases z)]
      exact z
     refine fQ ⟨_,_,_,_,rfl,fun b o z n=>by rw[aE n];exact f b o z n,aB,tb.put a c pl,by have:=cX kvs (dY a c) (V.int (pl:Nat));omega,fun x y q z=>?_,fun e' he'=>⟨keep (full e' he').1,keep (full e' he').2⟩,fun z=>?_,fun z=>?_⟩
     ·dsimp only at z
      split at z
      ·rename_i w
       cases z
       rw[w.1,w.2]
       exact hE
      ·exact go x y q z
     ·rcases hcase with ⟨rfl,rfl,rfl,rfl⟩ | ⟨rfl,_⟩
      ·exact if_pos ⟨rfl,rfl⟩
      ·exact keep (f1 (by omega))
     ·rcases hcase with ⟨rfl,_⟩ | ⟨rfl,rfl,rfl,rfl⟩
      ·omega
      ·exact if_pos ⟨rfl,rfl⟩
   ·rintro _ G ⟨v5,v6,kvs,g,rfl,f,dG,tb,kl,go,full,f1,f2⟩
    refine⟨_,_,_,_,_,kvs,g,rfl,fun b o z=>f b o (sH7 b o z) (aJ z hd0),dG,tb,by simp at kl;omega,go,fun e' he'=>?_⟩
    rw[t9,he] at he'
    rcases j9.mp he' with z | z
    ·exact full e' z
    ·have:e'=e:=by simpa using z
     subst this
     exact⟨f1 (by simp),f2 (by simp)⟩
  ·rintro _ H2 ⟨v2,v3,v4,v5,v6,kvs,g,rfl,s2,ed2,tb,kl,go,full⟩
   rw[hlen,l5] at full
   refine kd H2 s2 fun p c q q' h1 h2=>?_
   have key:∀ {q},kZ ws p c q→g p c=some q:=fun {q} hq=>by
    rcases hq with z | ⟨d',rfl,z⟩
    ·exact(full _ z).1
    ·exact(full _ z).2
   have:=(key h1).symm.trans (key h2)
   exact j1 this
theorem Jz{f:Addr}{fd:FuncData}(D:Df K mg "_law_web" tR ["_law_n","_law_some"] f fd)(T:Txt P w K mg NR NW NQ NY NX NS NT NV NU NZ N0 f_NoAlphabet fd_NoAlphabet)(c_z1:Cl P w K mg base "_law_letters" ["_law_n"] 1 kX)(c_zp:Cl P w K mg base "_law_two_places" ["_law_ways"] 1 (AH K)):Cl P w K mg base "_law_web" ["_law_n","_law_some"] 2 (FB K):=by
 refine D.cl (D.F.ok sc_zk1 (fun vs H Q E h=>?_) (fun cdv A outer s H vs Q E hr h=>?_))
 ·obtain⟨n,a,rs,rfl,_⟩:=h
  rfl
 ·obtain⟨n,a,rs,rfl,h1,h4,ea,hl,hw,hs,kq⟩:=h
  refine⟨_,(aD (aM (i:=2) sc_zk1.nd rfl (Or.inl rfl) (cP aC))
   (aD (aM (i:=3) sc_zk1.nd rfl (Or.inl rfl) aH)
   (aD (cW l4 rfl (Hu (dF (K:=K) rfl (pv 1)) (fT (K:=K) rfl (pv 1))) (aX (i:=4) sc_zk1.nd rfl (Or.inl rfl)) (aD (aM (i:=5) sc_zk1.nd rfl (Or.inr rfl) aH)
   (aF (cW l4 rfl (Bf (by rfl) T.b_enumerate (aA (pv 4) aC)) (hJ (K:=K) rfl rfl (bK (aX (i:=6) sc_zk1.nd rfl (Or.inl rfl)) (bK (aX (i:=7) sc_zk1.nd rfl (Or.inl rfl)) fH))) (aD (aM (i:=8) sc_zk1.nd rfl (Or.inl rfl) (bG kB (pv 3) (aY gU (by rfl) T.b_int boot_int (aA (dI BH (pv 6) (bG Av (aL eJ (by rfl) T.b_len m4 (aA (pv 4) aC)) aH) (aS _)) aC))))
   (aD (aM (i:=3) sc_zk1.nd rfl (Or.inl rfl) (bG fI (pv 3) aH))
   (aD (cA (cO (K:=K) rfl j7 o0 o6 bX (pv 2) (aA (aV (aO (K:=K) rfl) (cP (aA (bH (aA (pv 5) (aA (pv 7) (aA (pv 8) aC)))) (aA (bH (aA (pv 8) (aA (dH (K:=K) rfl k7 aQ5 aQ6 jO (pv 7)) (aA (pv 5) aC)))) aC))) (aY gU (by rfl) T.b_int boot_int (aA (dH (K:=K) rfl k7 aXR aXS lL (pv 7)) aC)) (fun _ _=>rfl)) aC)))
   (aF (aM (i:=5) sc_zk1.nd rfl (Or.inr rfl) (pv 8))))))))))
   (aD (aM (i:=9) sc_zk1.nd rfl (Or.inr rfl) (pC c_zp hr (aA (pv 2) aC)))
   (aD (kK l4 (aT vX (pv 9) eZ (aS _)) (aD (Cz (i:=2) sc_zk1.nd rfl rfl (sc0:=aG tR) (N:=["_law_n","_law_some","_law_ways","_law_many","_law_word_here","_law_here","_law_k","_law_letter","_law_there","_law_two","_law_goes","_law_order","_law_at","_law_found","_law_row"]) (ix:=[9]) (by decide +kernel) (K:=K) rfl rfl rfl rfl (dF (K:=K) rfl (pv 2)) (fun _ _ _=>bW) (fun _ _ _=>(bH (aA (gW (aT eM (pv 0) (aL (qV (K:=K) rfl rfl) (by rfl) T.b_max boot_max (aA (pv 3) aC)) (aS _)) (aL (qS (K:=K) rfl rfl) (by rfl) T.b_min boot_min (aA (pv 3) aC)) (pv 0)) (aA (pv 1) (aA (gW (aT eM (pv 2) (aL (qV (K:=K) rfl rfl) (by rfl) T.b_max boot_max (aA (pv 3) aC)) (aS _)) (aL (qS (K:=K) rfl rfl) (by rfl) T.b_min boot_min (aA (pv 3) aC)) (pv 2)) aC))))))
   (aF (aM (i:=9) sc_zk1.nd rfl (Or.inr rfl) (pC c_zp hr (aA (pv 2) aC))))))
   (aD (aM (i:=10) sc_zk1.nd rfl (Or.inr rfl) rB)
   (aD (cW l4 rfl (dF (K:=K) rfl (pv 2)) (hJ (K:=K) rfl rfl (bK (aX (i:=5) sc_zk1.nd rfl (Or.inr rfl)) (bK (aX (i:=7) sc_zk1.nd rfl (Or.inl rfl)) (bK (aX (i:=8) sc_zk1.nd rfl (Or.inl rfl)) fH)))) (aD (mF (m9 (t5 (by decide:1≤64) _) hr.units) (pv 10) (bH (aA (pv 5) (aA (pv 7) aC))) (pv 8) (by rfl))
   (aF (mF (m9 (t5 (by decide:1≤64) _) hr.units) (pv 10) (bH (aA (pv 8) (aA (dH (K:=K) rfl k7 aQ3 aQ4 kI (pv 7)) aC))) (pv 5) (by rfl)))))
   (aD (aM (i:=11) sc_zk1.nd rfl (Or.inr rfl) (cP (aA aH aC)))
   (aD (aM (i:=12) sc_zk1.nd rfl (Or.inl rfl) aH)
   (aD (kK l4 (aT BH (pv 12) (aL (bM (K:=K) rfl) (by rfl) T.b_len m4 (aA (pv 11) aC)) (aS _)) (aD (cW l4 rfl (dF (K:=K) rfl (pC c_z1 hr (aA (pv 0) aC))) (aX (i:=7) sc_zk1.nd rfl (Or.inl rfl)) (aF (cR (aT (CO (K:=K) rfl) (xN (m9 (t5 (by decide:1≤64) _) hr.units) (pv 10) (bH (aA (aV (aO (K:=K) rfl) (pv 11) (pv 12) (fun _ _=>rfl)) (aA (pv 7) aC))) aH ⟨rfl,rfl,rfl,rfl⟩) (pv 11) (by rfl)) (aF (cA (cO (K:=K) rfl j7 o0 o6 bX (pv 11) (aA (wB (m9 (t5 (by decide:1≤64) _) hr.units) (pv 10) (bH (aA (aV (aO (K:=K) rfl) (pv 11) (pv 12) (fun _ _=>rfl)) (aA (pv 7) aC))) (fun _ _=>rfl)) aC)))) bI)))
   (aF (aM (i:=12) sc_zk1.nd rfl (Or.inl rfl) (bG fI (pv 12) aH)))))
   (aD (aM (i:=13) sc_zk1.nd rfl (Or.inl rfl) (cP aC))
   (aD (cW l4 rfl (dF (K:=K) rfl (pv 11)) (aX (i:=5) sc_zk1.nd rfl (Or.inr rfl)) (aD (lV (i:=14) (sc0:=aG tR) (N:=["_law_n","_law_some","_law_ways","_law_many","_law_word_here","_law_here","_law_k","_law_letter","_law_there","_law_two","_law_goes","_law_order","_law_at","_law_found","_law_row"]) (ix:=[5,10]) sc_zk1.nd rfl rfl (by decide +kernel) rfl rfl rfl (iM (eO jQ bV fF (eT (pv 0)))) (fun _ _ _=>bW) (fun _ _ _=>(xN (m9 (t5 (by decide:1≤64) _) hr.units) (pv 2) (bH (aA (pv 1) (aA (pv 0) aC))) eZ ⟨rfl,rfl,rfl,rfl⟩)))
   (aF (cA (cO (K:=K) rfl j7 o0 o6 bX (pv 13) (aA (aY (bP (K:=K) rfl) (by rfl) T.b_tuple boot_tuple (aA (cM (sc0:=aG tR) (N:=["_law_n","_law_some","_law_ways","_law_many","_law_word_here","_law_here","_law_k","_law_letter","_law_there","_law_two","_law_goes","_law_order","_law_at","_law_found","_law_row"]) (ix:=[11]) (by decide +kernel) rfl rfl rfl (dF (K:=K) rfl (pv 14)) (fun _ _ _=>bW) (fun _ _ _=>(gW (aT wH (pv 0) eZ (aS _)) eZ (cO (K:=K) rfl j7 aQj aZU (zZ (K:=K) rfl) (pv 1) (aA (pv 0) aC))))) aC)) aC))))))
   (aF (aQ (aY (bP (K:=K) rfl) (by rfl) T.b_tuple boot_tuple (aA (pv 13) aC)))))))))))))))),?_⟩
  refine⟨aI (by simp),fun l hl0=>?_⟩
  have s1:=Same.new (o:=HO.lst []) hl0
  have el:upd H l (.lst []) l=some (.lst []):=aB
  generalize upd H l (.lst [])=H1 at s1 el
  refine Ft (K:=K) (a:=a) (xs:=cF rs) (fun i σ H2=>∃ (v4 v5 v6 v7 v8:Option V),σ=[some (.int (n:Nat)),some (.ref a),some (.ref l),some (.int (jX 1 (rs.take i):Nat)),v4,v5,v6,v7,v8,none,none,none,none,none,none]∧Same H H2∧WyL H2 l (fJ 1 (rs.take i))) (fun Q q=>⟨_,rfl,q⟩) ea ⟨none,none,none,none,none,rfl,s1,[],el,rfl,fun i v e z=>by simp at z⟩ (fun i σ H2 _ ⟨_,_,_,_,_,_,s2,_⟩=>s2) ?_ ?_
  ·rintro i v _ H2 hv ⟨v4,v5,v6,v7,v8,rfl,s2,hW⟩
   obtain⟨x,hx,rfl⟩:=gM hv
   have hxA:=hw x (b8 hx)
   have tk:rs.take (i+1)=rs.take i++[x]:=by rw[t9,hx];rfl
   rw[tk,qK,uR]
   have hsum:((rs.take i).map List.length).sum+x.length≤100:=by
    have:((rs.take (i+1)).map List.length).sum≤(rs.map List.length).sum:=by
     conv=>rhs;rw[← aQP (i+1) rs,i7,aJk]
     omega
    rw[tk,i7,aJk,i8,aQE,aXO,List.sum_nil] at this
    omega
   have hwl:(fJ 1 (rs.take i)).length+x.length≤100:=by rw[nH];exact hsum
   have hB:jX 1 (rs.take i)+x.length≤101:=by rw[mD];omega
   generalize hBe:jX 1 (rs.take i)=B at hB
   generalize fJ 1 (rs.take i)=ws0 at hW hwl
   refine⟨_,rfl,S x,rfl,zH (w:=x) (fun k σ H3=>∃ (v6 v7 v8:Option V),σ=[some (.int (n:Nat)),some (.ref a),some (.ref l),some (.int ((B+k:Nat):Int)),some (.str (S x)),some (.int (cJ B x.length k:Nat)),v6,v7,v8,none,none,none,none,none,none]∧Same H H3∧WyL H3 l (ws0++(sD B x).take k)) ?_ ?_ ?_⟩
   ·exact⟨v6,v7,v8,by unfold cJ;rw[if_pos (.inl rfl)];rfl,s2,by rw[List.take_zero,m7];exact hW⟩
   ·rintro k c q _ H3 hc hq ⟨v6,v7,v8,rfl,s3,hW3⟩
    have hcL:=hxA c (b8 hc)
    have hk:k<x.length:=(a9.mp hc).1
    have s4:=Same.new (o:=HO.tup [.int ((k:Nat):Int),.str (S [c])]) hq
    refine⟨q,_,rfl,.inr (SqT.of aB),rfl,_,_,rfl,_,_,rfl,rfl,?_⟩
    generalize upd H3 q (.tup [.int ((k:Nat):Int),.str (S [c])])=H4 at s4
    obtain⟨ws,e4l,hlen4,hitems⟩:=hW3.same s4
    have hwl4:ws.length<sizeLine:=by rw[hlen4,c6,j6,pT];exact aP (by omega)
    have hth:V.int (((B+k:Nat):Int) * (if decide ((k:Int)<(((S x).length:Nat):Int) - 1)=true then 1 else 0))=V.int ((cJ B x.length (k+1):Nat):Int):=by
     rw[cH]
     congr 1
     unfold cJ
     by_cases z:k+1=x.length
     ·rw[if_neg (by simp;omega),if_pos (.inr z)];simp
     ·rw[if_pos (by simp;omega),if_neg (by omega)];simp
    refine⟨_,rfl,_,rfl,_,rfl,S x,rfl,aI (by rw[cH];omega),_,_,rfl,rfl,_,_,rfl,rfl,.inr ⟨_,rfl,?_⟩⟩
    refine⟨_,_,rfl,rfl,.inl ⟨by omega,by omega⟩,?_⟩
    dsimp only
    rw[hth]
    refine⟨_,rfl,_,_,rfl,rfl,?_⟩
    refine⟨_,rfl,.inl ⟨rfl,_,SqL.of e4l⟩,_,rfl,_,rfl,_,rfl,aI (by simp),fun k1 hk1=>?_⟩
    have s5:=Same.new (o:=HO.tup [.int ((cJ B x.length k:Nat):Int),.str (S [c]),.int ((cJ B x.length (k+1):Nat):Int)]) hk1
    have e5:upd H4 k1 (.tup [.int ((cJ B x.length k:Nat):Int),.str (S [c]),.int ((cJ B x.length (k+1):Nat):Int)]) k1=some (.tup [.int ((cJ B x.length k:Nat):Int),.str (S [c]),.int ((cJ B x.length (k+1):Nat):Int)]):=aB
    generalize upd H4 k1 (.tup [.int ((cJ B x.length k:Nat):Int),.str (S [c]),.int ((cJ B x.length (k+1):Nat):Int)])=H5 at s5 e5
    have hc1:AllL [c]:=fun d hd=>by rw[d6.mp hd];exact hcL
    refine⟨_,rfl,_,rfl,rfl,S [c],rfl,rfl,kQ [c] hc1 (by simp),?_⟩
    rw[gS hc1]
    refine⟨_,rfl,aI (by simp),fun k2 hk2=>?_⟩
    have s6:=Same.new (o:=HO.tup [.int ((cJ B x.length (k+1):Nat):Int),.str (S [lo c]),.int ((cJ B x.length k:Nat):Int)]) hk2
    have e6:upd H5 k2 (.tup [.int ((cJ B x.length (k+1):Nat):Int),.str (S [lo c]),.int ((cJ B x.length k:Nat):Int)]) k2=some (.tup [.int ((cJ B x.length (k+1):Nat):Int),.str (S [lo c]),.int ((cJ B x.length k:Nat):Int)]):=aB
    generalize hH6:upd H5 k2 (.tup [.int ((cJ B x.length (k+1):Nat):Int),.str (S [lo c]),.int ((cJ B x.length k:Nat):Int)])=H6 at s6 e6
    refine⟨aI (by simp),fun L hL=>?_⟩
    have hL6:H6 L=none:=by rw[← hH6];exact hL
    have s7:=Same.new (o:=HO.lst [.ref k1,.ref k2]) hL6
    have e7:upd H6 L (.lst [.ref k1,.ref k2]) L=some (.lst [.ref k1,.ref k2]):=aB
    rw[show upd (upd H5 k2 (.tup [.int ((cJ B x.length (k+1):Nat):Int),.str (S ([c].map lo)),.int ((cJ B x.length k:Nat):Int)])) L (.lst [.ref k1,.ref k2])=upd H6 L (.lst [.ref k1,.ref k2]) by rw[← hH6];rfl]
    generalize upd H6 L (.lst [.ref k1,.ref k2])=H7 at s7 e7
    have s47:=(s5.trans s6).trans s7
    have e4l7:=s47 _ _ e4l
    have it7:∀ (i:Nat) (v:V) (e:Wy),ws[i]?=some v→(ws0++(sD B x).take k)[i]?=some e→IsWy H7 v e:=fun i v e z1 z2=>(hitems i v e z1 z2).same s47
    have sH7:=(s3.trans s4).trans s47
    have hcast:V.int (((B+k:Nat):Int)+1)=V.int ((B+(k+1):Nat):Int):=by congr 1
    refine⟨_,rfl,rfl,S [c],rfl,rfl,.inr ⟨_,rfl,?_⟩⟩
    rw[nJ hcL]
    have fin:∀ (t:Addr),H7 t=some (.tup [.int ((iB B x.length k c).1:Nat),.str (S [(iB B x.length k c).2.1]),.int ((iB B x.length k c).2.2:Nat)])→WyL (upd H7 l (.lst (ws++[.ref t]))) l (ws0++(sD B x).take (k+1)):=fun t ht=>by
     have:=WyL.snoc e4l7 hlen4 it7 ht
     rw[EQ hc,← l6]
     exact this
    cases hlo:bC c with
    | true =>
     have hwy:iB B x.length k c=(cJ B x.length k,c,cJ B x.length (k+1)):=by unfold iB;rw[if_pos hlo]
     refine⟨L,_,0,.ref k1,rfl,rfl,SqL.of e7,rfl,l,_,_,rfl,rfl,e4l7,hwl4,_,rfl,_,_,_,by rw[← hcast];rfl,sH7.upd hl0,fin k1 ?_⟩
     rw[hwy]
     exact(s6.trans s7) _ _ e5
    | false =>
     have hwy:iB B x.length k c=(cJ B x.length (k+1),con c,cJ B x.length k):=by unfold iB;rw[if_neg (by rw[hlo];simp)]
     have hlc:lo c=con c:=by
      rcases iY hcL with ⟨_,z⟩ | ⟨z,_⟩
      ·rw[hlo] at z;cases z
      ·exact z
     refine⟨L,_,1,.ref k2,rfl,rfl,SqL.of e7,rfl,l,_,_,rfl,rfl,e4l7,hwl4,_,rfl,_,_,_,by rw[← hcast];rfl,sH7.upd hl0,fin k2 ?_⟩
     rw[hwy,← hlc]
     exact s7 _ _ e6
   ·rintro _ H3 ⟨v6,v7,v8,rfl,s3,hW3⟩
    rw[aQA (by rw[pT];exact b9 _)] at hW3
    exact⟨_,_,_,_,_,rfl,s3,hW3⟩
  ·rintro _ H2 ⟨v4,v5,v6,v7,v8,rfl,s2,hW⟩
   rw[bN,l5] at hW
   have nu0:=NuI.init hw hs
   have hwl:(fJ 1 rs).length≤100:=by rw[nH];exact hs
   have two:∀ {G:Hp} {l':Addr} {ws:List Wy} {ν:Nat→Nat},Same H G→WyL G l' ws→NuI rs ws ν→ws.length≤100→∀ {R:V→Hp→Prop} {E':_},(∀ (tw:V) (G':Hp),Same H G'→WyL G' l' ws→(tw=.non∧Eo ws)∨(∃ (x y:Nat) (p:Addr),tw=.ref p∧G' p=some (.tup [.int (x:Nat),.int (y:Nat)])∧x≠y∧∃ a c,kZ ws a c x∧kZ ws a c y)→R tw G')→AH K [.ref l'] G R E':=fun {G l' ws ν} sG hG nu hl {R E'} hR=>by
    obtain⟨vs',e1,e2,e3⟩:=id hG
    exact⟨l',vs',ws,rfl,e1,e2,e3,by omega,nu.low,fun G' s' hd=>hR _ G' (sG.trans s') (hG.same s') (.inl ⟨rfl,hd⟩),fun x y p G' s' hne hE ep=>hR _ G' (sG.trans s') (hG.same s') (.inr ⟨x,y,p,rfl,ep,hne,hE⟩)⟩
   refine⟨_,rfl,?_⟩
   dsimp only [Au]
   refine two s2 hW nu0 hwl fun tw H3 s3 hW3 htw=>?_
   refine⟨fun m σ G=>∃ (l':Addr) (ws:List Wy) (ν:Nat→Nat) (tw:V),σ=[some (.int (n:Nat)),some (.ref a),some (.ref l'),some (.int (jX 1 (rs.take (cF rs).length):Nat)),v4,v5,v6,v7,v8,some tw,none,none,none,none,none]∧Same H G∧WyL G l' ws∧NuI rs ws ν∧m=nV ws∧ws.length≤100∧((tw=.non∧Eo ws)∨(∃ (x y:Nat) (p:Addr),tw=.ref p∧G p=some (.tup [.int (x:Nat),.int (y:Nat)])∧x≠y∧∃ a c,kZ ws a c x∧kZ ws a c y)),⟨_,l,fJ 1 rs,_,tw,rfl,s3,hW3,nu0,rfl,hwl,htw⟩,?_⟩
   rintro m _ G ⟨l',ws,ν,tw,rfl,sG,hG,nu,rfl,hwl',htw⟩
   rcases htw with ⟨rfl,hdet⟩ | ⟨x,y,p,rfl,ep,hne,hE⟩
   ·refine⟨_,rfl,rfl,_,rfl,?_⟩
    refine fQ ?_
    intro d hd
    have sd:=Same.new (o:=HO.dT []) hd
    have ed:upd G d (.dT []) d=some (.dT []):=aB
    have hd0:H d=none:=sG.free hd
    have hG1:=hG.same sd
    have sG1:=sG.trans sd
    generalize upd G d (.dT [])=G1 at sd ed hG1 sG1
    obtain⟨vs',e1,e2,e3⟩:=id hG1
    generalize jX 1 (rs.take (cF rs).length)=many
    refine⟨_,rfl,l',rfl,⟨_,SqL.of e1⟩,fB (K:=K) (a:=l') (xs:=vs') (fun i σ G2=>∃ (v5 v7 v8:Option V) (kvs:List (List cQ×V)) (g:Nat→Nat→Option Nat),σ=[some (.int (n:Nat)),some (.ref a),some (.ref l'),some (.int (many:Nat)),v4,v5,v6,v7,v8,some .non,some (.ref d),none,none,none,none]∧Same H G2∧(∀ b o,G1 b=some o→b≠d→G2 b=some o)∧G2 d=some (.dT kvs)∧TabW kvs g∧kvs.length≤2 * i∧MX ws g∧∀ e∈ws.take i,g e.1 e.2.1=some e.2.2∧g e.2.2 (con e.2.1)=some e.1) ⟨v5,v7,v8,[],_,rfl,sG1,fun b o z _=>z,ed,TabW.nil,b9 _,fun p c q z=>(by cases z),fun e he=>(by simp at he)⟩ (fun i σ G2 _ ⟨_,_,_,_,_,_,_,f,_⟩=>SqL.of (f _ _ e1 (bY e1 ed (by intro z;cases z)))) ?_ ?_⟩
    ·rintro i v _ G2 hv ⟨v5,v7,v8,kvs,g,rfl,sH2,f2,dG,tb,kl,go,full⟩
     obtain⟨e,he⟩:∃ e,ws[i]?=some e:=⟨_,b0 (by rw[← e2];exact(a9.mp hv).1)⟩
     have hem:=b8 he
     have hi100:i<100:=by have:=(a9.mp he).1;omega
     obtain⟨t,rfl,et⟩:=e3 i v e hv he
     obtain⟨eL,elo⟩:=nu.low e hem
     have et2:=f2 _ _ et (bY et ed (by intro z;cases z))
     refine⟨t,_,rfl,.inr (SqT.of et2),rfl,_,_,rfl,_,_,rfl,_,_,rfl,rfl,?_⟩
     refine⟨_,rfl,_,rfl,_,rfl,_,rfl,aI (by simp),fun k1 hk1=>?_⟩
     have s3:=Same.new (o:=HO.tup [.int ((e.1:Nat):Int),.str (S [e.2.1])]) hk1
     have ek1:upd G2 k1 (.tup [.int ((e.1:Nat):Int),.str (S [e.2.1])]) k1=some (.tup ((dY e.1 e.2.1).map kV)):=aB
     generalize upd G2 k1 (.tup [.int ((e.1:Nat):Int),.str (S [e.2.1])])=G3 at s3 ek1
     refine⟨d,_,rfl,DPut.t (s3 _ _ dG) ek1 (aP (by omega)),?_⟩
     have d4:upd G3 d (.dT (dE kvs (dY e.1 e.2.1) (.int (e.2.2:Nat)))) d=some (.dT (dE kvs (dY e.1 e.2.1) (.int (e.2.2:Nat)))):=aB
     have f4:∀ b o,G1 b=some o→b≠d→upd G3 d (.dT (dE kvs (dY e.1 e.2.1) (.int (e.2.2:Nat)))) b=some o:=fun b o z nb=>by rw[aE nb];exact s3 _ _ (f2 b o z nb)
     have sH4:Same H (upd G3 d (.dT (dE kvs (dY e.1 e.2.1) (.int (e.2.2:Nat))))):=(sH2.trans s3).upd hd0
     generalize upd G3 d (.dT (dE kvs (dY e.1 e.2.1) (.int (e.2.2:Nat))))=G4 at d4 f4 sH4
     refine⟨_,rfl,_,rfl,_,rfl,_,rfl,rfl,S [e.2.1],rfl,rfl,by rw[fW eL elo];exact nS _,?_⟩
     rw[fW eL elo]
     refine⟨aI (by simp),fun k2 hk2=>?_⟩
     have s5:=Same.new (o:=HO.tup [.int ((e.2.2:Nat):Int),.str (S [con e.2.1])]) hk2
     have ek2:upd G4 k2 (.tup [.int ((e.2.2:Nat):Int),.str (S [con e.2.1])]) k2=some (.tup ((dY e.2.2 (con e.2.1)).map kV)):=aB
     generalize upd G4 k2 (.tup [.int ((e.2.2:Nat):Int),.str (S [con e.2.1])])=G5 at s5 ek2
     have kl4:=cX kvs (dY e.1 e.2.1) (V.int (e.2.2:Nat))
     have kl5:=cX (dE kvs (dY e.1 e.2.1) (V.int (e.2.2:Nat))) (dY e.2.2 (con e.2.1)) (V.int (e.1:Nat))
     have hE1:kZ ws e.1 e.2.1 e.2.2:=.inl hem
     have hE2:kZ ws e.2.2 (con e.2.1) e.1:=.inr ⟨e.2.1,rfl,hem⟩
     refine⟨d,_,rfl,DPut.t (s5 _ _ d4) ek2 (aP (by omega)),_,_,_,_,_,rfl,(sH4.trans s5).upd hd0,fun b o z nb=>by rw[aE nb];exact s5 _ _ (f4 b o z nb),aB,(tb.put e.1 e.2.1 e.2.2).put e.2.2 (con e.2.1) e.1,by omega,fun x y q z=>?_,fun e' he'=>?_⟩
     ·dsimp only at z
      split at z
      ·rename_i w';cases z;rw[w'.1,w'.2];exact hE2
      ·split at z
       ·rename_i w';cases z;rw[w'.1,w'.2];exact hE1
       ·exact go x y q z
     ·have put:∀ x y q,kZ ws x y q→(g x y=some q∨(x=e.1∧y=e.2.1)∨(x=e.2.2∧y=con e.2.1))→(if x=e.2.2∧y=con e.2.1 then some e.1 else if x=e.1∧y=e.2.1 then some e.2.2 else g x y)=some q:=fun x y q hq hc=>by
       by_cases z1:x=e.2.2∧y=con e.2.1
       ·rw[if_pos z1]
        rw[z1.1,z1.2] at hq
        rw[hdet _ _ _ _ hE2 hq]
       ·rw[if_neg z1]
        by_cases z2:x=e.1∧y=e.2.1
        ·rw[if_pos z2]
         rw[z2.1,z2.2] at hq
         rw[hdet _ _ _ _ hE1 hq]
        ·rw[if_neg z2]
         rcases hc with z | z | z
         ·exact z
         ·exact absurd z z2
         ·exact absurd z z1
      have hm':e'∈ws:=u8 he'
      rw[t9,he] at he'
      rcases j9.mp he' with z | z
      ·obtain⟨u1,u2⟩:=full e' z
       exact⟨put _ _ _ (.inl hm') (.inl u1),put _ _ _ (.inr ⟨_,rfl,hm'⟩) (.inl u2)⟩
      ·have:e'=e:=by simpa using z
       subst this
       exact⟨put _ _ _ (.inl hm') (.inr (.inl ⟨rfl,rfl⟩)),put _ _ _ (.inr ⟨_,rfl,hm'⟩) (.inr (.inr ⟨rfl,rfl⟩))⟩
    ·rintro _ G2 ⟨v5,v7,v8,kvs,g,rfl,sH2,_,dG,tb,_,go,full⟩
     rw[e2,l5] at full
     have hgE:∀ p c q,g p c=some q↔kZ ws p c q:=fun p c q=>⟨go p c q,fun hq=>by
      rcases hq with z | ⟨d',rfl,z⟩
      ·exact(full _ z).1
      ·exact(full _ z).2⟩
     have aut:=nu.done hdet hgE
     have hod1:(1:Nat)≤sizeLine:=by decide
     refine⟨hod1,fun od hod=>?_⟩
     have hod0:H od=none:=sH2.free hod
     have s3:=Same.new (o:=HO.lst [.int 0]) hod
     have eo:upd G2 od (.lst [.int 0]) od=some (.lst (cT [0])):=aB
     have dG3:=s3 _ _ dG
     have sH3:=sH2.trans s3
     show sO _ _ _ _ (upd G2 od (.lst [.int 0]))
     generalize upd G2 od (.lst [.int 0])=G3 at s3 eo dG3 sH3
     refine⟨fun m0 σ G=>∃ (v7:Option V) (at':Nat) (ord:List Nat),m0+at'=1000∧σ=[some (.int (n:Nat)),some (.ref a),some (.ref l'),some (.int (many:Nat)),v4,v5,v6,v7,v8,some .non,some (.ref d),some (.ref od),some (.int (at':Nat)),none,none]∧Same H G∧G d=some (.dT kvs)∧G od=some (.lst (cT ord))∧OrdOk 201 ord∧0∈ord∧cD g (aK (n:Nat)) 1000 0 [0]=cD g (aK (n:Nat)) m0 at' ord,⟨1000,_,0,[0],rfl,rfl,sH3,dG3,eo,⟨by simp,by simp⟩,by simp,rfl⟩,?_⟩
     rintro m0 _ G4 ⟨v7,at',ord,hmd,rfl,sH4,dG4,eo4,ok,z0,hup⟩
     have hol:=ok.len
     refine⟨_,rfl,_,rfl,od,_,rfl,.inl (SqL.of eo4),_,_,rfl,rfl,_,rfl,?_⟩
     refine fA (fun z=>?_) (fun z=>?_)
     rotate_left
     ·have hge:ord.length≤at':=by
       have:¬ ((at':Nat):Int)<(((cT ord).length:Nat):Int):=fun y=>z (decide_eq_true y)
       rw[dQ] at this
       omega
      rw[oN _ _ _ _ _ hge] at hup
      have hcl:∀ s∈ord,∀ c∈aK (n:Nat),∀ q,g s c=some q→q∈ord:=by
       have:=gL (δ:=g) (ls:=aK (n:Nat)) 1000 0 [0] (fun i s hi=>absurd hi (y4 _)) (by rw[hup];omega)
       rw[hup] at this;exact this
      have hweb:eE g n 0 1000=ord.map (fK g (bE n) ord):=by unfold eE;dsimp only;rw[hup]
      refine⟨aI (by simp),fun fd hfd=>?_⟩
      have hfd0:=sH4.free hfd
      have nfo:od≠fd:=aJ eo4 hfd
      have nfd:d≠fd:=aJ dG4 hfd
      have s5:=Same.new (o:=HO.lst []) hfd
      refine⟨_,rfl,od,rfl,⟨_,SqL.of (s5 _ _ eo4)⟩,fB (K:=K) (a:=od) (xs:=cT ord) (fun i σ G=>∃ (v5 v14:Option V) (qs:List Addr),σ=[some (.int (n:Nat)),some (.ref a),some (.ref l'),some (.int (many:Nat)),v4,v5,v6,v7,v8,some .non,some (.ref d),some (.ref od),some (.int (at':Nat)),some (.ref fd),v14]∧Same H G∧G d=some (.dT kvs)∧G od=some (.lst (cT ord))∧G fd=some (.lst (qs.map V.ref))∧qs.length=i∧∀ (j:Nat) (q:Addr) (s:Nat),qs[j]?=some q→ord[j]?=some s→G q=some (.tup ((fK g (bE n) ord s).map iI))) ⟨_,none,[],rfl,sH4.trans s5,s5 _ _ dG4,s5 _ _ eo4,aB,rfl,fun j q s z=>by simp at z⟩ (fun i σ G _ ⟨_,_,_,_,_,_,h,_⟩=>SqL.of h) ?_ ?_⟩
      ·rintro i v _ G5 hv ⟨v5,v14,qs,rfl,sH5,dG5,eo5,ef5,hql,hqs⟩
       obtain⟨s,hs,rfl⟩:∃ s,ord[i]?=some s∧v=.int (s:Nat):=by
        unfold cT at hv
        rw[c7] at hv
        obtain⟨s,hs,e⟩:=i6.mp hv
        exact⟨s,hs,e.symm⟩
       have hsm:=b8 hs
       have hil:=(a9.mp hs).1
       refine⟨_,rfl,_,rfl,_,rfl,by decide +kernel,S (bE n),?_,fun Dd hD=>?_⟩
       ·show V.str (Txt.slice (Str.ofString "abcd") none (some ((n:Nat):Int)))=_
        rw[jU,gE _ (by omega) (by simp;omega)]
        rfl
       refine jA (w:=bE n) (fun i G6=>Same G5 G6∧G6 Dd=some (.lst (((bE n).take i).map fun c=>iI (g s c)))) ⟨Same.new hD,aB⟩ ?_ ?_
       ·rintro i c G6 hc ⟨s6,e6⟩
        have hi:i<n:=by have:=(a9.mp hc).1;rw[cC h4] at this;exact this
        have dG6:=s6 _ _ dG5
        refine⟨_,rfl,d,rfl,.inr ⟨kvs,.inl dG6⟩,_,rfl,_,rfl,aI (by simp),fun k1 hk1=>?_⟩
        have s7:=Same.new (o:=HO.tup [.int ((s:Nat):Int),.str (S [c])]) hk1
        have e7:upd G6 k1 (.tup [.int ((s:Nat):Int),.str (S [c])]) k1=some (.tup ((dY s c).map kV)):=aB
        refine⟨_,DGet.t (s7 _ _ dG6) e7,_,s7 _ _ e6,?_,(s6.trans s7).upd hD,?_⟩
        ·rw[b7,j6];exact aP (by omega)
        ·have hno:((g s c).map fun (q:Nat)=>V.int q).getD .non=iI (g s c):=by cases g s c <;> rfl
         rw[aB,bF hc,i7,tb s c,hno]
         rfl
       ·rintro G6 ⟨s6,e6⟩
        rw[l5] at e6
        have ef6:=s6 _ _ ef5
        have eo6:=s6 _ _ eo5
        refine⟨_,rfl,.inl ⟨rfl,_,SqL.of ef6⟩,_,rfl,Dd,rfl,⟨_,SqL.of e6⟩,fun Ee hE=>?_⟩
        refine jM (xs:=(bE n).map fun c=>iI (g s c)) (fun i G7=>Same G6 G7∧G7 Ee=some (.lst ((fK g ((bE n).take i) ord s).map iI))) ⟨Same.new hE,aB⟩ (fun i G7 _ h=>SqL.of (h.1 _ _ e6)) ?_ ?_
        ·rintro i v G7 hv ⟨s7,e7⟩
         rw[c7] at hv
         obtain⟨c,hc,rfl⟩:=i6.mp hv
         have hi:i<n:=by have:=(a9.mp hc).1;rw[cC h4] at this;exact this
         have fin:∀ y,y=iI ((g s c).map fun q=>ord.idxOf q)→∃ zs,G7 Ee=some (.lst zs)∧zs.length<sizeLine∧Same G6 (upd G7 Ee (.lst (zs++[y])))∧upd G7 Ee (.lst (zs++[y])) Ee=some (.lst ((fK g ((bE n).take (i+1)) ord s).map iI)):=fun y hy=>by
          refine⟨_,e7,?_,s7.upd hE,?_⟩
          ·unfold fK
           rw[b7,b7,j6];exact aP (by omega)
          ·rw[aB,bF hc,hy]
           unfold fK
           rw[i7,i7]
           rfl
         cases ed:g s c with
         | none =>
          refine⟨_,rfl,rfl,_,rfl,?_⟩
          exact fin _ (by rw[ed];rfl)
         | some q =>
          obtain⟨ia,ib⟩:=nI (hcl s hsm c (dM h1 h4 (b8 hc)) q ed)
          have hix:=(a9.mp ia).1
          refine⟨_,rfl,rfl,_,rfl,?_⟩
          refine⟨_,rfl,.inl ⟨rfl,_,SqL.of (s7 _ _ eo6)⟩,_,rfl,od,ord.map (fun x=>((x:Nat):Int)),((q:Nat):Int),ord.idxOf q,rfl,rfl,by rw[← GT];exact SqL.of (s7 _ _ eo6),by rw[c7,ia];rfl,fun m hm=>?_,by omega,?_⟩
          ·rw[c7]
           intro e
           obtain⟨y,hy,e⟩:=i6.mp e
           exact ib m hm (by rw[hy];congr 1;omega)
          ·exact fin _ (by rw[ed];rfl)
        ·rintro G7 ⟨s7,e7⟩
         rw[b7,l5] at e7
         refine⟨Ee,_,rfl,.inl ⟨SqL.of e7,fun q hq=>?_⟩⟩
         have s8:=Same.new (o:=HO.tup ((fK g (bE n) ord s).map iI)) hq
         have e8:upd G7 q (.tup ((fK g (bE n) ord s).map iI)) q=some (.tup ((fK g (bE n) ord s).map iI)):=aB
         generalize upd G7 q (.tup ((fK g (bE n) ord s).map iI))=G8 at s8 e8
         have s58:=(s6.trans s7).trans s8
         have ef8:=s58 _ _ ef5
         refine⟨fd,_,_,rfl,rfl,ef8,by rw[b7,hql];exact aP (by omega),_,_,qs++[q],rfl,(sH5.trans s58).upd hfd0,by rw[aE nfd];exact s58 _ _ dG5,by rw[aE nfo];exact s58 _ _ eo5,by rw[aB,i7];rfl,by rw[c6,hql];rfl,fun j q' s' hj hs'=>?_⟩
         rcases eG hj with ⟨z,hj⟩ | ⟨z,rfl⟩
         ·have e0:=s58 _ _ (hqs j q' s' hj hs')
          rw[aE (bY e0 ef8 (by intro z;cases z))]
          exact e0
         ·rw[z,hql,hs] at hs'
          cases hs'
          rw[aE (bY e8 ef8 (by intro z;cases z))]
          exact e8
      ·rintro _ G5 ⟨v5,v14,qs,rfl,sH5,dG5,eo5,ef5,hql,hqs⟩
       rw[dQ] at hql
       refine⟨_,rfl,fd,_,rfl,.inl ⟨SqL.of ef5,fun r hr=>?_⟩⟩
       have hn0:ν (sE rs 0)=0:=by rw[(wK rs).1,nu.z]
       refine kq r _ _ g (sH5.upd' hr) aut ?_ ?_
       ·show IsWebV _ r (eE g n (ν (sE rs 0)) 1000)
        rw[hn0,hweb]
        refine⟨qs,aB,by rw[b7];exact hql,fun i q row hq hrow=>?_⟩
        rw[c7] at hrow
        obtain⟨s,hs,rfl⟩:=i6.mp hrow
        have e0:=hqs i q s hq hs
        rw[aE (aJ e0 hr)]
        exact e0
       ·show (eE g n (ν (sE rs 0)) 1000).length≤900
        rw[hn0,hweb,b7]
        omega
     ·have hlt:at' < ord.length:=by
       have:((at':Nat):Int)<(((cT ord).length:Nat):Int):=of_decide_eq_true z
       rw[dQ] at this
       omega
      obtain⟨s,hs⟩:∃ s,ord[at']?=some s:=⟨_,b0 hlt⟩
      obtain⟨m1,rfl⟩:∃ m1,m0=m1+1:=⟨m0 - 1,by omega⟩
      rw[lS _ _ _ _ _ hs] at hup
      refine⟨fun σ' G=>∃ (v7:Option V) (ord':List Nat),σ'=[some (.int (n:Nat)),some (.ref a),some (.ref l'),some (.int (many:Nat)),v4,v5,v6,v7,v8,some .non,some (.ref d),some (.ref od),some (.int ((at' + 1:Nat):Int)),none,none]∧Same H G∧G d=some (.dT kvs)∧G od=some (.lst (cT ord'))∧OrdOk 201 ord'∧0∈ord'∧cD g (aK (n:Nat)) 1000 0 [0]=cD g (aK (n:Nat)) m1 (at' + 1) ord',fun σ' G ⟨v7,ord',e,x⟩=>⟨m1,by omega,v7,at' + 1,ord',by omega,e,x⟩,?_⟩
      refine⟨_,rfl,(n:Nat),rfl,by omega,by omega,fun t G5 ht s5 et=>⟨t,rfl,⟨_,SqL.of et⟩,?_⟩⟩
      have sH5:=sH4.trans s5
      have nto:t≠od:=(aJ eo4 ht).symm
      refine fB (K:=K) (a:=t) (xs:=aZ (aK (n:Nat))) (fun i σ G=>∃ (v7:Option V),σ=[some (.int (n:Nat)),some (.ref a),some (.ref l'),some (.int (many:Nat)),v4,v5,v6,v7,v8,some .non,some (.ref d),some (.ref od),some (.int ((at':Nat):Int)),none,none]∧Same H G∧G d=some (.dT kvs)∧G t=some (.lst (aZ (aK (n:Nat))))∧G od=some (.lst (cT (cB (g s) ((aK (n:Nat)).take i) ord)))∧OrdOk 201 (cB (g s) ((aK (n:Nat)).take i) ord)) ⟨_,rfl,sH5,s5 _ _ dG4,et,s5 _ _ eo4,ok⟩ (fun i σ G _ ⟨_,_,_,_,h,_⟩=>SqL.of h) ?_ ?_
      ·rintro i x _ G6 hx ⟨v7,rfl,sH6,dG6,et6,eo6,ok6⟩
       obtain⟨c,hc,rfl⟩:∃ c,(aK (n:Nat))[i]?=some c∧x=.str (S [c]):=by
        unfold aZ at hx
        rw[c7] at hx
        cases e:(aK (n:Nat))[i]? with
        | none=>rw[e] at hx;cases hx
        | some c=>rw[e] at hx;cases hx;exact⟨c,rfl,rfl⟩
       have tk:(aK (n:Nat)).take (i+1)=(aK (n:Nat)).take i++[c]:=bF hc
       rw[tk,rT]
       obtain⟨r,hr⟩:=eF (g s) ((aK (n:Nat)).take i) ord
       have hat:(cB (g s) ((aK (n:Nat)).take i) ord)[at']?=some s:=by rw[hr,p6 hlt];exact hs
       have z0':0∈cB (g s) ((aK (n:Nat)).take i) ord:=by rw[hr];exact p7 _ z0
       generalize cB (g s) ((aK (n:Nat)).take i) ord=oi at eo6 ok6 hat z0'
       have hoi:=ok6.len
       refine⟨_,rfl,d,rfl,.inr ⟨kvs,.inl dG6⟩,_,rfl,_,rfl,od,_,_,.int ((s:Nat):Int),rfl,rfl,SqL.of eo6,cN (iV hat),_,rfl,aI (by simp),fun k1 hk1=>?_⟩
       have s7:=Same.new (o:=HO.tup [.int ((s:Nat):Int),.str (S [c])]) hk1
       have e7:upd G6 k1 (.tup [.int ((s:Nat):Int),.str (S [c])]) k1=some (.tup ((dY s c).map kV)):=aB
       have sH7:=sH6.trans s7
       have dG7:=s7 _ _ dG6
       have et7:=s7 _ _ et6
       have eo7:=s7 _ _ eo6
       generalize upd G6 k1 (.tup [.int ((s:Nat):Int),.str (S [c])])=G7 at s7 e7 sH7 dG7 et7 eo7
       refine⟨_,DGet.t dG7 e7,_,rfl,?_⟩
       rw[tb s c]
       cases eg:g s c with
       | none =>
        refine⟨od,_,rfl,.inl (SqL.of eo7),rfl,yV _,_,rfl,?_⟩
        have hin:Ed (.int ((0:Nat):Int)) (cT oi)=true:=by rw[AR];exact decide_eq_true z0'
        refine tG (by rw[show (Option.map (fun (q:Nat)=>V.int q) none).getD (.int 0)=V.int ((0:Nat):Int) from rfl,hin];rfl) ?_
        exact⟨_,rfl,sH7,dG7,et7,eo7,ok6⟩
       | some q =>
        have hq:q<201:=by have:=nu.edb (go s c q eg);omega
        refine⟨od,_,rfl,.inl (SqL.of eo7),rfl,yV _,_,rfl,?_⟩
        by_cases hin:q∈oi
        ·have hin':Ed (.int ((q:Nat):Int)) (cT oi)=true:=by rw[AR];exact decide_eq_true hin
         refine tG (by rw[show (Option.map (fun (q:Nat)=>V.int q) (some q)).getD (.int 0)=V.int ((q:Nat):Int) from rfl,hin'];rfl) ?_
         dsimp only
         rw[if_pos hin]
         exact⟨_,rfl,sH7,dG7,et7,eo7,ok6⟩
        ·have hin':Ed (.int ((q:Nat):Int)) (cT oi)=false:=by rw[AR];exact decide_eq_false hin
         refine A3 (by rw[show (Option.map (fun (q:Nat)=>V.int q) (some q)).getD (.int 0)=V.int ((q:Nat):Int) from rfl,hin'];rfl) ?_
         dsimp only
         rw[if_neg hin]
         refine⟨_,rfl,.inl ⟨rfl,_,SqL.of eo7⟩,_,rfl,_,rfl,_,rfl,od,_,_,.int ((s:Nat):Int),rfl,rfl,SqL.of eo7,cN (iV hat),_,rfl,aI (by simp),fun k2 hk2=>?_⟩
         have s8:=Same.new (o:=HO.tup [.int ((s:Nat):Int),.str (S [c])]) hk2
         have e8:upd G7 k2 (.tup [.int ((s:Nat):Int),.str (S [c])]) k2=some (.tup ((dY s c).map kV)):=aB
         have sH8:=sH7.trans s8
         have dG8:=s8 _ _ dG7
         have et8:=s8 _ _ et7
         have eo8:=s8 _ _ eo7
         generalize upd G7 k2 (.tup [.int ((s:Nat):Int),.str (S [c])])=G8 at s8 e8 sH8 dG8 et8 eo8
         have hg:DGet G8 d (.ref k2) (some (.int (q:Nat))):=by
          have:=DGet.t (k:=dY s c) dG8 e8
          rw[tb s c,eg] at this
          exact this
         refine⟨d,.int (q:Nat),rfl,hg,od,_,_,rfl,rfl,eo8,by rw[dQ];exact aP (by omega),?_⟩
         refine⟨_,rfl,sH8.upd hod0,by rw[aE (bY dG8 eo8 (by intro z;cases z))];exact dG8,by rw[aE nto];exact et8,by rw[aB,rM],ok6.snoc hq hin⟩
      ·rintro _ G6 ⟨v7,rfl,sH6,dG6,et6,eo6,ok6⟩
       rw[bA,l5] at eo6 ok6
       obtain⟨r,hr⟩:=eF (g s) (aK (n:Nat)) ord
       exact⟨_,rfl,_,_,rfl,rfl,v7,_,rfl,sH6,dG6,eo6,ok6,by rw[hr];exact p7 _ z0,hup⟩
   ·refine⟨_,rfl,rfl,_,rfl,?_⟩
    obtain⟨nu',hlt⟩:=nu.step hE hne
    refine gY ⟨fun σ G=>∃ (l':Addr) (ws':List Wy) (ν:Nat→Nat) (tw:V),σ=[some (.int (n:Nat)),some (.ref a),some (.ref l'),some (.int (jX 1 (rs.take (cF rs).length):Nat)),v4,v5,v6,v7,v8,some tw,none,none,none,none,none]∧Same H G∧WyL G l' ws'∧NuI rs ws' ν∧nV ws' < nV ws∧ws'.length≤100∧((tw=.non∧Eo ws')∨(∃ (x y:Nat) (p:Addr),tw=.ref p∧G p=some (.tup [.int (x:Nat),.int (y:Nat)])∧x≠y∧∃ a c,kZ ws' a c x∧kZ ws' a c y)),fun σ' G' ⟨l',ws',ν',tw',e,s,h,u,z,w,t⟩=>⟨nV ws',z,l',ws',ν',tw',e,s,h,u,rfl,w,t⟩,?_⟩
    obtain⟨vs',e1,e2,e3⟩:=id hG
    refine⟨_,rfl,l',rfl,⟨_,SqL.of e1⟩,fun D hD=>?_⟩
    have hmx:max ((x:Nat):Int) ((y:Nat):Int)=((max x y:Nat):Int):=by omega
    have hmn:min ((x:Nat):Int) ((y:Nat):Int)=((min x y:Nat):Int):=by omega
    have hD0:H D=none:=sG.free hD
    refine AQ (a:=l') (xs:=vs') (fun i G1=>Same H G1∧Same G G1∧WyL G1 D ((ws.take i).map (eN (min x y) (max x y)))) ⟨sG.upd' hD,Same.new hD,[],aB,rfl,fun i v e z=>by simp at z⟩ (fun i G1 _ h=>SqL.of (h.2.1 _ _ e1)) ?_ ?_
    ·rintro i v G1 hv ⟨sH1,sG1,hW1⟩
     obtain⟨e,he⟩:∃ e,ws[i]?=some e:=⟨_,b0 (by rw[← e2];exact(a9.mp hv).1)⟩
     obtain⟨t,rfl,et⟩:=(e3 i v e hv he).same sG1
     have ep1:=sG1 _ _ ep
     refine⟨t,_,_,_,rfl,SqT.of et,?_⟩
     refine⟨_,rfl,_,rfl,p,(x:Nat),(y:Nat),rfl,SqT.of ep1,?_⟩
     have fin:∀ (u w:Int) (q:Addr),u=((eN (min x y) (max x y) e).1:Nat)→w=((eN (min x y) (max x y) e).2.2:Nat)→G1 q=none→∃ zs,upd G1 q (.tup [.int u,.str (S [e.2.1]),.int w]) D=some (.lst zs)∧zs.length<sizeLine∧Same H (upd (upd G1 q (.tup [.int u,.str (S [e.2.1]),.int w])) D (.lst (zs++[.ref q])))∧Same G (upd (upd G1 q (.tup [.int u,.str (S [e.2.1]),.int w])) D (.lst (zs++[.ref q])))∧WyL (upd (upd G1 q (.tup [.int u,.str (S [e.2.1]),.int w])) D (.lst (zs++[.ref q]))) D ((ws.take (i+1)).map (eN (min x y) (max x y))):=fun u w q hu hw' hq=>by
      subst hu hw'
      have sq:=Same.new (o:=HO.tup [.int ((eN (min x y) (max x y) e).1:Nat),.str (S [e.2.1]),.int ((eN (min x y) (max x y) e).2.2:Nat)]) hq
      obtain⟨us,g1,g2,g3⟩:=hW1.same sq
      have g5:=(sH1.trans sq)
      have g6:=(sG1.trans sq)
      have g4:upd G1 q (.tup [.int ((eN (min x y) (max x y) e).1:Nat),.str (S [e.2.1]),.int ((eN (min x y) (max x y) e).2.2:Nat)]) q=some (.tup [.int ((eN (min x y) (max x y) e).1:Nat),.str (S [(eN (min x y) (max x y) e).2.1]),.int ((eN (min x y) (max x y) e).2.2:Nat)]):=aB
      refine⟨us,g1,?_,g5.upd hD0,g6.upd hD,?_⟩
      ·rw[g2,b7,j6];exact aP (by omega)
      ·have:=WyL.snoc g1 g2 g3 g4
       rw[t9,he,i7]
       exact this
     refine⟨rfl,_,rfl,?_⟩
     rw[hmx]
     by_cases z1:e.1=max x y
     ·rw[decide_eq_true (congrArg (fun k:Nat=>V.int (k:Int)) z1)]
      refine gY ⟨_,rfl,p,(x:Nat),(y:Nat),rfl,SqT.of ep1,?_⟩
      rw[hmn]
      refine⟨_,rfl,_,rfl,_,rfl,p,(x:Nat),(y:Nat),rfl,SqT.of ep1,?_⟩
      refine⟨rfl,_,rfl,?_⟩
      rw[hmx]
      by_cases z2:e.2.2=max x y
      ·rw[decide_eq_true (congrArg (fun k:Nat=>V.int (k:Int)) z2)]
       refine gY ⟨_,rfl,p,(x:Nat),(y:Nat),rfl,SqT.of ep1,?_⟩
       rw[hmn]
       exact⟨aI (by simp),fun q hq=>fin _ _ q (by unfold eN;dsimp only;rw[if_pos z1]) (by unfold eN;dsimp only;rw[if_pos z2]) hq⟩
      ·rw[decide_eq_false (fun z=>z2 (by have:=V.int.inj z;omega))]
       exact fQ ⟨_,rfl,aI (by simp),fun q hq=>fin _ _ q (by unfold eN;dsimp only;rw[if_pos z1]) (by unfold eN;dsimp only;rw[if_neg z2]) hq⟩
     ·rw[decide_eq_false (fun z=>z1 (by have:=V.int.inj z;omega))]
      refine fQ ⟨_,rfl,?_⟩
      refine⟨_,rfl,_,rfl,_,rfl,p,(x:Nat),(y:Nat),rfl,SqT.of ep1,?_⟩
      refine⟨rfl,_,rfl,?_⟩
      rw[hmx]
      by_cases z2:e.2.2=max x y
      ·rw[decide_eq_true (congrArg (fun k:Nat=>V.int (k:Int)) z2)]
       refine gY ⟨_,rfl,p,(x:Nat),(y:Nat),rfl,SqT.of ep1,?_⟩
       rw[hmn]
       exact⟨aI (by simp),fun q hq=>fin _ _ q (by unfold eN;dsimp only;rw[if_neg z1]) (by unfold eN;dsimp only;rw[if_pos z2]) hq⟩
      ·rw[decide_eq_false (fun z=>z2 (by have:=V.int.inj z;omega))]
       exact fQ ⟨_,rfl,aI (by simp),fun q hq=>fin _ _ q (by unfold eN;dsimp only;rw[if_neg z1]) (by unfold eN;dsimp only;rw[if_neg z2]) hq⟩
    ·rintro G1 ⟨sH1,sG1,hW1⟩
     rw[e2,l5] at hW1
     refine⟨_,rfl,?_⟩
     dsimp only [Au]
     exact two sH1 hW1 nu' (by rw[b7];exact hwl') fun tw' G2 s2' hW2 htw'=>⟨D,_,_,tw',rfl,s2',hW2,nu',hlt,by rw[b7];exact hwl',htw'⟩
theorem Ls{f:Addr}{fd:FuncData}(D:Df K mg "_law_alike" Cb ["_law_found","_law_due"] f fd)(T:Txt P w K mg NR NW NQ NY NX NS NT NV NU NZ N0 f_NoAlphabet fd_NoAlphabet):Cl P w K mg base "_law_alike" ["_law_found","_law_due"] 1 (FQ K 0):=by
 refine D.cl (D.F.ok HD (fun vs H Q E h=>?_) (fun cdv A outer s H vs Q E hr h=>?_))
 ·obtain⟨x,y,rfl,_⟩:=h
  rfl
 ·obtain⟨x,y,rfl,hk,k⟩:=h
  cases hk with
  | flat hfl =>
   refine⟨_,(aD (cR (fP (aL (bL (K:=K) rfl) (by rfl) T.b_isinstance boot_isinstance (aA (pv 1) (aA (bH (aA (dS (by rfl) T.b_list boot_list) (aA (dS (by rfl) T.b_tuple boot_tuple) aC))) aC)))) uQ bI)
   (aF (aQ (oI (dI eM (aL (bL (K:=K) rfl) (by rfl) T.b_isinstance boot_isinstance (aA (pv 0) (aA (dS (by rfl) T.b_bool boot_bool) aC))) (aL (bL (K:=K) rfl) (by rfl) T.b_isinstance boot_isinstance (aA (pv 1) (aA (dS (by rfl) T.b_bool boot_bool) aC))) (aS _)) (nW (dI eM (pv 0) (pv 1) (aS _))))))),?_⟩
   obtain⟨t,ty,t1,t2⟩:=pX K H hfl
   refine⟨_,rfl,aI (by simp),fun p hp=>?_⟩
   have s1:Same H (upd H p (.tup [.ty "list",.ty "tuple"])):=Same.new hp
   have e1:upd H p (.tup [.ty "list",.ty "tuple"]) p=some (.tup [.ty "list",.ty "tuple"]):=aB
   generalize upd H p (.tup [.ty "list",.ty "tuple"])=H1 at s1 e1
   obtain⟨t',ty',t1',t2'⟩:=pX K H1 hfl
   refine⟨x,t',ty',.inr ⟨"list","tuple",p,rfl,e1,by decide,by decide,_,rfl,?_⟩⟩
   rw[t1',t2']
   refine fQ ?_
   refine⟨_,rfl,x,t',ty',.inl ⟨"bool",rfl,by decide,_,rfl,x,t',ty',.inl ⟨"bool",rfl,by decide,rfl,_,rfl,?_⟩⟩⟩
   rw[decide_eq_true rfl]
   refine gY ⟨_,rfl,_,rfl,?_,?_⟩
   ·cases x <;> first | rfl | exact absurd (show false=true from hfl) j2
   ·rw[decide_eq_true rfl];exact k H1 s1
theorem pS{f:Addr}{fd:FuncData}(D:Df K mg "_law_alike" Cb ["_law_found","_law_due"] f fd){j d:Nat}(T:Txt P w K mg NR NW NQ NY NX NS NT NV NU NZ N0 f_NoAlphabet fd_NoAlphabet)(c_z7:Cl P w K mg base "_law_alike" ["_law_found","_law_due"] j (FQ K d)):Cl P w K mg base "_law_alike" ["_law_found","_law_due"] (j+1) (FQ K (d+1)):=by
 refine D.cl (D.F.ok HD (fun vs H Q E h=>?_) (fun cdv A outer s H vs Q E hr h=>?_))
 ·obtain⟨x,y,rfl,_⟩:=h
  rfl
 ·obtain⟨x,y,rfl,hk,k⟩:=h
  cases hk with
  | flat hfl =>
   refine⟨_,(aD (cR (fP (aL (bL (K:=K) rfl) (by rfl) T.b_isinstance boot_isinstance (aA (pv 1) (aA (bH (aA (dS (by rfl) T.b_list boot_list) (aA (dS (by rfl) T.b_tuple boot_tuple) aC))) aC)))) uQ bI)
   (aF (aQ (oI (dI eM (aL (bL (K:=K) rfl) (by rfl) T.b_isinstance boot_isinstance (aA (pv 0) (aA (dS (by rfl) T.b_bool boot_bool) aC))) (aL (bL (K:=K) rfl) (by rfl) T.b_isinstance boot_isinstance (aA (pv 1) (aA (dS (by rfl) T.b_bool boot_bool) aC))) (aS _)) (nW (dI eM (pv 0) (pv 1) (aS _))))))),?_⟩
   obtain⟨t,ty,t1,t2⟩:=pX K H hfl
   refine⟨_,rfl,aI (by simp),fun p hp=>?_⟩
   have s1:Same H (upd H p (.tup [.ty "list",.ty "tuple"])):=Same.new hp
   have e1:upd H p (.tup [.ty "list",.ty "tuple"]) p=some (.tup [.ty "list",.ty "tuple"]):=aB
   generalize upd H p (.tup [.ty "list",.ty "tuple"])=H1 at s1 e1
   obtain⟨t',ty',t1',t2'⟩:=pX K H1 hfl
   refine⟨x,t',ty',.inr ⟨"list","tuple",p,rfl,e1,by decide,by decide,_,rfl,?_⟩⟩
   rw[t1',t2']
   refine fQ ?_
   refine⟨_,rfl,x,t',ty',.inl ⟨"bool",rfl,by decide,_,rfl,x,t',ty',.inl ⟨"bool",rfl,by decide,rfl,_,rfl,?_⟩⟩⟩
   rw[decide_eq_true rfl]
   refine gY ⟨_,rfl,_,rfl,?_,?_⟩
   ·cases x <;> first | rfl | exact absurd (show false=true from hfl) j2
   ·rw[decide_eq_true rfl];exact k H1 s1
  | @tup _ a b xs ys h1 h2 hl hm hall =>
   refine⟨_,(aD (cR (fP (aL (bL (K:=K) rfl) (by rfl) T.b_isinstance boot_isinstance (aA (pv 1) (aA (bH (aA (dS (by rfl) T.b_list boot_list) (aA (dS (by rfl) T.b_tuple boot_tuple) aC))) aC)))) (aD (cR (pw_or (aT jV (aL (bL (K:=K) rfl) (by rfl) T.b_isinstance boot_isinstance (aA (pv 0) (aA (dS (by rfl) T.b_list boot_list) aC))) (aL (bL (K:=K) rfl) (by rfl) T.b_isinstance boot_isinstance (aA (pv 1) (aA (dS (by rfl) T.b_list boot_list) aC))) (aS _)) (pw_or1 (aT jV (aL (bL (K:=K) rfl) (by rfl) T.b_isinstance boot_isinstance (aA (pv 0) (aA (dS (by rfl) T.b_tuple boot_tuple) aC))) (aL (bL (K:=K) rfl) (by rfl) T.b_isinstance boot_isinstance (aA (pv 1) (aA (dS (by rfl) T.b_tuple boot_tuple) aC))) (aS _)))).pt (aF (aQ oV)) bI)
   (aF (aQ (oI (dI eM (aL (bM (K:=K) rfl) (by rfl) T.b_len m4 (aA (pv 0) aC)) (aL (bM (K:=K) rfl) (by rfl) T.b_len m4 (aA (pv 1) aC)) (aS _)) (nW (aL (oC (K:=K) rfl rfl) (by rfl) T.b_all boot_all (aA (cM (sc0:=aG Cb) (N:=["_law_found","_law_due"]) (ix:=[0,1]) (by decide +kernel) rfl rfl rfl (fN (by rfl) T.b_range (aA (aL (bM (K:=K) rfl) (by rfl) T.b_len m4 (aA (pv 1) aC)) aC)) (fun _ _ _=>bW) (fun _ _ _=>(pC c_z7 hr (aA (aV (cG (K:=K) rfl) (pv 1) (pv 0) (fun _ _=>rfl)) (aA (aV (cG (K:=K) rfl) (pv 2) (pv 0) (fun _ _=>rfl)) aC))))) aC))))))) bI)
   (aF (aQ (oI (dI eM (aL (bL (K:=K) rfl) (by rfl) T.b_isinstance boot_isinstance (aA (pv 0) (aA (dS (by rfl) T.b_bool boot_bool) aC))) (aL (bL (K:=K) rfl) (by rfl) T.b_isinstance boot_isinstance (aA (pv 1) (aA (dS (by rfl) T.b_bool boot_bool) aC))) (aS _)) (nW (dI (Bi (K:=K) rfl hr.units0) (pv 0) (pv 1) (aS _))))))),?_⟩
   refine⟨_,rfl,aI (by simp),fun p hp=>?_⟩
   have s1:Same H (upd H p (.tup [.ty "list",.ty "tuple"])):=Same.new hp
   have e1:upd H p (.tup [.ty "list",.ty "tuple"]) p=some (.tup [.ty "list",.ty "tuple"]):=aB
   have ha1:=L2.SqT.same s1 h1
   have hb1:=L2.SqT.same s1 h2
   generalize upd H p (.tup [.ty "list",.ty "tuple"])=H1 at s1 e1 ha1 hb1
   refine⟨.ref b,"tuple",.tup hb1,.inr ⟨"list","tuple",p,rfl,e1,by decide,by decide,_,rfl,fA (fun _=>?_) (fun e=>absurd (by decide) e)⟩⟩
   refine⟨_,rfl,.ref a,"tuple",.tup ha1,.inl ⟨"list",rfl,by decide,_,rfl,.ref b,"tuple",.tup hb1,.inl ⟨"list",rfl,by decide,rfl,_,rfl,fA (fun e=>absurd e (by decide)) (fun _=>?_)⟩⟩⟩
   refine⟨_,rfl,.ref a,"tuple",.tup ha1,.inl ⟨"tuple",rfl,by decide,_,rfl,.ref b,"tuple",.tup hb1,.inl ⟨"tuple",rfl,by decide,rfl,_,rfl,fA (fun e=>absurd e (by decide)) (fun _=>?_)⟩⟩⟩
   refine⟨_,rfl,a,_,rfl,.inr ha1,_,rfl,b,_,rfl,.inr hb1,rfl,_,rfl,?_⟩
   rw[hl,decide_eq_true rfl]
   refine gY ?_
   refine⟨_,rfl,b,_,rfl,.inr hb1,(ys.length:Nat),rfl,by omega,by omega,fun Dd hD=>?_⟩
   refine jH (lo:=0) (n:=((ys.length:Nat):Int).toNat) (fun i H2=>Same H1 H2∧H2 Dd=some (.lst ((List.replicate i true).map V.bl))) ⟨Same.new hD,aB⟩ ?_ ?_
   ·rintro i H2 hi ⟨s2,e2⟩
    have hi':i<ys.length:=by omega
    obtain⟨x,hx⟩:∃ x,xs[i]?=some x:=⟨_,b0 (by omega)⟩
    obtain⟨y,hy⟩:∃ y,ys[i]?=some y:=⟨_,b0 hi'⟩
    refine⟨_,rfl,_,rfl,a,xs,_,x,rfl,rfl,L2.SqT.same s2 ha1,lM (by omega) (by rw[show ((0:Int)+(i:Nat)).toNat=i by omega];exact hx),_,rfl,_,rfl,b,ys,_,y,rfl,rfl,L2.SqT.same s2 hb1,lM (by omega) (by rw[show ((0:Int)+(i:Nat)).toNat=i by omega];exact hy),x,y,rfl,(hall i x y hx hy).same (s1.trans s2),fun H3 s3=>⟨_,s3 _ _ e2,?_,(s2.trans s3).upd hD,?_⟩⟩
    ·rw[b7,aQu];exact aP (by omega)
    ·rw[aB,aXb,i7];rfl
   ·rintro H2 ⟨s2,e2⟩
    refine⟨Dd,_,rfl,SqL.of e2,?_⟩
    rw[show (List.replicate ((ys.length:Nat):Int).toNat true).all id=true by rw[y1];intro b hb;exact(aXs.mp hb).2]
    exact k H2 (s1.trans s2)
  | @lst _ a b xs ys h1 h2 hl hm hall =>
   refine⟨_,(aD (cR (fP (aL (bL (K:=K) rfl) (by rfl) T.b_isinstance boot_isinstance (aA (pv 1) (aA (bH (aA (dS (by rfl) T.b_list boot_list) (aA (dS (by rfl) T.b_tuple boot_tuple) aC))) aC)))) (aD (cR (pw_or (aT jV (aL (bL (K:=K) rfl) (by rfl) T.b_isinstance boot_isinstance (aA (pv 0) (aA (dS (by rfl) T.b_list boot_list) aC))) (aL (bL (K:=K) rfl) (by rfl) T.b_isinstance boot_isinstance (aA (pv 1) (aA (dS (by rfl) T.b_list boot_list) aC))) (aS _)) (pw_or1 (aT jV (aL (bL (K:=K) rfl) (by rfl) T.b_isinstance boot_isinstance (aA (pv 0) (aA (dS (by rfl) T.b_tuple boot_tuple) aC))) (aL (bL (K:=K) rfl) (by rfl) T.b_isinstance boot_isinstance (aA (pv 1) (aA (dS (by rfl) T.b_tuple boot_tuple) aC))) (aS _)))).pt (aF (aQ oV)) bI)
   (aF (aQ (oI (dI eM (aL (bM (K:=K) rfl) (by rfl) T.b_len m4 (aA (pv 0) aC)) (aL (bM (K:=K) rfl) (by rfl) T.b_len m4 (aA (pv 1) aC)) (aS _)) (nW (aL (oC (K:=K) rfl rfl) (by rfl) T.b_all boot_all (aA (cM (sc0:=aG Cb) (N:=["_law_found","_law_due"]) (ix:=[0,1]) (by decide +kernel) rfl rfl rfl (fN (by rfl) T.b_range (aA (aL (bM (K:=K) rfl) (by rfl) T.b_len m4 (aA (pv 1) aC)) aC)) (fun _ _ _=>bW) (fun _ _ _=>(pC c_z7 hr (aA (aV (aO (K:=K) rfl) (pv 1) (pv 0) (fun _ _=>rfl)) (aA (aV (aO (K:=K) rfl) (pv 2) (pv 0) (fun _ _=>rfl)) aC))))) aC))))))) bI)
   (aF (aQ (oI (dI eM (aL (bL (K:=K) rfl) (by rfl) T.b_isinstance boot_isinstance (aA (pv 0) (aA (dS (by rfl) T.b_bool boot_bool) aC))) (aL (bL (K:=K) rfl) (by rfl) T.b_isinstance boot_isinstance (aA (pv 1) (aA (dS (by rfl) T.b_bool boot_bool) aC))) (aS _)) (nW (dI (Bi (K:=K) rfl hr.units0) (pv 0) (pv 1) (aS _))))))),?_⟩
   refine⟨_,rfl,aI (by simp),fun p hp=>?_⟩
   have s1:Same H (upd H p (.tup [.ty "list",.ty "tuple"])):=Same.new hp
   have e1:upd H p (.tup [.ty "list",.ty "tuple"]) p=some (.tup [.ty "list",.ty "tuple"]):=aB
   have ha1:=s1 _ _ h1
   have hb1:=s1 _ _ h2
   generalize upd H p (.tup [.ty "list",.ty "tuple"])=H1 at s1 e1 ha1 hb1
   refine⟨.ref b,"list",.lst (SqL.of hb1),.inr ⟨"list","tuple",p,rfl,e1,by decide,by decide,_,rfl,fA (fun _=>?_) (fun e=>absurd (by decide) e)⟩⟩
   refine⟨_,rfl,.ref a,"list",.lst (SqL.of ha1),.inl ⟨"list",rfl,by decide,_,rfl,.ref b,"list",.lst (SqL.of hb1),.inl ⟨"list",rfl,by decide,rfl,_,rfl,fA (fun e=>absurd e (by decide)) (fun _=>?_)⟩⟩⟩
   refine⟨_,rfl,.ref a,"list",.lst (SqL.of ha1),.inl ⟨"tuple",rfl,by decide,_,rfl,.ref b,"list",.lst (SqL.of hb1),.inl ⟨"tuple",rfl,by decide,rfl,_,rfl,fA (fun e=>absurd e (by decide)) (fun _=>?_)⟩⟩⟩
   refine⟨_,rfl,a,_,rfl,.inl (SqL.of ha1),_,rfl,b,_,rfl,.inl (SqL.of hb1),rfl,_,rfl,?_⟩
   rw[hl,decide_eq_true rfl]
   refine gY ?_
   refine⟨_,rfl,b,_,rfl,.inl (SqL.of hb1),(ys.length:Nat),rfl,by omega,by omega,fun Dd hD=>?_⟩
   refine jH (lo:=0) (n:=((ys.length:Nat):Int).toNat) (fun i H2=>Same H1 H2∧H2 Dd=some (.lst ((List.replicate i true).map V.bl))) ⟨Same.new hD,aB⟩ ?_ ?_
   ·rintro i H2 hi ⟨s2,e2⟩
    have hi':i<ys.length:=by omega
    obtain⟨x,hx⟩:∃ x,xs[i]?=some x:=⟨_,b0 (by omega)⟩
    obtain⟨y,hy⟩:∃ y,ys[i]?=some y:=⟨_,b0 hi'⟩
    refine⟨_,rfl,_,rfl,a,xs,_,x,rfl,rfl,SqL.of (s2 _ _ ha1),lM (by omega) (by rw[show ((0:Int)+(i:Nat)).toNat=i by omega];exact hx),_,rfl,_,rfl,b,ys,_,y,rfl,rfl,SqL.of (s2 _ _ hb1),lM (by omega) (by rw[show ((0:Int)+(i:Nat)).toNat=i by omega];exact hy),x,y,rfl,(hall i x y hx hy).same (s1.trans s2),fun H3 s3=>⟨_,s3 _ _ e2,?_,(s2.trans s3).upd hD,?_⟩⟩
    ·rw[b7,aQu];exact aP (by omega)
    ·rw[aB,aXb,i7];rfl
   ·rintro H2 ⟨s2,e2⟩
    refine⟨Dd,_,rfl,SqL.of e2,?_⟩
    rw[show (List.replicate ((ys.length:Nat):Int).toNat true).all id=true by rw[y1];intro b hb;exact(aXs.mp hb).2]
    exact k H2 (s1.trans s2)
theorem LD{f:Addr}{fd:FuncData}(D:Df K mg "_law_retold" IQ ["_law_retelling","_law_word_here"] f fd)(T:Txt P w K mg NR NW NQ NY NX NS NT NV NU NZ N0 f_NoAlphabet fd_NoAlphabet)(c_zh1:Cl P w K mg base "_law_back" ["_law_word_here"] 2 vH)(c_zb1:Cl P w K mg base "_law_laid" ["_law_text"] 2 tM):Cl P w K mg base "_law_retold" ["_law_retelling","_law_word_here"] 3 (xD K):=by
 refine D.cl (D.F.ok sc_z4 (fun vs H Q E h=>?_) (fun cdv A outer s H vs Q E hr h=>?_))
 ·obtain⟨a,rs,n,M,x,rfl,_⟩:=h
  rfl
 ·obtain⟨a,rs,n,M,x,rfl,hq,hr0,h1,h4,hM,hox,hxl,hxm,k⟩:=h
  refine⟨_,(aD (aM (i:=2) sc_z4.nd rfl (Or.inl rfl) bV)
   (aD (cW l4 rfl (iM (pv 1)) (aX (i:=3) sc_z4.nd rfl (Or.inl rfl)) (aD (aM (i:=4) sc_z4.nd rfl (Or.inl rfl) (aV (cG (K:=K) rfl) (pv 0) (cO (K:=K) rfl k7 aZ3 aZ4 (yK rfl) bV (aA (dH (K:=K) rfl k7 aQ5 aQ6 jO (pv 3)) aC)) (fun _ _=>rfl)))
   (iJ (cR (fP (dH (K:=K) rfl k7 aXR aXS lL (pv 3))) (aF (aM (i:=4) sc_z4.nd rfl (Or.inl rfl) (pC c_zh1 hr (aA (pv 4) aC)))) bI)
   (aF (aM (i:=2) sc_z4.nd rfl (Or.inl rfl) (bG eB (pv 2) (pv 4)))))))
   (aF (aQ (pC c_zb1 hr (aA (pv 2) aC)))))),?_⟩
  refine⟨_,rfl,S x,rfl,kR (w:=x) (fun i σ H1=>∃ v3 v4:Option V,σ=[some (.ref a),some (.str (S x)),some (.str (S (told rs (x.take i)))),v3,v4]∧Same H H1) ⟨none,none,by rw[uE];rfl,Same.refl H⟩ ?_ ?_⟩
  ·rintro i c σ H1 hc ⟨v3,v4,rfl,s1⟩
   have hi:i<x.length:=(a9.mp hc).1
   have hcn:=hox c (b8 hc)
   have hcL:cE c:=aN hcn
   have hc1:AllL [c]:=fun d hd=>by rw[d6.mp hd];exact hcL
   have tl:=qD hr0 (x.take i)
   have tm:(x.take i).length * M≤x.length * M:=aXG _ (by rw[j6];omega)
   have htk:told rs (x.take (i+1))=told rs (x.take i)++tell rs c:=by rw[bF hc,kF,dX,wX,m7]
   have hll:=zC hr0 c
   obtain⟨r,hr9⟩:∃ r,rs[lo c - 97]?=some r:=⟨_,b0 (Ll hcn hr0.len h1 h4)⟩
   have hra:=hr0.all r (b8 hr9)
   have hrl:=hr0.le r (b8 hr9)
   refine⟨_,rfl,rfl,_,rfl,rfl,S [c],rfl,rfl,kQ [c] hc1 (by simp),_,_,rfl,rfl,?_,a,cF rs,_,.str (S r),rfl,rfl,L2.SqT.same s1 hq,?_,?_⟩
   ·rw[gS hc1];exact(Bs hcL).1
   ·rw[gS hc1]
    show sI (cF rs) (Txt.find (Str.ofString "abcd") (S [lo c]))=some (.str (S r))
    rw[(Bs hcL).2]
    exact cN (lR hr9)
   refine⟨fun σ H2=>σ=[some (.ref a),some (.str (S x)),some (.str (S (told rs (x.take i)))),some (.str (S [c])),some (.str (S (tell rs c)))]∧Same H H2,?_,?_⟩
   ·refine⟨_,rfl,rfl,_,rfl,rfl,_,rfl,?_⟩
    rw[nJ hcL]
    have ht:tell rs c=if bC c=true then r else back r:=by
     unfold tell lo at *
     unfold bC
     by_cases q:96<c
     ·rw[if_pos q] at hr9
      rw[if_pos (decide_eq_true q),if_pos (decide_eq_true q),c5,hr9];rfl
     ·rw[if_neg q] at hr9
      rw[if_neg (by simpa using q),if_neg (by simpa using q),c5,show c - 65=c+32 - 97 by omega,hr9];rfl
    cases hlow:bC c with
    | true =>
     rw[hlow,if_pos rfl] at ht
     rw[ht]
     exact fQ ⟨rfl,s1⟩
    | false =>
     rw[hlow,if_neg (by decide)] at ht
     rw[ht]
     exact gY ⟨_,rfl,r,rfl,hra,by omega,fun H2 s2=>⟨rfl,s1.trans s2⟩⟩
   rintro _ H2 ⟨rfl,s2⟩
   refine⟨_,rfl,_,rfl,_,_,rfl,rfl,by rw[cH,cH];exact aI (by omega),some (.str (S [c])),some (.str (S (tell rs c))),?_,s2⟩
   rw[htk,lB]
   rfl
  ·rintro _ H1 ⟨v3,v4,rfl,s1⟩
   rw[l5]
   have tl:=qD hr0 x
   exact⟨_,rfl,told rs x,rfl,gZ hr0 x,by omega,fun H2 s2=>k H2 (s1.trans s2)⟩
theorem Ko{f:Addr}{fd:FuncData}(D:Df K mg "_law_then" GN ["_law_one","_law_other"] f fd)(T:Txt P w K mg NR NW NQ NY NX NS NT NV NU NZ N0 f_NoAlphabet fd_NoAlphabet)(c_z4:Cl P w K mg base "_law_retold" ["_law_retelling","_law_word_here"] 3 (xD K)):Cl P w K mg base "_law_then" ["_law_one","_law_other"] 4 (Ag K):=by
 refine D.cl (D.F.ok LV (fun vs H Q E h=>?_) (fun cdv A outer s H vs Q E hr h=>?_))
 ·obtain⟨a,b,f,s,n,M,L,rfl,_⟩:=h
  rfl
 ·obtain⟨a,b,f0,s0,n,M,L,rfl,ha,hb,hf0,hs0,hfo,h1,h4,hM,hL,hML,k⟩:=h
  refine⟨_,(aF (aQ (aY (bP (K:=K) rfl) (by rfl) T.b_tuple boot_tuple (aA (cM (sc0:=aG GN) (N:=["_law_one","_law_other"]) (ix:=[1]) (by decide +kernel) rfl rfl rfl (fT (K:=K) rfl (pv 0)) (fun _ _ _=>bW) (fun _ _ _=>(pC c_z4 hr (aA (pv 1) (aA (pv 0) aC))))) aC)))),?_⟩
  refine⟨_,rfl,a,rfl,⟨_,ha⟩,fun Dd hD=>eW (xs:=cF f0) (fun i H1=>Same H H1∧H1 Dd=some (.lst (cF ((f0.take i).map (retl s0))))) ⟨Same.new hD,aB⟩ (fun i H1 _ h=>L2.SqT.same h.1 ha) ?_ ?_⟩
  ·rintro i v H1 hv ⟨s1,e1⟩
   obtain⟨x,hx,rfl⟩:=gM hv
   have hxm:=b8 hx
   have hi:i<f0.length:=(a9.mp hx).1
   have hxl:=hf0.le x hxm
   refine⟨_,rfl,_,rfl,b,s0,n,L,x,rfl,L2.SqT.same s1 hb,hs0,h1,h4,hL,hfo x hxm,by omega,j8 (aXG _ hxl) (j8 hML (by decide)),fun H2 s2=>⟨_,s2 _ _ e1,?_,(s1.trans s2).upd hD,?_⟩⟩
   ·have:=hf0.len
    rw[bN,b7,j6];exact aP (by omega)
   ·rw[aB,t9,hx,i7]
    unfold cF
    rw[i7]
    rfl
  ·rintro H1 ⟨s1,e1⟩
   rw[bN,l5] at e1
   refine⟨Dd,_,rfl,.inl ⟨SqL.of e1,fun q hq=>k q _ (s1.free hq) (s1.upd' hq) aB⟩⟩
theorem IY{f:Addr}{fd:FuncData}(D:Df K mg "_law_same" El ["_law_n"] f fd)(T:Txt P w K mg NR NW NQ NY NX NS NT NV NU NZ N0 f_NoAlphabet fd_NoAlphabet):Cl P w K mg base "_law_same" ["_law_n"] 1 lU:=by
 refine D.cl (D.F.ok IN (fun vs H Q E h=>?_) (fun cdv A outer s H vs Q E hr h=>?_))
 ·obtain⟨n,rfl,_⟩:=h
  rfl
 ·obtain⟨n,rfl,h1,h4,k⟩:=h
  refine⟨_,(aF (aQ (aY (sF rfl) (by rfl) T.b_tuple boot_tuple (aA (eO jQ bV fF (eT (pv 0))) aC)))),?_⟩
  refine⟨_,rfl,_,rfl,_,rfl,by decide +kernel,bE n,?_,?_,fun l hl=>?_⟩
  ·show [V.str (Txt.slice (Str.ofString "abcd") none (some ((n:Nat):Int)))]=_
   rw[jU,gE _ (by omega) (by simp;omega)]
   rfl
  ·unfold bE;rw[j6];simp;omega
  ·refine k l _ hl (Same.new hl) ?_
   rw[aB,Gc]
   rfl
theorem Lz{f:Addr}{fd:FuncData}(D:Df K mg "_law_drawn_change" JG ["_law_flow_here","_law_n"] f fd)(T:Txt P w K mg NR NW NQ NY NX NS NT NV NU NZ N0 f_NoAlphabet fd_NoAlphabet)(c_zc1:Cl P w K mg base "_law_pick" ["_law_flow_here","_law_many"] 1 lQ)(c_z1:Cl P w K mg base "_law_letters" ["_law_n"] 1 kX)(c_zx:Cl P w K mg base "_law_contrary" ["_law_letter"] 1 jI):Cl P w K mg base "_law_drawn_change" ["_law_flow_here","_law_n"] 2 zK:=by
 refine D.cl (D.F.ok sc_zf (fun vs H Q E h=>?_) (fun cdv A outer s H vs Q E hr h=>?_))
 ·obtain⟨fl,sc,n,rfl,_⟩:=h
  rfl
 ·obtain⟨fl,sc,n,rfl,hf,h1,h4,k⟩:=h
  refine⟨_,(aD (aM (i:=2) sc_zf.nd rfl (Or.inl rfl) (aV (aO (K:=K) rfl) (pC c_z1 hr (aA (pv 1) aC)) (pC c_zc1 hr (aA (pv 0) (aA (bG kB aH (pv 1)) aC))) (fun _ _=>rfl)))
   (aD (aM (i:=3) sc_zf.nd rfl (Or.inl rfl) (cP aC))
   (aD (cW l4 rfl (dF (K:=K) rfl (pC c_z1 hr (aA (pv 1) aC))) (aX (i:=4) sc_zf.nd rfl (Or.inl rfl)) (aF (cR (pw_or (aT eM (pv 4) (pv 2) (aS _)) (pw_or1 (pw_and (aT jV (pv 4) (pC c_zx hr (aA (pv 2) aC)) (aS _)) (pw_and1 (aT eM (pC c_zc1 hr (aA (pv 0) (aA aH aC))) aH (aS _)))).pt)).pt (aF (cA (cO (K:=K) rfl j7 o0 o6 bX (pv 3) (aA (pv 4) aC)))) bI)))
   (aF (aQ (bH (aA (pv 2) (aA (aY (bP (K:=K) rfl) (by rfl) T.b_tuple boot_tuple (aA (pv 3) aC)) aC)))))))),?_⟩
  have i1:(1:Int)≤(n:Nat):=by omega
  have i4:((n:Nat):Int)≤4:=by omega
  refine⟨_,rfl,(n:Nat),rfl,i1,i4,fun l H1 hl s1 e1=>?_⟩
  refine⟨_,rfl,_,rfl,_,_,rfl,rfl,.inl ⟨by decide,by decide⟩,fl,sc,_,rfl,hf.same s1,by omega,by omega,fun d H2 d0 d1 f2 k2=>?_⟩
  have hln:=kN i1 i4
  obtain⟨c,hc⟩:∃ c,(aK (n:Nat))[d.toNat]?=some c:=⟨_,b0 (show d.toNat<(aK (n:Nat)).length by omega)⟩
  have hcm:c∈aK (n:Nat):=b8 hc
  have hcL:=aN hcm
  refine⟨l,_,_,.str (S [c]),rfl,rfl,SqL.of (k2 _ _ e1 (hf.ne hl)),lM d0 (mI hc),aI (by simp),fun sd hsd=>?_⟩
  have hsf:sd≠fl:=f2.ne hsd
  have hss:sd≠sc:=f2.ne2 hsd
  have k02:Kp fl H H2:=s1.kp.trans k2
  have hsd0:H sd=none:=k02.free hsd hsf
  refine⟨_,rfl,(n:Nat),rfl,i1,i4,fun l2 H3 hl2 s3 e3=>⟨l2,rfl,⟨_,SqL.of e3⟩,?_⟩⟩
  have hl2s:sd≠l2:=aJ (aB (H:=H2) (a:=sd) (o:=HO.lst [])) hl2
  have hl2f:l2≠fl:=(f2.upd hsd).ne hl2
  refine fB (K:=K) (a:=l2) (xs:=aZ (aK (n:Nat))) (fun i σ H4=>∃ (v4:Option V) (w:List Nat),σ=[some (.ref fl),some (.int (n:Nat)),some (.str (S [c])),some (.ref sd),v4]∧IsFl H4 fl sc∧Kp fl H H4∧H4 l2=some (.lst (aZ (aK (n:Nat))))∧H4 sd=some (.lst (aZ w))∧(∀ d∈w,d∈aK (n:Nat)∧d≠con c)∧w.length≤i∧(c∈(aK (n:Nat)).take i→c∈w)∧w.Sublist ((aK (n:Nat)).take i)) ?_ ?_ ?_ ?_
  ·exact⟨none,[],rfl,(f2.upd hsd).same s3,(k02.upd hsd0).trans s3.kp,e3,s3 _ _ aB,fun d hd=>(nomatch hd),b9 _,(fun h=>by simp at h),aJW []⟩
  ·rintro i _ H4 _ ⟨v4,w,rfl,f4,k4,e4,_⟩
   exact SqL.of e4
  ·rintro i v _ H4 hv ⟨v4,w,rfl,f4,k4,e4,es,hw,hwl,hin,hsub⟩
   obtain⟨o,ho,rfl⟩:∃ o,(aK (n:Nat))[i]?=some o∧v=.str (S [o]):=by
    unfold aZ at hv
    rw[c7] at hv
    cases hq:(aK (n:Nat))[i]? with
    | none=>rw[hq] at hv;cases hv
    | some o=>rw[hq] at hv;exact⟨o,rfl,(j1 hv).symm⟩
   have hom:=b8 ho
   have hi:i<8:=by have:=(a9.mp ho).1;omega
   have tk:c∈(aK (n:Nat)).take (i+1)→c∈(aK (n:Nat)).take i∨c=o:=fun h=>by
    rw[bF ho] at h
    rcases j9.mp h with q | q
    ·exact .inl q
    ·exact .inr (d6.mp q)
   have app:o≠con c→∀ H5,IsFl H5 fl sc→Kp fl H H5→H5 l2=some (.lst (aZ (aK (n:Nat))))→H5 sd=some (.lst (aZ w))→∃ (v4:Option V) (w':List Nat),[some (V.ref fl),some (.int (n:Nat)),some (.str (S [c])),some (.ref sd),some (.str (S [o]))]=[some (.ref fl),some (.int (n:Nat)),some (.str (S [c])),some (.ref sd),v4]∧IsFl (upd H5 sd (.lst (aZ w++[.str (S [o])]))) fl sc∧Kp fl H (upd H5 sd (.lst (aZ w++[.str (S [o])])))∧upd H5 sd (.lst (aZ w++[.str (S [o])])) l2=some (.lst (aZ (aK (n:Nat))))∧upd H5 sd (.lst (aZ w++[.str (S [o])])) sd=some (.lst (aZ w'))∧(∀ d∈w',d∈aK (n:Nat)∧d≠con c)∧w'.length≤i+1∧(c∈(aK (n:Nat)).take (i+1)→c∈w')∧w'.Sublist ((aK (n:Nat)).take (i+1)):=fun hoc H5 f5 k5 e5 es5=>by
    refine⟨_,w++[o],rfl,f5.set hsf hss,k5.upd hsd0,by rw[aE hl2s.symm];exact e5,by rw[aB,cK],fun d hd=>?_,by rw[c6,aQO];omega,fun h=>?_,(by rw[bF ho];exact hsub.append (aJW _))⟩
    ·rcases j9.mp hd with q | q
     ·exact hw d q
     ·rw[d6.mp q];exact⟨hom,hoc⟩
    ·rcases tk h with q | q
     ·exact p7 _ (hin q)
     ·rw[q];simp
   refine⟨_,rfl,_,rfl,rfl,_,rfl,fA (fun z=>gY ⟨_,rfl,.inl ⟨rfl,_,SqL.of es⟩,_,rfl,sd,_,_,rfl,rfl,es,by rw[bA];exact aP (by omega),app (by rw[gG] at z;have z':o=c:=(by simpa using z);rw[z'];exact(wS hcL).symm) H4 f4 k4 e4 es⟩) (fun z=>?_)⟩
   have hsub2:w.Sublist ((aK (n:Nat)).take (i+1)):=by rw[bF ho];exact hsub.trans (List.sublist_append_left _ _)
   have zc:¬ c=o:=fun e=>z (by rw[gG,e];simp)
   have nin:c∈(aK (n:Nat)).take (i+1)→c∈w:=fun h=>by
    rcases tk h with q | q
    ·exact hin q
    ·exact absurd q zc
   refine⟨_,rfl,_,rfl,c,rfl,hcL,fun H5 s5=>⟨rfl,_,rfl,fA (fun y=>?_) (fun y=>fQ ?_)⟩⟩
   ·refine⟨_,rfl,fl,sc,2,rfl,f4.same s5,by decide,by decide,fun e H6 e0 e1 f6 k6=>⟨rfl,_,rfl,fA (fun x=>?_) (fun x=>?_)⟩⟩
    ·have es6:=k6 _ _ (s5 _ _ es) hsf
     exact⟨_,rfl,.inl ⟨rfl,_,SqL.of es6⟩,_,rfl,sd,_,_,rfl,rfl,es6,by rw[bA];exact aP (by omega),app (fun e=>by rw[gG,e] at y;simp at y) H6 f6 ((k4.trans s5.kp).trans k6) (k6 _ _ (s5 _ _ e4) hl2f) es6⟩
    ·exact⟨_,w,rfl,f6,(k4.trans s5.kp).trans k6,k6 _ _ (s5 _ _ e4) hl2f,k6 _ _ (s5 _ _ es) hsf,hw,by omega,nin,hsub2⟩
   ·exact⟨_,w,rfl,f4.same s5,k4.trans s5.kp,s5 _ _ e4,s5 _ _ es,hw,by omega,nin,hsub2⟩
  ·rintro _ H4 ⟨v4,w,rfl,f4,k4,e4,es,hw,hwl,hin,hsub⟩
   rw[bA,l5] at hin hsub
   rw[bA,hln] at hwl
   refine⟨_,rfl,_,rfl,sd,_,rfl,.inl ⟨SqL.of es,fun q hq=>⟨aI (by simp),fun p hp=>?_⟩⟩⟩
   have hqf:q≠fl:=f4.ne hq
   have hpf:p≠fl:=(f4.upd hq).ne hp
   have hq0:H q=none:=k4.free hq hqf
   have hp0:H p=none:=(k4.upd hq0).free hp hpf
   have hpq:q≠p:=aJ (aB (H:=H4) (a:=q) (o:=HO.tup (aZ w))) hp
   exact k p c w _ hp0 ⟨hcm,fun d hd=>(hw d hd).1,(Ey h1 h4).sublist hsub,hin hcm,fun z=>(hw _ z).2 rfl⟩ (by omega) ⟨q,aB,by rw[aE hpq];exact aB⟩ ((f4.upd hq).upd hp) ((k4.upd hq0).upd hp0)
theorem Li{f:Addr}{fd:FuncData}(D:Df K mg "_law_change_told" J3 ["_law_n","_law_change"] f fd)(T:Txt P w K mg NR NW NQ NY NX NS NT NV NU NZ N0 f_NoAlphabet fd_NoAlphabet)(c_zx:Cl P w K mg base "_law_contrary" ["_law_letter"] 1 jI):Cl P w K mg base "_law_change_told" ["_law_n","_law_change"] 2 xI:=by
 refine D.cl (D.F.ok sc_zl (fun vs H Q E h=>?_) (fun cdv A outer s H vs Q E hr h=>?_))
 ·obtain⟨n,p,c,sd,rfl,_⟩:=h
  rfl
 ·obtain⟨n,p,c,sd,rfl,h1,h4,⟨q,ep,eq⟩,hc,hsd,k⟩:=h
  refine⟨_,(aD (eV (pv 1) (hJ (K:=K) rfl rfl (bK (aX (i:=2) sc_zl.nd rfl (Or.inl rfl)) (bK (aX (i:=3) sc_zl.nd rfl (Or.inl rfl)) fH))))
   (aD (aM (i:=4) sc_zl.nd rfl (Or.inl rfl) (cP aC))
   (aD (cW l4 rfl (iM (eO jQ bV fF (eT (pv 0)))) (aX (i:=5) sc_zl.nd rfl (Or.inl rfl)) (aD (aM (i:=6) sc_zl.nd rfl (Or.inl rfl) (pv 5))
   (iJ (cR (aT jV (pv 5) (dH (K:=K) rfl k7 aQ5 aQ6 jO (pv 2)) (aS _)) (aD (aM (i:=6) sc_zl.nd rfl (Or.inl rfl) (bG eB (pv 5) (bG qW (pv 2) (aY gU (by rfl) T.b_int boot_int (aA (dI (Ek (K:=K) rfl) (pv 5) (pv 3) (by rfl)) aC)))))
   (aF (aM (i:=6) sc_zl.nd rfl (Or.inl rfl) (bG eB (bG qW (pC c_zx hr (aA (pv 2) aC)) (aY gU (by rfl) T.b_int boot_int (aA (dI (Ek (K:=K) rfl) (pC c_zx hr (aA (pv 5) aC)) (pv 3) (by rfl)) aC))) (pv 6))))) bI)
   (aF (cA (cO (K:=K) rfl j7 o0 o6 bX (pv 4) (aA (pv 6) aC)))))))
   (aF (aQ (aY (bP (K:=K) rfl) (by rfl) T.b_tuple boot_tuple (aA (pv 4) aC))))))),?_⟩
  refine⟨_,rfl,p,_,rfl,.inr (SqT.of ep),rfl,_,_,rfl,_,_,rfl,rfl,?_⟩
  refine⟨aI (by simp),fun l hl=>?_⟩
  refine⟨_,rfl,_,rfl,_,rfl,by decide +kernel,S (bE n),?_,?_⟩
  ·show V.str (Txt.slice (Str.ofString "abcd") none (some ((n:Nat):Int)))=_
   rw[jU,gE _ (by omega) (by simp;omega)]
   rfl
  refine kR (w:=bE n) (fun i σ H1=>∃ v5 v6:Option V,σ=[some (.int (n:Nat)),some (.ref p),some (.str (S [c])),some (.ref q),some (.ref l),v5,v6]∧Same H H1∧H1 l=some (.lst (cF (((bE n).take i).map (tF c sd))))) ⟨none,none,rfl,Same.new hl,aB⟩ ?_ ?_
  ·rintro i d σ H1 hd ⟨v5,v6,rfl,s1,e1⟩
   have hm:=b8 hd
   have hdL:=iG hm
   have hdl:=fU hm
   have hi:i<4:=by have:=(a9.mp hd).1;rw[cC h4] at this;omega
   have hc1:=cU hc
   refine⟨_,rfl,?_⟩
   refine⟨fun σ H2=>σ=[some (.int (n:Nat)),some (.ref p),some (.str (S [c])),some (.ref q),some (.ref l),some (.str (S [d])),some (.str (S (tF c sd d)))]∧Same H1 H2,?_,?_⟩
   ·refine⟨_,rfl,_,rfl,rfl,S [c],rfl,rfl,kQ [c] hc1 (by simp),?_⟩
    rw[gS hc1]
    refine⟨rfl,_,rfl,?_⟩
    show if (!decide (V.str (S [d])=V.str (S [lo c])))=true then _ else _
    rw[Jg]
    by_cases hlo:d=lo c
    ·rw[decide_eq_true hlo]
     have e:tF c sd d=[d]:=by unfold tF;rw[if_pos hlo]
     rw[e]
     exact fQ ⟨rfl,Same.refl _⟩
    ·rw[decide_eq_false hlo]
     refine gY ⟨_,rfl,_,rfl,_,rfl,_,rfl,q,aZ sd,rfl,.inr (SqT.of (s1 _ _ eq)),rfl,sR sd,.inr ⟨_,rfl,?_⟩⟩
     refine⟨S [c],(if Ed (.str (S [d])) (aZ sd)=true then 1 else 0),rfl,rfl,By _ _,?_⟩
     rw[HG,Dv]
     have hu1:(if decide (d∈sd)=true then [c] else []).length≤1:=by split <;> simp
     have hu2:(if decide (d∈sd)=true then [c] else [])=(if d∈sd then [c] else []):=by simp only [decide_eq_true_iff]
     generalize (if decide (d∈sd)=true then [c] else [])=u at hu1 hu2
     refine⟨_,_,rfl,rfl,by rw[cH,cH];exact aI (by simp;omega),?_⟩
     rw[lB]
     refine⟨_,rfl,c,rfl,hc,fun H2 s2=>⟨_,rfl,d,rfl,hdL,fun H3 s3=>⟨_,rfl,q,aZ sd,rfl,.inr (SqT.of (s3 _ _ (s2 _ _ (s1 _ _ eq)))),rfl,sR sd,.inr ⟨_,rfl,S [con c],(if Ed (.str (S [con d])) (aZ sd)=true then 1 else 0),rfl,rfl,By _ _,?_⟩⟩⟩⟩
     rw[HG,Dv]
     have hv1:(if decide (con d∈sd)=true then [con c] else []).length≤1:=by split <;> simp
     have hv2:(if decide (con d∈sd)=true then [con c] else [])=(if con d∈sd then [con c] else []):=by simp only [decide_eq_true_iff]
     generalize (if decide (con d∈sd)=true then [con c] else [])=v at hv1 hv2
     refine⟨_,rfl,_,_,rfl,rfl,by rw[cH,cH,c6];exact aI (by simp;omega),?_,s2.trans s3⟩
     rw[lB,← l6,hu2,hv2]
     have e:tF c sd d=(if con d∈sd then [con c] else [])++[d]++(if d∈sd then [c] else []):=by unfold tF;rw[if_neg hlo]
     rw[e]
     rfl
   rintro _ H2 ⟨rfl,s2⟩
   have e2:=s2 _ _ e1
   refine⟨_,rfl,.inl ⟨rfl,_,SqL.of e2⟩,_,rfl,l,_,_,rfl,rfl,e2,?_,_,_,rfl,(s1.trans s2).upd hl,?_⟩
   ·rw[bN,b7,j6];exact aP (by omega)
   ·rw[aB,bF hd,i7]
    unfold cF
    rw[i7]
    rfl
  ·rintro _ H1 ⟨v5,v6,rfl,s1,e1⟩
   rw[l5] at e1
   exact⟨_,rfl,l,_,rfl,.inl ⟨SqL.of e1,fun t ht=>k t _ (s1.free ht) (s1.upd' ht) aB⟩⟩
theorem KJ{f:Addr}{fd:FuncData}(D:Df K mg "_law_exchange" Kf ["_law_flow_here","_law_n"] f fd)(T:Txt P w K mg NR NW NQ NY NX NS NT NV NU NZ N0 f_NoAlphabet fd_NoAlphabet)(c_zc1:Cl P w K mg base "_law_pick" ["_law_flow_here","_law_many"] 1 lQ):Cl P w K mg base "_law_exchange" ["_law_flow_here","_law_n"] 2 BI:=by
 refine D.cl (D.F.ok sc_zz (fun vs H Q E h=>?_) (fun cdv A outer s H vs Q E hr h=>?_))
 ·obtain⟨fl,sc,n,rfl,_⟩:=h
  rfl
 ·obtain⟨fl,sc,n,rfl,hf,h1,h4,k⟩:=h
  refine⟨_,(aD (aM (i:=2) sc_zz.nd rfl (Or.inl rfl) (aY (nC rfl) (by rfl) T.b_list boot_list (aA (eO jQ bV fF (eT (pv 1))) aC)))
   (aD (aM (i:=3) sc_zz.nd rfl (Or.inl rfl) (cP aC))
   (aD (cW l4 rfl (fN (by rfl) T.b_range (aA (pv 1) aC)) (aX (i:=4) sc_zz.nd rfl (Or.inl rfl)) (aD (aM (i:=5) sc_zz.nd rfl (Or.inl rfl) (cO (K:=K) rfl j7 aQy aQz xH (pv 2) (aA (pC c_zc1 hr (aA (pv 0) (aA (aL (bM (K:=K) rfl) (by rfl) T.b_len m4 (aA (pv 2) aC)) aC))) aC)))
   (aF (cA (cO (K:=K) rfl j7 o0 o6 bX (pv 3) (aA (aV (aO (K:=K) rfl) (cP (aA (pv 5) (aA (dH (K:=K) rfl k7 aQ3 aQ4 kI (pv 5)) aC))) (pC c_zc1 hr (aA (pv 0) (aA aH aC))) (fun _ _=>rfl)) aC))))))
   (aF (aQ (aY (bP (K:=K) rfl) (by rfl) T.b_tuple boot_tuple (aA (pv 3) aC))))))),?_⟩
  refine⟨_,rfl,_,rfl,_,rfl,by decide +kernel,bE n,?_,?_,fun l hl=>?_⟩
  ·show [V.str (Txt.slice (Str.ofString "abcd") none (some ((n:Nat):Int)))]=_
   rw[jU,gE _ (by omega) (by simp;omega)]
   rfl
  ·rw[cC h4];omega
  refine⟨aI (by simp),fun fd hfd=>?_⟩
  have hlf:l≠fl:=hf.ne hl
  have hls:l≠sc:=hf.ne2 hl
  have hff:fd≠fl:=(hf.upd hl).ne hfd
  have hfs:fd≠sc:=(hf.upd hl).ne2 hfd
  have hld:l≠fd:=aJ (aB (H:=H) (a:=l) (o:=HO.lst ((bE n).map fun c=>V.str (S [c])))) hfd
  have hfd0:H fd=none:=by rw[aE hld.symm] at hfd;exact hfd
  refine⟨_,rfl,(n:Nat),rfl,by omega,by omega,oK (lo:=0) (n:=((n:Nat):Int).toNat) (fun i σ H1=>∃ (v4 v5:Option V) (ls cs:List Nat),σ=[some (.ref fl),some (.int (n:Nat)),some (.ref l),some (.ref fd),v4,v5]∧IsFl H1 fl sc∧Kp fl H H1∧H1 l=some (.lst (aZ ls))∧H1 fd=some (.lst (cF (bU cs)))∧(∀ d∈ls,d∈bE n)∧ls.length+i=n∧cs.length=i∧(∀ c∈cs,c∈aK (n:Nat))∧(cs.map lo++ls).Perm (bE n)) ?_ ?_ ?_⟩
  ·refine⟨none,none,bE n,[],rfl,(hf.upd hl).upd hfd,((Kp.refl fl H).upd hl).upd hfd0,?_,aB,fun d hd=>hd,by rw[cC h4];rfl,rfl,(fun x hx=>nomatch hx),aJq _⟩
   rw[aE hld,aB]
   rfl
  ·rintro i _ H1 hi ⟨v4,v5,ls,cs,rfl,f1,k1,el,ef,hls',hll,hsl,hst,hpm⟩
   have hpos:0<ls.length:=by omega
   refine⟨_,rfl,.inl ⟨rfl,_,SqL.of el⟩,_,rfl,_,rfl,l,_,rfl,.inl (SqL.of el),fl,sc,_,rfl,f1,by rw[bA];omega,by rw[bA];omega,fun g H2 g0 g1 f2 k2=>?_⟩
   rw[bA] at g1
   obtain⟨d,hd⟩:∃ d,ls[g.toNat]?=some d:=⟨_,b0 (by omega)⟩
   have hdm:=hls' d (b8 hd)
   have hdL:=iG hdm
   have hdl:=fU hdm
   have hdn:=dM h1 h4 hdm
   have el2:=k2 _ _ el hlf
   refine⟨l,_,g,g.toNat,.str (S [d]),rfl,rfl,el2,by omega,by omega,?_,mI hd,?_⟩
   ·rw[bA]
    exact aXe g0 (by omega)
   rw[qP]
   have hel:(ls.eraseIdx g.toNat).length=ls.length - 1:=by rw[List.length_eraseIdx,if_pos (by omega)]
   have hes:∀ d∈ls.eraseIdx g.toNat,d∈bE n:=fun d hd=>hls' d (List.mem_of_mem_eraseIdx hd)
   have hpe:=zU hd
   generalize ls.eraseIdx g.toNat=ls2 at hel hes hpe
   have f3:IsFl (upd H2 l (.lst (aZ ls2))) fl sc:=f2.set hlf hls
   have hl0:H l=none:=hl
   have k3:Kp fl H (upd H2 l (.lst (aZ ls2))):=(k1.trans k2).upd hl0
   have el3:upd H2 l (.lst (aZ ls2)) l=some (.lst (aZ ls2)):=aB
   have ef3:upd H2 l (.lst (aZ ls2)) fd=some (.lst (cF (bU cs))):=by rw[aE hld.symm];exact k2 _ _ ef hff
   generalize upd H2 l (.lst (aZ ls2))=H3 at f3 k3 el3 ef3
   refine⟨_,rfl,.inl ⟨rfl,_,SqL.of ef3⟩,_,rfl,_,rfl,rfl,S [d],rfl,rfl,by rw[fW hdL hdl];exact nS _,aI (by simp),fun q hq=>?_⟩
   rw[fW hdL hdl]
   refine⟨_,rfl,fl,sc,2,rfl,f3.upd hq,by decide,by decide,fun e H4 e0 e1 f4 k4=>?_⟩
   obtain⟨x,hx,hxn,hxl⟩:∃ x,sI [V.str (S [d]),V.str (S [con d])] e=some (.str (S [x]))∧x∈aK (n:Nat)∧lo x=d:=by
    have:e=0∨e=1:=by omega
    rcases this with rfl | rfl
    ·exact⟨d,rfl,hdn,zW hdL hdl⟩
    ·exact⟨con d,rfl,dC (by omega) (by omega) hdn,JX hdL hdl⟩
   have hqf:q≠fl:=f3.ne hq
   have ef4:=k4 _ _ (show upd H3 q (.lst [.str (S [d]),.str (S [con d])]) fd=some (.lst (cF (bU cs))) by rw[aE (aJ ef3 hq)];exact ef3) hff
   have el4:=k4 _ _ (show upd H3 q (.lst [.str (S [d]),.str (S [con d])]) l=some (.lst (aZ ls2)) by rw[aE (aJ el3 hq)];exact el3) hlf
   have eq4:=k4 _ _ (aB (H:=H3) (a:=q) (o:=HO.lst [.str (S [d]),.str (S [con d])])) hqf
   refine⟨q,_,_,_,rfl,rfl,SqL.of eq4,hx,fd,_,_,rfl,rfl,ef4,by rw[bN];unfold bU;rw[b7];exact aP (by omega),_,_,ls2,cs++[x],rfl,f4.set hff hfs,((k3.upd (k3.free hq hqf)).trans k4).upd hfd0,by rw[aE hld];exact el4,?_,hes,by omega,by rw[c6,hsl];rfl,fun y hy=>?_,?_⟩
   ·rw[aB];unfold cF bU;rw[i7,i7];rfl
   ·rcases j9.mp hy with z | z
    ·exact hst y z
    ·rw[d6.mp z];exact hxn
   ·rw[i7,l6]
    show (cs.map lo++(lo x::ls2)).Perm _
    rw[hxl]
    exact(hpe.append_left _).trans hpm
  ·rintro _ H1 ⟨v4,v5,ls,cs,rfl,f1,k1,el,ef,hls',hll,hsl,hst,hpm⟩
   rw[aQY] at hsl
   have hls0:ls=[]:=r9.mp (by have:ls.length+((n:Nat):Int).toNat=n:=hll;rw[aQY] at this;omega)
   subst hls0
   rw[m7] at hpm
   refine⟨_,rfl,fd,_,rfl,.inl ⟨SqL.of ef,fun p hp=>k p cs _ (k1.free hp (f1.ne hp)) ⟨hsl,hst,hpm⟩ ⟨by unfold bU;rw[b7];exact hsl,fun x hx=>?_,fun x hx=>?_⟩ (fun x hx=>?_) aB (f1.upd hp) (k1.upd (k1.free hp (f1.ne hp)))⟩⟩
   ·obtain⟨e,he,rfl⟩:=i3.mp hx
    exact cU (aN (hst e he))
   ·obtain⟨e,he,rfl⟩:=i3.mp hx
    exact b9 _
   ·obtain⟨e,he,rfl⟩:=i3.mp hx
    intro z hz
    rw[d6.mp hz];exact hst e he
theorem IX{f:Addr}{fd:FuncData}(D:Df K mg "_law_key" Bg ["_law_word_here"] f fd)(T:Txt P w K mg NR NW NQ NY NX NS NT NV NU NZ N0 f_NoAlphabet fd_NoAlphabet):Cl P w K mg base "_law_key" ["_law_word_here"] 1 Fz:=by
 refine D.cl (D.F.ok HP (fun vs H Q E h=>?_) (fun cdv A outer s H vs Q E hr h=>?_))
 ·obtain⟨x,rfl,_⟩:=h
  rfl
 ·obtain⟨x,rfl,hx,hlen,k⟩:=h
  refine⟨_,(aF (aQ (bH (aA (aL eJ (by rfl) T.b_len m4 (aA (pv 0) aC)) (aA (cM (sc0:=aG Bg) (N:=["_law_word_here"]) (ix:=[]) (by decide +kernel) rfl rfl rfl (iM (pv 0)) (fun _ _ _=>bW) (fun _ _ _=>(cO (K:=K) rfl k7 aZ3 aZ4 (yK rfl) bV (aA (pv 0) aC)))) aC))))),?_⟩
  refine⟨_,rfl,_,rfl,by rw[cH];exact aI (by omega),_,rfl,S x,rfl,fun Dd hD=>jA (w:=x) (fun i H1=>Same H H1∧H1 Dd=some (.lst ((rks (x.take i)).map V.int))) ⟨Same.new hD,aB⟩ ?_ ?_⟩
  ·rintro i c H1 hc ⟨s1,e1⟩
   have hi:i<x.length:=(a9.mp hc).1
   have hcL:=hx c (b8 hc)
   refine⟨rfl,_,rfl,_,_,rfl,rfl,(HF hcL).1,?_⟩
   rw[(HF hcL).2]
   refine⟨_,e1,?_,s1.upd hD,?_⟩
   ·rw[b7,pP,j6];exact aP (by omega)
   ·rw[aB,bF hc];unfold rks;rw[i7,i7];rfl
  ·rintro H1 ⟨s1,e1⟩
   rw[l5] at e1
   refine⟨aI (by simp),fun p hp=>?_⟩
   rw[cH]
   exact k p Dd _ (s1.free hp) hD (s1.upd' hp) aB (by rw[aE (aJ e1 hp)];exact e1)
theorem LU{f:Addr}{fd:FuncData}(D:Df K mg "_law_change_back" Hf ["_law_change"] f fd)(T:Txt P w K mg NR NW NQ NY NX NS NT NV NU NZ N0 f_NoAlphabet fd_NoAlphabet)(c_zx:Cl P w K mg base "_law_contrary" ["_law_letter"] 1 jI)(c_zj1:Cl P w K mg base "_law_key" ["_law_word_here"] 1 Fz):Cl P w K mg base "_law_change_back" ["_law_change"] 4 Er:=by
 obtain⟨f_zj1,fd_zj1,G_zj1,m_zj1,k_zj1,b_zj1⟩:=c_zj1
 refine D.cl (D.F.ok sc_zh (fun vs H Q E h=>?_) (fun cdv A outer s H vs Q E hr h=>?_))
 ·obtain⟨n,p,c,sd,rfl,_⟩:=h
  rfl
 ·obtain⟨n,p,c,sd,rfl,h1,h4,⟨q,ep,eq⟩,g,hl8,k⟩:=h
  refine⟨_,(aD (eV (pv 0) (hJ (K:=K) rfl rfl (bK (aX (i:=1) sc_zh.nd rfl (Or.inr rfl)) (bK (aX (i:=2) sc_zh.nd rfl (Or.inl rfl)) fH))))
   (aD (aM (i:=3) sc_zh.nd rfl (Or.inl rfl) (bG FD (cM (sc0:=aG Hf) (N:=["_law_change","_law_letter","_law_side","_law_other"]) (ix:=[1]) (by decide +kernel) rfl rfl rfl (fT (K:=K) rfl (pv 2)) (fun _ _ _=>yA (aT jV (pv 0) (pv 1) (aS _))) (fun _ _ _=>(pv 0))) (cP (aA (pC c_zx hr (aA (pv 1) aC)) aC))))
   (aF (aQ (bH (aA (pC c_zx hr (aA (pv 1) aC)) (aA (aY (bP (K:=K) rfl) (by rfl) T.b_tuple boot_tuple (aA (D8 (K:=K) rfl G_zj1 (hr.mono (by decide)) b_zj1 (by rfl) T.b_sorted (by rfl) m_zj1 (aA (pv 3) aC)) aC)) aC))))))),?_⟩
  have hcL:=aN g.let'
  refine⟨_,rfl,p,_,rfl,.inr (SqT.of ep),rfl,_,_,rfl,_,_,rfl,rfl,?_⟩
  refine⟨_,rfl,q,rfl,⟨_,SqT.of eq⟩,fun Dd hD=>eW (xs:=aZ sd) (fun i H2=>Same H H2∧H2 Dd=some (.lst (aZ ((sd.take i).filter fun d=>decide (d≠c))))) ⟨Same.new hD,aB⟩ (fun i H2 _ h=>SqT.of (h.1 _ _ eq)) ?_ ?_⟩
  ·rintro i v H2 hv ⟨s2,eD⟩
   obtain⟨d,hd,rfl⟩:=A7 hv
   have hi:i<sd.length:=(a9.mp hd).1
   refine⟨_,rfl,_,rfl,rfl,_,rfl,?_⟩
   rw[gG]
   refine fA (fun z=>?_) (fun z=>?_)
   ·have z':d≠c:=by simpa using z
    refine⟨_,rfl,_,eD,?_,s2.upd hD,?_⟩
    ·rw[bA]
     have:=aXC (fun d=>decide (d≠c)) (sd.take i)
     rw[j6] at this
     exact aP (by omega)
    ·rw[aB,bF hd,aJI,aZS (by simpa using z'),aJl,cK]
   ·have z':d=c:=by simpa using z
    refine⟨s2,?_⟩
    rw[bF hd,aJI,aZR (by simpa using z'),aJl,m7]
    exact eD
  ·rintro H2 ⟨s2,eD⟩
   rw[bA,l5] at eD
   have hfl:(sd.filter fun d=>decide (d≠c)).length≤8:=j8 (aXC _ _) hl8
   have hfm:∀ d∈(sd.filter fun d=>decide (d≠c))++[con c],cE d:=fun d hd=>by
    rcases j9.mp hd with z | z
    ·exact aN (g.side d (aQl.mp z).1)
    ·rw[d6.mp z];exact cV hcL
   have hss:=fun (ws:List (List Nat)) hp ho=>yF (ws:=ws) h1 h4 g hp ho
   generalize (sd.filter fun d=>decide (d≠c))=F at eD hfl hfm hss
   refine⟨_,rfl,c,rfl,hcL,fun H3 s3=>⟨aI (by simp),fun l hl=>?_⟩⟩
   have eD3:=s3 _ _ eD
   refine⟨Dd,l,_,_,rfl,rfl,by rw[aE (aJ eD3 hl)];exact eD3,aB,aI (by rw[bA];simp;omega),fun L hL=>?_⟩
   have s4:Same H3 (upd (upd H3 l (.lst [.str (S [con c])])) L (.lst (aZ F++[.str (S [con c])]))):=(Same.new hl).upd' hL
   have e4:upd (upd H3 l (.lst [.str (S [con c])])) L (.lst (aZ F++[.str (S [con c])])) L=some (.lst (cF (bU (F++[con c])))):=by rw[aB,uP,cK]
   generalize upd (upd H3 l (.lst [.str (S [con c])])) L (.lst (aZ F++[.str (S [con c])]))=H4 at s4 e4
   refine⟨_,rfl,c,rfl,hcL,fun H6 s6=>⟨_,rfl,?_⟩⟩
   have e6:=s6 _ _ e4
   obtain⟨l',xs',kz,Pv,el,a0,a1,a2,a3,a4,a5,a6,a7⟩:=Ec (K:=K) (Q:=fun v H''=>∃ D ws',v=V.ref D∧H6 D=none∧Same H6 H''∧H'' D=some (.lst (cF ws'))∧ws'.Perm (bU (F++[con c]))∧ws'.Pairwise DS) (SqL.of e6) (by unfold bU;rw[b7,c6];show F.length+1<64;omega) (fun y hy=>by
    obtain⟨d,hd,rfl⟩:=i3.mp hy
    exact⟨cU (hfm d hd),by simp⟩) (fun D ws' H' a b c d e=>⟨D,ws',rfl,a,b,c,d,e⟩)
   refine⟨l',xs',kz,Pv,el,a0,a1,a2,a3,a4,a5,a6,fun S' ks H5' hP=>?_⟩
   obtain⟨b1,b2,b3,b4⟩:=a7 S' ks H5' hP
   refine⟨b1,b2,b3,fun pp hpp so L2 hL2=>?_⟩
   obtain⟨L',ws,eL,_,s7,e7,hp7,ho7⟩:=b4 pp hpp so L2 hL2
   cases eL
   generalize upd (upd H5' S' (.lst [])) L2 (.lst (pp.toList.map fun i=>xs'.getD i .non))=H7 at s7 e7
   rw[hss ws hp7 ho7,uP] at e7
   have s17:Same H H7:=(((s2.trans s3).trans s4).trans s6).trans s7
   refine⟨L2,_,rfl,.inl ⟨SqL.of e7,fun t ht=>⟨aI (by simp),fun r hr=>k r _ ((s17.upd' ht).upd' hr) ⟨t,aB,?_⟩⟩⟩⟩
   rw[aE (aJ (aB (H:=H7) (a:=t) (o:=HO.tup (aZ (nK c sd)))) hr)]
   exact aB
theorem L3{f:Addr}{fd:FuncData}(D:Df K mg "_law_alphabet" Hl ["_law_flow_here","_law_n","_law_steps","_law_most_here"] f fd)(T:Txt P w K mg NR NW NQ NY NX NS NT NV NU NZ N0 f_NoAlphabet fd_NoAlphabet)(c_zc1:Cl P w K mg base "_law_pick" ["_law_flow_here","_law_many"] 1 lQ)(c_z8:Cl P w K mg base "_law_then" ["_law_one","_law_other"] 4 (Ag K))(c_zg1:Cl P w K mg base "_law_same" ["_law_n"] 1 lU)(c_zf:Cl P w K mg base "_law_drawn_change" ["_law_flow_here","_law_n"] 2 zK)(c_zl:Cl P w K mg base "_law_change_told" ["_law_n","_law_change"] 2 xI)(c_zh:Cl P w K mg base "_law_change_back" ["_law_change"] 4 Er):Cl P w K mg base "_law_alphabet" ["_law_flow_here","_law_n","_law_steps","_law_most_here"] 5 E5:=by
 refine D.cl (D.F.ok sc_z0 (fun vs H Q E h=>?_) (fun cdv A outer s H vs Q E hr h=>?_))
 ·obtain⟨fl,sc,n,mo,st,rfl,_⟩:=h
  rfl
 ·obtain⟨fl,sc,n,mo,st,rfl,f,h1,h4,m1,m8,s0,s9,k⟩:=h
  refine⟨_,(aD (wD (i:=4) (j:=5) rfl sc_z0.nd rfl rfl (by decide) rfl rfl (aA (pC c_zg1 hr (aA (pv 1) aC)) (aA (pC c_zg1 hr (aA (pv 1) aC)) aC)) (by rfl))
   (aD (cW l4 rfl (fN (by rfl) T.b_range (aA (pC c_zc1 hr (aA (pv 0) (aA (bG fI (pv 2) aH) aC))) aC)) (aX (i:=6) sc_z0.nd rfl (Or.inl rfl)) (aD (aM (i:=7) sc_z0.nd rfl (Or.inl rfl) (pC c_zf hr (aA (pv 0) (aA (pv 1) aC))))
   (aD (aM (i:=8) sc_z0.nd rfl (Or.inl rfl) (pC c_z8 hr (aA (pv 4) (aA (pC c_zl hr (aA (pv 1) (aA (pv 7) aC))) aC))))
   (aD (aM (i:=9) sc_z0.nd rfl (Or.inl rfl) (pC c_z8 hr (aA (pC c_zl hr (aA (pv 1) (aA (pC c_zh hr (aA (pv 7) aC)) aC))) (aA (pv 5) aC))))
   (aF (cR (aT DA (aL (tW (K:=K) rfl rfl) (by rfl) T.b_max boot_max (aA (cM (sc0:=aG Hl) (N:=["_law_flow_here","_law_n","_law_steps","_law_most_here","_law_found","_law_back_here","_law_k","_law_change","_law_further","_law_further_back"]) (ix:=[]) (by decide +kernel) rfl rfl rfl (fT (K:=K) rfl (bG (Eb (K:=K) rfl) (pv 8) (pv 9))) (fun _ _ _=>bW) (fun _ _ _=>(aL eJ (by rfl) T.b_len m4 (aA (pv 0) aC)))) aC)) (pv 3) (aS _)) (aF (wD (i:=4) (j:=5) rfl sc_z0.nd rfl rfl (by decide) rfl rfl (aA (pv 8) (aA (pv 9) aC)) (by rfl))) bI))))))
   (aF (aQ (bH (aA (pv 4) (aA (pv 5) aC))))))),?_⟩
  refine⟨_,rfl,n,rfl,h1,h4,fun p1 H1 hp1 s1 e1=>?_⟩
  refine⟨_,rfl,n,rfl,h1,h4,fun p2 H2 hp2 s2 e2=>?_⟩
  have f2:=(f.same s1).same s2
  have e12:=s2 _ _ e1
  have k02:Kp fl H H2:=(s1.trans s2).kp
  refine⟨_,_,rfl,_,rfl,_,rfl,_,_,rfl,rfl,fl,sc,_,rfl,f2,(by show (0:Int)<st+1;omega),(by show st+1<(1073741824:Int);omega),fun d H3 d0 d1 f3 k3=>⟨d,rfl,by omega,by have:d<st+1:=d1;omega,?_⟩⟩
  refine oK (lo:=0) (n:=d.toNat) (fun i σ G=>∃ (a b:Addr) (fd bk:List (List Nat)) (v6 v7 v8 v9:Option V),σ=[some (.ref fl),some (.int (n:Nat)),some (.int st),some (.int (mo:Nat)),some (.ref a),some (.ref b),v6,v7,v8,v9]∧pH G a fd∧pH G b bk∧IvG n fd bk mo mo∧IsFl G fl sc∧Kp fl H G) ?_ ?_ ?_
  ·exact⟨p1,p2,cS n,cS n,none,none,none,none,rfl,oQ f2 k3 e12,oQ f2 k3 e2,IvG.low h1 h4 mo mo m1 m1,f3,k02.trans k3⟩
  ·rintro i _ G hi ⟨a,b,fd,bk,v6,v7,v8,v9,rfl,ea,eb,iv,fG,kG⟩
   refine⟨_,rfl,_,rfl,fl,sc,n,rfl,fG,h1,h4,fun p c sd G2 hp gd hl8 ic fG2 kG2=>?_⟩
   have hcL:=aN gd.let'
   have hsL:∀ d∈sd,cE d:=fun d hd=>aN (gd.side d hd)
   have ic':=gd.back h1 h4
   obtain⟨r1,r2,r3,r4⟩:=Gi h1 h4 gd
   have ea2:=oQ fG kG2 ea
   have eb2:=oQ fG kG2 eb
   refine⟨_,rfl,_,rfl,_,rfl,n,p,c,sd,rfl,h1,h4,ic,hcL,hsL,fun t3 G3 ht3 s3 e3=>?_⟩
   refine⟨a,t3,fd,jK n c sd,n,mo,3,rfl,SqT.of (s3 _ _ ea2),SqT.of e3,iv.rt,r1.1,fun x hx=>(iv.ro x hx).1,h1,h4,by omega,by omega,by omega,fun pf G4 hpf s4 e4=>?_⟩
   have s24:=s3.trans s4
   refine⟨_,rfl,_,rfl,n,p,c,sd,rfl,h1,h4,ic.same s24,gd,hl8,fun q5 G5 s5 ic5=>?_⟩
   refine⟨n,q5,con c,nK c sd,rfl,h1,h4,ic5,cV hcL,fun d hd=>aN (ic'.side d hd),fun t6 G6 ht6 s6 e6=>?_⟩
   have s26:=(s24.trans s5).trans s6
   refine⟨_,rfl,t6,b,jK n (con c) (nK c sd),bk,n,3,mo,rfl,SqT.of e6,SqT.of (s26 _ _ eb2),r2.1,iv.bt,r2.2,h1,h4,by omega,by omega,by omega,fun pb G7 hpb s7 e7=>?_⟩
   have s27:=s26.trans s7
   have s47:=(s5.trans s6).trans s7
   have fG7:=fG2.same s27
   have kG7:Kp fl H G7:=(kG.trans kG2).trans s27.kp
   have iv2:=iv.comp h1 h4 r1 r2 r3 r4
   have e47:=s47 _ _ e4
   have nf:(bB fd (jK n c sd)).length=n:=iv2.rt.len
   have nb:(bB (jK n (con c) (nK c sd)) bk).length=n:=iv2.bt.len
   generalize bB fd (jK n c sd)=ff at e47 iv2 nf
   generalize bB (jK n (con c) (nK c sd)) bk=fb at e7 iv2 nb
   have lall:∀ x∈ff++fb,x.length≤24:=fun x hx=>by
    rcases j9.mp hx with z | z
    ·have:=iv2.rt.le x z;omega
    ·have:=iv2.bt.le x z;omega
   have nn:∀ {l:List (List Nat)},l.length=n→cF l≠[]:=fun {l} e z=>by
    have:=congrArg List.length z
    rw[bN,e] at this
    simp at this
    omega
   refine⟨_,rfl,_,rfl,pf,pb,_,_,rfl,rfl,SqT.of e47,SqT.of e7,nn nf,aI (by rw[bN,bN];omega),(fun z=>absurd z (nn nb)),fun _ pt hpt=>?_⟩
   have ec:cF ff++cF fb=cF (ff++fb):=by unfold cF;rw[i7]
   rw[ec]
   have s8:=Same.new (o:=HO.tup (cF (ff++fb))) hpt
   have e8:upd G7 pt (.tup (cF (ff++fb))) pt=some (.tup (cF (ff++fb))):=aB
   generalize upd G7 pt (.tup (cF (ff++fb)))=G8 at s8 e8
   refine⟨pt,rfl,⟨_,SqT.of e8⟩,fun Dd hD=>eW (K:=K) (a:=pt) (xs:=cF (ff++fb)) (fun i G9=>Same G8 G9∧G9 Dd=some (.lst ((((ff++fb).take i).map fun x=>((x.length:Nat):Int)).map V.int))) ⟨Same.new hD,aB⟩ (fun i G9 _ h=>SqT.of (h.1 _ _ e8)) ?_ ?_⟩
   ·rintro i v G9 hv ⟨s9,e9⟩
    obtain⟨x,hx,rfl⟩:=gM hv
    have hxl:=lall x (b8 hx)
    have hil:=(a9.mp hx).1
    refine⟨_,rfl,S x,rfl,aI (by rw[cH];omega),_,e9,?_,s9.upd hD,?_⟩
    ·rw[b7,b7,j6]
     have:(ff++fb).length=n+n:=by rw[c6,nf,nb]
     exact aP (by omega)
    ·rw[aB,t9,hx,i7,i7,cH]
     rfl
   ·rintro G9 ⟨s9,e9⟩
    rw[bN,l5] at e9
    refine⟨Dd,_,rfl,SqL.of e9,by rw[b7,c6,nf];omega,fun mx hmx=>?_⟩
    refine⟨_,rfl,_,_,rfl,rfl,_,rfl,?_⟩
    have s79:=s8.trans s9
    have f9:=fG7.same s79
    have k9:Kp fl H G9:=kG7.trans s79.kp
    refine fA (fun e=>?_) (fun e=>?_)
    ·have e':mx≤((mo:Nat):Int):=of_decide_eq_true e
     obtain⟨x1,x2⟩:=Ea rfl hmx e'
     refine⟨_,rfl,_,rfl,_,_,rfl,pf,pb,ff,fb,_,_,_,_,rfl,s79 _ _ e47,s79 _ _ e7,iv2.le x1 x2,f9,k9⟩
    ·exact⟨a,b,fd,bk,_,_,_,_,rfl,s79 _ _ (s27 _ _ ea2),s79 _ _ (s27 _ _ eb2),iv,f9,k9⟩
  ·rintro _ G ⟨a,b,fd,bk,v6,v7,v8,v9,rfl,ea,eb,iv,fG,kG⟩
   refine⟨_,rfl,_,rfl,aI (by simp),fun t ht=>?_⟩
   have s5:=Same.new (o:=HO.tup [.ref a,.ref b]) ht
   exact k t a b fd bk _ aB (s5 _ _ ea) (s5 _ _ eb) iv (fG.upd ht) (kG.upd (kG.free ht (fG.ne ht)))
theorem Lj{f:Addr}{fd:FuncData}(D:Df K mg "_law_turned_by" Gn ["_law_n","_law_g"] f fd)(T:Txt P w K mg NR NW NQ NY NX NS NT NV NU NZ N0 f_NoAlphabet fd_NoAlphabet)(c_zh1:Cl P w K mg base "_law_back" ["_law_word_here"] 2 vH)(c_zb1:Cl P w K mg base "_law_laid" ["_law_text"] 2 tM):Cl P w K mg base "_law_turned_by" ["_law_n","_law_g"] 3 zF:=by
 refine D.cl (D.F.ok LF (fun vs H Q E h=>?_) (fun cdv A outer s H vs Q E hr h=>?_))
 ·obtain⟨n,g,rfl,_⟩:=h
  rfl
 ·obtain⟨n,g,rfl,h1,h4,hg,hgl,k⟩:=h
  refine⟨_,(aF (aQ (aY (bP (K:=K) rfl) (by rfl) T.b_tuple boot_tuple (aA (cM (sc0:=aG Gn) (N:=["_law_n","_law_g"]) (ix:=[1]) (by decide +kernel) rfl rfl rfl (iM (eO jQ bV fF (eT (pv 0)))) (fun _ _ _=>bW) (fun _ _ _=>(pC c_zb1 hr (aA (bG eB (bG eB (pv 1) (pv 0)) (pC c_zh1 hr (aA (pv 1) aC))) aC)))) aC)))),?_⟩
  refine⟨_,rfl,_,rfl,_,rfl,by decide +kernel,S (bE n),?_,fun Dd hD=>?_⟩
  ·show V.str (Txt.slice (Str.ofString "abcd") none (some ((n:Nat):Int)))=_
   rw[jU,gE _ (by omega) (by simp;omega)]
   rfl
  refine jA (w:=bE n) (fun i H3=>Same H H3∧H3 Dd=some (.lst (cF (((bE n).take i).map fun c=>lay (g++[c]++back g))))) ⟨Same.new hD,aB⟩ ?_ ?_
  ·rintro i c H3 hc ⟨s3,e3⟩
   have hcL:cE c:=iG (b8 hc)
   have hi:i<n:=by have:=(a9.mp hc).1;rw[cC h4] at this;exact this
   refine⟨_,rfl,_,rfl,_,_,rfl,rfl,by rw[cH,cH];exact aI (by simp;omega),?_⟩
   rw[lB]
   refine⟨_,rfl,g,rfl,hg,by omega,fun H4 s4=>?_⟩
   refine⟨_,_,rfl,rfl,by rw[cH,cH,c6,dA];exact aI (by simp;omega),g++[c]++back g,by rw[lB];rfl,gB hg (cU hcL),by rw[c6,c6,dA,aQO];omega,fun H5 s5=>⟨_,s5 _ _ (s4 _ _ e3),?_,((s3.trans s4).trans s5).upd hD,?_⟩⟩
   ·rw[bN,b7,j6];exact aP (by omega)
   ·rw[aB,t9,hc,i7]
    unfold cF
    rw[i7]
    rfl
  ·rintro H3 ⟨s3,e3⟩
   rw[l5] at e3
   exact⟨Dd,_,rfl,.inl ⟨SqL.of e3,fun q hq=>k q _ (s3.free hq) (s3.upd' hq) aB⟩⟩
theorem KG{f:Addr}{fd:FuncData}(D:Df K mg "_law_exchange_back" FK ["_law_told"] f fd)(T:Txt P w K mg NR NW NQ NY NX NS NT NV NU NZ N0 f_NoAlphabet fd_NoAlphabet):Cl P w K mg base "_law_exchange_back" ["_law_told"] 1 BG:=by
 refine D.cl (D.F.ok sc_zc (fun vs H Q E h=>?_) (fun cdv A outer s H vs Q E hr h=>?_))
 ·obtain⟨n,a,cs,rfl,_⟩:=h
  rfl
 ·obtain⟨n,a,cs,rfl,h1,h4,ex,ea,k⟩:=h
  refine⟨_,(aD (aM (i:=1) sc_zc.nd rfl (Or.inl rfl) (cP aC))
   (aD (cW l4 rfl (iM (eO jQ bV fF (eT (aL (bM (K:=K) rfl) (by rfl) T.b_len m4 (aA (pv 0) aC))))) (aX (i:=2) sc_zc.nd rfl (Or.inl rfl)) (aD (aM (i:=3) sc_zc.nd rfl (Or.inl rfl) (cO (K:=K) rfl j7 aQj aZU (AN (K:=K) rfl) (cM (sc0:=aG FK) (N:=["_law_told","_law_found","_law_letter","_law_small"]) (ix:=[]) (by decide +kernel) rfl rfl rfl (fT (K:=K) rfl (pv 0)) (fun _ _ _=>bW) (fun _ _ _=>(dH (K:=K) rfl k7 aQ5 aQ6 jO (pv 0)))) (aA (pv 2) aC)))
   (aF (cA (cO (K:=K) rfl j7 o0 o6 bX (pv 1) (aA (aV (aO (K:=K) rfl) (cP (aA (aV Aq bV (pv 3) (fun _ _=>rfl)) (aA (aV Aq bV (pv 3) (fun _ _=>rfl)) aC))) (aY gU (by rfl) T.b_int boot_int (aA (dH (K:=K) rfl k7 aXR aXS lL (aV (cG (K:=K) rfl) (pv 0) (pv 3) (fun _ _=>rfl))) aC)) (fun _ _=>rfl)) aC))))))
   (aF (aQ (aY (bP (K:=K) rfl) (by rfl) T.b_tuple boot_tuple (aA (pv 1) aC)))))),?_⟩
  have hcl:=ex.len
  refine⟨aI (by simp),fun l hl=>?_⟩
  have ea0:upd H l (.lst []) a=some (.tup (aZ cs)):=by rw[aE (aJ ea hl)];exact ea
  refine⟨_,rfl,a,_,rfl,.inr (SqT.of ea0),_,rfl,_,rfl,by decide +kernel,S (bE n),?_,?_⟩
  ·show V.str (Txt.slice (Str.ofString "abcd") none (some (((aZ cs).length:Nat):Int)))=_
   rw[bA,hcl,jU,gE _ (by omega) (by simp;omega)]
   rfl
  refine kR (w:=bE n) (fun i σ H1=>∃ v2 v3:Option V,σ=[some (.ref a),some (.ref l),v2,v3]∧Same H H1∧H1 l=some (.lst (aZ ((xB n cs).take i)))) ⟨none,none,rfl,Same.new hl,aB⟩ ?_ ?_
  ·rintro i d σ H1 hd ⟨v2,v3,rfl,s1,e1⟩
   have hm:=b8 hd
   have hi:i<n:=by have:=(a9.mp hd).1;rw[cC h4] at this;exact this
   have hx:(xB n cs)[i]?=some (zP cs d):=by unfold xB;rw[c7,hd];rfl
   have ea1:=s1 _ _ ea
   obtain⟨j,e,hj,hje,heL,hlj,hun,hlo,hup⟩:=Ha h1 h4 ex hm
   refine⟨_,rfl,a,rfl,⟨_,SqT.of ea1⟩,fun Dd hD=>eW (K:=K) (a:=a) (xs:=aZ cs) (fun i H2=>Same H1 H2∧H2 Dd=some (.lst (aZ ((cs.map lo).take i)))) ⟨Same.new hD,aB⟩ (fun i H2 _ h=>SqT.of (h.1 _ _ ea1)) ?_ ?_⟩
   ·rintro m v H2 hv ⟨s2,e2⟩
    obtain⟨c,hc,rfl⟩:=A7 hv
    have hcL:AllL [c]:=cU (aN (ex.mem c (b8 hc)))
    have hml:m<n:=by have:=(a9.mp hc).1;omega
    refine⟨_,rfl,rfl,S [c],rfl,rfl,kQ [c] hcL (by simp),?_⟩
    rw[gS hcL]
    have hcm:(cs.map lo)[m]?=some (lo c):=by rw[c7,hc];rfl
    refine⟨_,e2,?_,s2.upd hD,?_⟩
    ·rw[bA,j6];exact aP (by omega)
    ·rw[aB,bF hcm,cK];rfl
   ·rintro H2 ⟨s2,e2⟩
    have hll:(aZ cs).length=(cs.map lo).length:=by rw[bA,b7]
    rw[hll,l5] at e2
    have e2':SqL K H2 Dd (((cs.map lo).map fun c=>S [c]).map V.str):=by rw[← lY];exact SqL.of e2
    have s12:=s1.trans s2
    have at4:∀ {b:Nat} {w:List Nat},(∀ m,m<4→w[m]?=some (b+m))→sI (S w).cps.toList ((j:Nat):Int)=some (b+j):=fun {b w} hw=>Mn (by omega) (by rw[show ((j:Nat):Int).toNat=j by omega];exact hw j (by omega))
    refine⟨.inl ⟨rfl,_,SqL.of e2⟩,_,rfl,Dd,_,S [d],j,rfl,rfl,e2',by rw[c7,hlj];rfl,fun m hm z=>?_,by omega,?_⟩
    ·rw[c7] at z
     cases hq:(cs.map lo)[m]? with
     | none=>rw[hq] at z;cases z
     | some x =>
      rw[hq] at z
      have hz:x=d:=by
       have:=Bk (j1 z)
       simpa using this
      rw[hz] at hq
      exact hun m hm hq
    have e12:=s2 _ _ e1
    have ea2:=s2 _ _ ea1
    refine⟨_,rfl,.inl ⟨rfl,_,SqL.of e12⟩,_,rfl,_,_,97+j,rfl,rfl,by decide +kernel,?_,_,rfl,_,_,65+j,rfl,rfl,by decide +kernel,?_,aI (by simp),fun q hq=>?_⟩
    ·rw[jU]
     exact at4 fun m hm=>by
      have:m=0∨m=1∨m=2∨m=3:=by omega
      rcases this with rfl | rfl | rfl | rfl <;> rfl
    ·rw[show (Str.ofString "ABCD":Str)=S [65,66,67,68] by decide +kernel]
     exact at4 fun m hm=>by
      have:m=0∨m=1∨m=2∨m=3:=by omega
      rcases this with rfl | rfl | rfl | rfl <;> rfl
    have s3:=Same.new (o:=HO.lst [.str (S [97+j]),.str (S [65+j])]) hq
    have e3:upd H2 q (.lst [.str (S [97+j]),.str (S [65+j])]) q=some (.lst [.str (S [97+j]),.str (S [65+j])]):=aB
    generalize upd H2 q (.lst [.str (S [97+j]),.str (S [65+j])])=H3 at s3 e3
    have sm:(aZ ((xB n cs).take i)).length<sizeLine:=by rw[bA,j6];exact aP (by omega)
    have s03:=s12.trans s3
    have e13:=s3 _ _ e12
    refine⟨_,rfl,_,rfl,a,_,_,.str (S [e]),rfl,rfl,SqT.of (s3 _ _ ea2),cN (mI hje),rfl,S [e],rfl,rfl,.inr ⟨_,rfl,?_⟩⟩
    rw[nJ heL]
    cases hl':bC e with
    | true =>
     refine⟨q,_,0,.str (S [97+j]),rfl,rfl,SqL.of e3,rfl,l,_,_,rfl,rfl,e13,sm,_,_,rfl,s03.upd hl,?_⟩
     rw[aB,bF hx,cK,hlo hl']
    | false =>
     refine⟨q,_,1,.str (S [65+j]),rfl,rfl,SqL.of e3,rfl,l,_,_,rfl,rfl,e13,sm,_,_,rfl,s03.upd hl,?_⟩
     rw[aB,bF hx,cK,hup hl']
  ·rintro _ H1 ⟨v2,v3,rfl,s1,e1⟩
   rw[cC h4,aQA (by rw[ex.xB_len h1 h4];exact b9 _)] at e1
   exact⟨_,rfl,l,_,rfl,.inl ⟨SqL.of e1,fun t ht=>k t _ (s1.free ht) (s1.upd' ht) aB⟩⟩
theorem L4{f:Addr}{fd:FuncData}(D:Df K mg "_law_other_alphabet" Hm ["_law_flow_here","_law_n","_law_steps","_law_most_here"] f fd)(T:Txt P w K mg NR NW NQ NY NX NS NT NV NU NZ N0 f_NoAlphabet fd_NoAlphabet)(c_zh1:Cl P w K mg base "_law_back" ["_law_word_here"] 2 vH)(c_zd1:Cl P w K mg base "_law_word" ["_law_flow_here","_law_n","_law_most_here"] 2 AL)(c_z8:Cl P w K mg base "_law_then" ["_law_one","_law_other"] 4 (Ag K))(c_z0:Cl P w K mg base "_law_alphabet" ["_law_flow_here","_law_n","_law_steps","_law_most_here"] 5 E5)(c_zz:Cl P w K mg base "_law_exchange" ["_law_flow_here","_law_n"] 2 BI)(c_zq:Cl P w K mg base "_law_turned_by" ["_law_n","_law_g"] 3 zF)(c_zc:Cl P w K mg base "_law_exchange_back" ["_law_told"] 1 BG):Cl P w K mg base "_law_other_alphabet" ["_law_flow_here","_law_n","_law_steps","_law_most_here"] 6 Dh:=by
 refine D.cl (D.F.ok sc_za (fun vs H Q E h=>?_) (fun cdv A outer s H vs Q E hr h=>?_))
 ·obtain⟨fl,sc,n,mo,st,rfl,_⟩:=h
  rfl
 ·obtain⟨fl,sc,n,mo,st,rfl,f,h1,h4,m1,m8,s0,s9,k⟩:=h
  refine⟨_,(aD (eV (pC c_z0 hr (aA (pv 0) (aA (pv 1) (aA (pv 2) (aA (pv 3) aC))))) (hJ (K:=K) rfl rfl (bK (aX (i:=4) sc_za.nd rfl (Or.inl rfl)) (bK (aX (i:=5) sc_za.nd rfl (Or.inl rfl)) fH))))
   (aD (aM (i:=6) sc_za.nd rfl (Or.inl rfl) (pC c_zz hr (aA (pv 0) (aA (pv 1) aC))))
   (aD (wD (i:=4) (j:=5) rfl sc_za.nd rfl rfl (by decide) rfl rfl (aA (pC c_z8 hr (aA (pv 4) (aA (pv 6) aC))) (aA (pC c_z8 hr (aA (pC c_zc hr (aA (pv 6) aC)) (aA (pv 5) aC))) aC)) (by rfl))
   (aD (aM (i:=7) sc_za.nd rfl (Or.inl rfl) (pC c_zd1 hr (aA (pv 0) (aA (pv 1) (aA aH aC)))))
   (aD (aM (i:=8) sc_za.nd rfl (Or.inl rfl) (pC c_z8 hr (aA (pv 4) (aA (pC c_zq hr (aA (pv 1) (aA (pv 7) aC))) aC))))
   (iJ (cR (aT DA (aL (tW (K:=K) rfl rfl) (by rfl) T.b_max boot_max (aA (cM (sc0:=aG Hm) (N:=["_law_flow_here","_law_n","_law_steps","_law_most_here","_law_found","_law_back_here","_law_told","_law_g","_law_further"]) (ix:=[]) (by decide +kernel) rfl rfl rfl (fT (K:=K) rfl (pv 8)) (fun _ _ _=>bW) (fun _ _ _=>(aL eJ (by rfl) T.b_len m4 (aA (pv 0) aC)))) aC)) (pv 3) (aS _)) (aF (wD (i:=4) (j:=5) rfl sc_za.nd rfl rfl (by decide) rfl rfl (aA (pv 8) (aA (pC c_z8 hr (aA (pC c_zq hr (aA (pv 1) (aA (pC c_zh1 hr (aA (pv 7) aC)) aC))) (aA (pv 5) aC))) aC)) (by rfl))) bI)
   (aF (aQ (bH (aA (pv 4) (aA (pv 5) aC))))))))))),?_⟩
  refine⟨_,rfl,_,rfl,_,rfl,_,rfl,fl,sc,n,mo,st,rfl,f,h1,h4,m1,m8,s0,s9,fun p a b fd bk H1 ep ea eb iv f1 k1=>?_⟩
  refine⟨p,_,rfl,.inr (SqT.of ep),rfl,_,_,rfl,_,_,rfl,rfl,?_⟩
  refine⟨_,rfl,_,rfl,fl,sc,n,rfl,f1,h1,h4,fun q cs H2 hq ex ro oo eq f2 k2=>?_⟩
  have ea2:=oQ f1 k2 ea
  have eb2:=oQ f1 k2 eb
  obtain⟨x1,x2,x3,x4⟩:=D5 h1 h4 ex
  have ob:=mB (ex.back h1 h4)
  have ew:cF (bU cs)=aZ cs:=by unfold cF bU aZ;rw[u7];rfl
  have ew2:aZ (xB n cs)=cF (bU (xB n cs)):=by unfold cF bU aZ;rw[u7];rfl
  refine⟨_,rfl,_,rfl,a,q,fd,bU cs,n,mo,1,rfl,SqT.of ea2,SqT.of eq,iv.rt,ro,fun x hx=>(iv.ro x hx).1,h1,h4,by omega,by omega,by omega,fun pf H3 hpf s3 e3=>?_⟩
  refine⟨_,rfl,n,q,cs,rfl,h1,h4,ex,by rw[← ew];exact s3 _ _ eq,fun q4 H4 hq4 s4 e4=>?_⟩
  rw[ew2] at e4
  refine⟨_,rfl,q4,b,bU (xB n cs),bk,n,1,mo,rfl,SqT.of e4,SqT.of (s4 _ _ (s3 _ _ eb2)),ob.1,iv.bt,ob.2,h1,h4,by omega,by omega,by omega,fun pb H5 hpb s5 e5=>⟨_,_,rfl,?_⟩⟩
  have iv2:IvG n (bB fd (bU cs)) (bB (bU (xB n cs)) bk) mo mo:=by
   have:=iv.comp h1 h4 ⟨ro,oo⟩ ob x3 x4
   rw[Nat.mul_one,Nat.one_mul] at this
   exact this
  have e35:pH H5 pf _:=s5 _ _ (s4 _ _ e3)
  have e55:pH H5 pb _:=e5
  have f5:=f2.same ((s3.trans s4).trans s5)
  have k5:Kp fl H H5:=(k1.trans k2).trans ((s3.trans s4).trans s5).kp
  generalize bB fd (bU cs)=fd at e35 iv2
  generalize bB (bU (xB n cs)) bk=bk at e55 iv2
  clear ea eb ea2 eb2 e3 e4 e5 s3 s4 s5 iv ep eq
  refine⟨_,rfl,_,rfl,fl,sc,(n:Nat),2,rfl,f5,by omega,by omega,by decide,by decide,fun g H6 gO gP gl f6 k6=>?_⟩
  have gl2:g.length≤2:=by omega
  have gA:=gO.all
  have e36:=oQ f5 k6 e35
  have e56:=oQ f5 k6 e55
  refine⟨_,rfl,_,rfl,_,rfl,n,g,rfl,h1,h4,gA,by omega,fun t7 H7 ht7 s7 e7=>?_⟩
  refine⟨pf,t7,fd,eP n g,n,mo,2 * g.length+1,rfl,SqT.of (s7 _ _ e36),SqT.of e7,iv2.rt,mW h4 gA,fun x hx=>(iv2.ro x hx).1,h1,h4,by omega,by omega,j8 (aXk m8 (show 2 * g.length+1≤5 by omega)) (by decide),fun pt H8 hpt s8 e8=>?_⟩
  have s68:=s7.trans s8
  have f8:=f6.same s68
  have k8:Kp fl H H8:=(k5.trans k6).trans s68.kp
  have e38:=s68 _ _ e36
  have e58:=s68 _ _ e56
  have iv3:=iv2.turn h1 h4 gO
  refine⟨fun σ G=>∃ (a b:Addr) (fd bk:List (List Nat)),σ=[some (.ref fl),some (.int (n:Nat)),some (.int st),some (.int (mo:Nat)),some (.ref a),some (.ref b),some (.ref q),some (.str (S g)),some (.ref pt)]∧pH G a fd∧pH G b bk∧IvG n fd bk mo (5 * mo)∧IsFl G fl sc∧Kp fl H G,?_,?_⟩
  ·have nf:(bB fd (eP n g)).length=n:=iv3.rt.len
   have lall:∀ x∈bB fd (eP n g),x.length≤40:=fun x hx=>j8 (iv3.rt.le x hx) (j8 (aXk m8 (show 2 * g.length+1≤5 by omega)) (by decide))
   refine⟨_,rfl,pt,rfl,⟨_,SqT.of e8⟩,fun Dd hD=>eW (K:=K) (a:=pt) (xs:=cF (bB fd (eP n g))) (fun i G9=>Same H8 G9∧G9 Dd=some (.lst ((((bB fd (eP n g)).take i).map fun x=>((x.length:Nat):Int)).map V.int))) ⟨Same.new hD,aB⟩ (fun i G9 _ h=>SqT.of (h.1 _ _ e8)) ?_ ?_⟩
   ·rintro i v G9 hv ⟨s9,e9⟩
    obtain⟨x,hx,rfl⟩:=gM hv
    have hxl:=lall x (b8 hx)
    have hil:=(a9.mp hx).1
    refine⟨_,rfl,S x,rfl,aI (by rw[cH];omega),_,e9,?_,s9.upd hD,?_⟩
    ·rw[b7,b7,j6]
     exact aP (by omega)
    ·rw[aB,t9,hx,i7,i7,cH]
     rfl
   ·rintro G9 ⟨s9,e9⟩
    rw[bN,l5] at e9
    refine⟨Dd,_,rfl,SqL.of e9,by rw[b7,nf];omega,fun mx hmx=>?_⟩
    refine⟨_,rfl,_,_,rfl,rfl,_,rfl,?_⟩
    have f9:=f8.same s9
    have k9:Kp fl H G9:=k8.trans s9.kp
    refine fA (fun e=>?_) (fun e=>?_)
    ·have e':mx≤((mo:Nat):Int):=of_decide_eq_true e
     have x1:=(Ea (f:=bB fd (eP n g)) (fb:=[]) (by rw[m7]) hmx e').1
     have r2:=mW (n:=n) (g:=back g) h4 (aR gA)
     rw[dA] at r2
     have bo:OfN n (back g):=fun c hc=>by
      unfold back at hc
      obtain⟨d,hd,rfl⟩:=i3.mp (aQM.mp hc)
      exact dC (by omega) (by omega) (gO d hd)
     refine⟨_,rfl,_,rfl,_,rfl,g,rfl,gA,by omega,fun H10 s10=>?_⟩
     refine⟨n,back g,rfl,h1,h4,aR gA,by rw[dA];omega,fun t11 H11 ht11 s11 e11=>?_⟩
     have s9b:=(s9.trans s10).trans s11
     refine⟨_,rfl,t11,pb,eP n (back g),bk,n,2 * g.length+1,mo,rfl,SqT.of e11,SqT.of (s9b _ _ e58),r2,iv2.bt,rV h1 h4 bo,h1,h4,by omega,by omega,j8 (aXk (show 2 * g.length+1≤5 by omega) m8) (by decide),fun pb2 H12 hpb2 s12 e12=>⟨_,_,rfl,pt,pb2,_,_,rfl,(s9b.trans s12) _ _ e8,e12,iv3.le x1 fun x hx=>j8 (iv3.bt.le x hx) (aXG mo (by omega)),f8.same (s9b.trans s12),k8.trans (s9b.trans s12).kp⟩⟩
    ·exact⟨pf,pb,fd,bk,rfl,s9 _ _ e38,s9 _ _ e58,iv2.le iv2.rt.le fun x hx=>j8 (iv2.bt.le x hx) (by omega),f9,k9⟩
  ·rintro _ G ⟨a,b,fd,bk,rfl,ea,eb,iv,fG,kG⟩
   refine⟨_,rfl,_,rfl,aI (by simp),fun t ht=>?_⟩
   have s5:=Same.new (o:=HO.tup [.ref a,.ref b]) ht
   exact k t a b fd bk _ aB (s5 _ _ ea) (s5 _ _ eb) iv (fG.upd ht) (kG.upd (kG.free ht (fG.ne ht)))
theorem Lh{f:Addr}{fd:FuncData}(D:Df K mg "ways_both_ways" IP ["web"] f fd)(T:Txt P w K mg NR NW NQ NY NX NS NT NV NU NZ N0 f_NoAlphabet fd_NoAlphabet)(c_zr:Cl P w K mg base "first_letters" ["n"] 1 lU)(c_zf1:Cl P w K mg base "contrary" ["letter"] 1 jI):Cl P w K mg base "ways_both_ways" ["web"] 2 BF:=by
 refine D.cl (D.F.ok sc_zm (fun vs H Q E h=>?_) (fun cdv A outer s H vs Q E hr h=>?_))
 ·obtain⟨r,n,W,g,rfl,_⟩:=h
  rfl
 ·obtain⟨r,n,W,g,rfl,h1,h4,hw,ok,k⟩:=h
  refine⟨_,(aD (aM (i:=1) sc_zm.nd rfl (Or.inl rfl) rB)
   (aD (cW l4 rfl (ET (K:=K) rfl (by rfl) T.b_enumerate (aA (pv 0) aC)) (hJ (K:=K) rfl rfl (bK (aX (i:=2) sc_zm.nd rfl (Or.inl rfl)) (bK (aX (i:=3) sc_zm.nd rfl (Or.inl rfl)) fH))) (aF (cW l4 rfl (Ji (K:=K) rfl (by rfl) T.b_zip (aA (pC c_zr hr (aA (aL (bM (K:=K) rfl) (by rfl) T.b_len m4 (aA (pv 3) aC)) aC)) (aA (pv 3) aC))) (hJ (K:=K) rfl rfl (bK (aX (i:=4) sc_zm.nd rfl (Or.inl rfl)) (bK (aX (i:=5) sc_zm.nd rfl (Or.inl rfl)) fH))) (aF (cR (aT vX (pv 5) eZ (aS _)) (aD (mF (m9 (t5 (by decide:1≤64) _) hr.units) (pv 1) (bH (aA (pv 2) (aA (pv 4) aC))) (pv 5) (by rfl))
   (aF (mF (m9 (t5 (by decide:1≤64) _) hr.units) (pv 1) (bH (aA (pv 5) (aA (pC c_zf1 hr (aA (pv 4) aC)) aC))) (pv 2) (by rfl)))) bI)))))
   (aF (aQ (pv 1))))),?_⟩
  obtain⟨qs,er,hql,hqr⟩:=id hw
  have hWl:=ok.few
  intro d hd
  have s1:=Same.new (o:=HO.dT []) hd
  have ed:upd H d (.dT []) d=some (.dT []):=aB
  generalize upd H d (.dT [])=H1 at s1 ed
  refine⟨_,rfl,r,rfl,⟨_,SqT.of (s1 _ _ er)⟩,CI (K:=K) (a:=r) (xs:=qs.map V.ref) (fun i σ G=>∃ (v2 v3 v4 v5:Option V) (kvs:List (List cQ×V)) (g':Nat→Nat→Option Nat),σ=[some (.ref r),some (.ref d),v2,v3,v4,v5]∧Same H G∧G d=some (.dT kvs)∧TabW kvs g'∧kvs.length≤8 * i∧Mm g' g∧∀ p,p<i→∀ j q,j<n→g p (97+j)=some q→g' p (97+j)=some q∧g' q (con (97+j))=some p) ⟨none,none,none,none,[],_,rfl,s1,ed,TabW.nil,b9 _,fun p c q z=>(by cases z),fun p hp=>absurd hp (y4 _)⟩ (fun i σ G _ ⟨_,_,_,_,_,_,_,s,_⟩=>SqT.of (s _ _ er)) ?_ ?_⟩
  ·rintro i x pz _ G hx hpz ⟨v2,v3,v4,v5,kvs,g',rfl,sG,dG,tb,kl,sub,full⟩
   rw[c7] at hx
   obtain⟨q,hq,rfl⟩:=i6.mp hx
   obtain⟨row,hrow⟩:∃ row,W[i]?=some row:=⟨_,b0 (by rw[← hql];exact(a9.mp hq).1)⟩
   have hiW:=(a9.mp hrow).1
   have hrl:=ok.len row (b8 hrow)
   have s2:=Same.new (o:=HO.tup [.int ((i:Nat):Int),.ref q]) hpz
   refine⟨pz,_,rfl,.inr (SqT.of aB),rfl,_,_,rfl,_,_,rfl,rfl,?_⟩
   have sG2:=sG.trans s2
   have dG2:=s2 _ _ dG
   generalize upd G pz (.tup [.int ((i:Nat):Int),.ref q])=G2 at s2 sG2 dG2
   have eq0:=hqr i q row hq hrow
   have eq2:=sG2 _ _ eq0
   have hrv:(row.map iI).length=n:=by rw[b7];exact hrl
   refine⟨_,rfl,q,_,rfl,.inr (SqT.of eq2),n,by rw[hrv];rfl,h1,h4,fun t G3 ht s3 et=>⟨_,rfl,t,q,rfl,⟨_,SqT.of et⟩,⟨_,SqT.of (s3 _ _ eq2)⟩,?_⟩⟩
   have sG3:=sG2.trans s3
   have ht0:H t=none:=sG2.free ht
   have htd:t≠d:=fun e=>by rw[e,dG2] at ht;cases ht
   have ll:(cF (cS n)).length=n:=by rw[bN];exact(pO h1 h4).len
   refine Ga (K:=K) (t:=t) (u:=q) (xs:=cF (cS n)) (ys:=row.map iI) (fun j σ G=>∃ (v4 v5:Option V) (kvs:List (List cQ×V)) (g':Nat→Nat→Option Nat),σ=[some (.ref r),some (.ref d),some (.int (i:Nat)),some (.ref q),v4,v5]∧Same H G∧G t=some (.tup (cF (cS n)))∧G d=some (.dT kvs)∧TabW kvs g'∧kvs.length≤8 * i+2 * j∧Mm g' g∧(∀ p,p<i→∀ j q,j<n→g p (97+j)=some q→g' p (97+j)=some q∧g' q (con (97+j))=some p)∧∀ m q,m<j→g i (97+m)=some q→g' i (97+m)=some q∧g' q (con (97+m))=some i) ⟨_,_,kvs,g',rfl,sG3,et,s3 _ _ dG2,tb,kl,sub,full,fun m q hm=>absurd hm (y4 _)⟩ (fun j σ G _ ⟨_,_,_,_,_,s,e,_⟩=>⟨SqT.of e,SqT.of (s _ _ eq0)⟩) ?_ ?_
   ·rintro j x y pz2 _ G4 hx hy hpz2 ⟨v4,v5,kvs,g',rfl,sG4,et4,dG4,tb,kl,sub,full,part⟩
    obtain⟨rfl,hj⟩:=A4 h4 hx
    rw[c7] at hy
    obtain⟨o,ho,rfl⟩:=i6.mp hy
    have hgo:=ok.lo i j row o hrow ho
    have hcL:cE (97+j):=by unfold cE;omega
    have s5:=Same.new (o:=HO.tup [.str (S [97+j]),iI o]) hpz2
    refine⟨pz2,_,rfl,.inr (SqT.of aB),rfl,_,_,rfl,_,_,rfl,rfl,?_⟩
    have sG5:=sG4.trans s5
    have dG5:=s5 _ _ dG4
    have et5:=s5 _ _ et4
    generalize upd G4 pz2 (.tup [.str (S [97+j]),iI o])=G5 at s5 sG5 dG5 et5
    cases o with
    | none =>
     refine⟨_,rfl,rfl,_,rfl,fQ ?_⟩
     refine⟨_,_,kvs,g',rfl,sG5,et5,dG5,tb,by omega,sub,full,fun m q hm hg=>?_⟩
     by_cases z:m=j
     ·subst z;rw[hgo] at hg;cases hg
     ·exact part m q (by omega) hg
    | some b =>
     refine⟨_,rfl,rfl,_,rfl,gY ?_⟩
     refine⟨_,rfl,_,rfl,_,rfl,_,rfl,aI (by simp),fun k1 hk1=>?_⟩
     have s6:=Same.new (o:=HO.tup [.int ((i:Nat):Int),.str (S [97+j])]) hk1
     have ek1:upd G5 k1 (.tup [.int ((i:Nat):Int),.str (S [97+j])]) k1=some (.tup ((dY i (97+j)).map kV)):=aB
     generalize upd G5 k1 (.tup [.int ((i:Nat):Int),.str (S [97+j])])=G6 at s6 ek1
     refine⟨d,_,rfl,DPut.t (s6 _ _ dG5) ek1 (Fi (by omega)),?_⟩
     have d7:upd G6 d (.dT (dE kvs (dY i (97+j)) (iI (some b)))) d=some (.dT (dE kvs (dY i (97+j)) (.int (b:Nat)))):=aB
     have sG7:Same H (upd G6 d (.dT (dE kvs (dY i (97+j)) (iI (some b))))):=(sG5.trans s6).upd hd
     have et7:upd G6 d (.dT (dE kvs (dY i (97+j)) (iI (some b)))) t=some (.tup (cF (cS n))):=by rw[aE htd];exact s6 _ _ et5
     generalize upd G6 d (.dT (dE kvs (dY i (97+j)) (iI (some b))))=G7 at d7 sG7 et7
     refine⟨_,rfl,_,rfl,_,rfl,_,rfl,97+j,rfl,hcL,fun G8 s8=>⟨aI (by simp),fun k2 hk2=>?_⟩⟩
     have s9:=Same.new (o:=HO.tup [iI (some b),.str (S [con (97+j)])]) hk2
     have ek2:upd G8 k2 (.tup [iI (some b),.str (S [con (97+j)])]) k2=some (.tup ((dY b (con (97+j))).map kV)):=aB
     generalize upd G8 k2 (.tup [iI (some b),.str (S [con (97+j)])])=G9 at s9 ek2
     have s79:=s8.trans s9
     have kl7:=cX kvs (dY i (97+j)) (V.int (b:Nat))
     have kl9:=cX (dE kvs (dY i (97+j)) (V.int (b:Nat))) (dY b (con (97+j))) (V.int (i:Nat))
     have gb:=ok.sy i (97+j) b hcL hgo
     refine⟨d,_,rfl,DPut.t (s79 _ _ d7) ek2 (Fi (by omega)),_,_,_,_,rfl,(sG7.trans s79).upd hd,by rw[aE htd];exact s79 _ _ et7,aB,(tb.put i (97+j) b).put b (con (97+j)) i,by omega,?_⟩
     have put:∀ x y q,g x y=some q→(g' x y=some q∨(x=i∧y=97+j)∨(x=b∧y=con (97+j)))→(if x=b∧y=con (97+j) then some i else if x=i∧y=97+j then some b else g' x y)=some q:=fun x y q hq hc=>by
      by_cases z1:x=b∧y=con (97+j)
      ·rw[if_pos z1]
       rw[z1.1,z1.2,gb] at hq
       exact hq
      ·rw[if_neg z1]
       by_cases z2:x=i∧y=97+j
       ·rw[if_pos z2]
        rw[z2.1,z2.2,hgo] at hq
        exact hq
       ·rw[if_neg z2]
        rcases hc with z | z | z
        ·exact z
        ·exact absurd z z2
        ·exact absurd z z1
     refine⟨fun x y q hq=>?_,fun p hp m q hm hg=>?_,fun m q hm hg=>?_⟩
     ·dsimp only at hq
      split at hq
      ·rename_i z;cases hq;rw[z.1,z.2];exact gb
      ·split at hq
       ·rename_i z;cases hq;rw[z.1,z.2];exact hgo
       ·exact sub x y q hq
     ·have hmL:cE (97+m):=by unfold cE;omega
      obtain⟨u1,u2⟩:=full p hp m q hm hg
      exact⟨put _ _ _ hg (.inl u1),put _ _ _ (ok.sy _ _ _ hmL hg) (.inl u2)⟩
     ·have hmL:cE (97+m):=by unfold cE;omega
      by_cases z:m=j
      ·subst z
       rw[hgo] at hg
       cases hg
       exact⟨put _ _ _ hgo (.inr (.inl ⟨rfl,rfl⟩)),put _ _ _ gb (.inr (.inr ⟨rfl,rfl⟩))⟩
      ·obtain⟨u1,u2⟩:=part m q (by omega) hg
       exact⟨put _ _ _ hg (.inl u1),put _ _ _ (ok.sy _ _ _ hmL hg) (.inl u2)⟩
   ·rintro _ G4 ⟨v4,v5,kvs,g',rfl,sG4,et4,dG4,tb,kl,sub,full,part⟩
    rw[ll,hrv,aZw] at kl part
    refine⟨_,_,_,_,kvs,g',rfl,sG4,dG4,tb,by omega,sub,fun p hp m q hm hg=>?_⟩
    by_cases z:p=i
    ·subst z;exact part m q hm hg
    ·exact full p (by omega) m q hm hg
  ·rintro _ G ⟨v2,v3,v4,v5,kvs,g',rfl,sG,dG,tb,kl,sub,full⟩
   rw[b7,hql] at full
   have hgg:g'=g:=by
    funext p c
    cases e:g p c with
    | none =>
     cases e':g' p c with
     | none=>rfl
     | some q=>have:=sub p c q e';rw[e] at this;cases this
    | some q =>
     obtain⟨b1,b2,b3⟩:=ok.bd p c q e
     have hcL:=aN b3
     by_cases lw:bC c=true
     ·obtain⟨j,hj,rfl⟩:=EV h1 h4 b3 lw
      exact(full p b1 j q hj e).1
     ·obtain⟨j,hj,ej⟩:=EV h1 h4 (dC (by omega) (by omega) b3) (by rw[Cc hcL];simpa using lw)
      have e2:=ok.sy p c q hcL e
      rw[ej] at e2
      have:=(full q b2 j p hj e2).2
      rw[← ej,aW hcL] at this
      exact this
   rw[hgg] at tb
   exact⟨_,rfl,k d kvs G hd dG tb sG⟩
theorem HQ{f:Addr}{fd:FuncData}(D:Df K mg "is_read" Dr ["web","word"] f fd)(T:Txt P w K mg NR NW NQ NY NX NS NT NV NU NZ N0 f_NoAlphabet fd_NoAlphabet)(c_zm:Cl P w K mg base "ways_both_ways" ["web"] 2 BF):Cl P w K mg base "is_read" ["web","word"] 3 BE:=by
 refine D.cl (D.F.ok sc_zi1 (fun vs H Q E h=>?_) (fun cdv A outer s H vs Q E hr h=>?_))
 ·obtain⟨r,n,W,g,w,rfl,_⟩:=h
  rfl
 ·obtain⟨r,n,W,g,w,rfl,h1,h4,hw,ok,hO,hl,k⟩:=h
  refine⟨_,(aD (aM (i:=2) sc_zi1.nd rfl (Or.inl rfl) (pC c_zm hr (aA (pv 0) aC)))
   (aD (aM (i:=3) sc_zi1.nd rfl (Or.inl rfl) aH)
   (aD (cW l4 rfl (iM (pv 1)) (aX (i:=4) sc_zi1.nd rfl (Or.inl rfl)) (aD (aM (i:=3) sc_zi1.nd rfl (Or.inl rfl) (yJ (m9 (t5 (by decide:1≤64) _) hr.units) (pv 2) (bH (aA (pv 3) (aA (pv 4) aC))) ⟨rfl,rfl,rfl,rfl⟩))
   (aF (cR (aT wH (pv 3) eZ (aS _)) (aF (aQ oV)) bI))))
   (aF (aQ (dI eM (pv 3) aH (aS _))))))),?_⟩
  refine⟨_,rfl,r,n,W,g,rfl,h1,h4,hw,ok,fun d kvs H1 hd dG tb s1=>?_⟩
  refine⟨_,rfl,S w,rfl,kR (w:=w) (fun i σ G=>∃ (v4:Option V) (q:Nat),σ=[some (.ref r),some (.str (S w)),some (.ref d),some (.int (q:Nat)),v4]∧Same H1 G∧sP g 0 (w.take i)=some q) ⟨none,0,rfl,Same.refl _,rfl⟩ ?_ ?_⟩
  ·rintro i c _ G hc ⟨v4,q,rfl,sG,hp⟩
   have hp1:sP g 0 (w.take (i+1))=g q c:=by rw[bF hc,Fc,hp];rfl
   refine⟨_,rfl,d,rfl,.inr ⟨kvs,.inl (sG _ _ dG)⟩,_,rfl,_,rfl,aI (by simp),fun k1 hk1=>?_⟩
   have s2:=Same.new (o:=HO.tup [.int ((q:Nat):Int),.str (S [c])]) hk1
   have ek1:upd G k1 (.tup [.int ((q:Nat):Int),.str (S [c])]) k1=some (.tup ((dY q c).map kV)):=aB
   generalize upd G k1 (.tup [.int ((q:Nat):Int),.str (S [c])])=G2 at s2 ek1
   have sG2:=sG.trans s2
   have hg:DGet G2 d (.ref k1) ((g q c).map fun (q:Nat)=>V.int q):=by
    have:=DGet.t (k:=dY q c) (sG2 _ _ dG) ek1
    rw[tb q c] at this
    exact this
   refine⟨_,hg,?_⟩
   cases e:g q c with
   | none =>
    refine⟨_,rfl,rfl,_,rfl,gY ?_⟩
    have:sP g 0 w=none:=by
     have hs:w=w.take (i+1)++w.drop (i+1):=(aQP _ _).symm
     rw[hs,wM,hp1,e]
     rfl
    have:=k G2 (s1.trans sG2)
    rw[‹sP g 0 w=none›,decide_eq_false (by intro z;cases z)] at this
    exact this
   | some q' =>
    refine⟨_,rfl,rfl,_,rfl,fQ ?_⟩
    exact⟨_,q',rfl,sG2,by rw[hp1,e]⟩
  ·rintro _ G ⟨v4,q,rfl,sG,hp⟩
   rw[l5] at hp
   refine⟨_,rfl,rfl,?_⟩
   have:=k G (s1.trans sG)
   rw[hp] at this
   have e:decide (V.int ((q:Nat):Int)=V.int 0)=decide (some q=some 0):=by
    by_cases z:q=0
    ·subst z;rfl
    ·rw[decide_eq_false (fun y=>z (by have:=V.int.inj y;omega)),decide_eq_false (fun y=>z (j1 y))]
   rw[e]
   exact this
theorem LS{f:Addr}{fd:FuncData}(D:Df K mg "look_alphabet" JT ["retelling"] f fd)(T:Txt P w K mg NR NW NQ NY NX NS NT NV NU NZ N0 f_NoAlphabet fd_NoAlphabet)(c_zl1:Cl P w K mg base "web_of" ["n","words"] 8 (EZ K)):Mp P w K mg base "look_alphabet" ["retelling"] 9 (vZ K NS):=by
 refine D.clX (D.F.okX sc_zw (fun vs H Q E h=>?_) (fun cdv A outer s H vs Q E hr h=>?_))
 ·obtain⟨n,a,rs,rfl,_⟩:=h
  rfl
 ·obtain⟨n,a,rs,rfl,ea,hlen,h1,h4,hx,k⟩:=h
  refine⟨_,(aD (aM (i:=1) sc_zw.nd rfl (Or.inl rfl) (aL (bM (K:=K) rfl) (by rfl) T.b_len m4 (aA (pv 0) aC)))
   (aD (aM (i:=2) sc_zw.nd rfl (Or.inl rfl) (pC c_zl1 hr (aA (pv 1) (aA (pv 0) aC))))
   (aD (cR (aT (JQ hr.units) (pv 2) (bH (aA (bG (yI (K:=K) rfl) (bH (aA aH aC)) (pv 1)) aC)) (aS _)) (aF (CB (K:=K) (E:=E) rfl rfl AM (DM T.x_NoAlphabet (Lr T) (hr.mono (by decide)) (by rfl) T.m_NoAlphabet T.b_iNoAlphabet (aA (pv 2) aC)))) bI)
   (aF (aQ oV))))),?_⟩
  refine⟨_,rfl,a,_,rfl,.inr ea,?_⟩
  rw[bN,hlen]
  refine⟨_,rfl,_,rfl,n,a,rs,rfl,h1,h4,.inl ea,by omega,fun x hx'=>⟨(hx x hx').1.all,(hx x hx').2⟩,fun r H1 ρ δ s1 au idp w wl=>?_⟩
  obtain⟨kT,kE⟩:=k r H1 ρ δ s1 au idp w wl
  refine⟨_,rfl,aI (by simp),fun t1 ht1=>⟨_,rfl,Bp h1 h4 ht1 fun q2 H2 hq2 s2 e2=>⟨aI (by simp),fun t2 ht2=>?_⟩⟩⟩
  have s3:Same H1 (upd H2 t2 (.tup [.ref q2])):=s2.upd' ht2
  have ne:=uD w s3 (s2.free ht2) hq2 (by rw[aE (aJ e2 ht2)];exact e2) aB
  generalize upd H2 t2 (.tup [.ref q2])=H3 at s3 ne
  refine⟨r,t2,_,rP n,rfl,rfl,ne,_,rfl,?_⟩
  by_cases z:eE δ n (ρ 0) 1000=rP n
  ·exact tG (by rw[if_pos rfl,decide_eq_true z];rfl) (kT z _ s3)
  ·refine A3 (by rw[if_pos rfl,decide_eq_false z];rfl) ?_
   have sH3:=s1.trans s3
   refine⟨_,rfl,by simp,fun a ha=>⟨a,.ref r,rfl,aB,fun dx hdx hne=>⟨rfl,a,NS,f_NoAlphabet,some dx,rfl,aB,T.x_NoAlphabet,(fun d' e=>by cases e;exact⟨_,by rw[aE hne];exact aB⟩),?_⟩⟩⟩
   refine kE z dx _ ?_ ?_
   ·exact(((s3.upd' ha).upd' hdx).upd (s3.free ha)).upd (s3.free ha)
   ·rw[aE hne,aE hne];exact aB
theorem IG{f:Addr}{fd:FuncData}(D:Df K mg "_law_most" EH ["_law_n"] f fd)(T:Txt P w K mg NR NW NQ NY NX NS NT NV NU NZ N0 f_NoAlphabet fd_NoAlphabet):Cl P w K mg base "_law_most" ["_law_n"] 1 Fv:=by
 refine D.cl (D.F.ok Ib (fun vs H Q E h=>?_) (fun cdv A outer s H vs Q E hr h=>?_))
 ·obtain⟨n,rfl,_⟩:=h
  rfl
 ·obtain⟨n,rfl,h1,h4,k⟩:=h
  refine⟨_,(aF (aQ (aV (aO (K:=K) rfl) (cP (aA aH (aA aH (aA aH (aA aH aC))))) (bG Av (pv 0) aH) (fun _ _=>rfl)))),?_⟩
  refine⟨aI (by simp),fun l hl=>⟨_,rfl,_,_,rfl,rfl,?_⟩⟩
  obtain⟨m,hm,m5,m8⟩:∃ m:Nat,sI [V.int 8,V.int 8,V.int 8,V.int 5] ((n:Nat) - 1)=some (.int (m:Nat))∧5≤m∧m≤8:=by
   rcases A9 h1 h4 with rfl | rfl | rfl | rfl
   ·exact⟨8,rfl,by decide,by decide⟩
   ·exact⟨8,rfl,by decide,by decide⟩
   ·exact⟨8,rfl,by decide,by decide⟩
   ·exact⟨5,rfl,by decide,by decide⟩
  exact⟨l,_,_,_,rfl,rfl,SqL.of aB,hm,k m _ (Same.new hl) m5 m8⟩
theorem KI{f:Addr}{fd:FuncData}(D:Df K mg "_law_any_retelling" GS ["_law_flow_here","_law_n"] f fd)(T:Txt P w K mg NR NW NQ NY NX NS NT NV NU NZ N0 f_NoAlphabet fd_NoAlphabet)(c_zc1:Cl P w K mg base "_law_pick" ["_law_flow_here","_law_many"] 1 lQ)(c_zb1:Cl P w K mg base "_law_laid" ["_law_text"] 2 tM)(c_zd1:Cl P w K mg base "_law_word" ["_law_flow_here","_law_n","_law_most_here"] 2 AL)(c_ze1:Cl P w K mg base "_law_most" ["_law_n"] 1 Fv)(c_za:Cl P w K mg base "_law_other_alphabet" ["_law_flow_here","_law_n","_law_steps","_law_most_here"] 6 Dh):Cl P w K mg base "_law_any_retelling" ["_law_flow_here","_law_n"] 7 Fn:=by
 refine D.cl (D.F.ok sc_zb (fun vs H Q E h=>?_) (fun cdv A outer s H vs Q E hr h=>?_))
 ·obtain⟨fl,sc,n,rfl,_⟩:=h
  rfl
 ·obtain⟨fl,sc,n,rfl,f,h1,h4,k⟩:=h
  refine⟨_,(aD (aM (i:=2) sc_zb.nd rfl (Or.inr rfl) (pC c_ze1 hr (aA (pv 1) aC)))
   (aD (aM (i:=3) sc_zb.nd rfl (Or.inl rfl) (pC c_zc1 hr (aA (pv 0) (aA aH aC))))
   (aD (cR (aT eM (pv 3) aH (aS _)) (aF (aQ (aY (bP (K:=K) rfl) (by rfl) T.b_tuple boot_tuple (aA (cM (sc0:=aG GS) (N:=["_law_flow_here","_law_n","_law_most_here","_law_form","_law_found","_law_k","_law_word_here"]) (ix:=[0,1,2]) (by decide +kernel) rfl rfl rfl (fN (by rfl) T.b_range (aA (pv 1) aC)) (fun _ _ _=>bW) (fun _ _ _=>(pC c_zd1 hr (aA (pv 1) (aA (pv 2) (aA (aV (aO (K:=K) rfl) (cP (aA aH (aA (pv 3) aC))) (pC c_zc1 hr (aA (pv 1) (aA aH aC))) (fun _ _=>rfl)) aC)))))) aC)))) bI)
   (aD (aM (i:=4) sc_zb.nd rfl (Or.inl rfl) (aY (rO (K:=K) rfl) (by rfl) T.b_list boot_list (aA (aV (cG (K:=K) rfl) (pC c_za hr (aA (pv 0) (aA (pv 1) (aA (bG fI aH (pC c_zc1 hr (aA (pv 0) (aA aH aC)))) (aA (pv 2) aC))))) aH (fun _ _=>rfl)) aC)))
   (aD (aM (i:=5) sc_zb.nd rfl (Or.inl rfl) (pC c_zc1 hr (aA (pv 0) (aA (pv 1) aC))))
   (iJ (cR (aT eM (pv 3) aH (aS _)) (aF (eV (pC c_zd1 hr (aA (pv 0) (aA (pv 1) (aA (pv 2) aC)))) (gH (pv 4) (pv 5) dR))) bI)
   (iJ (cR (aT eM (pv 3) aH (aS _)) (aD (aM (i:=6) sc_zb.nd rfl (Or.inl rfl) (pC c_zb1 hr (aA (bG eB (aV (aO (K:=K) rfl) (pv 4) (pv 5) (fun _ _=>rfl)) (aV (aO (K:=K) rfl) (cP (aA (aV (aO (K:=K) rfl) (pv 4) (pC c_zc1 hr (aA (pv 0) (aA (pv 1) aC))) (fun _ _=>rfl)) (aA (pC c_zd1 hr (aA (pv 0) (aA (pv 1) (aA aH aC)))) aC))) (pC c_zc1 hr (aA (pv 0) (aA aH aC))) (fun _ _=>rfl))) aC)))
   (aF (eV (aV (aO (K:=K) rfl) (cP (aA (aV (aO (K:=K) rfl) (pv 4) (pv 5) (fun _ _=>rfl)) (aA (pv 6) aC))) (aY gU (by rfl) T.b_int boot_int (aA (dI DA (aL eJ (by rfl) T.b_len m4 (aA (pv 6) aC)) (pv 2) (aS _)) aC)) (fun _ _=>rfl)) (gH (pv 4) (pv 5) dR)))) bI)
   (aF (aQ (aY (bP (K:=K) rfl) (by rfl) T.b_tuple boot_tuple (aA (pv 4) aC))))))))))),?_⟩
  refine⟨_,rfl,n,rfl,h1,h4,fun m H1 s1 m5 m8=>?_⟩
  refine⟨_,rfl,fl,sc,5,rfl,f.same s1,by decide,by decide,fun fm H2 fm0 fm1 f2 k2=>?_⟩
  have k02:Kp fl H H2:=s1.kp.trans k2
  refine⟨_,rfl,rfl,_,rfl,fA (fun z=>?_) (fun z=>?_)⟩
  ·refine⟨_,rfl,(n:Nat),rfl,by omega,by omega,fun Dd hD=>?_⟩
   have hDf:=f2.ne hD
   have hDs:=f2.ne2 hD
   have hDH:=k02.free hD hDf
   refine jH (lo:=0) (n:=((n:Nat):Int).toNat) (fun i G=>∃ bs,G Dd=some (.lst (cF bs))∧bs.length=i∧(∀ x∈bs,OfN n x∧x.length≤8)∧IsFl G fl sc∧Kp fl H G) ⟨[],aB,rfl,fun x hx=>by (cases hx),f2.upd hD,k02.upd hDH⟩ ?_ ?_
   ·rintro i G hi ⟨bs,eb,hbl,hbs,fG,kG⟩
    refine⟨_,rfl,_,rfl,_,rfl,aI (by simp),fun q hq=>?_⟩
    refine⟨_,rfl,fl,sc,2,rfl,fG.upd hq,by decide,by decide,fun e G2 e0 e1 f3 k3=>?_⟩
    obtain⟨c,hc,hc8⟩:∃ c:Nat,sI [V.int 2,V.int (m:Nat)] e=some (.int (c:Nat))∧c≤8:=by
     have:e=0∨e=1:=by omega
     rcases this with rfl | rfl
     ·exact⟨2,rfl,by decide⟩
     ·exact⟨m,rfl,m8⟩
    have hqf:q≠fl:=fG.ne hq
    have eq2:=k3 _ _ (aB (H:=G) (a:=q) (o:=HO.lst [.int 2,.int (m:Nat)])) hqf
    refine⟨q,_,_,_,rfl,rfl,SqL.of eq2,hc,fl,sc,(n:Nat),(c:Nat),rfl,f3,by omega,by omega,by omega,by omega,fun w G3 wO wP wl f4 k4=>?_⟩
    have kq:Kp fl G G3:=((Same.new hq).kp.trans k3).trans k4
    refine⟨_,kq _ _ eb hDf,by rw[bN];exact aP (by omega),bs++[w],by rw[aB,BV],by rw[c6,hbl];rfl,fun x hx=>?_,f4.set hDf hDs,(kG.trans kq).upd hDH⟩
    rcases j9.mp hx with z | z
    ·exact hbs x z
    ·rw[d6.mp z];exact⟨wO,by omega⟩
   ·rintro G ⟨bs,eb,hbl,hbs,fG,kG⟩
    exact⟨Dd,_,rfl,.inl ⟨SqL.of eb,fun p hp=>k p bs _ aB (by omega) hbs (fG.upd hp) (kG.trans (Same.new hp).kp)⟩⟩
  refine⟨_,rfl,_,rfl,_,rfl,fl,sc,8,rfl,f2,by decide,by decide,fun st H3 st0 st1 f3 k3=>?_⟩
  refine⟨_,_,rfl,rfl,_,rfl,fl,sc,n,m,1+st,rfl,f3,h1,h4,by omega,m8,by omega,by omega,fun p a b fw fb H4 ep ea _ iv f4 k4=>⟨p,_,0,.ref a,rfl,rfl,SqT.of ep,rfl,a,_,rfl,.inr (SqT.of ea),fun l hl=>?_⟩⟩
  have hlf:=f4.ne hl
  have hls:=f4.ne2 hl
  have k04:Kp fl H H4:=(k02.trans k3).trans k4
  have hlH:=k04.free hl hlf
  have f5:=f4.upd (o:=HO.lst (cF fw)) hl
  have k5:Kp fl H (upd H4 l (.lst (cF fw))):=k04.trans (Same.new hl).kp
  have el:upd H4 l (.lst (cF fw)) l=some (.lst (cF fw)):=aB
  show sO _ _ _ _ (upd H4 l (.lst (cF fw)))
  generalize upd H4 l (.lst (cF fw))=H5 at f5 k5 el
  have hfl:fw.length=n:=iv.rt.len
  have hfw:∀ x∈fw,OfN n x∧x.length≤8:=fun x hx=>⟨(iv.ro x hx).1,by have:=iv.rt.le x hx;omega⟩
  refine⟨_,rfl,_,rfl,fl,sc,(n:Nat),rfl,f5,by omega,by omega,fun kk H6 kk0 kk1 f6 k6=>?_⟩
  obtain⟨j,rfl⟩:∃ j:Nat,kk=(j:Int):=⟨kk.toNat,by omega⟩
  have hj:j<n:=by omega
  have el6:=k6 _ _ el hlf
  have k06:=k5.trans k6
  clear f2 f3 f4 f5 k2 k3 k4 k5 k6 k02 k04 el ep ea s1 hl
  have setO:∀ {gs:List (List Nat)} {w:List Nat},(∀ x∈gs,OfN n x∧x.length≤8)→(OfN n w∧w.length≤8)→∀ x∈gs.set j w,OfN n x∧x.length≤8:=fun hg hw x hx=>by
   rcases List.mem_or_eq_of_mem_set hx with z | rfl
   ·exact hg x z
   ·exact hw
  refine⟨fun σ G=>∃ gs:List (List Nat),σ=[some (.ref fl),some (.int (n:Nat)),some (.int (m:Nat)),some (.int fm),some (.ref l),some (.int (j:Nat)),none]∧G l=some (.lst (cF gs))∧gs.length=n∧(∀ x∈gs,OfN n x∧x.length≤8)∧IsFl G fl sc∧Kp fl H G,?_,?_⟩
  ·refine⟨_,rfl,rfl,_,rfl,fA (fun z=>?_) (fun z=>?_)⟩
   ·refine⟨_,rfl,_,rfl,_,rfl,fl,sc,(n:Nat),(m:Nat),rfl,f6,by omega,by omega,by omega,by omega,fun w G wO _ wl fG kG=>?_⟩
    refine⟨_,rfl,_,rfl,l,_,_,_,rfl,rfl,kG _ _ el6 hlf,nP (by omega) (by rw[bN];omega),fw.set j w,rfl,by rw[aB,pJ];rfl,by rw[p5];exact hfl,setO hfw ⟨wO,by omega⟩,fG.set hlf hls,(k06.trans kG).upd hlH⟩
   ·exact⟨fw,rfl,el6,hfl,hfw,f6,k06⟩
  clear el6 hfl hfw f6 k06 iv
  rintro _ G ⟨gs,rfl,el,hgl,hgs,fG,kG⟩
  refine⟨fun σ G=>∃ (v6:Option V) (gs:List (List Nat)),σ=[some (.ref fl),some (.int (n:Nat)),some (.int (m:Nat)),some (.int fm),some (.ref l),some (.int (j:Nat)),v6]∧G l=some (.lst (cF gs))∧gs.length=n∧(∀ x∈gs,OfN n x∧x.length≤8)∧IsFl G fl sc∧Kp fl H G,?_,?_⟩
  ·refine⟨_,rfl,rfl,_,rfl,fA (fun z=>?_) (fun z=>?_)⟩
   ·obtain⟨x,hx⟩:∃ x,gs[j]?=some x:=⟨_,b0 (by omega)⟩
    obtain⟨xO,xl⟩:=hgs x (b8 hx)
    refine⟨_,rfl,_,rfl,l,_,_,.str (S x),rfl,rfl,SqL.of el,cN (lR hx),?_⟩
    refine⟨_,rfl,_,rfl,_,rfl,fl,sc,(n:Nat),rfl,fG,by omega,by omega,fun g2 G2 g20 g21 f2 k2=>?_⟩
    obtain⟨y,hy⟩:∃ y,gs[g2.toNat]?=some y:=⟨_,b0 (by omega)⟩
    obtain⟨yO,yl⟩:=hgs y (b8 hy)
    have el2:=k2 _ _ el hlf
    refine⟨l,_,_,.str (S y),rfl,rfl,SqL.of el2,lM g20 (lR hy),?_⟩
    refine⟨_,rfl,_,rfl,fl,sc,(n:Nat),1,rfl,f2,by omega,by omega,by decide,by decide,fun w G3 wO _ wl f3 k3=>⟨aI (by simp),fun q hq=>?_⟩⟩
    refine⟨_,rfl,fl,sc,2,rfl,f3.upd hq,by decide,by decide,fun e G4 e0 e1 f4 k4=>?_⟩
    obtain⟨u,hu,uO,ul⟩:∃ u,sI [V.str (S y),V.str (S w)] e=some (.str (S u))∧OfN n u∧u.length≤8:=by
     have:e=0∨e=1:=by omega
     rcases this with rfl | rfl
     ·exact⟨y,rfl,yO,yl⟩
     ·exact⟨w,rfl,wO,by omega⟩
    have hqf:q≠fl:=f3.ne hq
    have eq4:=k4 _ _ (aB (H:=G3) (a:=q) (o:=HO.lst [.str (S y),.str (S w)])) hqf
    have k34:Kp fl G G4:=((k2.trans k3).trans (Same.new hq).kp).trans k4
    refine⟨q,_,_,_,rfl,rfl,SqL.of eq4,hu,_,_,rfl,rfl,by rw[cH,cH];exact aI (by omega),x++u,by rw[lB];rfl,(xO.app uO).all,by rw[c6];omega,fun G5 s5=>?_⟩
    have el5:=s5 _ _ (k34 _ _ el hlf)
    have f5:=f4.same s5
    have k05:=(kG.trans k34).trans s5.kp
    have lO:OfN n (lay (x++u)):=(xO.app uO).lay
    have ll:(lay (x++u)).length≤16:=by have:=iF (x++u);rw[c6] at this;omega
    refine⟨_,rfl,_,rfl,l,_,_,.str (S x),rfl,rfl,SqL.of el5,cN (lR hx),_,rfl,aI (by simp),fun q2 hq2=>?_⟩
    refine⟨_,rfl,S (lay (x++u)),rfl,by rw[cH];exact aI (by omega),_,rfl,_,_,rfl,rfl,.inr ⟨_,rfl,?_⟩⟩
    obtain⟨v,hv,vO,vl⟩:∃ v,sI [V.str (S x),V.str (S (lay (x++u)))] (if decide ((((S (lay (x++u))).length:Nat):Int)≤(m:Nat))=true then 1 else 0)=some (.str (S v))∧OfN n v∧v.length≤8:=by
     by_cases z:(((S (lay (x++u))).length:Nat):Int)≤(m:Nat)
     ·rw[if_pos (decide_eq_true z)]
      exact⟨_,rfl,lO,by rw[cH] at z;omega⟩
     ·rw[if_neg (by rw[decide_eq_false z];decide)]
      exact⟨x,rfl,xO,xl⟩
    refine⟨q2,_,_,_,rfl,rfl,SqL.of aB,hv,?_⟩
    have el6:upd G5 q2 (.lst [.str (S x),.str (S (lay (x++u)))]) l=some (.lst (cF gs)):=by rw[aE (aJ el5 hq2)];exact el5
    refine⟨_,rfl,_,rfl,l,_,_,_,rfl,rfl,el6,nP (by omega) (by rw[bN];omega),_,gs.set j v,rfl,by rw[aB,pJ];rfl,by rw[p5];exact hgl,setO hgs ⟨vO,vl⟩,(f5.upd hq2).set hlf hls,(k05.trans (Same.new hq2).kp).upd hlH⟩
   ·exact⟨_,gs,rfl,el,hgl,hgs,fG,kG⟩
  clear el hgl hgs fG kG
  rintro _ G ⟨v6,gs,rfl,el,hgl,hgs,fG,kG⟩
  exact⟨_,rfl,l,_,rfl,.inl ⟨SqL.of el,fun p hp=>k p gs _ aB hgl hgs (fG.upd hp) (kG.trans (Same.new hp).kp)⟩⟩
theorem Kv{f:Addr}{fd:FuncData}(D:Df K mg "_law_refused_with" Kc ["_law_ask","_law_retelling"] f fd)(T:Txt P w K mg NR NW NQ NY NX NS NT NV NU NZ N0 f_NoAlphabet fd_NoAlphabet)(c_zw:Mp P w K mg base "look_alphabet" ["retelling"] 9 (vZ K NS)):Cl P w K mg base "_law_refused_with" ["_law_ask","_law_retelling"] 10 (Fm K mg NS):=by
 obtain⟨f_zw,fd_zw,G_zw,m_zw,k_zw,b_zw⟩:=c_zw
 refine D.cl (D.F.ok sc_zg (fun vs H Q E h=>?_) (fun cdv A outer s H vs Q E hr h=>?_))
 ·obtain⟨f',n,a,rs,rfl,_⟩:=h
  rfl
 ·obtain⟨f',n,a,rs,rfl,hmg,ea,hlen,h1,h4,hx,k⟩:=h
  refine⟨_,(aD (FO (K:=K) (i:=3) rfl rfl rfl sc_zg.nd rfl rfl (by rfl) T.m_LetterError (fun pins xe EX hp=>(aF (aM (i:=2) sc_zg.nd rfl (Or.inl rfl) (B0 G_zw G_zw (hr.mono (by decide)) (hr.mono (by decide)) k_zw k_zw b_zw b_zw hp (pv 0) (aA (pv 1) aC))))) (fun a xe=>(aD (cR (pw_or (vQ (fP (aL (uI (K:=K) rfl) (by rfl) T.b_isinstance boot_isinstance (aA (pv 3) (aA (eR (v:=.ref NS) (by rfl) T.m_NoAlphabet rfl) aC))))) (pw_or1 (vQ (fP (aL (uI (K:=K) rfl) (by rfl) T.b_isinstance boot_isinstance (aA (pv 3) (aA (dS (by rfl) T.b_ValueError (by first | rfl | decide +kernel)) aC))))))).pt (aF (aQ eZ)) bI)
   (aD (cR (fP (aL (zS (K:=K) rfl) (by rfl) T.b_isinstance boot_isinstance (aA (pv 3) (aA (bH (aA (eR (v:=.ref NT) (by rfl) T.m_NoChange rfl) (aA (eR (v:=.ref NV) (by rfl) T.m_NoPaper rfl) (aA (eR (v:=.ref NZ) (by rfl) T.m_NoRow rfl) (aA (eR (v:=.ref NX) (by rfl) T.m_NoText rfl) (aA (eR (v:=.ref NY) (by rfl) T.m_NoWord rfl) (aA (eR (v:=.ref NU) (by rfl) T.m_TooMany rfl) aC))))))) aC)))) (aF (aQ eZ)) bI)
   (aF (aQ (bH (aA bV (aA (FA (K:=K) rfl (pv 3) rfl) aC)))))))))
   (aF (aQ (bH (aA bV (aA (pv 2) aC)))))),?_⟩
  have hf:f'=f_zw:=by
   have:=hmg.symm.trans m_zw
   cases this;rfl
  subst hf
  refine⟨fun σ1 v d H1=>v=.ref NS∧σ1=[some (.ref f'),some (.ref a),none,none]∧∃ (r dx:Addr) (H0:Hp),d=some dx∧H1 dx=some (.xd [("web",.ref r)])∧Same H0 H1∧∀ (p:Addr) (H':Hp),Same H0 H'→H' p=some (.tup [.str (Str.ofString "refused"),.ref r])→Q (.ref p) H',?_,?_⟩
  ·refine⟨_,rfl,.inl ⟨rfl,_,rfl,n,a,rs,rfl,ea,hlen,h1,h4,hx,fun r H1 ρ δ s1 au idp w wl=>?_⟩⟩
   obtain⟨kT,kE⟩:=k r H1 ρ δ s1 au idp w wl
   refine⟨fun z H2 s2=>?_,fun z dx H2 s2 e2=>⟨rfl,rfl,r,dx,H1,rfl,e2,s2,kE z⟩⟩
   exact⟨_,rfl,aI (by simp),fun p hp=>kT z p _ (s2.upd' hp) aB⟩
  ·rintro σ1 H1 ex C d hB ⟨hC,rfl,r,dx,H0,rfl,e1,s1,kk⟩
   obtain rfl:C=NS:=aJv hC
   refine⟨⟨_,T.x_NoAlphabet⟩,T.u_NoAlphabet,(fun d' e=>by cases e;exact⟨_,e1⟩),?_⟩
   have xr:=XR.ofB hB
   have xd:∀ d,some dx=some d→∃ fs,H1 d=some (.xd fs):=fun d e=>by cases e;exact⟨_,e1⟩
   refine⟨_,rfl,ex,C,_,some dx,_,_,true,rfl,rfl,xr,xd,T.x_NoAlphabet,T.is_NoAlphabet,T.k_this,_,rfl,fQ ?_⟩
   refine⟨_,rfl,ex,C,_,some dx,_,_,true,rfl,rfl,xr,xd,T.x_NoAlphabet,T.is_NoAlphabet,T.k_ve,_,rfl,fQ ?_⟩
   refine⟨_,rfl,aI (by simp),fun tp htp=>?_⟩
   have s2:Same H1 (upd H1 tp (.tup [V.ref NT,V.ref NV,V.ref NZ,V.ref NX,V.ref NY,V.ref NU])):=Same.new htp
   have e2:upd H1 tp (.tup [V.ref NT,V.ref NV,V.ref NZ,V.ref NX,V.ref NY,V.ref NU]) tp=some (.tup [V.ref NT,V.ref NV,V.ref NZ,V.ref NX,V.ref NY,V.ref NU]):=aB
   generalize upd H1 tp (.tup [V.ref NT,V.ref NV,V.ref NZ,V.ref NX,V.ref NY,V.ref NU])=H2 at s2 e2
   have xr2:XR H2 ex C (some dx):=XR.ofB (s2 _ _ hB)
   have xd2:∀ d,some dx=some d→∃ fs,H2 d=some (.xd fs):=fun d e=>by cases e;exact⟨_,s2 _ _ e1⟩
   have rv:=nY [ NT, NV, NZ, NX, NY, NU]
   refine⟨ex,C,_,tp,some dx,_,_,false,rfl,e2,rv.1,rv.2,xr2,xd2,T.x_NoAlphabet,T.is_NoAlphabet,T.k_else,_,rfl,fQ ?_⟩
   exact⟨_,rfl,ex,C,_,dx,_,_,rfl,xr2,T.x_NoAlphabet,T.n_NoAlphabet,s2 _ _ e1,rfl,aI (by simp),fun p hp=>kk p _ ((s1.trans s2).upd' hp) aB⟩
theorem Md{f:Addr}{fd:FuncData}(D:Df K mg "_law_look_told" Iy ["_law_retelling"] f fd)(T:Txt P w K mg NR NW NQ NY NX NS NT NV NU NZ N0 f_NoAlphabet fd_NoAlphabet)(c_zk1:Cl P w K mg base "_law_web" ["_law_n","_law_some"] 2 (FB K)):Cl P w K mg base "_law_look_told" ["_law_retelling"] 3 (A6 K):=by
 refine D.cl (D.F.ok sc_zu (fun vs H Q E h=>?_) (fun cdv A outer s H vs Q E hr h=>?_))
 ·obtain⟨n,a,rs,rfl,_⟩:=h
  rfl
 ·obtain⟨n,a,rs,rfl,ea,hlen,h1,h4,hx,k⟩:=h
  refine⟨_,(aD (aM (i:=1) sc_zu.nd rfl (Or.inl rfl) (aL (bM (K:=K) rfl) (by rfl) T.b_len m4 (aA (pv 0) aC)))
   (aD (aM (i:=2) sc_zu.nd rfl (Or.inl rfl) (pC c_zk1 hr (aA (pv 1) (aA (pv 0) aC))))
   (aD (cR (aT (I_ hr.units) (pv 2) (bH (aA (bG (yI (K:=K) rfl) (bH (aA aH aC)) (pv 1)) aC)) (aS _)) (aF (aQ (bH (aA bV (aA oV aC))))) bI)
   (aF (aQ (bH (aA bV (aA (pv 2) aC)))))))),?_⟩
  refine⟨_,rfl,a,_,rfl,.inr ea,?_⟩
  rw[bN,hlen]
  have hsum:=Bm fun x h=>(hx x h).2
  refine⟨_,rfl,_,rfl,n,a,rs,rfl,h1,h4,.inl ea,by omega,fun x h=>(hx x h).1.all,by omega,fun r H1 ρ δ s1 au w wl=>?_⟩
  obtain⟨kT,kE⟩:=k r H1 ρ δ s1 au w wl
  refine⟨_,rfl,aI (by simp),fun t1 ht1=>⟨_,rfl,Bp h1 h4 ht1 fun q2 H2 hq2 s2 e2=>⟨aI (by simp),fun t2 ht2=>?_⟩⟩⟩
  have s3:Same H1 (upd H2 t2 (.tup [.ref q2])):=s2.upd' ht2
  have ne:=uD w s3 (s2.free ht2) hq2 (by rw[aE (aJ e2 ht2)];exact e2) aB
  generalize upd H2 t2 (.tup [.ref q2])=H3 at s3 ne
  refine⟨r,t2,_,rP n,rfl,rfl,ne,_,rfl,?_⟩
  by_cases z:eE δ n (ρ 0) 1000=rP n
  ·exact A3 (by rw[if_neg j2,decide_eq_true z]) ⟨aI (by simp),fun p hp=>kT z p _ (s3.upd' hp) aB⟩
  ·exact tG (by rw[if_neg j2,decide_eq_false z]) ⟨_,rfl,aI (by simp),fun p hp=>kE z p _ (s3.upd' hp) aB⟩
theorem HW{f:Addr}{fd:FuncData}(D:Df K mg "law" qC ["_law_script"] f fd)(T:Txt P w K mg NR NW NQ NY NX NS NT NV NU NZ N0 f_NoAlphabet fd_NoAlphabet)(c_zi1:Cl P w K mg base "is_read" ["web","word"] 3 BE)(c_zw:Mp P w K mg base "look_alphabet" ["retelling"] 9 (vZ K NS))(c_za1:Cl P w K mg base "_law_flow" ["_law_script"] 1 (DG K))(c_zc1:Cl P w K mg base "_law_pick" ["_law_flow_here","_law_many"] 1 lQ)(c_z7:Cl P w K mg base "_law_alike" ["_law_found","_law_due"] 4 (FQ K 3))(c_zb:Cl P w K mg base "_law_any_retelling" ["_law_flow_here","_law_n"] 7 Fn)(c_zg:Cl P w K mg base "_law_refused_with" ["_law_ask","_law_retelling"] 10 (Fm K mg NS))(c_zu:Cl P w K mg base "_law_look_told" ["_law_retelling"] 3 (A6 K)):FnOk P w K mg base zJ 11 f fd ["_law_script"] (BQ K):=by
 obtain⟨f_zw,fd_zw,G_zw,m_zw,k_zw,b_zw⟩:=c_zw
 refine D.F.ok sc_law (fun vs H Q E h=>?_) (fun cdv A outer s H vs Q E hr h=>?_)
 ·obtain⟨a,ns,rfl,_⟩:=h
  rfl
 ·obtain⟨a,ns,rfl,hs,hl,k⟩:=h
  refine⟨_,(aD (aM (i:=1) sc_law.nd rfl (Or.inr rfl) (pC c_za1 hr (aA (pv 0) aC)))
   (aD (aM (i:=2) sc_law.nd rfl (Or.inr rfl) (bG fI aH (pC c_zc1 hr (aA (pv 1) (aA aH aC)))))
   (aD (lV (i:=3) (sc0:=aG qC) (N:=["_law_script","_law_flow_here","_law_n","_law_some","_law_retelling","_law_found"]) (ix:=[1,2]) sc_law.nd rfl rfl (by decide +kernel) rfl rfl rfl (fN (by rfl) T.b_range (aA aH aC)) (fun _ _ _=>bW) (fun _ _ _=>(pC c_zb hr (aA (pv 1) (aA (pv 2) aC)))))
   (aD (cA (cO (K:=K) rfl j7 o0 o6 bX (pv 3) (aA (aY (bP (K:=K) rfl) (by rfl) T.b_tuple boot_tuple (aA (cM (sc0:=aG qC) (N:=["_law_script","_law_flow_here","_law_n","_law_some","_law_retelling","_law_found"]) (ix:=[1]) (by decide +kernel) rfl rfl rfl (iM (eO jQ bV fF (eT (pv 2)))) (fun _ _ _=>bW) (fun _ _ _=>(aV (aO (K:=K) rfl) (cP (aA (pv 0) (aA (dH (K:=K) rfl k7 aQ3 aQ4 kI (pv 0)) (aA bV aC)))) (bG pM (pC c_zc1 hr (aA (pv 1) (aA aH aC))) aH) (fun _ _=>rfl)))) aC)) aC)))
   (aD (cW l4 rfl (dF (K:=K) rfl (bG FD (pv 3) (eO (EB (K:=K) rfl) (pv 3) fF (eT aH)))) (aX (i:=4) sc_law.nd rfl (Or.inl rfl)) (aD (aM (i:=5) sc_law.nd rfl (Or.inr rfl) (pC c_zg hr (aA (eR (v:=.ref _) (by rfl) m_zw rfl) (aA (pv 4) aC))))
   (aD (cR (vQ (fP (pC c_z7 hr (aA (pv 5) (aA (pC c_zu hr (aA (pv 4) aC)) aC))))) (aF (aQ oV)) bI)
   (aF (cR (PW.pt (pw_and (aT eM (aV (cG (K:=K) rfl) (pv 5) aH (fun _ _=>rfl)) bV (aS _)) (pw_and1 (vQ (fP (aL (oC (K:=K) rfl rfl) (by rfl) T.b_all boot_all (aA (cM (sc0:=aG qC) (N:=["_law_script","_law_flow_here","_law_n","_law_some","_law_retelling","_law_found"]) (ix:=[5]) (by decide +kernel) rfl rfl rfl (fT (K:=K) rfl (pv 4)) (fun _ _ _=>bW) (fun _ _ _=>(pC c_zi1 hr (aA (aV (cG (K:=K) rfl) (pv 1) aH (fun _ _=>rfl)) (aA (pv 0) aC))))) aC))))))) (aF (aQ oV)) bI)))))
   (aF (aQ oV))))))),?_⟩
  refine⟨_,rfl,a,ns,rfl,hs,hl,fun fl sc H1 hfl s1 f1=>?_⟩
  refine⟨_,rfl,fl,sc,4,rfl,f1,by decide,by decide,fun d H2 d0 d1 f2 k2=>⟨_,_,rfl,rfl,?_⟩⟩
  obtain⟨n,hn⟩:∃ n:Nat,1+d=(n:Int):=⟨(1+d).toNat,by omega⟩
  have hd:(fun i j:Int=>V.int (i+j)) 1 d=V.int (n:Nat):=by rw[← hn]
  rw[hd]
  have n1:1≤n:=by omega
  have n4:n≤4:=by omega
  refine⟨3,rfl,by decide,by decide,fun D0 hD0=>?_⟩
  have hDf:=f2.ne hD0
  have hDs:=f2.ne2 hD0
  refine jH (lo:=0) (n:=(3:Int).toNat) (fun i G=>∃ ps:List (Addr×List (List Nat)),G D0=some (.lst (ps.map fun p=>V.ref p.1))∧ps.length=i∧(∀ p∈ps,Eu n G p)∧IsFl G fl sc∧Kp fl H2 G) ⟨[],aB,rfl,fun x hx=>by (cases hx),f2.upd hD0,(Same.new hD0).kp⟩ ?_ ?_
  ·rintro i G hi ⟨ps,eD,hpl,hps,fG,kG⟩
   refine⟨_,rfl,_,rfl,fl,sc,n,rfl,fG,n1,n4,fun p rs G2 ep hl2 hx2 f3 k3=>?_⟩
   have eD2:=k3 _ _ eD hDf
   have s0:∀ {b:Addr} {us:List V},G2 b=some (.tup us)→upd G2 D0 (.lst (ps.map (fun p=>V.ref p.1)++[.ref p])) b=some (.tup us):=fun {b us} e=>by rw[aE (bY e eD2 (by intro z;cases z))];exact e
   refine⟨_,eD2,by rw[b7,hpl];exact aP (by omega),ps++[(p,rs)],by rw[aB,i7];rfl,by rw[c6,hpl];rfl,fun q hq=>?_,f3.set hDf hDs,(kG.trans k3).upd hD0⟩
   rcases j9.mp hq with z | z
   ·obtain⟨h1,h2⟩:=hps q z
    exact⟨s0 (Ae fG k3 h1),h2⟩
   ·rw[d6.mp z];exact⟨s0 ep,hl2,hx2⟩
  rintro G ⟨ps,eD,hpl,hps,fG,kG⟩
  refine⟨_,rfl,.inl ⟨rfl,_,SqL.of eD⟩,_,rfl,_,rfl,_,rfl,by decide +kernel,S (bE n),?_,fun D1 hD1=>?_⟩
  ·show V.str (Txt.slice (Str.ofString "abcd") none (some ((n:Nat):Int)))=_
   rw[jU,gE _ (by omega) (by simp;omega)]
   rfl
  have hD1f:=fG.ne hD1
  have hD1s:=fG.ne2 hD1
  refine jA (w:=bE n) (fun i G2=>∃ bs,G2 D1=some (.lst (cF bs))∧bs.length=i∧(∀ x∈bs,OfN n x∧x.length≤8)∧IsFl G2 fl sc∧Kp fl G G2) ⟨[],aB,rfl,fun x hx=>by (cases hx),fG.upd hD1,(Same.new hD1).kp⟩ ?_ ?_
  ·rintro i c G2 hc ⟨bs,eb,hbl,hbs,f3,k3⟩
   have hcl:=b8 hc
   have hcL:cE c:=iG hcl
   have hcn:=dM n1 n4 hcl
   have hi:i<n:=by have:=(a9.mp hc).1;rw[cC n4] at this;exact this
   refine⟨_,rfl,_,rfl,rfl,S [c],rfl,rfl,by rw[fW hcL (fU hcl)];exact nS _,aI (by simp),fun q hq=>?_⟩
   rw[fW hcL (fU hcl)]
   refine⟨_,rfl,fl,sc,5,rfl,f3.upd hq,by decide,by decide,fun e G4 e0 e1 f4 k4=>⟨_,_,rfl,rfl,⟨by decide,by decide⟩,?_⟩⟩
   obtain⟨y,hy,yO,yl⟩:∃ y,sI [V.str (S [c]),V.str (S [con c]),V.str (Str.ofString "")] (e / 2)=some (.str (S y))∧OfN n y∧y.length≤8:=by
    have one:∀ {d:Nat},d∈aK (n:Nat)→OfN n [d]:=fun hd x hx=>by rw[d6.mp hx];exact hd
    have:e / 2=0∨e / 2=1∨e / 2=2:=by omega
    rcases this with z | z | z
    ·rw[z];exact⟨[c],rfl,one hcn,by simp⟩
    ·rw[z];exact⟨[con c],rfl,one (dC (by omega) (by omega) hcn),by simp⟩
    ·rw[z];exact⟨[],by rw[← uE];rfl,OfN.nil,by simp⟩
   have hqf:q≠fl:=f3.ne hq
   have eq4:=k4 _ _ (aB (H:=G2) (a:=q) (o:=HO.lst [.str (S [c]),.str (S [con c]),.str (Str.ofString "")])) hqf
   have k24:Kp fl G2 G4:=(Same.new hq).kp.trans k4
   refine⟨q,_,_,_,rfl,rfl,SqL.of eq4,hy,_,k24 _ _ eb hD1f,by rw[bN];exact aP (by omega),bs++[y],by rw[aB,BV],by rw[c6,hbl];rfl,fun x hx=>?_,f4.set hD1f hD1s,(k3.trans k24).upd hD1⟩
   rcases j9.mp hx with z | z
   ·exact hbs x z
   ·rw[d6.mp z];exact⟨yO,yl⟩
  rintro G2 ⟨bs,eb,hbl,hbs,f3,k3⟩
  rw[cC n4] at hbl
  refine⟨D1,_,rfl,.inl ⟨SqL.of eb,fun p4 hp4=>?_⟩⟩
  have eD2:=k3 _ _ eD hDf
  have s4:=Same.new (o:=HO.tup (cF bs)) hp4
  have e4:upd G2 p4 (.tup (cF bs)) p4=some (.tup (cF bs)):=aB
  have eD4:=s4 _ _ eD2
  generalize upd G2 p4 (.tup (cF bs))=G4 at s4 e4 eD4
  refine⟨D0,_,_,rfl,rfl,eD4,by rw[b7,hpl];exact aP (by decide),?_⟩
  have s0:∀ {b:Addr} {us:List V},G4 b=some (.tup us)→upd G4 D0 (.lst (ps.map (fun p=>V.ref p.1)++[.ref p4])) b=some (.tup us):=fun {b us} e=>by rw[aE (bY e eD4 (by intro z;cases z))];exact e
  have hall:∀ p∈ps++[(p4,bs)],Eu n (upd G4 D0 (.lst (ps.map (fun p=>V.ref p.1)++[.ref p4]))) p:=fun q hq=>by
   rcases j9.mp hq with z | z
   ·obtain⟨h1,h2⟩:=hps q z
    exact⟨s0 (s4 _ _ (Ae fG k3 h1)),h2⟩
   ·rw[d6.mp z];exact⟨s0 e4,hbl,hbs⟩
  have eD5:upd G4 D0 (.lst (ps.map (fun p=>V.ref p.1)++[.ref p4])) D0=some (.lst ((ps++[(p4,bs)]).map fun p=>V.ref p.1)):=by rw[aB,i7];rfl
  have hl4:(ps++[(p4,bs)]).length=4:=by rw[c6,hpl];rfl
  show sO _ _ _ _ (upd G4 D0 (.lst (ps.map (fun p=>V.ref p.1)++[.ref p4])))
  generalize upd G4 D0 (.lst (ps.map (fun p=>V.ref p.1)++[.ref p4]))=G5 at hall eD5
  generalize ps++[(p4,bs)]=us at hall eD5 hl4
  clear hps hpl eD eD2 eD4 s0 s4 e4 fG kG f3 k3 eb hbl hbs f1 f2 k2 s1
  obtain⟨u1,u2,u3,u4,rfl⟩:∃ u1 u2 u3 u4,us=[u1,u2,u3,u4]:=by
   match us,hl4 with
   | [u1,u2,u3,u4],_=>exact⟨u1,u2,u3,u4,rfl⟩
  refine⟨_,rfl,_,rfl,_,rfl,D0,_,rfl,SqL.of eD5,fun L1 hL1=>⟨D0,L1,_,_,rfl,rfl,by rw[aE (aJ eD5 hL1)];exact eD5,aB,aI (by show (5:Nat)≤100000;decide),fun L hL=>⟨L,rfl,⟨_,SqL.of aB⟩,?_⟩⟩⟩
  have s6:Same G5 (upd (upd G5 L1 (.lst (mU ([u1,u2,u3,u4].map fun p=>V.ref p.1) none (some 1)))) L (.lst (([u1,u2,u3,u4].map fun p=>V.ref p.1)++mU ([u1,u2,u3,u4].map fun p=>V.ref p.1) none (some 1)))):=(Same.new hL1).upd' hL
  have e6:upd (upd G5 L1 (.lst (mU ([u1,u2,u3,u4].map fun p=>V.ref p.1) none (some 1)))) L (.lst (([u1,u2,u3,u4].map fun p=>V.ref p.1)++mU ([u1,u2,u3,u4].map fun p=>V.ref p.1) none (some 1))) L=some (.lst ([u1,u2,u3,u4,u1].map fun p=>V.ref p.1)):=by rw[aB];rfl
  generalize upd (upd G5 L1 (.lst (mU ([u1,u2,u3,u4].map fun p=>V.ref p.1) none (some 1)))) L (.lst (([u1,u2,u3,u4].map fun p=>V.ref p.1)++mU ([u1,u2,u3,u4].map fun p=>V.ref p.1) none (some 1)))=G6 at s6 e6
  have hall:∀ p∈[u1,u2,u3,u4,u1],Eu n G6 p:=fun q hq=>by
   obtain⟨h1,h2⟩:=hall q (by simp at hq ⊢;rcases hq with z | z | z | z | z <;> simp[z])
   exact⟨s6 _ _ h1,h2⟩
  generalize [u1,u2,u3,u4,u1]=us at hall e6
  refine fB (K:=K) (a:=L) (xs:=us.map fun p=>V.ref p.1) (fun i σ G=>∃ v4 v5:Option V,σ=[some (.ref a),some (.ref fl),some (.int (n:Nat)),some (.ref D0),v4,v5]∧Same G6 G) ⟨none,none,rfl,Same.refl _⟩ (fun i σ G _ ⟨_,_,_,s⟩=>SqL.of (s _ _ e6)) ?_ ?_
  ·rintro i v _ G hv ⟨v4,v5,rfl,sG⟩
   rw[c7] at hv
   obtain⟨u,hu,rfl⟩:=i6.mp hv
   obtain⟨p,rs⟩:=u
   obtain⟨ep,hlen,hx⟩:=hall _ (b8 hu)
   have ep:G6 p=some (.tup (cF rs)):=ep
   have hlen:rs.length=n:=hlen
   have hx:∀ x∈rs,OfN n x∧x.length≤8:=hx
   have epG:=sG _ _ ep
   refine⟨_,rfl,f_zw,n,p,rs,rfl,m_zw,SqT.of epG,hlen,n1,n4,fun x h=>⟨(hx x h).1,by have:=(hx x h).2;omega⟩,fun r G1 ρ δ s1 au idp w wl=>?_⟩
   obtain⟨g,ok,hg⟩:=JN n1 n4 au (fun x h=>(hx x h).1) wl
   refine⟨fun z q G2 s2 e2=>?_,fun z q G2 s2 e2=>?_⟩
   ·have s02:=s1.trans s2
    refine⟨_,rfl,_,rfl,n,p,rs,rfl,SqT.of (s02 _ _ epG),hlen,n1,n4,hx,fun r' G3 ρ' δ' s3 au' w' wl'=>?_⟩
    rw[BR au au' idp]
    refine⟨fun _ q' G4 s4 e4=>?_,fun z'=>absurd z z'⟩
    have s24:=s3.trans s4
    refine⟨_,_,rfl,.tup (SqT.of (s24 _ _ e2)) (SqT.of e4) rfl (show 2≤900 by decide) (fun i x y hx hy=>?_),fun G5 s5=>⟨_,rfl,?_⟩⟩
    ·match i,hx,hy with
     | 0,hx,hy=>cases hx;cases hy;exact .flat rfl
     | 1,hx,hy=>cases hx;cases hy;exact .flat rfl
    have s25:=s24.trans s5
    refine⟨_,rfl,q,_,_,.str (Str.ofString "told"),rfl,rfl,SqT.of (s25 _ _ e2),rfl,rfl,_,rfl,tG (decide_eq_false (by intro e;exact absurd (V.str.inj e) (by decide))) ?_⟩
    exact⟨_,_,rfl,(sG.trans s02).trans s25⟩
   ·have s02:=s1.trans s2
    refine⟨_,rfl,_,rfl,n,p,rs,rfl,SqT.of (s02 _ _ epG),hlen,n1,n4,hx,fun r' G3 ρ' δ' s3 au' w' wl'=>?_⟩
    rw[BR au au' idp] at w' ⊢
    refine⟨fun z'=>absurd z' z,fun _ q' G4 s4 e4=>?_⟩
    have s24:=s3.trans s4
    have w4:=w.same (s2.trans s24)
    refine⟨_,_,rfl,.tup (SqT.of (s24 _ _ e2)) (SqT.of e4) rfl (show 2≤900 by decide) (fun i x y hx hy=>?_),fun G5 s5=>⟨_,rfl,?_⟩⟩
    ·match i,hx,hy with
     | 0,hx,hy=>cases hx;cases hy;exact .flat rfl
     | 1,hx,hy=>cases hx;cases hy;exact Ij w4 (w'.same s4) wl (fun row hr=>DE n4 hr)
    have s25:=s24.trans s5
    have w5:=w4.same s5
    refine⟨_,rfl,q,_,_,.str (Str.ofString "refused"),rfl,rfl,SqT.of (s25 _ _ e2),rfl,rfl,_,rfl,A3 (decide_eq_true rfl) ?_⟩
    have ep5:=s25 _ _ (s02 _ _ epG)
    refine⟨_,rfl,p,rfl,⟨_,SqT.of ep5⟩,fun Dd hD=>eW (K:=K) (a:=p) (xs:=cF rs) (fun i G6=>Same G5 G6∧G6 Dd=some (.lst ((List.replicate i true).map V.bl))) ⟨Same.new hD,aB⟩ (fun i G6 _ h=>SqT.of (h.1 _ _ ep5)) ?_ ?_⟩
    ·rintro i v G6 hv ⟨s6,e6'⟩
     obtain⟨x,hx',rfl⟩:=gM hv
     have hxm:=b8 hx'
     have hil:=(a9.mp hx').1
     refine⟨_,rfl,q,_,_,.ref r,rfl,rfl,SqT.of (s6 _ _ (s25 _ _ e2)),rfl,_,rfl,r,n,_,g,x,rfl,n1,n4,w5.same s6,ok,(hx x hxm).1,by have:=(hx x hxm).2;omega,fun G7 s7=>?_⟩
     rw[hg x hxm,decide_eq_true rfl]
     refine⟨_,s7 _ _ e6',by rw[b7,aQu];exact aP (by omega),(s6.trans s7).upd hD,?_⟩
     rw[aB,aXb,i7]
     rfl
    ·rintro G6 ⟨s6,e6'⟩
     refine⟨Dd,_,rfl,SqL.of e6',_,rfl,?_⟩
     refine tG (by rw[show (List.replicate (cF rs).length true).all id=true by rw[y1];intro b hb;exact(aXs.mp hb).2];rfl) ?_
     exact⟨_,_,rfl,(((sG.trans s02).trans s25).trans s6)⟩
  ·rintro _ G ⟨v4,v5,rfl,sG⟩
   exact k _
end
theorem all_mk{l:PySem.W.OpenLaw}{w:World}{K:b5}{h:Heap}{mg:Str→Option Value}{fa:Addr}(X:K.In h)(G:h.Ns mainGlobals mg)(hfa:mg "law"=some (.ref fa))
  {f_49 NR NW NQ NY NX NS NT NV NU NZ N0 f_NoAlphabet N_NoAlphabet:Addr}
  {nm_NoAlphabet q_NoAlphabet:Str} {bs_NoAlphabet sub_NoAlphabet:List Value} {sn_NoAlphabet:List Str} {ab_NoAlphabet:Bool} {col_NoAlphabet:Option Bool} {dd_NoAlphabet od_NoAlphabet an_NoAlphabet:Option Addr} {k0_NoAlphabet k1_NoAlphabet k2_NoAlphabet k3_NoAlphabet k5_NoAlphabet:Option Value} {sl_NoAlphabet:Array (Option Value)} {oc_NoAlphabet kV_NoAlphabet dc_NoAlphabet pm_NoAlphabet cd_NoAlphabet ct_NoAlphabet:Value}
  {nm_L q_L:Str} {N_L:Addr} {bs_L sub_L:List Value} {sn_L:List Str} {hd_L ab_L:Bool} {col_L:Option Bool} {dd_L:Option Addr} {k0_L k1_L k2_L k3_L k5_L:Option Value}
  {od_49 an_49:Option Addr} {sl_49:Array (Option Value)} {oc_49 kV_49 dc_49 pm_49 cd_49 ct_49:Value}
  (d_0:DI K "_wall" Ei)
  (d_1:DI K "letters_of" JM)
  (d_2:DI K "first_letters" J7)
  (d_3:DI K "contrary" Fr)
  (d_4:DI K "laid_out" HR)
  (d_5:DI K "turned_back" GG)
  (d_6:DI K "joined" DZ)
  (d_7:DJ K N0 "__init__" "Weave.__init__" IM)
  (d_8:DJ K N0 "end_of" "Weave.end_of" JB)
  (d_9:DJ K N0 "head_of" "Weave.head_of" Im)
  (d_10:DJ K N0 "goal_of" "Weave.goal_of" Jq)
  (d_11:DJ K N0 "new_place" "Weave.new_place" Jk)
  (d_12:DJ K N0 "lay_way" "Weave.lay_way" Jl)
  (d_13:DJ K N0 "lay_word" "Weave.lay_word" HV)
  (d_14:DJ K N0 "put_under" "Weave.put_under" JS)
  (d_15:DJ K N0 "fold" "Weave.fold" Io)
  (d_16:DJ K N0 "round_told" "Weave.round_told" Je)
  (d_17:DI K "numbers_of_heads" Ik)
  (d_18:DI K "place_told" Ep)
  (d_19:DI K "web_of" BJ)
  (d_20:DI K "ways_both_ways" IP)
  (d_21:DI K "is_read" Dr)
  (d_22:DI K "look_alphabet" JT)
  (d_23:DI K "_law_flow" FF)
  (d_24:DI K "_law_pick" Da)
  (d_25:DI K "_law_alike" Cb)
  (d_26:DI K "_law_letters" JU)
  (d_27:DI K "_law_contrary" Ih)
  (d_28:DI K "_law_key" Bg)
  (d_29:DI K "_law_back" BL)
  (d_30:DI K "_law_laid" Dq)
  (d_31:DI K "_law_word" BM)
  (d_32:DI K "_law_retold" IQ)
  (d_33:DI K "_law_then" GN)
  (d_34:DI K "_law_same" El)
  (d_35:DI K "_law_drawn_change" JG)
  (d_36:DI K "_law_change_told" J3)
  (d_37:DI K "_law_change_back" Hf)
  (d_38:DI K "_law_alphabet" Hl)
  (d_39:DI K "_law_exchange" Kf)
  (d_40:DI K "_law_two_places" Jd)
  (d_41:DI K "_law_web" tR)
  (d_42:DI K "_law_most" EH)
  (d_43:DI K "_law_turned_by" Gn)
  (d_44:DI K "_law_exchange_back" FK)
  (d_45:DI K "_law_other_alphabet" Hm)
  (d_46:DI K "_law_any_retelling" GS)
  (d_47:DI K "_law_refused_with" Kc)
  (d_48:DI K "_law_look_told" Iy)
  (na_49:PySem.W.nsIn K mainGlobals "law"=some (some (.ref f_49))) (nl_49:K.lookup f_49=some ⟨oc_49,od_49,.func (Mf "law" qC kV_49 dc_49 pm_49 an_49 cd_49 ct_49),sl_49⟩) (nc_49:PySem.W.codeIn K cd_49 "law"=true) (nk_49:PySem.W.keepIn K (.ref f_49)=true)
  (nb_ValueError:PySem.W.nsIn K mainGlobals "ValueError"=some none)
  (nb_all:PySem.W.nsIn K mainGlobals "all"=some none)
  (nb_bool:PySem.W.nsIn K mainGlobals "bool"=some none)
  (nb_enumerate:PySem.W.nsIn K mainGlobals "enumerate"=some none)
  (nb_int:PySem.W.nsIn K mainGlobals "int"=some none)
  (nb_isinstance:PySem.W.nsIn K mainGlobals "isinstance"=some none)
  (nb_len:PySem.W.nsIn K mainGlobals "len"=some none)
  (nb_list:PySem.W.nsIn K mainGlobals "list"=some none)
  (nb_max:PySem.W.nsIn K mainGlobals "max"=some none)
  (nb_min:PySem.W.nsIn K mainGlobals "min"=some none)
  (nb_range:PySem.W.nsIn K mainGlobals "range"=some none)
  (nb_reversed:PySem.W.nsIn K mainGlobals "reversed"=some none)
  (nb_sorted:PySem.W.nsIn K mainGlobals "sorted"=some none)
  (nb_tuple:PySem.W.nsIn K mainGlobals "tuple"=some none)
  (nb_zip:PySem.W.nsIn K mainGlobals "zip"=some none)
  (nm_LetterError':PySem.W.nsIn K mainGlobals "LetterError"=some (some (.ref NQ)))
  (nm_NoWord':PySem.W.nsIn K mainGlobals "NoWord"=some (some (.ref NY)))
  (nm_NoText':PySem.W.nsIn K mainGlobals "NoText"=some (some (.ref NX)))
  (nm_NoAlphabet':PySem.W.nsIn K mainGlobals "NoAlphabet"=some (some (.ref NS)))
  (nm_NoChange':PySem.W.nsIn K mainGlobals "NoChange"=some (some (.ref NT)))
  (nm_NoPaper':PySem.W.nsIn K mainGlobals "NoPaper"=some (some (.ref NV)))
  (nm_TooMany':PySem.W.nsIn K mainGlobals "TooMany"=some (some (.ref NU)))
  (nm_NoRow':PySem.W.nsIn K mainGlobals "NoRow"=some (some (.ref NZ)))
  (nL:K.lookup NQ=some (excClassObj nm_L q_L NQ N_L bs_L A1 hd_L sn_L sub_L ab_L col_L dd_L k0_L k1_L k2_L k3_L k5_L "ValueError.__new__"))
  (nLe:PySem.W.mroIn K NQ (.type "BaseException")=some true)
  (nLo:PySem.W.nsOkIn K N_L=true)
  (nLi:PySem.W.nsIn K N_L "__init__"=some none)
  (x1_NoAlphabet:K.lookup NS=some (excClassObj nm_NoAlphabet q_NoAlphabet NS N_NoAlphabet bs_NoAlphabet (.ref NQ::A1) true sn_NoAlphabet sub_NoAlphabet ab_NoAlphabet col_NoAlphabet dd_NoAlphabet k0_NoAlphabet k1_NoAlphabet k2_NoAlphabet k3_NoAlphabet k5_NoAlphabet "ValueError.__new__"))
  (x2_NoAlphabet:PySem.W.findIn K (.ref NS) "__setattr__"=some (some (.builtin "object.__setattr__")))
  (x3_NoAlphabet:PySem.W.findIn K (.ref NS) "__getattribute__"=some (some (.builtin "BaseException.__getattribute__")))
  (x4_NoAlphabet:PySem.W.findIn K (.ref NS) "__getattr__"=some none)
  (x5_NoAlphabet:PySem.W.findIn K (.ref NS) "__init__"=some (some (.ref f_NoAlphabet)))
  (x6_NoAlphabet:PySem.W.isFn K (.ref f_NoAlphabet)=true)
  (x7_NoAlphabet:PySem.W.keepIn K (.ref NS)=true)
  (x8_NoAlphabet:PySem.W.findIn K (.ref NS) "__class__"=some (some (.builtin "object.__class__")))
  (x9_NoAlphabet:PySem.W.specialIn K (.builtin "object.__class__") "__get__"=some (some (.builtin "getset_descriptor.__get__")))
  (xa_NoAlphabet:PySem.W.takesIn K (.builtin "object.__class__")=some true)
  (xb_NoAlphabet:PySem.W.mroIn K NS (.ref NQ)=some true)
  (xc_NoAlphabet:PySem.W.findIn K (.ref NS) "web"=some none)
  (xd_NoAlphabet:K.lookup f_NoAlphabet=some ⟨oc_NoAlphabet,od_NoAlphabet,.func (PySem.W.fnOf "__init__" "NoAlphabet.__init__" (eK Dx) (dO Dx) (aG Dx) .none kV_NoAlphabet dc_NoAlphabet pm_NoAlphabet an_NoAlphabet cd_NoAlphabet ct_NoAlphabet),sl_NoAlphabet⟩)
  (xe_NoAlphabet:PySem.W.codeIn K cd_NoAlphabet "NoAlphabet.__init__"=true)
  (xf_NoAlphabet:PySem.W.keepIn K (.ref f_NoAlphabet)=true)
  (q_k_else:PySem.W.kitAny K (.ref NS) [.ref NT,.ref NV,.ref NZ,.ref NX,.ref NY,.ref NU]=some false)
  (q_k_this:PySem.W.kitOne K (.ref NS) (.ref NS)=some true)
  (q_k_ve:PySem.W.kitOne K (.ref NS) (.type "ValueError")=some true)
  (oa_Weave:PySem.W.nsIn K mainGlobals "Weave"=some (some (.ref N0)))
  (ob_Weave:PySem.W.plainGet K N0 Str.empty=true)
  (oe_Weave:PySem.W.hasDictIn K N0=true)
  (of_Weave:PySem.W.plainOver K N0=true)
  (og_Weave:PySem.W.findIn K (.ref N0) "__setattr__"=some (some (.builtin "object.__setattr__")))
  (oh_Weave:PySem.W.makesIn K N0=true)
  (oi_Weave:PySem.W.keepIn K (.ref N0)=true)
  (on_Weave_heads:PySem.W.findIn K (.ref N0) "heads"=some none)
  (on_Weave_turns:PySem.W.findIn K (.ref N0) "turns"=some none)
  (on_Weave_ways:PySem.W.findIn K (.ref N0) "ways"=some none)
  (on_Weave_alike:PySem.W.findIn K (.ref N0) "alike"=some none)
  (nm_CONTRARIES:PySem.W.nsIn K mainGlobals "CONTRARIES"=some (some (.ref NR)))
  (nt_CONTRARIES:KTD.tabLook KTD.flatLooks (fun b=>K.lookup b) NR conTab_rows=true) (nh_CONTRARIES:KTD.hashesOf (fun b=>K.lookup b) NR=conTab_rows.map fun p=>(PySem.strKind l.prog w).hash p.1)
  (nm_LETTERS:PySem.W.nsIn K mainGlobals "LETTERS"=some (some (.ref NW)))
  {i_LETTERS:Array Value} {n_LETTERS:Nat} (nt_LETTERS:K.lookup NW=some ⟨.type "tuple",none,.seq i_LETTERS n_LETTERS,#[]⟩) (nv_LETTERS:Vals letV i_LETTERS.toList)
  : ∃ fd:FuncData,(∀ (s:Shared) (v:Value),BindsTo s fd ⟨[v],[]⟩ [("_law_script",v)])∧∀ base:Heap,K.In base→base.Ns mainGlobals mg→FnOk l.prog w K mg base zJ 40 fa fd ["_law_script"] (BQ K):=by
 have e:=hfa.symm.trans (u9 X G na_49)
 have e2:f_49=fa:=by cases e;rfl
 subst e2
 have T:Txt l.prog w K mg NR NW NQ NY NX NS NT NV NU NZ N0 f_NoAlphabet _:=⟨u9 X G oa_Weave,⟨⟨ob_Weave,oe_Weave,of_Weave,og_Weave⟩,oh_Weave,oi_Weave⟩,on_Weave_heads,on_Weave_turns,on_Weave_ways,on_Weave_alike,u9 X G nm_LetterError',u9 X G nm_NoWord',u9 X G nm_NoText',u9 X G nm_NoAlphabet',u9 X G nm_NoChange',u9 X G nm_NoPaper',u9 X G nm_TooMany',u9 X G nm_NoRow',⟨⟨_,_,_,_,_,_,_,_,_,_,_,_,_,_,_,x1_NoAlphabet,Gf nL nLo nLi⟩,x2_NoAlphabet,x3_NoAlphabet,x4_NoAlphabet,x5_NoAlphabet,x6_NoAlphabet,x7_NoAlphabet⟩,⟨x8_NoAlphabet,x9_NoAlphabet,xa_NoAlphabet⟩,⟨xb_NoAlphabet,nLe,⟨_,_,_,nL⟩⟩,xc_NoAlphabet,jN xd_NoAlphabet xe_NoAlphabet xf_NoAlphabet,(jN xd_NoAlphabet xe_NoAlphabet xf_NoAlphabet).binds (fun _ _ _ _ _ _ u h=>match u,h with | [_,_],_=>rfl),q_k_else,q_k_this,q_k_ve,t4 X G nb_ValueError,t4 X G nb_all,t4 X G nb_bool,t4 X G nb_enumerate,t4 X G nb_int,t4 X G nb_isinstance,t4 X G nb_len,t4 X G nb_list,t4 X G nb_max,t4 X G nb_min,t4 X G nb_range,t4 X G nb_reversed,t4 X G nb_sorted,t4 X G nb_tuple,t4 X G nb_zip,u9 X G nm_CONTRARIES,fun h x=>PySem.W.kt_tab_in l.prog w x nt_CONTRARIES (by decide +kernel) nh_CONTRARIES,u9 X G nm_LETTERS,fun H=>.inr ⟨_,_,_,nt_LETTERS,rfl,rfl,Hk nv_LETTERS (by decide),nv_LETTERS⟩⟩
 obtain⟨_,_,D_0⟩:=jD (ps:=["k"]) d_0 X G fun _ _ _ _ _ _ u h=>match u,h with | [_],_=>rfl
 obtain⟨_,_,D_1⟩:=jD (ps:=["n"]) d_1 X G fun _ _ _ _ _ _ u h=>match u,h with | [_],_=>rfl
 obtain⟨_,_,D_2⟩:=jD (ps:=["n"]) d_2 X G fun _ _ _ _ _ _ u h=>match u,h with | [_],_=>rfl
 obtain⟨_,_,D_3⟩:=jD (ps:=["letter"]) d_3 X G fun _ _ _ _ _ _ u h=>match u,h with | [_],_=>rfl
 obtain⟨_,_,D_4⟩:=jD (ps:=["text"]) d_4 X G fun _ _ _ _ _ _ u h=>match u,h with | [_],_=>rfl
 obtain⟨_,_,D_5⟩:=jD (ps:=["word"]) d_5 X G fun _ _ _ _ _ _ u h=>match u,h with | [_],_=>rfl
 obtain⟨_,_,D_6⟩:=jD (ps:=["one","other"]) d_6 X G fun _ _ _ _ _ _ u h=>match u,h with | [_,_],_=>rfl
 obtain⟨_,_,D_7⟩:=FI (ps:=["self"]) d_7 fun _ _ _ _ _ _ u h=>match u,h with | [_],_=>rfl
 obtain⟨_,_,D_8⟩:=FI (ps:=["self","place","told"]) d_8 fun _ _ _ _ _ _ u h=>match u,h with | [_,_,_],_=>rfl
 obtain⟨_,_,D_9⟩:=FI (ps:=["self","place"]) d_9 fun _ _ _ _ _ _ u h=>match u,h with | [_,_],_=>rfl
 obtain⟨_,_,D_10⟩:=FI (ps:=["self","head","letter"]) d_10 fun _ _ _ _ _ _ u h=>match u,h with | [_,_,_],_=>rfl
 obtain⟨_,_,D_11⟩:=FI (ps:=["self"]) d_11 fun _ _ _ _ _ _ u h=>match u,h with | [_],_=>rfl
 obtain⟨_,_,D_12⟩:=FI (ps:=["self","place","letter","goal","told"]) d_12 fun _ _ _ _ _ _ u h=>match u,h with | [_,_,_,_,_],_=>rfl
 obtain⟨_,_,D_13⟩:=FI (ps:=["self","word","told"]) d_13 fun _ _ _ _ _ _ u h=>match u,h with | [_,_,_],_=>rfl
 obtain⟨_,_,D_14⟩:=FI (ps:=["self","head","above","turn"]) d_14 fun _ _ _ _ _ _ u h=>match u,h with | [_,_,_,_],_=>rfl
 obtain⟨_,_,D_15⟩:=FI (ps:=["self"]) d_15 fun _ _ _ _ _ _ u h=>match u,h with | [_],_=>rfl
 obtain⟨_,_,D_16⟩:=FI (ps:=["self","letter"]) d_16 fun _ _ _ _ _ _ u h=>match u,h with | [_,_],_=>rfl
 obtain⟨_,_,D_17⟩:=jD (ps:=["n","weave"]) d_17 X G fun _ _ _ _ _ _ u h=>match u,h with | [_,_],_=>rfl
 obtain⟨_,_,D_18⟩:=jD (ps:=["n","weave","numbers","head"]) d_18 X G fun _ _ _ _ _ _ u h=>match u,h with | [_,_,_,_],_=>rfl
 obtain⟨_,_,D_19⟩:=jD (ps:=["n","words"]) d_19 X G fun _ _ _ _ _ _ u h=>match u,h with | [_,_],_=>rfl
 obtain⟨_,_,D_20⟩:=jD (ps:=["web"]) d_20 X G fun _ _ _ _ _ _ u h=>match u,h with | [_],_=>rfl
 obtain⟨_,_,D_21⟩:=jD (ps:=["web","word"]) d_21 X G fun _ _ _ _ _ _ u h=>match u,h with | [_,_],_=>rfl
 obtain⟨_,_,D_22⟩:=jD (ps:=["retelling"]) d_22 X G fun _ _ _ _ _ _ u h=>match u,h with | [_],_=>rfl
 obtain⟨_,_,D_23⟩:=jD (ps:=["_law_script"]) d_23 X G fun _ _ _ _ _ _ u h=>match u,h with | [_],_=>rfl
 obtain⟨_,_,D_24⟩:=jD (ps:=["_law_flow_here","_law_many"]) d_24 X G fun _ _ _ _ _ _ u h=>match u,h with | [_,_],_=>rfl
 obtain⟨_,_,D_25⟩:=jD (ps:=["_law_found","_law_due"]) d_25 X G fun _ _ _ _ _ _ u h=>match u,h with | [_,_],_=>rfl
 obtain⟨_,_,D_26⟩:=jD (ps:=["_law_n"]) d_26 X G fun _ _ _ _ _ _ u h=>match u,h with | [_],_=>rfl
 obtain⟨_,_,D_27⟩:=jD (ps:=["_law_letter"]) d_27 X G fun _ _ _ _ _ _ u h=>match u,h with | [_],_=>rfl
 obtain⟨_,_,D_28⟩:=jD (ps:=["_law_word_here"]) d_28 X G fun _ _ _ _ _ _ u h=>match u,h with | [_],_=>rfl
 obtain⟨_,_,D_29⟩:=jD (ps:=["_law_word_here"]) d_29 X G fun _ _ _ _ _ _ u h=>match u,h with | [_],_=>rfl
 obtain⟨_,_,D_30⟩:=jD (ps:=["_law_text"]) d_30 X G fun _ _ _ _ _ _ u h=>match u,h with | [_],_=>rfl
 obtain⟨_,_,D_31⟩:=jD (ps:=["_law_flow_here","_law_n","_law_most_here"]) d_31 X G fun _ _ _ _ _ _ u h=>match u,h with | [_,_,_],_=>rfl
 obtain⟨_,_,D_32⟩:=jD (ps:=["_law_retelling","_law_word_here"]) d_32 X G fun _ _ _ _ _ _ u h=>match u,h with | [_,_],_=>rfl
 obtain⟨_,_,D_33⟩:=jD (ps:=["_law_one","_law_other"]) d_33 X G fun _ _ _ _ _ _ u h=>match u,h with | [_,_],_=>rfl
 obtain⟨_,_,D_34⟩:=jD (ps:=["_law_n"]) d_34 X G fun _ _ _ _ _ _ u h=>match u,h with | [_],_=>rfl
 obtain⟨_,_,D_35⟩:=jD (ps:=["_law_flow_here","_law_n"]) d_35 X G fun _ _ _ _ _ _ u h=>match u,h with | [_,_],_=>rfl
 obtain⟨_,_,D_36⟩:=jD (ps:=["_law_n","_law_change"]) d_36 X G fun _ _ _ _ _ _ u h=>match u,h with | [_,_],_=>rfl
 obtain⟨_,_,D_37⟩:=jD (ps:=["_law_change"]) d_37 X G fun _ _ _ _ _ _ u h=>match u,h with | [_],_=>rfl
 obtain⟨_,_,D_38⟩:=jD (ps:=["_law_flow_here","_law_n","_law_steps","_law_most_here"]) d_38 X G fun _ _ _ _ _ _ u h=>match u,h with | [_,_,_,_],_=>rfl
 obtain⟨_,_,D_39⟩:=jD (ps:=["_law_flow_here","_law_n"]) d_39 X G fun _ _ _ _ _ _ u h=>match u,h with | [_,_],_=>rfl
 obtain⟨_,_,D_40⟩:=jD (ps:=["_law_ways"]) d_40 X G fun _ _ _ _ _ _ u h=>match u,h with | [_],_=>rfl
 obtain⟨_,_,D_41⟩:=jD (ps:=["_law_n","_law_some"]) d_41 X G fun _ _ _ _ _ _ u h=>match u,h with | [_,_],_=>rfl
 obtain⟨_,_,D_42⟩:=jD (ps:=["_law_n"]) d_42 X G fun _ _ _ _ _ _ u h=>match u,h with | [_],_=>rfl
 obtain⟨_,_,D_43⟩:=jD (ps:=["_law_n","_law_g"]) d_43 X G fun _ _ _ _ _ _ u h=>match u,h with | [_,_],_=>rfl
 obtain⟨_,_,D_44⟩:=jD (ps:=["_law_told"]) d_44 X G fun _ _ _ _ _ _ u h=>match u,h with | [_],_=>rfl
 obtain⟨_,_,D_45⟩:=jD (ps:=["_law_flow_here","_law_n","_law_steps","_law_most_here"]) d_45 X G fun _ _ _ _ _ _ u h=>match u,h with | [_,_,_,_],_=>rfl
 obtain⟨_,_,D_46⟩:=jD (ps:=["_law_flow_here","_law_n"]) d_46 X G fun _ _ _ _ _ _ u h=>match u,h with | [_,_],_=>rfl
 obtain⟨_,_,D_47⟩:=jD (ps:=["_law_ask","_law_retelling"]) d_47 X G fun _ _ _ _ _ _ u h=>match u,h with | [_,_],_=>rfl
 obtain⟨_,_,D_48⟩:=jD (ps:=["_law_retelling"]) d_48 X G fun _ _ _ _ _ _ u h=>match u,h with | [_],_=>rfl
 have D_49:=NO (ps:=["_law_script"]) nl_49 nc_49 nk_49 (u9 X G na_49) (fun _ _ _ _ _ _ u h=>match u,h with | [_],_=>rfl)
 refine⟨Mf "law" qC kV_49 dc_49 pm_49 an_49 cd_49 ct_49,fun s v=>.of_eq rfl,fun base _ _=>?_⟩
 have c_za1:=IB (base:=base) D_23 T
 have c_zc1:=JE (base:=base) D_24 T
 have c_zx:=KZ (base:=base) D_27 T
 have c_z1:=Ln (base:=base) D_26 T
 have c_zb1:=Ix (base:=base) D_30 T c_zx
 have c_zd1:=IJ (base:=base) D_31 T c_zc1 c_z1 c_zx
 have c_zh1:=IS (base:=base) D_29 T c_zx
 have c_zf1:=Iz (base:=base) D_3 T
 have c_z9:=LO (base:=base) D_4 T c_zf1
 have c_z2:=KM (base:=base) D_5 T c_zf1
 have c_zm1:=IU (base:=base) D_6 T c_z9
 have c_z6:=Lg (base:=base) D_1 T
 have c_zr:=LW (base:=base) D_2 T
 have c_zn1:=J6 (base:=base) D_0 T
 have c_ze:=Mi (base:=base) D_16 T
 have c_zn:=LA (base:=base) D_7 T
 have c_zy:=LP (base:=base) D_8 T c_zm1
 have c_zt:=LX (base:=base) D_9 T c_zy
 have c_zv:=LE (base:=base) D_10 T c_zt
 have c_zj:=Ly (base:=base) D_11 T
 have c_zs:=KA (base:=base) D_12 T c_z2 c_zm1
 have c_zk:=Lx (base:=base) D_14 T c_z2 c_zm1 c_zs
 have c_z5:=Kw (base:=base) D_15 T c_z2 c_zm1 c_zy c_zk
 have c_zo:=K0 (base:=base) D_13 T c_zf1 c_z2 c_zj c_zs
 have c_zd:=L9 (base:=base) D_17 T c_z6 c_zt c_zv
 have c_z3:=LM (base:=base) D_18 T c_zr c_zv
 have c_zl1:=JP (base:=base) D_19 T c_zn c_zo c_z5 c_zd c_z3
 have c_zp:=Ks (base:=base) D_40 T
 have c_zk1:=Jz (base:=base) D_41 T c_z1 c_zp
 have c_z7:=Ls (base:=base) D_25 T
 have c_z7_X:=pS (base:=base) D_25 T c_z7
 have c_z7_Y:=pS (base:=base) D_25 T c_z7_X
 have c_z7_Z:=pS (base:=base) D_25 T c_z7_Y
 have c_z7_W:=pS (base:=base) D_25 T c_z7_Z
 have c_z4:=LD (base:=base) D_32 T c_zh1 c_zb1
 have c_z8:=Ko (base:=base) D_33 T c_z4
 have c_zg1:=IY (base:=base) D_34 T
 have c_zf:=Lz (base:=base) D_35 T c_zc1 c_z1 c_zx
 have c_zl:=Li (base:=base) D_36 T c_zx
 have c_zz:=KJ (base:=base) D_39 T c_zc1
 have c_zj1:=IX (base:=base) D_28 T
 have c_zh:=LU (base:=base) D_37 T c_zx c_zj1
 have c_z0:=L3 (base:=base) D_38 T c_zc1 c_z8 c_zg1 c_zf c_zl c_zh
 have c_zq:=Lj (base:=base) D_43 T c_zh1 c_zb1
 have c_zc:=KG (base:=base) D_44 T
 have c_za:=L4 (base:=base) D_45 T c_zh1 c_zd1 c_z8 c_z0 c_zz c_zq c_zc
 have c_zm:=Lh (base:=base) D_20 T c_zr c_zf1
 have c_zi1:=HQ (base:=base) D_21 T c_zm
 have c_zw:=LS (base:=base) D_22 T c_zl1
 have c_ze1:=IG (base:=base) D_42 T
 have c_zb:=KI (base:=base) D_46 T c_zc1 c_zb1 c_zd1 c_ze1 c_za
 have c_zg:=Kv (base:=base) D_47 T c_zw
 have c_zu:=Md (base:=base) D_48 T c_zk1
 exact FnOk.mono (k:=40) (HW D_49 T c_zi1 c_zw c_za1 c_zc1 c_z7_Z c_zb c_zg c_zu) (by decide)
theorem walk{l:PySem.W.OpenLaw}{q:Program}{loose:List Str}{XP:(Str→Option Value)→Heap→Prop}{YP:World→Heap→Prop}{d:DefRec}{K:Params→b5}(hn:l.most=some 63)(hdf:d.params.defaults=[])
  (hY:∀ (w:World) (h:Heap),YP w h→(K w.params).In h)
  (F:∀ (w:World) (mg:Str→Option Value) (fa:Addr) (h:Heap),(K w.params).In h→h.Ns mainGlobals mg→mg d.name=some (.ref fa) →
   ∃ fd:FuncData,(∀ (s:Shared) (u:Value),BindsTo s fd ⟨[u],[]⟩ [("_law_script",u)])∧∀ base:Heap,(K w.params).In base→base.Ns mainGlobals mg→FnOk l.prog w (K w.params) mg base zJ 40 fa fd ["_law_script"] (BQ (K w.params))) :
  PySem.W.WalkO q loose XP YP l.row.toRowW d [] (fun f vs=>PySem.call f vs) :=
 L2.walk_of (n:=63) (k:=40) (x:="_law_script") (CX:=fun _=>zJ) (sp:=fun w=>BQ (K w.params)) hn (by decide) hdf ⟨rfl,by decide,by decide⟩ hY F (fun _ _ a ns hl _ hS=>⟨a,ns,rfl,hS,hl,fun _=>rfl⟩) fun _ _ _ _ _ z=>z
end Lw
def PySem.W.Fast.tw6166031550063098891:Nat:=0
def PySem.W.Fast.tw7127058981530860079:Nat:=0
def PySem.W.Fast.tw16546258595880297565:Nat:=0
def PySem.W.Fast.tw14172205063947429423:Nat:=0
def PySem.W.Fast.tw13912669050195268675:Nat:=0
def PySem.W.Fast.tw11465789890106799681:Nat:=0
def PySem.W.Fast.tw9835293247674612138:Nat:=0
def PySem.W.Fast.tw9831522339870517468:Nat:=0
def PySem.W.Fast.tw15236101416128476862:Nat:=0
def PySem.W.Fast.tw15081343884364921432:Nat:=0
def PySem.W.Fast.tw17143523484849731239:Nat:=0
def PySem.W.Fast.tw7816381748971421201:Nat:=0
def PySem.W.Fast.tw17061839051248286968:Nat:=0
def PySem.W.Fast.tw5560929636407613782:Nat:=0
def PySem.W.Fast.tw16026040382006138945:Nat:=0
def PySem.W.Fast.tw4211866977839984003:Nat:=0
def PySem.W.Fast.tw8057561583943297483:Nat:=0
def PySem.W.Fast.tw11903328734592636285:Nat:=0
def PySem.W.Fast.tw14534132609740884908:Nat:=0
def PySem.W.Fast.tw5192252782594807727:Nat:=0
def PySem.W.Fast.tw1980593487796779830:Nat:=0
def PySem.W.Fast.tw1295667909037365046:Nat:=0
def PySem.W.Fast.tw16337311099221268843:Nat:=0
def PySem.W.Fast.tw11913365084137098158:Nat:=0
def PySem.W.Fast.tw14409250644069781612:Nat:=0
def PySem.W.Fast.tw4100541857930034741:Nat:=0
def PySem.W.Fast.tw3635580352111543537:Nat:=0
def PySem.W.Fast.tw14427284789305509456:Nat:=0
def PySem.W.Fast.tw4439489319138103139:Nat:=0
def PySem.W.Fast.tw5295290116104545297:Nat:=0
def PySem.W.Fast.tw17651483131402150372:Nat:=0
def PySem.W.Fast.tw14035254331853686111:Nat:=0
def PySem.W.Fast.tw17711751516016012680:Nat:=0
def PySem.W.Fast.tw6708353151287478002:Nat:=0
def PySem.W.Fast.tw4356399724340387661:Nat:=0
def PySem.W.Fast.tw10618843941843334415:Nat:=0
def PySem.W.Fast.tw13960320888716381010:Nat:=0
def PySem.W.Fast.tw13371532667699570719:Nat:=0
def PySem.W.Fast.tw10406925727978284834:Nat:=0
def PySem.W.Fast.tw15552546036991413909:Nat:=0
def PySem.W.Fast.tw11096045628704529340:Nat:=0
def PySem.W.Fast.tw14065849142484547283:Nat:=0
def PySem.W.Fast.tw17446317152960815693:Nat:=0
def PySem.W.Fast.tw17425515906509242445:Nat:=0
def PySem.W.Fast.tw12061632340580450791:Nat:=0
def PySem.W.Fast.tw3535268173953644334:Nat:=0
def PySem.W.Fast.tw13506769549534087316:Nat:=0
def PySem.W.Fast.tw16502516189554515984:Nat:=0
def PySem.W.Fast.tw14673020931637187212:Nat:=0
def PySem.W.Fast.tw1084241081553553845:Nat:=0
def PySem.W.Fast.tw15958180346460904867:Nat:=0
def PySem.W.Fast.tw3028267423602255567:Nat:=0
def PySem.W.Fast.tw8342814908355323618:Nat:=0
def PySem.W.Fast.tw15619114908471830869:Nat:=0
def PySem.W.Fast.tw9333669179298971089:Nat:=0
def PySem.W.Fast.tw9794542445083940840:Nat:=0
def PySem.W.Fast.tw10324670229714124291:Nat:=0
def PySem.W.Fast.tw16539128714665653155:Nat:=0
def PySem.W.Fast.tw2313479943807014672:Nat:=0
def PySem.W.Fast.tw1783638783043817564:Nat:=0
def PySem.W.Fast.tw470461131882830922:Nat:=0
def PySem.W.Fast.tw13376420586839754811:Nat:=0
def PySem.W.Fast.tw13986536895609895385:Nat:=0
def PySem.W.Fast.tw9254089471684439548:Nat:=0
def PySem.W.Fast.tw17019783659810881871:Nat:=0
def PySem.W.Fast.tw17114186833864366118:Nat:=0
def PySem.W.Fast.tw13612123698072692201:Nat:=0
def PySem.W.Fast.tw7848450840698821314:Nat:=0
def PySem.W.Fast.tw3103820069725149305:Nat:=0
def PySem.W.Fast.tw13453741601121719926:Nat:=0
def PySem.W.Fast.tw71265487546613530:Nat:=0
def PySem.W.Fast.tw9147663635026284442:Nat:=0
def PySem.W.Fast.tw8949461281558019313:Nat:=0
def PySem.W.Fast.tw14048403245674532651:Nat:=0
def PySem.W.Fast.tw14818942352197456449:Nat:=0
def PySem.W.Fast.tw3029634082653361418:Nat:=0
def PySem.W.Fast.tw8099227022692975059:Nat:=0
def PySem.W.Fast.tw10827071500856862982:Nat:=0
def PySem.W.Fast.tw14123409758628803346:Nat:=0
def PySem.W.Fast.tw5631073528604937917:Nat:=0
def PySem.W.Fast.tw18434148003921609123:Nat:=0
def PySem.W.Fast.tw6687535253840891545:Nat:=0
def PySem.W.Fast.tw7833988886838957283:Nat:=0
def PySem.W.Fast.tw14573419060596556109:Nat:=0
def PySem.W.Fast.tw12952257416731491994:Nat:=0
def PySem.W.Fast.tw17414981012287483700:Nat:=0
def PySem.W.Fast.tw7269786223680611667:Nat:=0
def PySem.W.Fast.tw7822818331606980543:Nat:=0
def PySem.W.Fast.tw3904324041173087380:Nat:=0
def PySem.W.Fast.tw1722540195304042810:Nat:=0
def PySem.W.Fast.tw8832605114818039563:Nat:=0
def PySem.W.Fast.tw2007947163274095846:Nat:=0
def PySem.W.Fast.tw11289946401109183029:Nat:=0
def PySem.W.Fast.tw8265940702624465187:Nat:=0
def PySem.W.Fast.tw16117266179006538332:Nat:=0
def PySem.W.Fast.tw5667942948624140082:Nat:=0
def PySem.W.Fast.tw533296016842845413:Nat:=0
def PySem.W.Fast.tw11982364452722177211:Nat:=0
def PySem.W.Fast.tw9671565508658089498:Nat:=0
def PySem.W.Fast.tw3603903962543625188:Nat:=0
def PySem.W.Fast.tw10901962005192659401:Nat:=0
def PySem.W.Fast.tw15755638106649281627:Nat:=0
def PySem.W.Fast.tw2165867545611062138:Nat:=0
def PySem.W.Fast.tw15961228249147640755:Nat:=0
def PySem.W.Fast.tw17618367235675049709:Nat:=0
def PySem.W.Fast.tw6985088119228636710:Nat:=0
def PySem.W.Fast.tw8577018955152551326:Nat:=0
def PySem.W.Fast.tw16102307757017114122:Nat:=0
def PySem.W.Fast.tw4343517720646804556:Nat:=0
def PySem.W.Fast.tw6508982326402419173:Nat:=0
def PySem.W.Fast.tw13033375126859601613:Nat:=0
def PySem.W.Fast.tw11212095948545722327:Nat:=0
def PySem.W.Fast.tw5256967055220216088:Nat:=0
def PySem.W.Fast.tw2294216286683414557:Nat:=0
def PySem.W.Fast.tw4391784956651391139:Nat:=0
def PySem.W.Fast.tw5460409448806552435:Nat:=0
def PySem.W.Fast.tw12702865954891770158:Nat:=0
def PySem.W.Fast.tw14732368174382003413:Nat:=0
def PySem.W.Fast.tw2150295103318965829:Nat:=0
def PySem.W.Fast.tw16589287697749884248:Nat:=0
def PySem.W.Fast.tw2551208754352895476:Nat:=0
def PySem.W.Fast.tw11284521192012278259:Nat:=0
def PySem.W.Fast.tw5391466843695253082:Nat:=0
def PySem.W.Fast.tw3767835989603406322:Nat:=0
def PySem.W.Fast.tw8978461756996437432:Nat:=0
def PySem.W.Fast.tw13608917514653790563:Nat:=0
def PySem.W.Fast.tw16605937007551971051:Nat:=0
def PySem.W.Fast.tw9308226525088759762:Nat:=0
def PySem.W.Fast.tw14177000386348799461:Nat:=0
def PySem.W.Fast.tw2604139055526988997:Nat:=0
def PySem.W.Fast.tw12466341393791075482:Nat:=0
def PySem.W.Fast.tw7765942761156539975:Nat:=0
def PySem.W.Fast.tw6558986707017328072:Nat:=0
def PySem.W.Fast.tw1272205474427322454:Nat:=0
def PySem.W.Fast.tw4537412022776537758:Nat:=0
def PySem.W.Fast.tw15267322946971048245:Nat:=0
def PySem.W.Fast.tw17671437558122312962:Nat:=0
def PySem.W.Fast.tw6455220689750797204:Nat:=0
def PySem.W.Fast.tw14224523894845391644:Nat:=0
def PySem.W.Fast.tw10887915832605852334:Nat:=0
def PySem.W.Fast.tw13760195580765403325:Nat:=0
def PySem.W.Fast.tw15074413437555518022:Nat:=0
def PySem.W.Fast.tw16423980386537875284:Nat:=0
def PySem.W.Fast.tw9998684050335312878:Nat:=0
def PySem.W.Fast.tw13233768530628707372:Nat:=0
def PySem.W.Fast.tw11979673984697531388:Nat:=0
def PySem.W.Fast.tw4780457069839194508:Nat:=0
def PySem.W.Fast.tw17115699752430874398:Nat:=0
def PySem.W.Fast.tw3963592250287618083:Nat:=0
def PySem.W.Fast.tw12086865004213864495:Nat:=0
def PySem.W.Fast.tw14252264774731346869:Nat:=0
def PySem.W.Fast.tw14740786953876896747:Nat:=0
def PySem.W.Fast.tw16419499018241707458:Nat:=0
def PySem.W.Fast.tw693808427390338658:Nat:=0
def PySem.W.Fast.tw10074940374796126546:Nat:=0
def PySem.W.Fast.tw16437966746002739726:Nat:=0
def PySem.W.Fast.tw3846337103229512875:Nat:=0
def PySem.W.Fast.tw9273600239178905002:Nat:=0
def PySem.W.Fast.tw7306484969752139671:Nat:=0
def PySem.W.Fast.tw6419340383871064616:Nat:=0
def PySem.W.Fast.tw4324829559659611978:Nat:=0
def PySem.W.Fast.tw14906130983826306974:Nat:=0
def PySem.W.Fast.tw6134635240454450745:Nat:=0
def PySem.W.Fast.tw11781256180513112799:Nat:=0
def PySem.W.Fast.tw1091044891582047637:Nat:=0
def PySem.W.Fast.tw16680739951398834875:Nat:=0
def PySem.W.Fast.tw69033482887009519:Nat:=0
def PySem.W.Fast.tw1093132253312785251:Nat:=0
def PySem.W.Fast.tw13764438514224464927:Nat:=0
def PySem.W.Fast.tw14459610074905706798:Nat:=0
def PySem.W.Fast.tw4405836848117437845:Nat:=0
def PySem.W.Fast.tw10307542236481141947:Nat:=0
def PySem.W.Fast.tw1197431978174717854:Nat:=0
def PySem.W.Fast.tw10903993688545054745:Nat:=0
def PySem.W.Fast.tw13020482748591359607:Nat:=0
def PySem.W.Fast.tw17435541982755955700:Nat:=0
def PySem.W.Fast.tw10931611659415884223:Nat:=0
def PySem.W.Fast.tw7252641371581617921:Nat:=0
def PySem.W.Fast.tw17335155857132303833:Nat:=0
def PySem.W.Fast.tw13202103808758691498:Nat:=0
def PySem.W.Fast.tw9510848098083528196:Nat:=0
def PySem.W.Fast.tw14263291705975852286:Nat:=0
def PySem.W.Fast.tw14680290308044675700:Nat:=0
def PySem.W.Fast.tw6058852777248127981:Nat:=0
def PySem.W.Fast.tw2542239720679379524:Nat:=0
def PySem.W.Fast.tw12701532174648741358:Nat:=0
def PySem.W.Fast.tw7098752384646380927:Nat:=0
def PySem.W.Fast.tw4036749573766653517:Nat:=0
def PySem.W.Fast.tw18280468359916072507:Nat:=0
def PySem.W.Fast.tw15122605235743709852:Nat:=0
def PySem.W.Fast.tw2458372783572616481:Nat:=0
def PySem.W.Fast.tw16005543282857116921:Nat:=0
def PySem.W.Fast.tw6796948748156183459:Nat:=0
def PySem.W.Fast.tw6246579794869468679:Nat:=0
def PySem.W.Fast.tw2319995540214650255:Nat:=0
def PySem.W.Fast.tw9800042517379781383:Nat:=0
def PySem.W.Fast.tw9761014903255463483:Nat:=0
def PySem.W.Fast.tw2427235237895220544:Nat:=0
def PySem.W.Fast.tw7464283514053027434:Nat:=0
def PySem.W.Fast.tw5168798284293440981:Nat:=0
def PySem.W.Fast.tw12475180406718214024:Nat:=0
def PySem.W.Fast.tw9335499585873129984:Nat:=0
def PySem.W.Fast.tw2488410734035848954:Nat:=0
def PySem.W.Fast.tw8761880417412825061:Nat:=0
def PySem.W.Fast.tw17237705368936266798:Nat:=0
def PySem.W.Fast.tw11914744097975053710:Nat:=0
def PySem.W.Fast.tw18297024495606843806:Nat:=0
def PySem.W.Fast.tw6039771470289253868:Nat:=0
def PySem.W.Fast.tw17794096526844060993:Nat:=0
def PySem.W.Fast.tw16276728086661773423:Nat:=0
def PySem.W.Fast.tw6311679540891770447:Nat:=0
def PySem.W.Fast.tw7380093644637656755:Nat:=0
def PySem.W.Fast.tw5646322671394000560:Nat:=0
def PySem.W.Fast.tw13890456565275904378:Nat:=0
def PySem.W.Fast.tw13347789618508351730:Nat:=0
def PySem.W.Fast.tw11941651650946320050:Nat:=0
def PySem.W.Fast.tw6470049723816751377:Nat:=0
def PySem.W.Fast.tw9677261974388297324:Nat:=0
def PySem.W.Fast.tw16624756361205574881:Nat:=0
def PySem.W.Fast.tw13163597084243237423:Nat:=0
def PySem.W.Fast.tw17276652177971139783:Nat:=0
def PySem.W.Fast.tw7324148083887520924:Nat:=0
def PySem.W.Fast.tw15708770452894308451:Nat:=0
def PySem.W.Fast.tw14579556266492154045:Nat:=0
def PySem.W.Fast.tw17024803801265091496:Nat:=0
def PySem.W.Fast.tw10506812784517005331:Nat:=0
def PySem.W.Fast.tw15069509963344012068:Nat:=0
def PySem.W.Fast.tw6876756586771258695:Nat:=0
def PySem.W.Fast.tw13098978156564078937:Nat:=0
def PySem.W.Fast.tw9917560504374754627:Nat:=0
def PySem.W.Fast.tw9122045885353861908:Nat:=0
def PySem.W.Fast.tw8782390336832103432:Nat:=0
def PySem.W.Fast.tw10345449599156835808:Nat:=0
def PySem.W.Fast.tw16887990896993993914:Nat:=0
open PySem PySem.W PyProof.Rows
set_option maxRecDepth 100000 in
set_option maxHeartbeats 0 in
theorem PySem.Challenge.cw_newletters_k17_alphabets_looked_at_holds : PySem.Challenge.rw_newletters_k17_alphabets_looked_at.Holds := by
 w_on;o_law;k_head;(case hw=>w_witness2)
 k_fill
 refine Lw.walk (l:=PySem.Challenge.rw_newletters_k17_alphabets_looked_at) rfl rfl (fun w h Y=>aJm Y) ?F
 case F =>
  intro w mg fa h KX G hmg
  refine' Lw.all_mk KX G hmg ?d_0 ?d_1 ?d_2 ?d_3 ?d_4 ?d_5 ?d_6 ?d_7 ?d_8 ?d_9 ?d_10 ?d_11 ?d_12 ?d_13 ?d_14 ?d_15 ?d_16 ?d_17 ?d_18 ?d_19 ?d_20 ?d_21 ?d_22 ?d_23 ?d_24 ?d_25 ?d_26 ?d_27 ?d_28 ?d_29 ?d_30 ?d_31 ?d_32 ?d_33 ?d_34 ?d_35 ?d_36 ?d_37 ?d_38 ?d_39 ?d_40 ?d_41 ?d_42 ?d_43 ?d_44 ?d_45 ?d_46 ?d_47 ?d_48 ?na_49 ?nl_49 ?nc_49 ?nk_49 ?nb_ValueError ?nb_all ?nb_bool ?nb_enumerate ?nb_int ?nb_isinstance ?nb_len ?nb_list ?nb_max ?nb_min ?nb_range ?nb_reversed ?nb_sorted ?nb_tuple ?nb_zip ?nm_LetterError' ?nm_NoWord' ?nm_NoText' ?nm_NoAlphabet' ?nm_NoChange' ?nm_NoPaper' ?nm_TooMany' ?nm_NoRow' ?nL ?nLe ?nLo ?nLi ?x1_NoAlphabet ?x2_NoAlphabet ?x3_NoAlphabet ?x4_NoAlphabet ?x5_NoAlphabet ?x6_NoAlphabet ?x7_NoAlphabet ?x8_NoAlphabet ?x9_NoAlphabet ?xa_NoAlphabet ?xb_NoAlphabet ?xc_NoAlphabet ?xd_NoAlphabet ?xe_NoAlphabet ?xf_NoAlphabet ?q_k_else ?q_k_this ?q_k_ve ?oa_Weave ?ob_Weave ?oe_Weave ?of_Weave ?og_Weave ?oh_Weave ?oi_Weave ?on_Weave_heads ?on_Weave_turns ?on_Weave_ways ?on_Weave_alike ?nm_CONTRARIES ?nt_CONTRARIES ?nh_CONTRARIES ?nm_LETTERS ?nt_LETTERS ?nv_LETTERS
  (case oa_Weave=>k_is)
  (case d_0 | d_1 | d_2 | d_3 | d_4 | d_5 | d_6 | d_17 | d_18 | d_19 | d_20 | d_21 | d_22 | d_23 | d_24 | d_25 | d_26 | d_27 | d_28 | d_29 | d_30 | d_31 | d_32 | d_33 | d_34 | d_35 | d_36 | d_37 | d_38 | d_39 | d_40 | d_41 | d_42 | d_43 | d_44 | d_45 | d_46 | d_47 | d_48=>exact⟨_,_,_,_,_,_,_,_,_,_,by k_is,by k_is,by k_is,by k_is⟩)
  (case d_7 | d_8 | d_9 | d_10 | d_11 | d_12 | d_13 | d_14 | d_15 | d_16=>exact⟨_,_,_,_,_,_,_,_,_,_,by k_is,by k_is,by k_is,by k_is,by k_is⟩)
  (case na_49=>k_is);(case nl_49=>k_is);(case nc_49=>k_is);(case nk_49=>k_is)
  (case nb_ValueError=>k_is);(case nb_all=>k_is);(case nb_bool=>k_is);(case nb_enumerate=>k_is)
  (case nb_int=>k_is);(case nb_isinstance=>k_is);(case nb_len=>k_is);(case nb_list=>k_is)
  (case nb_max=>k_is);(case nb_min=>k_is);(case nb_range=>k_is);(case nb_reversed=>k_is)
  (case nb_sorted=>k_is);(case nb_tuple=>k_is);(case nb_zip=>k_is);(case nm_LetterError'=>k_is)
  (case nm_NoWord'=>k_is);(case nm_NoText'=>k_is);(case nm_NoAlphabet'=>k_is);(case nm_NoChange'=>k_is)
  (case nm_NoPaper'=>k_is);(case nm_TooMany'=>k_is);(case nm_NoRow'=>k_is);(case nL=>k_is)
  (case nLe=>k_is);(case nLo=>kernel_rfl);(case nLi=>k_is);(case x1_NoAlphabet=>k_is)
  (case x2_NoAlphabet=>k_is);(case x3_NoAlphabet=>k_is);(case x4_NoAlphabet=>k_is);(case x5_NoAlphabet=>k_is)
  (case x6_NoAlphabet=>k_is);(case x7_NoAlphabet=>k_is);(case x8_NoAlphabet=>k_is);(case x9_NoAlphabet=>k_is)
  (case xa_NoAlphabet=>k_is);(case xb_NoAlphabet=>k_is);(case xc_NoAlphabet=>k_is);(case xd_NoAlphabet=>k_is)
  (case xe_NoAlphabet=>k_is);(case xf_NoAlphabet=>k_is);(case q_k_else=>kit_is);(case q_k_this=>kit_is)
  (case q_k_ve=>kit_is);(case ob_Weave=>k_is);(case oe_Weave=>k_is);(case of_Weave=>k_is)
  (case og_Weave=>k_is);(case oh_Weave=>k_is);(case oi_Weave=>k_is);(case on_Weave_heads=>k_is)
  (case on_Weave_turns=>k_is);(case on_Weave_ways=>k_is);(case on_Weave_alike=>k_is);(case nm_CONTRARIES=>k_is)
  (case nm_LETTERS=>k_is);(case nt_LETTERS=>k_is)
  (case nt_CONTRARIES=>kernel_rfl)
  (case nh_CONTRARIES=>kernel_rfl)
  (case nv_LETTERS=>exact .cons ⟨_,rfl⟩ (.cons ⟨_,rfl⟩ (.cons ⟨_,rfl⟩ (.cons ⟨_,rfl⟩ (.cons ⟨_,rfl⟩ (.cons ⟨_,rfl⟩ (.cons ⟨_,rfl⟩ (.cons ⟨_,rfl⟩ .nil))))))))
