import PyProof.Rows.All
import Wide.All
import OpenK.AllK
import Wide.FinOn
import Lean
import PyProof.EqAt
import PyProof.EqKinds
import PyProof.TupleCall
import KE.KMinKey
import KE.KSortTup
import KE.KLam
import KE.KNestM
import KE.KItemsList
import PyProof.SeqI2
import PyProof.SeqI3
import PyProof.WalksMore
import PySem.Challenge.RW_newletters_k16_whole_webs_are_of_what_is
open List renaming getElem?_eq_some_iff → a8, getElem?_eq_getElem → a9, mem_of_getElem? → b0, length_map → b7, length_append → b8, size_toArray → c0, mem_singleton → c5, mem_cons → c6, getElem?_map → c7, getD_eq_getElem?_getD → c9, mem_cons_of_mem → d4, mem_cons_self → d9, map_append → g9, map_cons → i6, mem_append_right → i7, mem_append → i8, length_take → i9, length_set → j0, length_cons → j1, mem_map → j2, take_length → k0, mem_append_left → l4, getElem?_of_mem → l5, append_assoc → l8, nodup_cons → l9, getElem?_append_left → m9, not_mem_nil → n9, append_nil → o6, reverse_cons → o8, getElem?_set_self → p5, getElem?_set_ne → p6, length_eq_zero_iff → p8, mem_of_mem_take → p9, lookup_cons → q8, take_of_length_le → t4, map_congr_left → t7, take_add_one → t8, length_singleton → t9, length_filter_le → u0, drop_eq_getElem_cons → u7, mem_filter → x8, length_reverse → x9, map_map → y0, all_eq_true → y1, mem_or_eq_of_mem_set → y3, reverse_reverse → y6, length_range → y9, flatMap_cons → z9, dropLast_concat_getLast → aQB, getElem?_eq_none → aQD, getElem?_append_right → aQF, nodup_append → aQJ, getElem_mem → aQM, filterMap_cons → aQO, mem_singleton_self → aQP, find?_cons → aQS, flatten_cons → aQV, mem_range → aQW, length_replicate → aQY, take_append_drop → aQ0, length_drop → aQ5, mem_reverse → aQ6, getElem?_take_of_lt → aQa, filter_append → aQc, ext_getElem? → aQg, length_pos_of_mem → aQh, any_cons → aQk, getElem_inj → aQl, eraseIdxIfInBounds_toArray → aQs, forIn_cons → aQu, foldl_cons → aQv, idxOf_cons → aQz, filter_nil → aXA, replicate_succ' → aXB, toList_toArray → aXF, sum_cons → aXP, foldl_append → aXS, getElem?_eq_none_iff → aXT, mem_of_find?_eq_some → aXU, getElem?_zip_eq_some → aXV, map_nil → aXX, map_reverse → aXZ, zipIdx_cons → aX0, length_filterMap_le → aX1, mem_flatMap → aX2, filter_cons_of_neg → aX5, filter_cons_of_pos → aX6, getElem?_cons_succ → aX7, of_mem_zip → aX8, nil_append → aXa, find?_cons_of_neg → aXe, getElem?_reverse → aXh, drop_zero → aXi, forIn_nil → aXj, mem_of_mem_drop → aXo, length_eraseIdx → aXp, all_cons → aXq, flatMap_append → aXw, mem_filterMap → aXz, map_inj_right → aZE, pairwise_cons → aZH, find?_eq_none → aZI, countP_append → aZJ, pairwise_map → aZN, countP_congr → aZO, map_id → aZR, getElem_map → aZY, any_eq_true → aZZ, drop_length → aZ1, filter_cons → aZ2, zipIdx_nil → aZ5, length_nil → aZ6, find?_some → aZ8, range_succ → aZ9, all_map → aJD, map_set → aJH
open PySem.W renaming Frag → b5, mg_none_of → p7, mg_of → aQQ, methodCall_KW → aQn, plainGet_of → aXE, cellsFrom_some → aXb, callWith_K0 → aXs, callWith_K → aZB, kIn_of → aZb
open PySem.Heap renaming get?_push_of_some → b6, lt_size → c8, get?_push_size → d3, size_push → x0, get?_update_self → y2, get?_update_other → aQU, get?_push_ne → aZM
open Nat renaming le_refl → b9, ne_of_lt → g6, zero_le → j9, le_trans → k8, lt_of_lt_of_le → l6, lt_of_le_of_lt → l7, add_le_add_left → p0, not_lt_zero → u5, lt_irrefl → aQE, ne_of_gt → aQK, le_add_right → aQN, le_succ → aQT, le_of_lt → aQX, mul_le_mul → aQd, not_le_of_lt → aQm, mul_le_mul_right → aQx, le_of_eq → aZA, lt_succ_self → aZT, min_self → aJE, succ_mul → aJF
open Option.some renaming inj → d6
open Option renaming map_eq_some_iff → d8, bind_eq_some_iff → o9, map_some → u8, isSome_iff_exists → aQL, isSome_map → aZL, getD_none → aZU
open Bool renaming false_ne_true → i3, eq_iff_iff → y4, and_eq_true → aQA, false_eq_true → aQR, and_true → aXr, and_false → aZa, or_false → aZd
open PySem.F renaming plainAttrs_list → j6, slot_list_append → m4, type_list_append → m6, plainAttrs_str → o0, slot_dict_keyiterator_next → x6, slot_tuple_iterator_next → aQG, slot_list_pop → aQ1, type_list_pop → aQ2, slot_str_join → aQ3, type_str_join → aQ4, plainAttrs_dict → aQe, slot_str_lower → aQi, type_str_lower → aQj, slot_dict_get → aQq, slot_zip_next → aQw, args_dict_keyiterator_next_1 → aQy, entry_dict_keyiterator_next → aXC, args_tuple_iterator_next_1 → aXG, slot_dict_setdefault → aXH, slot_str_getitem → aXL, entry_tuple_iterator_next → aXM, args_tuple_add_2 → aXW, entry_tuple_add → aX3, args_dict_get_2 → aX4, slot_tuple_add → aXc, entry_dict_get → aXd, slot_str_index → aXf, type_str_index → aXg, args_object_init_2 → aXl, args_zip_next_1 → aZK, entry_list_pop → aZV, entry_zip_next → aZX, slot_dict_iter → aZ0, slot_list_pop → aZ4
open PySem.PassesOwn renaming never → j7
open PySem renaming boot_len → j8, mem_of_lookup → r6, evalArgs_none → aXt
open PyProof.Rows renaming slot_tuple_getitem → m7, callWith_type1 → r9, callWith_builtin1 → aZ3, lt_int → aJM
open Array renaming length_toList → t5, perm_iff_toList_perm → aQH, getElem?_toList → aQo, getD_eq_getD_getElem? → aXN, forIn_toList → aZG, toList_inj → aZW
open PySem.Heap.SameBut renaming update → u6, refl → aJQ
open PySem.Obj renaming data_mapFields → u9, isFreed_of_fields → aQZ, cls_mapFields → aXR, data_mapDictKeys → aXn
open Ne renaming symm → y7
open PySem.Calls renaming callWith_builtin → aQC, spliced_cons → aQ9, evalArgs_plain → aQt, Name_function_global → aXO, spliced_nil → aXQ
open Int renaming toNat_natCast → aQI, emod_nonneg → aQ8, emod_lt_of_pos → aQb, toNat_of_nonneg → aXv
open PySem.Paired renaming length → aQ7, snoc → aZQ
open PySem.EqBoolInt renaming of_rcne → aQf
open PySem.StrLaws renaming glued_eq_join → aQp, seqIndex_nonneg → aXD
open Classical renaming choose_spec → aQr
open Sum.inl renaming inj → aXI
open PyProof.Rows.IsTup renaming new → aXJ
open PySem.SeqAt.EqAt renaming int_int → aXK, same → aX9, int_str → aXx, str_int → aXy, of_refs → aZF
open PySem.Txt renaming slice_le → aXY
open PySem.Value.type renaming inj → aXk
open PySem.Around renaming under_plainId → aXm
open PySem.SeqAt.RcNeAt renaming tuples → aXu, lists_lengths → aZg, lists → aJO
open PySem.Heap.IsSliceOf renaming new → aZC
open PyProof.V renaming same_str → aZD
open List.Sublist renaming refl → aZP
open Prod.mk renaming inj → aZS
open Array.Perm renaming refl → aZ7
open PySem.Walks renaming strAscii → aZc, strWide → aZe, list → aJL
open PyProof.Rows.LSm renaming kept_iter → aZf
open PySem.EqNone renaming eq_none_none → aZh, eq_none_bool → aZi, eq_bool_none → aZj, ne_none_none → aZm, ne_none_bool → aZn, ne_bool_none → aZo, eq_none_int → aZr, eq_none_str → aZs, eq_int_none → aZt, eq_str_none → aZv, ne_none_int → aZx, ne_none_str → aZy, ne_int_none → aZz, ne_str_none → aJB
open PySem.EqMixed renaming eq_bool_str → aZk, eq_str_bool → aZl, ne_bool_str → aZp, ne_str_bool → aZq, eq_int_str → aZu, eq_str_int → aZw, ne_int_str → aJA, ne_str_int → aJC
open List.Pairwise renaming imp_of_mem → aJG
open Sum.inr renaming inj → aJI
open PyProof.V.Flat renaming str_inv → aJJ, int_inv → aJK
open PySem.W.Looks renaming here → aJN
open PySem.Within renaming cons → aJP
open PySem.Heap.IsTuple renaming push → aJR
open PySem.Heap.DictOf renaming new → aJS
set_option Elab.async false
set_option maxHeartbeats 4000000
set_option maxRecDepth 100000
set_option linter.all false
namespace L2
open PySem PySem.Spec PyProof.Rows
abbrev bX:=Sum Int Str
def qY:bX→Value→Bool
 | .inl k,v=>Value.isInt k v
 | .inr x,v=>Value.isStrOf x v
def IG(w:World):bX→Int
 | .inl k=>hashInt k
 | .inr x=>hashStr w x
theorem cH:∀ {k:bX} {v:Value},qY k v=true→(∃ i t,k=Sum.inl i∧v=Value.int i t)∨(∃ x t,k=Sum.inr x∧v=Value.str x t)
 | .inl i,v,h=>by
  obtain⟨t,e⟩:=Value.isInt_shape (k:=i) (v:=v) h
  exact .inl ⟨i,t,rfl,e⟩
 | .inr x,v,h=>by
  obtain⟨t,e⟩:=Value.isStrOf_shape (x:=x) (v:=v) h
  exact .inr ⟨x,t,rfl,e⟩
theorem Ai(i:Int)(t:Tok):qY (.inl i) (.int i t)=true:=by simp[qY,Value.isInt]
theorem zV(x:Str)(t:Tok):qY (.inr x) (.str x t)=true:=by simp[qY,Value.isStrOf]
theorem EB(a b:Int):decide ((Sum.inl a:bX)=Sum.inl b)=(a == b):=by
 by_cases e:a=b
 ·subst e;simp
 ·have h:¬ (Sum.inl a:bX)=Sum.inl b:=fun q=>e (aXI q)
  rw[decide_eq_false h]
  exact(beq_eq_false_iff_ne.mpr e).symm
theorem EU(a b:Str):decide ((Sum.inr a:bX)=Sum.inr b)=decide (a=b):=by
 by_cases e:a=b
 ·subst e;simp
 ·have h:¬ (Sum.inr a:bX)=Sum.inr b:=fun q=>e (aJI q)
  rw[decide_eq_false h,decide_eq_false e]
theorem FJ(a:Int)(b:Str):decide ((Sum.inl a:bX)=Sum.inr b)=false:=decide_eq_false (fun q=>nomatch q)
theorem Fr(a:Str)(b:Int):decide ((Sum.inr a:bX)=Sum.inl b)=false:=decide_eq_false (fun q=>nomatch q)
def bP(prog:Program)(w:World):PySem.KeyKind prog w bX where
 is:=qY
 hash:=IG w
 inj:=fun v a b ha hb=>by
  rcases cH ha with ⟨i,t,rfl,rfl⟩ | ⟨x,t,rfl,rfl⟩
  ·rcases cH hb with ⟨j,u,rfl,e⟩ | ⟨y,u,rfl,e⟩
   ·injection e with e1 _;rw[e1]
   ·exact nomatch e
  ·rcases cH hb with ⟨j,u,rfl,e⟩ | ⟨y,u,rfl,e⟩
   ·exact nomatch e
   ·injection e with e1 _;rw[e1]
 byValue:=fun k v h=>by
  rcases cH h with ⟨i,t,rfl,rfl⟩ | ⟨x,t,rfl,rfl⟩ <;> rfl
 pyHash:=fun hv h=>by
  rcases cH hv with ⟨i,t,rfl,rfl⟩ | ⟨x,t,rfl,rfl⟩
  ·exact wpAny_pyHash_int h
  ·exact wpAny_pyHash_str h
 eqBool:=fun hu hv h=>by
  rcases cH hu with ⟨i,t,rfl,rfl⟩ | ⟨x,t,rfl,rfl⟩
  ·rcases cH hv with ⟨j,u,rfl,rfl⟩ | ⟨y,u,rfl,rfl⟩
   ·rw[EB] at h;exact wpAny_eqBool_int h
   ·rw[FJ] at h;exact aXx i t y u _ _ _ _ h
  ·rcases cH hv with ⟨j,u,rfl,rfl⟩ | ⟨y,u,rfl,rfl⟩
   ·rw[Fr] at h;exact aXy x t j u _ _ _ _ h
   ·rw[EU] at h;exact wpAny_eqBool_str h
 «strs»:=fun k x t v h=>by
  rcases cH h with ⟨i,u,rfl,e⟩ | ⟨y,u,rfl,e⟩
  ·exact nomatch e
  ·injection e with e1 _
   subst e1
   cases v <;> rfl
theorem uK(prog:Program)(w:World)(i:Int)(t:Tok):(bP prog w).is (.inl i) (.int i t)=true:=Ai i t
theorem uQ(prog:Program)(w:World)(x:Str)(t:Tok):(bP prog w).is (.inr x) (.str x t)=true:=zV x t
inductive V where
 | non | bl (b:Bool) | int (i:Int) | str (x:Str) | byt (b:Array UInt8) | flt (b:UInt64) | ref (a:Addr) | ty (n:String)
 deriving DecidableEq
def RelV:V→Value→Prop
 | .non,u=>u=Value.none
 | .bl b,u=>u=Value.bool b
 | .int i,u=>∃ t,u=Value.int i t
 | .str x,u=>∃ t,u=Value.str x t
 | .byt b,u=>∃ t,u=Value.bytes b t
 | .flt b,u=>∃ t,u=Value.float b t
 | .ref a,u=>u=Value.ref a
 | .ty n,u=>u=Value.type n
abbrev Vals:List V→List Value→Prop:=Paired RelV
theorem Vals.length{xs:List V}{us:List Value}(r:Vals xs us):xs.length=us.length:=aQ7 r
theorem Vals.get:∀ {xs:List V} {us:List Value} {i:Nat} {x:V},Vals xs us→xs[i]?=some x→∃ u,us[i]?=some u∧RelV x u
 | _,_,_,_,.nil,e=>by simp at e
 | _,_,0,_,.cons r _,e=>by simp at e;subst e;exact⟨_,rfl,r⟩
 | _,_,i+1,x,.cons _ t,e=>by
  obtain⟨u,h1,h2⟩:=Vals.get (i:=i) (x:=x) t (by simpa using e)
  exact⟨u,by simpa using h1,h2⟩
theorem Vals.set{x:V}{u:Value}(r:RelV x u):∀ {xs:List V} {us:List Value} (i:Nat),Vals xs us→Vals (xs.set i x) (us.set i u)
 | _,_,_,.nil=>.nil
 | _,_,0,.cons _ t=>.cons r t
 | _,_,i+1,.cons q t=>.cons q (Vals.set r i t)
theorem Vals.append:∀ {xs ys:List V} {us ws:List Value},Vals xs us→Vals ys ws→Vals (xs++ys) (us++ws)
 | _,_,_,_,.nil,s=>s
 | _,_,_,_,.cons r t,s=>.cons r (Vals.append t s)
theorem Vals.take:∀ {xs:List V} {us:List Value} (n:Nat),Vals xs us→Vals (xs.take n) (us.take n)
 | _,_,0,_=>.nil
 | _,_,_+1,.nil=>.nil
 | _,_,n+1,.cons r t=>.cons r (Vals.take n t)
theorem Vals.drop:∀ {xs:List V} {us:List Value} (n:Nat),Vals xs us→Vals (xs.drop n) (us.drop n)
 | _,_,0,r=>r
 | _,_,_+1,.nil=>.nil
 | _,_,n+1,.cons _ t=>Vals.drop n t
def RelO:Option V→Option Value→Prop
 | some v,some u=>RelV v u
 | none,none=>True
 | _,_=>False
def KV{κ:Type}:List (κ×V)→List (κ×Value)→Prop:=Paired fun (p:κ×V) (q:κ×Value)=>p.1=q.1∧RelV p.2 q.2
def kV:bX→V
 | .inl i=>.int i
 | .inr x=>.str x
inductive HO where
 | lst (xs:List V)
 | tup (xs:List V)
 | dK (kvs:List (bX×V)) | dT (kvs:List (List bX×V))
 | set (S:Int→Bool) (n:Nat)
 | ins (C dx:Addr) (fs:List (Str×V))
 | own (x:Addr)
 | xd (fs:List (Str×V))
 | met (f x:Addr)
 | rng (lo hi:Int)
 | frz (o:Obj) (u:HO)
 | tbl (ps:Array Value)
 | ext (φ:Heap→Prop)
abbrev Hp:=Addr→Option HO
def upd(H:Hp)(a:Addr)(o:HO):Hp:=fun b=>if b=a then some o else H b
theorem aB{H:Hp}{a:Addr}{o:HO}:upd H a o a=some o:=by unfold upd;rw[if_pos rfl]
theorem aE{H:Hp}{a b:Addr}{o:HO}(h:b≠a):upd H a o b=H b:=by unfold upd;rw[if_neg h]
theorem cC{H:Hp}{a b:Addr}{o u:HO}(h:H a=some o)(h':H b=some u)(d:o≠u):a≠b:=by
 intro e;subst e;rw[h] at h';exact d (d6 h')
theorem aI{H:Hp}{a b:Addr}{o:HO}(h:H a=some o)(h':H b=none):a≠b:=by
 intro e;subst e;rw[h] at h';cases h'
def NoD(h:Heap)(a:Addr):Prop:=∃ o,h.get? a=some o∧o.dict=none
theorem NoD.new(h:Heap)(items:Array Value):NoD (h.push { cls:=.type "tuple",data:=.seq items }) h.objs.size:=⟨_,d3 _ rfl,rfl⟩
section
variable (P:Program)(w:World)
def ObjOk(H:Hp)(h:Heap)(a:Addr):HO→Prop
 | .lst xs=>xs.length≤sizeLine∧∃ (its:List Value) (n:Nat),Vals xs its∧h.get? a=some { cls:=.type "list",data:=.seq its.toArray n }
 | .tup xs=>xs.length≤sizeLine∧∃ its:List Value,Vals xs its∧IsTup h a its.toArray∧NoD h a
 | .dK kvs=>kvs.length≤sizeLine∧(a == sysModules)=false∧∃ vs,KV kvs vs∧h.DictOf (bP P w) a vs
 | .dT kvs=>kvs.length≤sizeLine∧(a == sysModules)=false∧∃ xs:List (List bX×Addr×Value),
   Paired (fun (p:List bX×V) (q:List bX×Addr×Value)=>p.1=q.1∧H q.2.1=some (.tup (p.1.map kV))∧RelV p.2 q.2.2) kvs xs ∧
   ∃ o es ep,h.get? a=some o∧o.ExactDict∧o.data=.dict es ep∧es.toList=xs.map (entryOfKey (tupleKind (bP P w)))∧(xs.map (·.1)).Nodup
 | .set S n=>h.SetOf (intKind P w) a S n
 | .ins C dx fs=>H dx=some (.own a)∧fs.length≤1000∧dx≠a∧h.get? a=some (PySem.W.instObj C dx) ∧
   ∃ mA,h.Ns1 dx mA∧(∀ f,RelO (fs.lookup f) (mA f))∧PySem.Within mA (fs.map (·.1))
 | .own _=>∃ o,h.get? a=some o
 | .xd fs=>∃ mA,h.Ns1 a mA∧∀ f,RelO (fs.lookup f) (mA f)
 | .rng lo hi=>∃ t u v,h.get? a=some { cls:=.type "range",data:=.fields #[.int lo t,.int hi u,.int 1 v] }
 | .frz o u=>h.get? a=some o∧ObjOk H h a u
 | .tbl ps=>h.get? a=some { cls:=.none,data:=.fields ps }
 | .met f x=>h.get? a=some (PySem.W.methodObj (.ref f) (.ref x))
 | .ext φ=>φ h∧(∃ o,h.get? a=some o)∧∀ h1 h2:Heap,φ h1→(∀ o,h1.get? a=some o→h2.get? a=some o)→φ h2
def HOk(H:Hp)(h:Heap):Prop:=∀ a o,H a=some o→ObjOk P w H h a o
end
section
variable {P:Program}{w:World}{H H':Hp}{h h':Heap}{a:Addr}{o:HO}
theorem ObjOk.lt(x:ObjOk P w H h a o):a<h.objs.size:=by
 cases o with
 | lst xs=>obtain⟨_,_,_,_,e⟩:=x;exact c8 e
 | tup xs=>obtain⟨_,_,_,p⟩:=x;exact p.1.lt
 | dK kvs=>obtain⟨_,_,_,_,o,_,_,e,_⟩:=x;exact c8 e
 | dT kvs=>obtain⟨_,_,_,_,o,_,_,e,_⟩:=x;exact c8 e
 | set S n=>obtain⟨o,_,_,_,e,_⟩:=x;exact c8 e
 | ins C dx fs=>obtain⟨_,_,_,e,_⟩:=x;exact c8 e
 | own y=>obtain⟨_,e⟩:=x;exact c8 e
 | xd fs=>obtain⟨_,⟨_,_,_,e,_⟩,_⟩:=x;exact c8 e
 | rng lo hi=>obtain⟨_,_,_,e⟩:=x;exact c8 e
 | frz ob u=>obtain⟨e,_⟩:=x;exact c8 e
 | tbl ps=>exact c8 (show h.get? a=some _ from x)
 | met f y=>exact c8 (show h.get? a=some _ from x)
 | ext φ=>obtain⟨_,⟨_,e⟩,_⟩:=x;exact c8 e
theorem Paired.mapP{α β:Type}{F G:α→β→Prop}:∀ {l₁:List α} {l₂:List β},Paired F l₁ l₂→(∀ a b,F a b→G a b)→Paired G l₁ l₂
 | _,_,.nil,_=>.nil
 | _,_,.cons r t,f=>.cons (f _ _ r) (Paired.mapP t f)
theorem ObjOk.stay(x:ObjOk P w H h a o)(k:∀ b u,(b=a∨H b=some (.own a))→h.get? b=some u→h'.get? b=some u)
  (ho:∀ b,H b=some (.own a)→H' b=some (.own a)) (ht:∀ b xs,H b=some (.tup xs)→H' b=some (.tup xs)):ObjOk P w H' h' a o:=by
 induction o with
 | lst xs=>obtain⟨z,its,n,r,e⟩:=x;exact⟨z,its,n,r,k _ _ (.inl rfl) e⟩
 | tup xs=>obtain⟨z,its,r,⟨ob,e,c⟩,od,e2,c2⟩:=x;exact⟨z,its,r,⟨ob,k _ _ (.inl rfl) e,c⟩,od,k _ _ (.inl rfl) e2,c2⟩
 | dK kvs=>obtain⟨z,y,vs,r,ob,es,ep,e,c⟩:=x;exact⟨z,y,vs,r,ob,es,ep,k _ _ (.inl rfl) e,c⟩
 | dT kvs =>
  obtain⟨z,y,xs,r,ob,es,ep,e,c⟩:=x
  exact⟨z,y,xs,Paired.mapP r fun p q z=>⟨z.1,ht _ _ z.2.1,z.2.2⟩,ob,es,ep,k _ _ (.inl rfl) e,c⟩
 | set S n=>obtain⟨ob,es,ep,t,e,c⟩:=x;exact⟨ob,es,ep,t,k _ _ (.inl rfl) e,c⟩
 | ins C dx fs =>
  obtain⟨d,z,ne,e,mA,⟨od,es,ep,e2,c⟩,r⟩:=x
  exact⟨ho _ d,z,ne,k _ _ (.inl rfl) e,mA,⟨od,es,ep,k _ _ (.inr d) e2,c⟩,r⟩
 | own y=>obtain⟨ob,e⟩:=x;exact⟨ob,k _ _ (.inl rfl) e⟩
 | xd fs=>obtain⟨mA,⟨od,es,ep,e,c⟩,r⟩:=x;exact⟨mA,⟨od,es,ep,k _ _ (.inl rfl) e,c⟩,r⟩
 | rng lo hi=>obtain⟨t,u,v,e⟩:=x;exact⟨t,u,v,k _ _ (.inl rfl) e⟩
 | frz ob u ih=>obtain⟨e,q⟩:=x;exact⟨k _ _ (.inl rfl) e,ih q⟩
 | tbl ps =>
  have e:h.get? a=some { cls:=.none,data:=.fields ps }:=x
  show h'.get? a=some { cls:=.none,data:=.fields ps }
  exact k a _ (.inl rfl) e
 | met f y =>
  have e:h.get? a=some (PySem.W.methodObj (.ref f) (.ref y)):=x
  show h'.get? a=some (PySem.W.methodObj (.ref f) (.ref y))
  exact k a _ (.inl rfl) e
 | ext φ=>obtain⟨p,⟨o,e⟩,st⟩:=x;exact⟨st _ _ p fun o q=>k _ _ (.inl rfl) q,⟨o,k _ _ (.inl rfl) e⟩,st⟩
theorem HOk.lt(x:HOk P w H h)(e:H a=some o):a<h.objs.size:=(x a o e).lt
theorem HOk.fresh(x:HOk P w H h)(e:h.objs.size≤a):H a=none:=by
 cases q:H a with
 | none=>rfl
 | some u=>exact absurd (l6 (x.lt q) e) (aQE _)
theorem HOk.kept(x:HOk P w H h)(k:∀ b u,h.get? b=some u→h'.get? b=some u):HOk P w H h':=fun a o e =>
 (x a o e).stay (fun b u _ q=>k b u q) (fun _ q=>q) fun _ _ q=>q
theorem HOk.laid(x:HOk P w H h)(k:∀ b u,h.get? b=some u→h'.get? b=some u)(hp:h.objs.size≤a)(new:ObjOk P w (upd H a o) h' a o):HOk P w (upd H a o) h':=fun b u e=>by
 have hn:=x.fresh hp
 by_cases hb:b=a
 ·subst hb;rw[aB] at e;cases e;exact new
 ·rw[aE hb] at e
  exact(x b u e).stay (fun c v _ q=>k c v q) (fun c q=>by rw[aE (aI q hn)];exact q) fun c xs q=>by rw[aE (aI q hn)];exact q
end
def Rd(H:Hp)(a:Addr)(u:HO):Prop:=H a=some u∨∃ o,H a=some (.frz o u)
theorem Rd.ok{P:Program}{w:World}{H:Hp}{h:Heap}{a:Addr}{u:HO}(r:Rd H a u)(x:HOk P w H h):ObjOk P w H h a u:=by
 rcases r with r | ⟨o,r⟩
 ·exact x a u r
 ·obtain⟨_,q⟩:=x a _ r
  exact q
def Gn:Option HO→Prop
 | some (.lst _)=>True
 | some (.dK _)=>True
 | some (.dT _)=>True
 | some (.set _ _)=>True
 | some (.ins _ _ _)=>True
 | some (.ext _)=>True
 | _=>False
section
variable {P:Program}{w:World}{H:Hp}{h h':Heap}{x e:Addr}{o':HO}
theorem HOk.write(ok:HOk P w H h)(mu:Gn (H x))(he:e=x∨H e=some (.own x))(k:∀ b u,b≠e→h.get? b=some u→h'.get? b=some u)(heo:∃ u,h'.get? e=some u)
  (new:ObjOk P w (upd H x o') h' x o'):HOk P w (upd H x o') h':=fun b u q=>by
 have nown:∀ c y,H c=some (.own y)→c≠x:=fun c y r z=>by subst z;rw[r] at mu;exact mu
 have ntup:∀ c xs,H c=some (.tup xs)→c≠x:=fun c xs r z=>by subst z;rw[r] at mu;exact mu
 by_cases hb:b=x
 ·subst hb;rw[aB] at q;cases q;exact new
 ·rw[aE hb] at q
  by_cases hbe:b=e
  ·have q':H b=some (.own x):=by
    rcases he with z | z
    ·exact absurd (hbe.trans z) hb
    ·rw[hbe];exact z
   rw[q] at q';cases q'
   obtain⟨v,hv⟩:=heo
   exact⟨v,by rw[hbe];exact hv⟩
  ·refine(ok b u q).stay (fun c v hc r=>k c v ?_ r) (fun c r=>by rw[aE (nown c b r)];exact r) fun c xs r=>by rw[aE (ntup c xs r)];exact r
   rcases hc with rfl | hc
   ·exact hbe
   ·rintro rfl
    rcases he with z | z
    ·exact nown c b hc z
    ·rw[hc] at z;cases z;exact hb rfl
end
structure Un(fs ex:List Addr)(H H':Hp)(h h':Heap):Prop where
 keep:∀ b o,h.get? b=some o→H b=none→b ∉ fs→b ∉ ex→h'.get? b=some o
 slot:∀ b o,h.get? b=some o→H b=none→b∈fs→b ∉ ex→∃ sl,h'.get? b=some { o with slots:=sl }
 free:∀ b o,h.get? b=some o→H b=none→b ∉ ex→H' b=none
 there:∀ b o,h.get? b=some o→b ∉ ex→∃ o',h'.get? b=some o'
 tups:∀ b xs,H b=some (.tup xs)→H' b=some (.tup xs)
 frzs:∀ b o u,H b=some (.frz o u)→H' b=some (.frz o u)
 tbls:∀ b ps,H b=some (.tbl ps)→∃ more,H' b=some (.tbl (ps++more))
section
variable {fs fs' ex ex':List Addr}{H H1 H2:Hp}{h h1 h2 h':Heap}{a x e:Addr}{o:HO}
theorem Un.any(u:Un fs ex H H1 h h1){b:Addr}{ob:Obj}(q:h.get? b=some ob)(n:H b=none)(hx:b ∉ ex):∃ sl,h1.get? b=some { ob with slots:=sl }:=by
 by_cases hb:b∈fs
 ·exact u.slot b ob q n hb hx
 ·exact⟨ob.slots,u.keep b ob q n hb hx⟩
theorem Un.kept(k:∀ b u,h.get? b=some u→h'.get? b=some u):Un fs ex H H h h' :=
 ⟨fun b ob q _ _ _=>k b ob q,fun b ob q _ _ _=>⟨ob.slots,k b ob q⟩,fun _ _ _ n _=>n,fun b ob q _=>⟨ob,k b ob q⟩,fun _ _ q=>q,fun _ _ _ q=>q,fun _ ps q=>⟨#[],by rw[q];simp⟩⟩
theorem Un.refl:Un fs ex H H h h:=Un.kept fun _ _ q=>q
theorem Un.laid(k:∀ b u,h.get? b=some u→h'.get? b=some u)(hp:h.objs.size≤a)(hn:H a=none):Un fs ex H (upd H a o) h h' where
 keep:=fun b u q _ _ _=>k b u q
 slot:=fun b u q _ _ _=>⟨u.slots,k b u q⟩
 free:=fun b u q n _=>by rw[aE (g6 (l6 (c8 q) hp))];exact n
 there:=fun b u q _=>⟨u,k b u q⟩
 tups:=fun b xs q=>by rw[aE (aI q hn)];exact q
 frzs:=fun b u xs q=>by rw[aE (aI q hn)];exact q
 tbls:=fun b ps q=>⟨#[],by rw[aE (aI q hn),q];simp⟩
theorem Un.write(mu:Gn (H x))(he:e=x∨H e=some (.own x))(k:∀ b u,b≠e→h.get? b=some u→h'.get? b=some u)(heo:∃ u,h'.get? e=some u):Un fs ex H (upd H x o) h h':=by
 have hx:∀ b,H b=none→b≠x:=fun b n z=>by subst z;rw[n] at mu;exact mu
 have hb:∀ b,H b=none→b≠e:=fun b n z=>by
  subst z
  rcases he with r | r
  ·exact hx b n r
  ·rw[n] at r;cases r
 have hm:∀ b u,H b=some u→¬ Gn (some u)→b≠x:=fun b u q nm z=>by subst z;rw[q] at mu;exact nm mu
 refine⟨fun b u q n _ _=>k b u (hb b n) q,fun b u q n _ _=>⟨u.slots,k b u (hb b n) q⟩,fun b u q n _=>by rw[aE (hx b n)];exact n,fun b u q _=>?_,
  fun b xs q=>by rw[aE (hm b _ q fun z=>z)];exact q,fun b u xs q=>by rw[aE (hm b _ q fun z=>z)];exact q,fun b ps q=>⟨#[],by rw[aE (hm b _ q fun z=>z),q];simp⟩⟩
 by_cases hbe:b=e
 ·subst hbe;exact heo
 ·exact⟨u,k b u hbe q⟩
end
def HN(h:Heap)(H:Hp):List Addr:=(List.range h.objs.size).filter fun a=>(H a).isSome
def rT(h:Heap)(H:Hp):Heap:=PySem.W.hideAll h (HN h H)
theorem zN(h:Heap)(H:Hp):(rT h H).objs.size=h.objs.size:=PySem.W.hideAll_size _ _
theorem CB{h:Heap}{H:Hp}{b:Addr}{o:Obj}(e:h.get? b=some o)(n:H b=none):(rT h H).get? b=some o :=
 PySem.W.hideAll_get _ e fun hm=>by
  have q:(H b).isSome=true:=(x8.mp hm).2
  rw[n] at q;simp at q
theorem CM{h:Heap}{H:Hp}{b:Addr}{o:Obj}(e:(rT h H).get? b=some o):h.get? b=some o∧H b=none:=by
 have e':h.get? b=some o:=PySem.W.of_hideAll (HN h H) e
 refine⟨e',?_⟩
 cases q:H b with
 | none=>rfl
 | some x =>
  have hm:b∈HN h H:=x8.mpr ⟨aQW.mpr (c8 e'),by simp[q]⟩
  have z:(rT h H).get? b=none:=PySem.W.hideAll_none (HN h H) hm
  rw[z] at e;cases e
structure Mod(K:b5)(mg:Str→Option Value)(base:Heap):Prop where
 kin:K.In base
 glob:base.Ns mainGlobals mg
 blt:∃ mb,base.Ns builtinsNs mb∧∀ x:Str,x≠"__name__"→mb x=bootBuiltins x
 nolimit:base.NoLimit
structure Cx where
 prog:Program
 w:World
 K:b5
 mg:Str→Option Value
 base:Heap
 A:Around
 N:List Str
 s₀:Shared
 H₀:Hp
 env:Env
 outer:List Env
 stack:List Env
 ex:List Addr
 fn:Str→Bool
 calm:Bool
 pn:List (Addr×Obj)
 xe:Value→Shared→Prop
def AS(l:List Env):List Addr:=l.filterMap (·.frame)
abbrev Cx.fs(X:Cx):List Addr:=AS X.outer
def Hr(sc:Scope)(x:Str):Prop:=sc.names.lookup x=some .local∨sc.names.lookup x=some .cell∨sc.names.lookup x=some .free
def GA(sc:Scope)(x:Str):Prop:=sc.names.lookup x=some .local∨sc.names.lookup x=some .cell
def Ii(env:Env)(h:Heap)(m:Str→Option Value)(x:Str)(u:Value):Prop :=
 (env.kindOf x=some .local∧m x=some u)∨((env.kindOf x=some .cell∨env.kindOf x=some .free)∧∃ c,env.cells.lookup x=some c∧h.IsCell c (some u))
structure Cx.Ok(X:Cx):Prop where
 mod:Mod X.K X.mg X.base
 kind:X.env.scope.kind=.function
 glob:X.env.globals=mainGlobals
 blt:X.env.builtins=builtinsNs
 above:X.s₀.heap.objs.size≤X.env.locals
 inj:∀ x y c,X.env.cells.lookup x=some c→X.env.cells.lookup y=some c→x=y
 has:∀ x,(X.env.kindOf x=some .cell∨X.env.kindOf x=some .free)→∃ c,X.env.cells.lookup x=some c
 cab:∀ x c,X.fn x=true→X.env.cells.lookup x=some c→X.s₀.heap.objs.size≤c
 hd:X.calm=true→X.A.handled=none
 frames:X.A.frames=some X.stack
 stk:X.stack=X.outer∨(X.stack=X.env::X.outer∧X.env.frame=some X.env.locals)
 exf:∀ b∈X.ex,b≠X.env.locals∧∀ x c,X.env.cells.lookup x=some c→c≠b
 bs:∀ b o,X.base.get? b=some o→X.s₀.heap.get? b=some o∧X.H₀ b=none
 bsz:X.base.objs.size≤X.s₀.heap.objs.size
 noex:∀ b o,X.base.get? b=some o→b ∉ X.ex
 exfs:∀ b∈X.ex,b ∉ X.fs
 funs:X.s₀.heap.FunFrames X.base X.outer
 frf:∀ b∈X.fs,X.H₀ b=none
structure Inv(X:Cx)(pins:List (Addr×Obj))(σ:List (Option V))(H:Hp)(s:Shared):Prop where
 ok:X.Ok
 os:s.os=X.s₀.os
 bare:AllBare s.gens
 base:Un X.fs X.ex X.H₀ H X.s₀.heap s.heap
 loc:∃ m,s.heap.Ns X.env.locals m∧∀ (i:Nat) (x:Str) (v:V),X.N[i]?=some x→σ[i]?=some (some v)→Hr X.env.scope x→∃ u,RelV v u∧Ii X.env s.heap m x u
 cell:∀ x c,X.env.cells.lookup x=some c→∃ v,s.heap.IsCell c v
 free:H X.env.locals=none
 freeC:∀ x c,X.env.cells.lookup x=some c→H c=none
 pin:∀ p∈X.pn++pins,s.heap.get? p.1=some p.2∧H p.1=none∧p.1≠X.env.locals∧p.1 ∉ X.fs∧∀ v,p.2.data≠.cell v
 hok:HOk X.prog X.w H s.heap
 len:σ.length=X.N.length
section
variable {X:Cx}{pins:List (Addr×Obj)}{σ:List (Option V)}{H H':Hp}{s:Shared}{h':Heap}
theorem Cx.Ok.nofr(ok:X.Ok){b:Addr}{o:Obj}(e:X.base.get? b=some o):b ∉ X.fs:=fun hb=>by
 have:=(ok.funs.mem hb).1
 rw[e] at this;cases this
theorem Inv.bs(I:Inv X pins σ H s):∀ b o,X.base.get? b=some o→s.heap.get? b=some o∧H b=none:=fun b o e =>
 ⟨I.base.keep b o (I.ok.bs b o e).1 (I.ok.bs b o e).2 (I.ok.nofr e) (I.ok.noex b o e),I.base.free b o (I.ok.bs b o e).1 (I.ok.bs b o e).2 (I.ok.noex b o e)⟩
theorem Inv.bk(I:Inv X pins σ H s):∀ b o,X.base.get? b=some o→s.heap.get? b=some o:=fun b o e=>(I.bs b o e).1
theorem Inv.mod(I:Inv X pins σ H s):Mod X.K X.mg X.base:=I.ok.mod
theorem Inv.kIn(I:Inv X pins σ H s):X.K.In s.heap:=I.ok.mod.kin.keeps I.bk
theorem Inv.lt(I:Inv X pins σ H s):X.env.locals<s.heap.objs.size:=let ⟨_,hn,_⟩:=I.loc;hn.lt
theorem Inv.sz(I:Inv X pins σ H s):X.s₀.heap.objs.size≤s.heap.objs.size:=k8 I.ok.above (aQX I.lt)
theorem Inv.nofs(I:Inv X pins σ H s){a:Addr}(h:s.heap.objs.size≤a):a ∉ X.fs:=fun hb=>by
 obtain⟨_,o,ho,_⟩:=I.ok.funs.mem hb
 exact absurd (l6 (c8 ho) (k8 I.sz h)) (aQE _)
theorem Inv.cne(I:Inv X pins σ H s):∀ x c,X.env.cells.lookup x=some c→c≠X.env.locals:=fun x c e z=>by
 obtain⟨v,o,ho,hd⟩:=I.cell x c e
 obtain⟨m,⟨o',es,ep,ho',hd',_⟩,_⟩:=I.loc
 rw[z,ho'] at ho;cases ho;rw[hd'] at hd;cases hd
theorem Inv.funs(I:Inv X pins σ H s):s.heap.FunFrames X.base X.outer:=by
 have all:∀ (l:List Env),(∀ b∈AS l,b∈X.fs)→X.s₀.heap.FunFrames X.base l→s.heap.FunFrames X.base l:=by
  intro l
  induction l with
  | nil=>intro _ _;trivial
  | cons env r ih =>
   intro hs hl
   obtain⟨hk,⟨L,o,hf,hn,ho,hd⟩,hr⟩:=hl
   have hL:L∈X.fs:=hs L (by unfold AS;rw[aQO,hf];exact d9)
   obtain⟨sl,e⟩:=I.base.slot L o ho (I.ok.frf L hL) hL fun z=>I.ok.exfs L z hL
   exact⟨hk,⟨L,_,hf,hn,e,hd⟩,ih (fun b hb=>hs b (by unfold AS;rw[aQO,hf];exact d4 _ hb)) hr⟩
 exact all X.outer (fun _ hb=>hb) I.ok.funs
theorem Inv.stack(I:Inv X pins σ H s):s.heap.FunFrames X.base X.stack:=by
 rcases I.ok.stk with e | ⟨e,hf⟩
 ·rw[e];exact I.funs
 ·rw[e]
  obtain⟨m,hn,_⟩:=I.loc
  refine .cons (by rw[I.ok.kind];decide) hf hn ?_ I.funs
  exact Heap.get?_none_of_le (k8 I.ok.bsz I.ok.above)
theorem Inv.stkSub(I:Inv X pins σ H s):∀ b∈AS X.stack,b∈X.env.locals::X.fs:=fun b hb=>by
 rcases I.ok.stk with e | ⟨e,hf⟩
 ·rw[e] at hb;exact d4 _ hb
 ·rw[e] at hb
  unfold AS at hb
  rw[aQO,hf] at hb
  exact hb
theorem Inv.stkFree(I:Inv X pins σ H s):∀ b∈AS X.stack,H b=none:=fun b hb=>by
 rcases c6.mp (I.stkSub b hb) with e | hb
 ·rw[e];exact I.free
 ·obtain⟨_,o,ho,_⟩:=I.ok.funs.mem hb
  exact I.base.free b o ho (I.ok.frf b hb) fun z=>I.ok.exfs b z hb
theorem Inv.step{g':Array GenState}{t':Nat}{d':Drawn}{ch:List Addr}(I:Inv X pins σ H s)
  (hch:∀ b∈ch,(b∈X.ex∨X.s₀.heap.objs.size≤b)∧b≠X.env.locals∧(∀ x c,X.env.cells.lookup x=some c→c≠b)∧∀ p∈X.pn++pins,p.1≠b)
  (keep:∀ b o,b≠X.env.locals→b ∉ X.fs→b ∉ ch→s.heap.get? b=some o→H b=none→h'.get? b=some o)
  (slot:∀ b o,b≠X.env.locals→b∈X.fs→b ∉ ch→s.heap.get? b=some o→H b=none→∃ sl,h'.get? b=some { o with slots:=sl }) (free:∀ b o,b ∉ ch→s.heap.get? b=some o→H b=none→H' b=none)
  (there:∀ b o,b ∉ ch→s.heap.get? b=some o→∃ o',h'.get? b=some o')
  (tups:∀ b xs,H b=some (.tup xs)→H' b=some (.tup xs)) (frzs:∀ b o u,H b=some (.frz o u)→H' b=some (.frz o u)) (tbls:∀ b ps,H b=some (.tbl ps)→∃ more,H' b=some (.tbl (ps++more)))
  (ns:∀ m,s.heap.Ns X.env.locals m→h'.Ns X.env.locals m) (hok:HOk X.prog X.w H' h') (hg:AllBare g') :
  Inv X pins σ H' { s with heap:=h',gens:=g',drawn:=d',toks:=t' }:=by
 have neL:∀ b o,X.s₀.heap.get? b=some o→b≠X.env.locals:=fun b o e=>g6 (l6 (c8 e) I.ok.above)
 have neC:∀ b o,X.s₀.heap.get? b=some o→b ∉ X.ex→b ∉ ch:=fun b o e hx hb=>by
  rcases(hch b hb).1 with z | z
  ·exact hx z
  ·exact absurd (l6 (c8 e) z) (aQE _)
 have cellK:∀ x c,X.env.cells.lookup x=some c→∀ v,s.heap.IsCell c v→h'.IsCell c v:=fun x c e v ⟨o,ho,hd⟩=>by
  have nch:c ∉ ch:=fun z=>(hch c z).2.2.1 x c e rfl
  by_cases hc:c∈X.fs
  ·obtain⟨sl,q⟩:=slot c o (I.cne x c e) hc nch ho (I.freeC x c e)
   exact⟨_,q,hd⟩
  ·exact⟨o,keep c o (I.cne x c e) hc nch ho (I.freeC x c e),hd⟩
 refine⟨I.ok,I.os,hg,⟨fun b o e n hb hx=>?_,fun b o e n hb hx=>?_,fun b o e n hx=>?_,fun b o e hx=>?_,fun b xs e=>tups b xs (I.base.tups b xs e),fun b o xs e=>frzs b o xs (I.base.frzs b o xs e),fun b ps e=>?_⟩,?_,fun x c e=>?_,?_,fun x c e=>?_,fun p hp=>?_,hok,I.len⟩
 ·exact keep b o (neL b o e) hb (neC b o e hx) (I.base.keep b o e n hb hx) (I.base.free b o e n hx)
 ·obtain⟨sl,e1⟩:=I.base.slot b o e n hb hx
  obtain⟨sl',e2⟩:=slot b _ (neL b o e) hb (neC b o e hx) e1 (I.base.free b o e n hx)
  exact⟨sl',e2⟩
 ·obtain⟨o',e1⟩:=I.base.there b o e hx
  exact free b o' (neC b o e hx) e1 (I.base.free b o e n hx)
 ·obtain⟨o',e1⟩:=I.base.there b o e hx
  exact there b o' (neC b o e hx) e1
 ·obtain⟨m1,e1⟩:=I.base.tbls b ps e
  obtain⟨m2,e2⟩:=tbls b _ e1
  exact⟨m1++m2,by rw[e2,Array.append_assoc]⟩
 ·obtain⟨m,hn,hl⟩:=I.loc
  refine⟨m,ns m hn,fun i x v e1 e2 e3=>?_⟩
  obtain⟨u,r,l⟩:=hl i x v e1 e2 e3
  refine⟨u,r,?_⟩
  rcases l with l | ⟨k,c,e,z⟩
  ·exact .inl l
  ·exact .inr ⟨k,c,e,cellK x c e _ z⟩
 ·obtain⟨v,z⟩:=I.cell x c e
  exact⟨v,cellK x c e v z⟩
 ·obtain⟨m,⟨o,_,_,ho,_⟩,_⟩:=I.loc
  exact free _ o (fun z=>(hch _ z).2.1 rfl) ho I.free
 ·obtain⟨v,o,ho,hd⟩:=I.cell x c e
  exact free c o (fun z=>(hch c z).2.2.1 x c e rfl) ho (I.freeC x c e)
 ·obtain⟨e,n,ne,nf,d⟩:=I.pin p hp
  have nch:p.1 ∉ ch:=fun z=>(hch p.1 z).2.2.2 p hp rfl
  exact⟨keep p.1 p.2 ne nf nch e n,free p.1 p.2 nch e n,ne,nf,d⟩
theorem Inv.un{t':Nat}(I:Inv X pins σ H s)(u:Un X.fs [] H H' s.heap h')(hok:HOk X.prog X.w H' h'):Inv X pins σ H' { s with heap:=h',toks:=t' }:=by
 obtain⟨m,⟨o,es,ep,ho,r⟩,_⟩:=id I.loc
 obtain⟨sl,hL⟩:=u.any ho I.free (by simp)
 exact I.step (g':=s.gens) (d':=s.drawn) (ch:=[]) (fun _ z=>nomatch z) (fun b o _ hb _ e n=>u.keep b o e n hb (by simp)) (fun b o _ hb _ e n=>u.slot b o e n hb (by simp)) (fun b o _ e n=>u.free b o e n (by simp)) (fun b o _ e=>u.there b o e (by simp)) u.tups u.frzs u.tbls (fun m' hm=>by
  obtain⟨o',es',ep',ho',r'⟩:=hm
  rw[ho] at ho';cases ho'
  exact⟨_,es',ep',hL,r'⟩) hok I.bare
theorem Inv.call{g':Array GenState}{t':Nat}{d':Drawn}{ch:List Addr}(I:Inv X pins σ H s)(u:Un (AS X.stack) ch H H' s.heap h')(hok:HOk X.prog X.w H' h')(hg:AllBare g')
  (hch:∀ b∈ch,(b∈X.ex∨X.s₀.heap.objs.size≤b)∧b≠X.env.locals∧(∀ x c,X.env.cells.lookup x=some c→c≠b)∧∀ p∈X.pn++pins,p.1≠b) :
  Inv X pins σ H' { s with heap:=h',gens:=g',drawn:=d',toks:=t' }:=by
 obtain⟨m,⟨o,es,ep,ho,r⟩,_⟩:=id I.loc
 obtain⟨sl,hL⟩:=u.any ho I.free fun z=>(hch _ z).2.1 rfl
 exact I.step (ch:=ch) hch (fun b o hL hb hc e n=>u.keep b o e n (fun z=>(c6.mp (I.stkSub b z)).elim hL hb) hc) (fun b o _ _ hc e n=>u.any e n hc) (fun b o hc e n=>u.free b o e n hc) (fun b o hc e=>u.there b o e hc) u.tups u.frzs u.tbls (fun m' hm=>by
  obtain⟨o',es',ep',ho',r'⟩:=hm
  rw[ho] at ho';cases ho'
  exact⟨_,es',ep',hL,r'⟩) hok hg
theorem Inv.turned{t':Nat}{it:Addr}(I:Inv X pins σ H s)(k:∀ b o,b≠it→s.heap.get? b=some o→h'.get? b=some o)(hn:H it=none)(hL:it≠X.env.locals)
  (h1:it∈X.ex∨X.s₀.heap.objs.size≤it) (h2:∀ x c,X.env.cells.lookup x=some c→c≠it) (h3:∀ p∈X.pn++pins,p.1≠it):Inv X pins σ H { s with heap:=h',toks:=t' }:=by
 have nit:∀ b u,H b=some u→b≠it:=fun b u e z=>by rw[z,hn] at e;cases e
 refine I.step (g':=s.gens) (d':=s.drawn) (ch:=[it]) (fun b hb=>?_) (fun b o _ _ hc e _=>k b o (fun z=>hc (by simp[z])) e) (fun b o _ _ hc e _=>⟨o.slots,k b o (fun z=>hc (by simp[z])) e⟩) (fun _ _ _ _ n=>n)
  (fun b o hc e=>⟨o,k b o (fun z=>hc (by simp[z])) e⟩) (fun _ _ e=>e) (fun _ _ _ e=>e) (fun b ps e=>⟨#[],by rw[e];simp⟩) (fun m hm=>?_) (fun b u e=>?_) I.bare
 ·have e:b=it:=by simpa using hb
  subst e
  exact⟨h1,hL,h2,h3⟩
 ·obtain⟨o,es,ep,ho,r⟩:=hm
  exact⟨o,es,ep,k _ o (y7 hL) ho,r⟩
 ·refine(I.hok b u e).stay (fun c v hc q=>k c v ?_ q) (fun _ q=>q) fun _ _ q=>q
  rcases hc with z | z
  ·rw[z];exact nit b u e
  ·exact nit c _ z
theorem Inv.tok(I:Inv X pins σ H s)(t:Nat):Inv X pins σ H { s with toks:=t }:=I.un (h':=s.heap) (t':=t) Un.refl I.hok
theorem Inv.kept{t':Nat}(I:Inv X pins σ H s)(k:∀ b u,s.heap.get? b=some u→h'.get? b=some u):Inv X pins σ H { s with heap:=h',toks:=t' }:=I.un (Un.kept k) (I.hok.kept k)
theorem Inv.laid{a:Addr}{o:HO}{t':Nat}(I:Inv X pins σ H s)(k:∀ b u,s.heap.get? b=some u→h'.get? b=some u)(hp:s.heap.objs.size≤a)(new:ObjOk X.prog X.w (upd H a o) h' a o) :
  Inv X pins σ (upd H a o) { s with heap:=h',toks:=t' }:=I.un (Un.laid k hp (I.hok.fresh hp)) (I.hok.laid k hp new)
theorem Inv.write{x e:Addr}{o:HO}{t':Nat}(I:Inv X pins σ H s)(mu:Gn (H x))(he:e=x∨H e=some (.own x))(k:∀ b u,b≠e→s.heap.get? b=some u→h'.get? b=some u)(heo:∃ u,h'.get? e=some u)
  (new:ObjOk X.prog X.w (upd H x o) h' x o):Inv X pins σ (upd H x o) { s with heap:=h',toks:=t' }:=I.un (Un.write mu he k heo) (I.hok.write mu he k heo new)
theorem Inv.pins_of{pins':List (Addr×Obj)}(I:Inv X pins σ H s)(h:∀ p∈pins',s.heap.get? p.1=some p.2∧H p.1=none∧p.1≠X.env.locals∧p.1 ∉ X.fs∧∀ v,p.2.data≠.cell v):Inv X pins' σ H s :=
 ⟨I.ok,I.os,I.bare,I.base,I.loc,I.cell,I.free,I.freeC,fun p hp=>(i8.mp hp).elim (fun z=>I.pin p (l4 _ z)) (h p),I.hok,I.len⟩
theorem tX{N:List Str}(hN:N.Nodup){i j:Nat}{x:Str}(a:N[i]?=some x)(b:N[j]?=some x):i=j:=by
 obtain⟨h1,e1⟩:=a8.mp a
 obtain⟨h2,e2⟩:=a8.mp b
 exact(aQl hN).mp (e1.trans e2.symm)
theorem qS{M:Model}{A:Around}{E:Value→Shared→Prop}{i:Nat}{x:Str}{v:V}{u:Value}{Q:Unit→Shared→Prop}(I:Inv X pins σ H s)(hN:X.N.Nodup)(hi:X.N[i]?=some x)(hx:GA X.env.scope x)(r:RelV v u)
  (h:∀ s',Inv X pins (σ.set i (some v)) H s'→(∃ a,Heap.SameBut a s.heap s'.heap∧(a=X.env.locals∨X.env.cells.lookup x=some a))→Q () s') (hf:X.fn x=true∨X.env.scope.names.lookup x=some .local:=by first | exact .inl rfl | exact .inr rfl | assumption):wpAny M A (storeName X.env x u) Q E s:=by
 obtain⟨m,hn,hl⟩:=id I.loc
 have hcls:(X.env.scope.kind == .class || (X.env.scope.kind == .module && X.env.locals != X.env.globals))=false:=by rw[I.ok.kind];rfl
 have hiσ:i<σ.length:=by rw[I.len];exact(a8.mp hi).1
 have cne:=I.cne
 have tracked:∀ {a:Addr} {h':Heap},(∃ o,s.heap.get? a=some o∧H a=none)→Heap.SameBut a s.heap h'→HOk X.prog X.w H h':=fun {a h'} ha hs b ob e=>by
  obtain⟨_,_,hfree⟩:=ha
  refine(I.hok b ob e).stay (fun c w' hc q=>(hs.2 c ?_).trans q) (fun _ q=>q) fun _ _ q=>q
  rintro rfl
  rcases hc with rfl | hc
  ·rw[hfree] at e;cases e
  ·rw[hfree] at hc;cases hc
 rcases hx with hk | hk
 ·refine wpAny_storeName_local hk hn (fun h' hn' hs=>?_) hcls
  obtain⟨oL,_,_,hoL,_⟩:=id hn
  refine h _ ⟨I.ok,I.os,I.bare,⟨fun b o e n hb hx=>?_,fun b o e n hb hx=>?_,I.base.free,fun b o e hx=>?_,I.base.tups,I.base.frzs,I.base.tbls⟩,⟨_,hn',fun j y v' e1 e2 e3=>?_⟩,fun y c e=>?_,I.free,I.freeC,fun p hp=>?_,tracked ⟨oL,hoL,I.free⟩ hs,by simpa using I.len⟩ ⟨_,hs,.inl rfl⟩
  ·exact(hs.2 b (g6 (l6 (c8 e) I.ok.above))).trans (I.base.keep b o e n hb hx)
  ·obtain⟨sl,e1⟩:=I.base.slot b o e n hb hx
   exact⟨sl,(hs.2 b (g6 (l6 (c8 e) I.ok.above))).trans e1⟩
  ·obtain⟨o',e1⟩:=I.base.there b o e hx
   exact⟨o',(hs.2 b (g6 (l6 (c8 e) I.ok.above))).trans e1⟩
  ·by_cases hj:j=i
   ·subst hj
    rw[hi] at e1;cases e1
    rw[p5 hiσ] at e2
    cases e2
    exact⟨u,r,.inl ⟨hk,by simp⟩⟩
   ·rw[p6 (y7 hj)] at e2
    obtain⟨u',r',q⟩:=hl j y v' e1 e2 e3
    refine⟨u',r',?_⟩
    rcases q with ⟨k,e⟩ | ⟨k,c,e,z⟩
    ·refine .inl ⟨k,?_⟩
     have:y≠x:=fun e=>hj (tX hN e1 (e ▸ hi))
     simp[this,e]
    ·exact .inr ⟨k,c,e,z.sameBut hs (cne y c e)⟩
  ·obtain⟨w',z⟩:=I.cell y c e
   exact⟨w',z.sameBut hs (cne y c e)⟩
  ·obtain⟨e,n,ne,nf,d⟩:=I.pin p hp
   exact⟨(hs.2 p.1 ne).trans e,n,ne,nf,d⟩
 ·have hfn:X.fn x=true:=by
   rcases hf with z | z
   ·exact z
   ·rw[z] at hk;cases hk
  obtain⟨c,hc⟩:=I.ok.has x (.inl hk)
  obtain⟨w',z⟩:=I.cell x c hc
  refine wpAny_storeName_cell I.ok.kind hk hc z (fun h' hc' hs=>?_)
  obtain⟨oc,hoc,hocd⟩:=id z
  refine h { s with heap:=h' } ⟨I.ok,I.os,I.bare,⟨fun b o e n hb hx=>?_,fun b o e n hb hx=>?_,I.base.free,fun b o e hx=>?_,I.base.tups,I.base.frzs,I.base.tbls⟩,⟨m,hn.sameBut hs (y7 (cne x c hc)),fun j y v' e1 e2 e3=>?_⟩,fun y c' e=>?_,I.free,I.freeC,fun p hp=>?_,tracked ⟨oc,hoc,I.freeC x c hc⟩ hs,by simpa using I.len⟩ ⟨c,hs,.inr hc⟩
  ·exact(hs.2 b (g6 (l6 (c8 e) (I.ok.cab x c hfn hc)))).trans (I.base.keep b o e n hb hx)
  ·obtain⟨sl,e1⟩:=I.base.slot b o e n hb hx
   exact⟨sl,(hs.2 b (g6 (l6 (c8 e) (I.ok.cab x c hfn hc)))).trans e1⟩
  ·obtain⟨o',e1⟩:=I.base.there b o e hx
   exact⟨o',(hs.2 b (g6 (l6 (c8 e) (I.ok.cab x c hfn hc)))).trans e1⟩
  ·by_cases hj:j=i
   ·subst hj
    rw[hi] at e1;cases e1
    rw[p5 hiσ] at e2
    cases e2
    exact⟨u,r,.inr ⟨.inl hk,c,hc,hc'⟩⟩
   ·rw[p6 (y7 hj)] at e2
    obtain⟨u',r',q⟩:=hl j y v' e1 e2 e3
    refine⟨u',r',?_⟩
    rcases q with q | ⟨k,c',e,z'⟩
    ·exact .inl q
    ·refine .inr ⟨k,c',e,z'.sameBut hs ?_⟩
     rintro rfl
     exact hj (tX hN e1 (I.ok.inj _ _ _ e hc ▸ hi))
  ·by_cases hcc:c'=c
   ·subst hcc;exact⟨_,hc'⟩
   ·obtain⟨w2,z2⟩:=I.cell y c' e
    exact⟨w2,z2.sameBut hs hcc⟩
  ·obtain⟨e,n,ne,nf,d⟩:=I.pin p hp
   refine⟨(hs.2 p.1 ?_).trans e,n,ne,nf,d⟩
   intro q
   rw[q,hoc] at e
   have q':oc=p.2:=d6 e
   exact d w' (by rw[← q'];exact hocd)
theorem gF{M:Model}{A:Around}{E:Value→Shared→Prop}{i:Nat}{x:Str}{v:V}{u:Value}{Q:Unit→Shared→Prop}(I:Inv X pins σ H s)(hN:X.N.Nodup)(hi:X.N[i]?=some x)(hx:GA X.env.scope x)(r:RelV v u)
  (h:∀ s',Inv X pins (σ.set i (some v)) H s'→Q () s') (hf:X.fn x=true∨X.env.scope.names.lookup x=some .local:=by first | exact .inl rfl | exact .inr rfl | assumption):wpAny M A (storeName X.env x u) Q E s :=
 qS I hN hi hx r (fun s' I' _=>h s' I') hf
theorem Inv.call'{s':Shared}{ch:List Addr}(I:Inv X pins σ H s)(ho:s'.os=s.os)(u:Un (AS X.stack) ch H H' s.heap s'.heap)(hok:HOk X.prog X.w H' s'.heap)(hg:AllBare s'.gens)
  (hch:∀ b∈ch,(b∈X.ex∨X.s₀.heap.objs.size≤b)∧b≠X.env.locals∧(∀ x c,X.env.cells.lookup x=some c→c≠b)∧∀ p∈X.pn++pins,p.1≠b):Inv X pins σ H' s':=by
 obtain⟨h',g',d',t',o'⟩:=s'
 have e:o'=s.os:=ho
 subst e
 exact I.call (g':=g') (t':=t') (d':=d') u hok hg hch
end
abbrev XK:=Value→Option Addr→Hp→Prop
abbrev St:=List (Option V)
abbrev VK:=V→Hp→Prop
abbrev TE:=St→Hp→VK→Prop
abbrev TT:=St→Hp→(Bool→Hp→Prop)→Prop
abbrev TA:=St→Hp→(List V→Hp→Prop)→Prop
structure Ends where
 nx:St→Hp→Prop
 rt:VK
 bk:St→Hp→Prop:=fun _ _=>False
 ct:St→Hp→Prop:=fun _ _=>False
abbrev TS:=Ends→St→Hp→Prop
def EP(X:Cx)(pins:List (Addr×Obj))(σ:St)(Q:VK)(u:Value)(s':Shared):Prop:=∃ v H',Inv X pins σ H' s'∧RelV v u∧Q v H'
def TP(X:Cx)(pins:List (Addr×Obj))(σ:St)(Q:Bool→Hp→Prop)(b:Bool)(s':Shared):Prop:=∃ H',Inv X pins σ H' s'∧Q b H'
def AP(X:Cx)(pins:List (Addr×Obj))(σ:St)(Q:List V→Hp→Prop)(us:List Value)(s':Shared):Prop:=∃ vs H',Inv X pins σ H' s'∧Vals vs us∧Q vs H'
def SP(X:Cx)(pins:List (Addr×Obj))(D:Ends)(f:Flow)(s':Shared):Prop :=
 match f with
 | .next=>∃ σ' H',Inv X pins σ' H' s'∧D.nx σ' H'
 | .brk=>∃ σ' H',Inv X pins σ' H' s'∧D.bk σ' H'
 | .cont=>∃ σ' H',Inv X pins σ' H' s'∧D.ct σ' H'
 | .ret u=>∃ v σ' H',Inv X pins σ' H' s'∧RelV v u∧D.rt v H'
def PE(X:Cx)(e:Expr)(t:TE):Prop :=
 ∀ (pins:List (Addr×Obj)) (s:Shared) (σ:St) (H:Hp) (Q:VK),Inv X pins σ H s→t σ H Q→wpAny (model X.prog X.w) X.A (eval e X.env) (EP X pins σ Q) X.xe s
def PT(X:Cx)(e:Expr)(t:TT):Prop :=
 ∀ (pins:List (Addr×Obj)) (s:Shared) (σ:St) (H:Hp) (Q:Bool→Hp→Prop),Inv X pins σ H s→t σ H Q→wpAny (model X.prog X.w) X.A (isTrue e X.env (eval e X.env)) (TP X pins σ Q) X.xe s
def PW(X:Cx)(e:Expr)(t:TT):Prop :=
 ∀ (whole:Sem Value) (pins:List (Addr×Obj)) (s:Shared) (σ:St) (H:Hp) (Q:Bool→Hp→Prop),Inv X pins σ H s→t σ H Q→wpAny (model X.prog X.w) X.A (isTrue e X.env whole) (TP X pins σ Q) X.xe s
theorem PW.pt{X:Cx}{e:Expr}{t:TT}(h:PW X e t):PT X e t:=h _
def PA(X:Cx)(es:List Expr)(t:TA):Prop :=
 ∀ (pos:Pos) (pins:List (Addr×Obj)) (s:Shared) (σ:St) (H:Hp) (Q:List V→Hp→Prop),Inv X pins σ H s→t σ H Q→wpAny (model X.prog X.w) X.A (spliced (backTo pos (starEach es X.env))) (AP X pins σ Q) X.xe s
def PS(X:Cx)(st:Stmt)(t:TS):Prop :=
 ∀ (pins:List (Addr×Obj)) (s:Shared) (σ:St) (H:Hp) (D:Ends),Inv X pins σ H s→t D σ H→wpAny (model X.prog X.w) X.A (exec st X.env) (SP X pins D) X.xe s
def PSs(X:Cx)(st:List Stmt)(t:TS):Prop :=
 ∀ (pins:List (Addr×Obj)) (s:Shared) (σ:St) (H:Hp) (D:Ends),Inv X pins σ H s→t D σ H→wpAny (model X.prog X.w) X.A (execs st X.env) (SP X pins D) X.xe s
theorem bV{α:Type}{t:Sem α}{Q Q':α→Shared→Prop}{M:Model}{A:Around}{E:Value→Shared→Prop}{s:Shared}(h:wpAny M A t Q E s)(hQ:∀ a s,Q a s→Q' a s):wpAny M A t Q' E s:=wpAny_mono h hQ fun _ _ x=>x
section
variable {X:Cx}
theorem Jv{a b:Expr}{ta tb:TE}(ha:PE X a ta)(hb:PE X b tb){pins:List (Addr×Obj)}{s:Shared}{σ:St}{H:Hp}{R:V→V→Hp→Prop}(I:Inv X pins σ H s)(h:ta σ H fun x H1=>tb σ H1 fun y H2=>R x y H2)
  {α:Type} {Q:α→Shared→Prop} {f:Value→Value→Sem α}
  (hf:∀ v u s2 x y H2,Inv X pins σ H2 s2→RelV x v→RelV y u→R x y H2→wpAny (model X.prog X.w) X.A (f v u) Q X.xe s2) :
  wpAny (model X.prog X.w) X.A (eval a X.env) (fun v s₁=>wpAny (model X.prog X.w) X.A (eval b X.env) (fun u s₂=>wpAny (model X.prog X.w) X.A (f v u) Q X.xe s₂) X.xe s₁) X.xe s:=by
 refine bV (ha pins s σ H _ I h) fun v s1 ⟨x,H1,I1,r1,q1⟩=>?_
 refine bV (hb pins s1 σ H1 _ I1 q1) fun u s2 ⟨y,H2,I2,r2,q2⟩=>?_
 exact hf v u s2 x y H2 I2 r1 r2 q2
def sQ(i:Nat):TE:=fun σ H Q=>∃ v,σ[i]?=some (some v)∧Q v H
def tC(v:V):TE:=fun _ H Q=>Q v H
theorem Fn{i:Nat}{x:Str}{pos:Pos}(hN:X.N[i]?=some x)(hv:Hr X.env.scope x)(hd:(x == ("__debug__":Str))=false:=by decide)(hcd:(x == ("__classdict__":Str))=false:=by decide):PE X (.Name x pos) (sQ i):=by
 intro pins s σ H Q I h
 obtain⟨v,e,h⟩:=h
 obtain⟨m,hn,hl⟩:=I.loc
 obtain⟨u,r,l⟩:=hl i x v hN e hv
 have fin:EP X pins σ Q u s:=⟨v,H,I,r,h⟩
 rcases l with ⟨hk,hm⟩ | ⟨hk,c,hc,hcell⟩
 ·exact wpAny_Name (wpAny_loadName_local I.ok.kind hk hn hm fin) hd
 ·rcases hk with hk | hk
  ·exact wpAny_Name (wpAny_loadName_cell I.ok.kind hk hc hcell fin) hd
  ·exact wpAny_Name (wpAny_loadName_free I.ok.kind hk hc hcell fin hcd) hd
theorem aG{i j pos}:PE X (.Constant (.int i) j pos) (tC (.int i)):=fun _ _ _ H _ I h=>wpAny_Constant_int ⟨.int i,H,I.tok _,⟨_,rfl⟩,h⟩
theorem tO{b j pos}:PE X (.Constant (.bool b) j pos) (tC (.bl b)):=fun _ _ _ H _ I h=>Constant_bool ⟨.bl b,H,I,rfl,h⟩
theorem hV{j pos}:PE X (.Constant .none j pos) (tC .non):=fun _ _ _ H _ I h=>Constant_none ⟨.non,H,I,rfl,h⟩
theorem cA{x j pos}:PE X (.Constant (.str x) j pos) (tC (.str x)):=fun _ _ _ H _ I h=>Calls.Constant_str ⟨.str x,H,I.tok _,⟨_,rfl⟩,h⟩
def Gl(X:Cx)(x:Str):Prop:=X.env.kindOf x=some .globalImplicit
theorem sT{E:Value→Shared→Prop}{pins:List (Addr×Obj)}{s:Shared}{σ:St}{H:Hp}{x:Str}{u:Value}{pos:Pos}{Q:Value→Shared→Prop}(I:Inv X pins σ H s)(hg:Gl X x)(hm:X.mg x=some u)(h:Q u s)
  (hd:(x == ("__debug__":Str))=false:=by decide):wpAny (model X.prog X.w) X.A (eval (.Name x pos) X.env) Q E s :=
 aXO I.ok.kind hg (Calls.loadGlobal_global (by rw[I.ok.glob];exact I.mod.glob.keeps I.bk) hm h) hd
theorem hU{E:Value→Shared→Prop}{pins:List (Addr×Obj)}{s:Shared}{σ:St}{H:Hp}{x:Str}{u:Value}{pos:Pos}{Q:Value→Shared→Prop}(I:Inv X pins σ H s)(hg:Gl X x)(hm:X.mg x=none)(hv:bootBuiltins x=some u)(h:Q u s)
  (hn:x≠"__name__":=by decide) (hd:(x == ("__debug__":Str))=false:=by decide):wpAny (model X.prog X.w) X.A (eval (.Name x pos) X.env) Q E s:=by
 obtain⟨mb,h1,h2⟩:=I.mod.blt
 exact aXO I.ok.kind hg (Calls.loadGlobal_builtin (by rw[I.ok.glob];exact I.mod.glob.keeps I.bk) hm (by rw[I.ok.blt];exact h1.keeps I.bk) ((h2 x hn).trans hv) h) hd
theorem nA{x:Str}{v:V}{u:Value}{pos:Pos}(hg:Gl X x)(hm:X.mg x=some u)(r:RelV v u)(hd:(x == ("__debug__":Str))=false:=by decide):PE X (.Name x pos) (tC v) :=
 fun _ _ _ H _ I h=>sT I hg hm ⟨v,H,I,r,h⟩ hd
variable {a b:Expr}{ta tb:TE}{pos:Pos}
def PC(X:Cx)(op:CmpOp)(a b:Expr)(t:TE):Prop :=
 ∀ (pins:List (Addr×Obj)) (s:Shared) (σ:St) (H:Hp) (Q:VK),Inv X pins σ H s→t σ H Q →
  wpAny (model X.prog X.w) X.A (eval a X.env) (fun v s₁=>wpAny (model X.prog X.w) X.A (eval b X.env) (fun u s₂=>wpAny (model X.prog X.w) X.A (compareOp op v u) (EP X pins σ Q) X.xe s₂) X.xe s₁) X.xe s
def tB(t:TE):TT:=fun σ H Q=>t σ H fun x H1=>∃ c,x=.bl c∧Q c H1
theorem BO{op:CmpOp}{t:TE}(h:PC X op a b t)(h1:behindInMarks op b=false:=by first | exact nobehind _ (by decide) (by decide) | rfl):PT X (.Compare a [op] [b] pos) (tB t):=by
 intro pins s σ H Q I hw
 refine wpAny_isTrue_Compare1 (bV (h pins s σ H _ I hw) fun v s1 h1=>bV h1 fun u s2 h2=>bV h2 fun c s3 ⟨x,H1,I1,r1,q1⟩=>?_) h1
 obtain⟨d,rfl,q⟩:=q1
 cases r1
 exact wpAny_truthy_bool ⟨H1,I1,q⟩
theorem iJ{e:Expr}{t:TE}(h:PE X e t)(he:∀ whole,isTrue e X.env whole=(do let v ← whole;standAt e.pos;holding [v] (truthy v)):=by intro _;rfl):PT X e (tB t):=by
 intro pins s σ H Q I hw
 refine isTrue_plain (bV (h pins s σ H _ I hw) fun v s1 ⟨x,H1,I1,r1,q1⟩=>?_) (he _)
 obtain⟨d,rfl,q⟩:=q1
 cases r1
 exact wpAny_truthy_bool ⟨H1,I1,q⟩
variable {tA tB':TT}{rest:List Expr}
def Ie(t u:TT):TT:=fun σ H Q=>t σ H fun c H1=>if c=true then u σ H1 Q else Q false H1
def Jk(t u:TT):TT:=fun σ H Q=>t σ H fun c H1=>if c=true then Q true H1 else u σ H1 Q
def Ib(t:TT):TT:=fun σ H Q=>t σ H fun c H1=>Q (!c) H1
theorem pw_and1(ha:PT X a tA):PW X (.BoolOp .And [a] pos) tA:=by
 intro wh pins s σ H Q I h
 refine isTrue_and (bV (ha pins s σ H Q I h) fun c s1 e=>?_)
 cases c with
 | true=>exact isTrue_and_nil e
 | false=>exact e
theorem pw_or1(ha:PT X a tA):PW X (.BoolOp .Or [a] pos) tA:=by
 intro wh pins s σ H Q I h
 refine isTrue_or (bV (ha pins s σ H Q I h) fun c s1 e=>?_)
 cases c with
 | false=>exact isTrue_or_nil e
 | true=>exact e
theorem pw_and(ha:PT X a tA)(hb:PW X (.BoolOp .And (b::rest) pos) tB'):PW X (.BoolOp .And (a::b::rest) pos) (Ie tA tB'):=by
 intro wh pins s σ H Q I h
 refine isTrue_and (bV (ha pins s σ H _ I h) fun c s1 ⟨H1,I1,q1⟩=>?_)
 cases c with
 | true=>exact hb wh pins s1 σ H1 Q I1 q1
 | false=>exact⟨H1,I1,q1⟩
theorem pw_or(ha:PT X a tA)(hb:PW X (.BoolOp .Or (b::rest) pos) tB'):PW X (.BoolOp .Or (a::b::rest) pos) (Jk tA tB'):=by
 intro wh pins s σ H Q I h
 refine isTrue_or (bV (ha pins s σ H _ I h) fun c s1 ⟨H1,I1,q1⟩=>?_)
 cases c with
 | true=>exact⟨H1,I1,q1⟩
 | false=>exact hb wh pins s1 σ H1 Q I1 q1
theorem wU(ha:PT X a tA):PT X (.UnaryOp .Not a pos) (Ib tA):=by
 intro pins s σ H Q I h
 exact isTrue_not (ha pins s σ H (fun c H1=>Q (!c) H1) I h)
def HK(ta tb:TE):TE:=fun σ H Q=>ta σ H fun x H1=>∃ c,x=.bl c∧if c=true then tb σ H1 Q else Q (.bl false) H1
theorem B3{op}{t:TE}(h:PE X a t):PE X (.BoolOp op [a] pos) t:=fun pins s σ H Q I hw=>BoolOp_one (h pins s σ H Q I hw)
theorem A8(ha:PE X a ta)(hb:PE X (.BoolOp .And (b::rest) pos) tb):PE X (.BoolOp .And (a::b::rest) pos) (HK ta tb):=by
 intro pins s σ H Q I h
 refine BoolOp_and (bV (ha pins s σ H _ I h) fun v s1 ⟨x,H1,I1,r1,q1⟩=>?_)
 obtain⟨c,rfl,q1⟩:=q1
 cases r1
 refine wpAny_truthy_bool ?_
 cases c with
 | true=>exact hb pins s1 σ H1 Q I1 q1
 | false=>exact⟨.bl false,H1,I1,rfl,q1⟩
def Jo(t:TT)(ta tb:TE):TE:=fun σ H Q=>t σ H fun c H1=>if c=true then ta σ H1 Q else tb σ H1 Q
theorem kL{c:Expr}(hc:PT X c tA)(ha:PE X a ta)(hb:PE X b tb):PE X (.IfExp c a b pos) (Jo tA ta tb):=by
 intro pins s σ H Q I h
 refine wpAny_IfExp (bV (hc pins s σ H _ I h) fun d s1 ⟨H1,I1,q1⟩=>?_)
 cases d with
 | true=>exact ha pins s1 σ H1 Q I1 q1
 | false=>exact hb pins s1 σ H1 Q I1 q1
end
def SqL(K:b5)(H:Hp)(a:Addr)(xs:List V):Prop :=
 Rd H a (.lst xs) ∨
  ∃ (o:Obj) (its:Array Value) (n:Nat),K.lookup a=some o∧o.cls=.type "list"∧o.dict=none∧o.data=.seq its n∧its.size≤sizeLine∧Vals xs its.toList
def SqT(K:b5)(H:Hp)(a:Addr)(xs:List V):Prop :=
 Rd H a (.tup xs) ∨
  ∃ (o:Obj) (its:Array Value) (n:Nat),K.lookup a=some o∧o.cls=.type "tuple"∧o.data=.seq its n∧its.size≤sizeLine∧Vals xs its.toList
def IC:Value→Option V
 | .none=>some .non
 | .bool b=>some (.bl b)
 | .int i _=>some (.int i)
 | .str x _=>some (.str x)
 | .bytes b _=>some (.byt b)
 | .float b _=>some (.flt b)
 | .ref a=>some (.ref a)
 | .type n=>some (.ty n)
 | _=>none
theorem RelV.abs{x:V}{u:Value}(r:RelV x u):IC u=some x:=by
 cases x with
 | non=>cases r;rfl
 | bl _=>cases r;rfl
 | int _=>obtain⟨t,rfl⟩:=r;rfl
 | str _=>obtain⟨t,rfl⟩:=r;rfl
 | byt _=>obtain⟨t,rfl⟩:=r;rfl
 | flt _=>obtain⟨t,rfl⟩:=r;rfl
 | ref _=>cases r;rfl
 | ty _=>cases r;rfl
theorem RelV.inj{x y:V}{u:Value}(r:RelV x u)(q:RelV y u):x=y:=d6 (r.abs.symm.trans q.abs)
theorem Vals.inj:∀ {xs ys:List V} {us:List Value},Vals xs us→Vals ys us→xs=ys
 | _,_,_,.nil,.nil=>rfl
 | _,_,_,.cons r t,.cons r' t'=>by rw[r.inj r',Vals.inj t t']
section
variable {X:Cx}{pins:List (Addr×Obj)}{σ:St}{H:Hp}{s:Shared}{a:Addr}{xs ys:List V}
theorem SqL.of{K:b5}(h:H a=some (.lst xs)):SqL K H a xs:=.inl (.inl h)
theorem SqT.of{K:b5}(h:H a=some (.tup xs)):SqT K H a xs:=.inl (.inl h)
theorem Inv.list(I:Inv X pins σ H s)(h:SqL X.K H a xs):∃ its:List Value,Vals xs its∧PlainL s.heap a its.toArray∧xs.length≤sizeLine:=by
 rcases h with h | ⟨o,its,n,hk,hc,hd,hs,hz,r⟩
 ·obtain⟨z,its,n,r,e⟩:=h.ok I.hok
  exact⟨its,r,⟨_,n,e,rfl,rfl,rfl⟩,z⟩
 ·refine⟨its.toList,r,⟨o,n,I.kIn a o hk,hc,hd,by simpa using hs⟩,?_⟩
  have e:=r.length
  simp only [t5] at e
  omega
theorem Inv.tuple(I:Inv X pins σ H s)(h:SqT X.K H a xs):∃ its:List Value,Vals xs its∧IsTup s.heap a its.toArray∧xs.length≤sizeLine:=by
 rcases h with h | ⟨o,its,n,hk,hc,hs,hz,r⟩
 ·obtain⟨z,its,r,p,_⟩:=h.ok I.hok
  exact⟨its,r,p,z⟩
 ·refine⟨its.toList,r,⟨o,I.kIn a o hk,hc,n,by simpa using hs⟩,?_⟩
  have e:=r.length
  simp only [t5] at e
  omega
theorem Inv.list_inj(I:Inv X pins σ H s)(h:SqL X.K H a xs)(h':SqL X.K H a ys):xs=ys:=by
 obtain⟨its,r,⟨o,n,e,_,_,d⟩,_⟩:=I.list h
 obtain⟨its',r',⟨o',n',e',_,_,d'⟩,_⟩:=I.list h'
 rw[e] at e';cases e'
 rw[d] at d'
 injection d' with d1 _
 have:its=its':=by simpa using congrArg Array.toList d1
 subst this
 exact r.inj r'
theorem Inv.tuple_inj(I:Inv X pins σ H s)(h:SqT X.K H a xs)(h':SqT X.K H a ys):xs=ys:=by
 obtain⟨its,r,⟨o,e,_,n,d⟩,_⟩:=I.tuple h
 obtain⟨its',r',⟨o',e',_,n',d'⟩,_⟩:=I.tuple h'
 rw[e] at e';cases e'
 rw[d] at d'
 injection d' with d1 _
 have:its=its':=by simpa using congrArg Array.toList d1
 subst this
 exact r.inj r'
end
abbrev Cx.wish(X:Cx)(E:Value→Shared→Prop):Cx:={ X with xe:=E }
abbrev Cx.nox(X:Cx):Cx:=X.wish fun _ _=>False
theorem Cx.Ok.wish{X:Cx}(ok:X.Ok)(E:Value→Shared→Prop):(X.wish E).Ok :=
 ⟨ok.mod,ok.kind,ok.glob,ok.blt,ok.above,ok.inj,ok.has,ok.cab,ok.hd,ok.frames,ok.stk,ok.exf,ok.bs,ok.bsz,ok.noex,ok.exfs,ok.funs,ok.frf⟩
theorem Cx.Ok.unwish{X:Cx}{E:Value→Shared→Prop}(ok:(X.wish E).Ok):X.Ok :=
 ⟨ok.mod,ok.kind,ok.glob,ok.blt,ok.above,ok.inj,ok.has,ok.cab,ok.hd,ok.frames,ok.stk,ok.exf,ok.bs,ok.bsz,ok.noex,ok.exfs,ok.funs,ok.frf⟩
section
variable {X:Cx}{pins:List (Addr×Obj)}{σ:St}{H:Hp}{s:Shared}{E:Value→Shared→Prop}
theorem Inv.wish(I:Inv X pins σ H s)(E:Value→Shared→Prop):Inv (X.wish E) pins σ H s:=⟨I.ok.wish E,I.os,I.bare,I.base,I.loc,I.cell,I.free,I.freeC,I.pin,I.hok,I.len⟩
theorem Inv.unwish(I:Inv (X.wish E) pins σ H s):Inv X pins σ H s:=⟨I.ok.unwish,I.os,I.bare,I.base,I.loc,I.cell,I.free,I.freeC,I.pin,I.hok,I.len⟩
theorem SP.unwish{D:Ends}{f:Flow}{s':Shared}(h:SP (X.wish E) pins D f s'):SP X pins D f s':=by
 cases f with
 | next=>obtain⟨σ',H',I,q⟩:=h;exact⟨σ',H',I.unwish,q⟩
 | brk=>obtain⟨σ',H',I,q⟩:=h;exact⟨σ',H',I.unwish,q⟩
 | cont=>obtain⟨σ',H',I,q⟩:=h;exact⟨σ',H',I.unwish,q⟩
 | ret u=>obtain⟨v,σ',H',I,r,q⟩:=h;exact⟨v,σ',H',I.unwish,r,q⟩
theorem PSs.nox{st:List Stmt}{t:TS}(h:PSs X.nox st t):PSs X st t:=fun pins s σ H D I hw =>
 wpAny_mono (h pins s σ H D (I.wish _) hw) (fun _ _ q=>q.unwish) fun _ _ z=>False.elim z
end
section
variable {X:Cx}{st:Stmt}{rest:List Stmt}{t u:TS}{e:Expr}{te:TE}{pos:Pos}
def DU:TS:=fun D σ H=>D.nx σ H
def mO(t u:TS):TS:=fun D σ H=>t { D with nx:=u D } σ H
theorem bS:PSs X [] DU:=fun _ _ σ H _ I h=>wpAny_execs_nil ⟨σ,H,I,h⟩
theorem aD(h1:PS X st t)(h2:PSs X rest u):PSs X (st::rest) (mO t u):=by
 intro pins s σ H D I h
 refine wpAny_execs_cons (bV (h1 pins s σ H { D with nx:=u D } I h) fun f s1 q=>?_)
 cases f with
 | next =>
  obtain⟨σ',H',I',q⟩:=q
  exact h2 pins s1 σ' H' D I' q
 | ret v=>exact q
 | brk=>exact q
 | cont=>exact q
theorem aF(h1:PS X st t):PSs X [st] t:=by
 intro pins s σ H D I h
 refine wpAny_execs_cons (bV (h1 pins s σ H D I h) fun f s1 q=>?_)
 cases f with
 | next=>exact wpAny_execs_nil q
 | ret v=>exact q
 | brk=>exact q
 | cont=>exact q
theorem Inv.quiet{pins:List (Addr×Obj)}{σ:St}{H:Hp}{s:Shared}(I:Inv X pins σ H s):interactive X.env=false:=by simp[interactive,I.ok.kind]
def HG(te:TE):TS:=fun D σ H=>te σ H fun _ H1=>D.nx σ H1
theorem bR(he:PE X e te)(hs:swapsWith e none pos.line X.env=pure false:=by rfl):PS X (.Expr e pos) (HG te):=by
 intro pins s σ H D I h
 exact wpAny_Expr_any (bV (he pins s σ H _ I h) fun v s1 ⟨x,H1,I1,r1,q1⟩=>⟨σ,H1,I1,q1⟩) I.quiet hs
def Iv(te:TE):TS:=fun D σ H=>te σ H D.rt
theorem aX(he:PE X e te):PS X (.Return (some e) pos) (Iv te):=by
 intro pins s σ H D I h
 exact wpAny_Return_some (bV (he pins s σ H _ I h) fun v s1 ⟨x,H1,I1,r1,q1⟩=>⟨x,σ,H1,I1,r1,q1⟩)
def IA(c:TT)(t u:TS):TS:=fun D σ H=>c σ H fun b H1=>if b=true then t D σ H1 else u D σ H1
theorem cV{c:Expr}{a b:List Stmt}{tc:TT}(hc:PT X c tc)(ha:PSs X a t)(hb:PSs X b u):PS X (.If c a b pos) (IA tc t u):=by
 intro pins s σ H D I h
 refine wpAny_If (bV (hc pins s σ H _ I h) fun d s1 ⟨H1,I1,q1⟩=>?_)
 cases d with
 | true=>exact ha pins s1 σ H1 D I1 q1
 | false=>exact hb pins s1 σ H1 D I1 q1
end
abbrev TG:=V→St→Hp→(St→Hp→Prop)→Prop
abbrev EL:=List V→St→Hp→(St→Hp→Prop)→Prop
def PG(X:Cx)(target:Expr)(t:TG):Prop :=
 ∀ (pins:List (Addr×Obj)) (s:Shared) (σ:St) (H:Hp) (v:V) (u:Value) (Q:St→Hp→Prop),Inv X pins σ H s→RelV v u→t v σ H Q →
  wpAny (model X.prog X.w) X.A (assign target X.env u) (fun _ s'=>∃ σ' H',Inv X pins σ' H' s'∧Q σ' H') X.xe s
def HU(X:Cx)(ts:List Expr)(t:EL):Prop :=
 ∀ (pins:List (Addr×Obj)) (s:Shared) (σ:St) (H:Hp) (vs:List V) (us:List Value) (Q:St→Hp→Prop),Inv X pins σ H s→Vals vs us→t vs σ H Q →
  wpAny (model X.prog X.w) X.A (assignInOrder ((assignEach ts X.env).map (·.2)) us) (fun _ s'=>∃ σ' H',Inv X pins σ' H' s'∧Q σ' H') X.xe s
abbrev Fo:=V→V→V→Hp→(Hp→Prop)→Prop
def Hd(X:Cx)(t:Fo):Prop :=
 ∀ (pins:List (Addr×Obj)) (s:Shared) (σ:St) (H:Hp) (o i v:V) (ov iv u:Value) (Q:Hp→Prop),Inv X pins σ H s→RelV o ov→RelV i iv→RelV v u→t o i v H Q →
  wpAny (model X.prog X.w) X.A (setItem ov iv u) (fun _ s'=>∃ H',Inv X pins σ H' s'∧Q H') X.xe s
abbrev H_:=V→V→Hp→VK→Prop
def IV(X:Cx)(op:Operator)(t:H_):Prop :=
 ∀ (pins:List (Addr×Obj)) (s:Shared) (σ:St) (H:Hp) (x y:V) (v u:Value) (Q:VK),Inv X pins σ H s→RelV x v→RelV y u→t x y H Q →
  wpAny (model X.prog X.w) X.A (inplaceOp op v u) (EP X pins σ Q) X.xe s
section
variable {X:Cx}{pos:Pos}
def D9(i:Nat):TG:=fun v σ H Q=>Q (σ.set i (some v)) H
theorem bA{i:Nat}{x:Str}(hN:X.N.Nodup)(hi:X.N[i]?=some x)(hx:GA X.env.scope x)(hf:X.fn x=true∨X.env.scope.names.lookup x=some .local:=by first | exact .inl rfl | exact .inr rfl | assumption):PG X (.Name x pos) (D9 i):=by
 intro pins s σ H v u Q I r h
 exact wpAny_assign_Name (gF I hN hi hx r (fun s' I'=>⟨_,H,I',h⟩) hf)
def Il:EL:=fun vs σ H Q=>vs=[]∧Q σ H
def GE(t:TG)(u:EL):EL:=fun vs σ H Q=>∃ v r,vs=v::r∧t v σ H fun σ' H'=>u r σ' H' Q
theorem fZ:HU X [] Il:=by
 intro pins s σ H vs us Q I r h
 obtain⟨e,h⟩:=h
 subst e
 cases r
 exact assignInOrder_nil ⟨σ,H,I,h⟩
theorem cD{e:Expr}{es:List Expr}{t:TG}{u:EL}(h1:PG X e t)(h2:HU X es u)
  (hs:(assignEach (e::es) X.env).map (·.2)=assign e X.env::(assignEach es X.env).map (·.2):=by rfl):HU X (e::es) (GE t u):=by
 intro pins s σ H vs us Q I r h
 obtain⟨v,vr,e1,h⟩:=h
 subst e1
 cases r with
 | cons r rr =>
  rw[hs]
  refine assignInOrder_cons (bV (h1 pins s σ H _ _ _ I r h) fun _ s1 ⟨σ1,H1,I1,q1⟩=>?_)
  exact h2 pins s1 σ1 H1 _ _ Q I1 rr q1
def Id(to ti:TE)(t:Fo):TG:=fun v σ H Q=>to σ H fun o H1=>ti σ H1 fun i H2=>t o i v H2 fun H3=>Q σ H3
theorem dZ{o i:Expr}{to ti:TE}{t:Fo}(ho:PE X o to)(hi:PE X i ti)(hs:Hd X t)
  (ha:∀ v,assign (.Subscript o i pos) X.env v=(do
   let ov ← holding [v] (eval o X.env)
   let iv ← holding [v,ov] (eval i X.env)
   standAt pos
   holding [v,ov,iv] (setItem ov iv v)
   release [v,ov,iv] []):=by intro _;rfl):PG X (.Subscript o i pos) (Id to ti t):=by
 intro pins s σ H v u Q I r h
 rw[ha]
 refine wpAny_bind (wpAny_holding (bV (ho pins s σ H _ I h) fun ov s1 ⟨x,H1,I1,r1,q1⟩=>?_))
 refine wpAny_bind (wpAny_holding (bV (hi pins s1 σ H1 _ I1 q1) fun iv s2 ⟨y,H2,I2,r2,q2⟩=>?_))
 refine wpAny_bind (wpAny_standAt (wpAny_bind (wpAny_holding (bV (hs pins s2 σ H2 x y v ov iv u _ I2 r1 r2 r q2) fun _ s3 ⟨H3,I3,q3⟩=>?_))))
 exact wpAny_release ⟨σ,H3,I3,q3⟩
def Gk(te:TE)(g:TG):TS:=fun D σ H=>te σ H fun x H1=>g x σ H1 D.nx
theorem dS{tg e:Expr}{te:TE}{g:TG}(he:PE X e te)(hg:PG X tg g)(hs:swapsWithSole [tg] e pos.line X.env=pure false:=by rfl)(hw:swappedStores [tg] e X.env=pure none:=by rfl)
  (h1:(assignEach [tg] X.env).map (·.2)=[assign tg X.env]:=by rfl):PS X (.Assign [tg] e pos) (Gk te g):=by
 intro pins s σ H D I h
 refine wpAny_Assign_stores (bV (he pins s σ H _ I h) fun v s1 ⟨x,H1,I1,r1,q1⟩=>?_) hs hw
 rw[h1]
 exact bV (hg pins s1 σ H1 x v _ I1 r1 q1) fun _ s2 q=>q
theorem aL{i:Nat}{x:Str}{e:Expr}{te:TE}{pos':Pos}(hN:X.N.Nodup)(hi:X.N[i]?=some x)(hx:GA X.env.scope x)(he:PE X e te)(hs:swapsWith e (some (.Name x pos')) pos.line X.env=pure false:=by rfl)(hf:X.fn x=true∨X.env.scope.names.lookup x=some .local:=by first | exact .inl rfl | exact .inr rfl | assumption) :
  PS X (.Assign [.Name x pos'] e pos) (Gk te (D9 i)):=by
 intro pins s σ H D I h
 refine wpAny_Assign_Name (bV (he pins s σ H _ I h) fun v s1 ⟨y,H1,I1,r1,q1⟩=>?_) hs
 exact gF I1 hN hi hx r1 (fun s2 I2=>⟨_,H1,I2,q1⟩) hf
def Iw(i j:Nat)(ta:TA):TS:=fun D σ H=>ta σ H fun vs H1=>∃ v w,vs=[v,w]∧D.nx ((σ.set i (some v)).set j (some w)) H1
theorem AY{i j:Nat}{x y:Str}{a b:Expr}{ta:TA}{px py pt:Pos}{kt k2 pt2}(hc:X.calm=true)(hN:X.N.Nodup)(hi:X.N[i]?=some x)(hj:X.N[j]?=some y)(hij:i≠j)
  (hx:X.env.scope.names.lookup x=some .local) (hy:X.env.scope.names.lookup y=some .local) (ha:PA X [a,b] ta)
  (hw:swappedStores [.Tuple [.Name x px,.Name y py] kt pt] (.Tuple [a,b] k2 pt2) X.env=pure (some [x,y]))
  (hs:swapsWithSole [.Tuple [.Name x px,.Name y py] kt pt] (.Tuple [a,b] k2 pt2) pos.line X.env=pure false:=by rfl) :
  PS X (.Assign [.Tuple [.Name x px,.Name y py] kt pt] (.Tuple [a,b] k2 pt2) pos) (Iw i j ta):=by
 intro pins s σ H D I h
 rw[exec_Assign_arm]
 refine wpAny_bind (wpAny_standAt ?_)
 rw[hs]
 refine wpAny_bind (wpAny_pure ?_)
 rw[if_neg (by decide)]
 refine wpAny_bind (Tuple_ (bV (ha _ pins s σ H _ I h) fun us s1 ⟨vs,H1,I1,r1,q1⟩=>?_))
 obtain⟨v,w,e1,q1⟩:=q1
 subst e1
 obtain⟨u1,u2,rfl,rv,rw'⟩:∃ u1 u2,us=[u1,u2]∧RelV v u1∧RelV w u2:=by
  cases r1 with
  | cons p q =>
   cases q with
   | cons p' q' =>
    cases q'
    exact⟨_,_,rfl,p,p'⟩
 refine wpAny_newObj_type ?_ (by show 2≤sizeLine;decide)
 have I2:Inv X pins σ H1 { s1 with heap:=s1.heap.push { cls:=.type "tuple",data:=.seq [u1,u2].toArray } }:=I1.kept (t':=s1.toks) fun b o e=>b6 _ e
 rw[hw]
 refine wpAny_bind (wpAny_pure ?_)
 show wpAny (model X.prog X.w) X.A (do rule "assign.swapped-stores";let items ← unpackItems (.ref s1.heap.objs.size) 2 none;assignInOrder [fun v=>bindName X.env y v,fun v=>bindName X.env x v] items.reverse;pure Flow.next) _ _ _
 refine wpAny_bind (wpAny_rule (wpAny_bind (unpackItems_tuple (items:=#[u1,u2]) (I.ok.hd hc) (aXJ s1.heap _) fun h' hx'=>?_)))
 have I3:=I2.kept (h':=h') (t':=s1.toks) fun b o e=>hx' b o (g6 (c8 e)) e
 show wpAny _ _ (assignInOrder [fun v=>bindName X.env y v,fun v=>bindName X.env x v] [u2,u1] >>= fun _=>pure Flow.next) _ _ _
 refine wpAny_bind (assignInOrder_cons (wpAny_bindName (gF I3 hN hj (.inl hy) rw' (fun s2 I4=>?_) (.inr hy))))
 refine assignInOrder_cons (wpAny_bindName (gF I4 hN hi (.inl hx) rv (fun s3 I5=>assignInOrder_nil (wpAny_pure ?_)) (.inr hx)))
 rw[List.set_comm _ _ (y7 hij)] at I5
 exact⟨_,H1,I5,q1⟩
def IB(i:Nat)(te:TE)(ti:H_):TS:=fun D σ H=>∃ x,σ[i]?=some (some x)∧te σ H fun y H1=>ti x y H1 fun z H2=>D.nx (σ.set i (some z)) H2
theorem En{i:Nat}{x:Str}{e:Expr}{te:TE}{op:Operator}{ti:H_}{pos':Pos}(hN:X.N.Nodup)(hi:X.N[i]?=some x)(hx:GA X.env.scope x)(he:PE X e te)(ho:IV X op ti)(hf:X.fn x=true∨X.env.scope.names.lookup x=some .local:=by first | exact .inl rfl | exact .inr rfl | assumption) :
  PS X (.AugAssign (.Name x pos') op e pos) (IB i te ti):=by
 intro pins s σ H D I h
 obtain⟨v,e1,h⟩:=h
 obtain⟨m,hn,hl⟩:=I.loc
 have vis:Hr X.env.scope x:=by rcases hx with k | k;exact .inl k;exact .inr (.inl k)
 obtain⟨u,r,l⟩:=hl i x v hi e1 vis
 refine wpAny_AugAssign_Name ?_
 have go:wpAny (model X.prog X.w) X.A (eval e X.env) (fun w s₂=>wpAny (model X.prog X.w) X.A (inplaceOp op u w) (fun r s₃=>wpAny (model X.prog X.w) X.A (storeName X.env x r) (fun _=>SP X pins D .next) X.xe s₃) X.xe s₂) X.xe s:=by
  refine bV (he pins s σ H _ I h) fun w s1 ⟨y,H1,I1,r1,q1⟩=>?_
  refine bV (ho pins s1 σ H1 v y u w _ I1 r r1 q1) fun z s2 ⟨zv,H2,I2,r2,q2⟩=>?_
  exact gF I2 hN hi hx r2 (fun s3 I3=>⟨_,H2,I3,q2⟩) hf
 rcases l with ⟨hk,hm⟩ | ⟨hk,c,hc,hcell⟩
 ·exact wpAny_loadName_local I.ok.kind hk hn hm go
 ·rcases hk with hk | hk
  ·exact wpAny_loadName_cell I.ok.kind hk hc hcell go
  ·rcases hx with k | k
   ·have:X.env.scope.names.lookup x=some .free:=hk
    rw[k] at this;cases this
   ·have:X.env.scope.names.lookup x=some .free:=hk
    rw[k] at this;cases this
def Jp(f:Int→Int→Int):H_:=fun x y H Q=>∃ i j,x=.int i∧y=.int j∧Q (.int (f i j)) H
theorem Ed:IV X .Add (Jp fun i j=>i+j):=by
 intro pins s σ H x y v u Q I r1 r2 h
 obtain⟨i,j,e1,e2,q⟩:=h
 subst e1;subst e2
 obtain⟨t,rfl⟩:=r1
 obtain⟨t',rfl⟩:=r2
 exact iadd_int ⟨.int _,H,I.tok _,⟨_,rfl⟩,q⟩
end
section
variable {X:Cx}{pos:Pos}
def Ep(c:TT)(tb:TS):TS:=fun D σ H=>∃ W:Nat→St→Hp→Prop,(∃ m,W m σ H)∧∀ m σ H,W m σ H →
 c σ H fun b H1=>if b=true then ∃ N:St→Hp→Prop,(∀ σ' H',N σ' H'→∃ m',m' < m∧W m' σ' H')∧tb { D with nx:=N,ct:=N,bk:=D.nx } σ H1 else D.nx σ H1
theorem iO{c:Expr}{body:List Stmt}{tc:TT}{tb:TS}(hp:PassesOwn (model X.prog X.w) X.A X.env X.xe)(hc:PT X c tc)(hb:PSs X body tb):PS X (.While c body [] pos) (Ep tc tb):=by
 intro pins s σ H D I h
 obtain⟨W,⟨m0,w0⟩,turn⟩:=h
 refine wpAny_While (codeAny_whileLoop (fun n s'=>∃ σ' H',Inv X pins σ' H' s'∧W n σ' H') ?_ m0 ⟨σ,H,I,w0⟩)
 rintro n s1 ⟨σ1,H1,I1,w1⟩
 refine wpAny_passesOwn hp (bV (hc pins s1 σ1 H1 _ I1 (turn n σ1 H1 w1)) fun b s2 ⟨H2,I2,q2⟩=>?_)
 cases b with
 | true =>
  obtain⟨N,hN,q2⟩:=q2
  rw[if_pos rfl]
  refine wpAny_passesOwn hp (bV (hb pins s2 σ1 H2 _ I2 q2) fun f s3 q3=>?_)
  cases f with
  | next =>
   obtain⟨σ3,H3,I3,n3⟩:=q3
   obtain⟨m',hm,w3⟩:=hN σ3 H3 n3
   exact⟨m',hm,σ3,H3,I3,w3⟩
  | cont =>
   obtain⟨σ3,H3,I3,n3⟩:=q3
   obtain⟨m',hm,w3⟩:=hN σ3 H3 n3
   exact⟨m',hm,σ3,H3,I3,w3⟩
  | brk=>exact q3
  | ret v=>exact q3
 | false =>
  rw[if_neg i3]
  exact wpAny_execs_nil ⟨σ1,H2,I2,q2⟩
end
structure It where
 go:Nat→Hp→Prop
 yld:Nat→Hp→V→Hp→Prop
 stop:Nat→Hp→Prop
def gI(X:Cx)(pins:List (Addr×Obj))(H:Hp)(b:Addr):Prop :=
 H b=none∧b≠X.env.locals∧b ∉ X.fs∧(b∈X.ex∨X.s₀.heap.objs.size≤b)∧(∀ x c,X.env.cells.lookup x=some c→c≠b)∧∀ p∈X.pn++pins,p.1≠b
theorem Inv.fpOk{X:Cx}{pins:List (Addr×Obj)}{σ:St}{H H':Hp}{s:Shared}{b:Addr}(I:Inv X pins σ H s)(hb:s.heap.objs.size≤b)(hn:H' b=none):gI X pins H' b:=by
 refine⟨hn,aQK (l6 I.lt hb),I.nofs hb,.inr (k8 I.sz hb),fun x c e z=>?_,fun p hp z=>?_⟩
 ·obtain⟨v,q⟩:=I.cell x c e
  exact absurd (l6 q.lt (by rw[z];exact hb)) (aQE _)
 ·exact absurd (l6 (c8 (I.pin p hp).1) (by rw[z];exact hb)) (aQE _)
structure Turn(P:Program)(w:World)(K:b5)(tg:Expr)(J:It)(fp:List Addr)(it:Addr)(tn:Nat→Heap→Prop):Prop where
 mem:it∈fp
 obj:∀ i h,tn i h→∀ b∈fp,∃ o,h.get? b=some o∧∀ v,o.data≠.cell v
 keep:∀ i h h',tn i h→(∀ b∈fp,∀ o,h.get? b=some o→h'.get? b=some o)→tn i h'
 item:∀ (X:Cx),X.prog=P→X.w=w→X.K=K→X.calm=true→∀ (i:Nat) (pins:List (Addr×Obj)) (s:Shared) (σ:St) (H:Hp) (E:Value→Shared→Prop),Inv X pins σ H s→(∀ b∈fp,gI X pins H b)→tn i s.heap→J.go i H →
  wpAny (model P w) X.A (pyNext (.ref it)) (fun r s1=>∃ u,r=some u ∧
   wpAny (model P w) X.A (letOwnedTupleGo tg (.ref it) u) (fun _ s2=>∃ x H',Inv X pins σ H' s2∧RelV x u∧J.yld i H x H'∧tn (i+1) s2.heap∧∀ b∈fp,H' b=none) E s1) E s
 done:∀ (X:Cx),X.prog=P→X.w=w→X.K=K→X.calm=true→∀ (i:Nat) (pins:List (Addr×Obj)) (s:Shared) (σ:St) (H:Hp) (E:Value→Shared→Prop),Inv X pins σ H s→(∀ b∈fp,gI X pins H b)→tn i s.heap→J.stop i H →
  wpAny (model P w) X.A (pyNext (.ref it)) (fun r s1=>r=none∧Inv X pins σ H s1) E s
 self:∀ (A:Around) (i:Nat) (s:Shared) (Q:Value→Shared→Prop) (E:Value→Shared→Prop),tn i s.heap→Q (.ref it) s→wpAny (model P w) A (pyIter (.ref it)) Q E s
abbrev TI:=St→Hp→(It→Hp→Prop)→Prop
def IR(X:Cx)(pins:List (Addr×Obj))(σ:St)(tg:Expr)(R:It→Hp→Prop)(itv:Value)(s2:Shared):Prop :=
 ∃ (it:Addr) (fp:List Addr) (tn:Nat→Heap→Prop) (J:It) (H':Hp),itv=.ref it∧Inv X pins σ H' s2∧Turn X.prog X.w X.K tg J fp it tn∧tn 0 s2.heap∧(∀ b∈fp,gI X pins H' b)∧R J H'
def PI(X:Cx)(tg iter:Expr)(wi:TI):Prop :=
 ∀ (pins:List (Addr×Obj)) (s:Shared) (σ:St) (H:Hp) (R:It→Hp→Prop),Inv X pins σ H s→wi σ H R →
  wpAny (model X.prog X.w) X.A (eval iter X.env) (fun v s1=>wpAny (model X.prog X.w) X.A (pyIter v) (IR X pins σ tg R) X.xe s1) X.xe s
theorem pU{M:Model}{A:Around}{E:Value→Shared→Prop}{s:Shared}{tg:Expr}{it:Addr}{u:Value}{o:Obj}{n:String}{vs:Array Value}{Q:Unit→Shared→Prop}(ho:s.heap.get? it=some o)(hc:o.cls=.type n)(hd:o.data=.fields vs)
  (hn:["enumerate","zip","dict_itemiterator","dict_reverseitemiterator","odict_iterator","itertools.zip_longest","itertools.pairwise"].contains n=false) (hQ:Q () s):wpAny M A (letOwnedTupleGo tg (.ref it) u) Q E s:=by
 unfold letOwnedTupleGo
 cases tg <;> first
  | exact wpAny_pure hQ
  | (cases u <;> first
    | exact wpAny_pure hQ
    | (refine wpAny_bind (wpAny_load ho ?_)
       rw[hc,hd]
       show wpAny M A (if (["enumerate","zip","dict_itemiterator","dict_reverseitemiterator","odict_iterator","itertools.zip_longest","itertools.pairwise"].contains n && vs[0]? == some (rawInt _))=true then _ else _) Q E s
       rw[if_neg (by intro h;rw[hn,Bool.false_and] at h;cases h)]
       exact wpAny_pure hQ))
def FP(K:b5)(a:Addr):It :=
 ⟨fun i H=>∃ xs x,SqL K H a xs∧xs[i]?=some x,fun i H x H'=>H'=H∧∀ xs,SqL K H a xs→xs[i]?=some x,fun i H=>∃ xs,SqL K H a xs∧xs.length≤i⟩
def FR(K:b5)(a:Addr):It :=
 ⟨fun i H=>∃ xs x,SqT K H a xs∧xs[i]?=some x,fun i H x H'=>H'=H∧∀ xs,SqT K H a xs→xs[i]?=some x,fun i H=>∃ xs,SqT K H a xs∧xs.length≤i⟩
def DZ(lo:Int)(n:Nat):It:=⟨fun i _=>i<n,fun i H x H'=>H'=H∧x=.int (lo+i),fun i _=>n≤i⟩
theorem zY{P:Program}{w:World}{K:b5}{tg:Expr}(a it:Addr):Turn P w K tg (FP K a) [it] it (fun i h=>h.IsListIter it a i) where
 mem:=by simp
 obj:=fun i h st b hb=>by
  have e:b=it:=by simpa using hb
  subst e
  obtain⟨o,e,c,d⟩:=st
  exact⟨o,e,fun v z=>by rw[d] at z;cases z⟩
 keep:=fun i h h' st k=>st.at fun o e=>k it (by simp) o e
 item:=by
  intro X hP hw hK hc i pins s σ H E I hf st hg
  subst hP hw hK
  obtain⟨xs,x,hq,hx⟩:=hg
  obtain⟨its,rv,p,hz⟩:=I.list hq
  obtain⟨u,hu,ru⟩:=rv.get hx
  obtain⟨f0,f1,f2,f3,f4,f5⟩:=hf it (by simp)
  refine wpAny_pyNext_list_item st p.isList (x:=u) (by simpa using hu) fun h' st' sb=>?_
  have I1:Inv X pins σ H { s with heap:=h' }:=I.turned (t':=s.toks) (fun b o hb e=>(sb.2 b hb).trans e) f0 f1 f3 f4 f5
  obtain⟨o,e,c,d⟩:=id st'
  exact⟨u,rfl,pU (s:={ s with heap:=h' }) e c d (by decide) ⟨x,H,I1,ru,⟨rfl,fun ys hy=>by rw[I.list_inj hy hq];exact hx⟩,st',fun b hb=>(hf b hb).1⟩⟩
 done:=by
  intro X hP hw hK hc i pins s σ H E I hf st hg
  subst hP hw hK
  obtain⟨xs,hq,hx⟩:=hg
  obtain⟨its,rv,p,hz⟩:=I.list hq
  obtain⟨f0,f1,f2,f3,f4,f5⟩:=hf it (by simp)
  have hl:=rv.length
  exact wpAny_pyNext_list_end (I.ok.hd hc) st p.isList (by simp;omega) fun h' eb=>⟨rfl,I.turned (t':=s.toks) (fun b o hb e=>eb b o hb e) f0 f1 f3 f4 f5⟩
 self:=fun _ _ _ _ _ st h=>wpAny_pyIter_listiter st h
theorem vX{P:Program}{w:World}{K:b5}{tg:Expr}(a it:Addr):Turn P w K tg (FR K a) [it] it (fun i h=>h.IsTupleIter it a i) where
 mem:=by simp
 obj:=fun i h st b hb=>by
  have e:b=it:=by simpa using hb
  subst e
  obtain⟨o,e,c,d⟩:=st
  exact⟨o,e,fun v z=>by rw[d] at z;cases z⟩
 keep:=fun i h h' st k=>st.at fun o e=>k it (by simp) o e
 item:=by
  intro X hP hw hK hc i pins s σ H E I hf st hg
  subst hP hw hK
  obtain⟨xs,x,hq,hx⟩:=hg
  obtain⟨its,rv,p,hz⟩:=I.tuple hq
  obtain⟨u,hu,ru⟩:=rv.get hx
  obtain⟨f0,f1,f2,f3,f4,f5⟩:=hf it (by simp)
  refine wpAny_pyNext_tuple_item st (show s.heap.IsTuple a its.toArray from p) (x:=u) (by simpa using hu) fun h' st' sb=>?_
  have I1:Inv X pins σ H { s with heap:=h' }:=I.turned (t':=s.toks) (fun b o hb e=>(sb.2 b hb).trans e) f0 f1 f3 f4 f5
  obtain⟨o,e,c,d⟩:=id st'
  exact⟨u,rfl,pU (s:={ s with heap:=h' }) e c d (by decide) ⟨x,H,I1,ru,⟨rfl,fun ys hy=>by rw[I.tuple_inj hy hq];exact hx⟩,st',fun b hb=>(hf b hb).1⟩⟩
 done:=by
  intro X hP hw hK hc i pins s σ H E I hf st hg
  subst hP hw hK
  obtain⟨xs,hq,hx⟩:=hg
  obtain⟨its,rv,p,hz⟩:=I.tuple hq
  obtain⟨f0,f1,f2,f3,f4,f5⟩:=hf it (by simp)
  have hl:=rv.length
  exact wpAny_pyNext_tuple_end (I.ok.hd hc) st (show s.heap.IsTuple a its.toArray from p) (by simp;omega) fun h' eb=>⟨rfl,I.turned (t':=s.toks) (fun b o hb e=>eb b o hb e) f0 f1 f3 f4 f5⟩
 self:=fun _ _ _ _ _ st h=>wpAny_pyIter_tupleiter st h
theorem wX{P:Program}{w:World}{K:b5}{tg:Expr}(it:Addr)(lo:Int)(n:Nat):Turn P w K tg (DZ lo n) [it] it (fun i h=>IsRangeIter h it (lo+(i:Nat) * 1) ((n:Int) - (i:Nat)) 1) where
 mem:=by simp
 obj:=fun i h st b hb=>by
  have e:b=it:=by simpa using hb
  subst e
  exact⟨_,st,fun v z=>by
   have z':Data.fields _=Data.cell v:=z
   cases z'⟩
 keep:=fun i h h' st k=>k it (by simp) _ st
 item:=by
  intro X hP hw hK hc i pins s σ H E I hf st hg
  subst hP hw hK
  obtain⟨f0,f1,f2,f3,f4,f5⟩:=hf it (by simp)
  have W:=Walks.range (prog:=X.prog) (w:=X.w) (I.ok.hd hc) it lo 1 n
  refine W.item i s _ _ hg st fun v h' tk hv st' kk=>?_
  obtain⟨t,rfl⟩:=hv
  have I1:Inv X pins σ H { s with heap:=h',toks:=tk }:=I.turned (fun b o hb e=>kk b o (by simpa using hb) e) f0 f1 f3 f4 f5
  refine⟨_,rfl,pU (s:={ s with heap:=h',toks:=tk }) (n:="range_iterator") st' rfl rfl (by decide) ⟨.int (lo+i),H,I1,⟨t,?_⟩,⟨rfl,rfl⟩,st',fun b hb=>(hf b hb).1⟩⟩
  rw[Int.mul_one]
 done:=by
  intro X hP hw hK hc i pins s σ H E I hf st hg
  subst hP hw hK
  obtain⟨f0,f1,f2,f3,f4,f5⟩:=hf it (by simp)
  exact wpAny_pyNext_range_end (I.ok.hd hc) st (by have:n≤i:=hg;omega) fun h' eb=>⟨rfl,I.turned (t':=s.toks) (fun b o hb e=>eb b o hb e) f0 f1 f3 f4 f5⟩
 self:=fun _ _ _ _ _ st h=>wpAny_pyIter_rangeiter st h
section
variable {X:Cx}{tg:Expr}
def Bp(K:b5)(tl:TE):TI:=fun σ H R=>tl σ H fun x H1=>∃ a,x=.ref a∧(∃ xs,SqL K H1 a xs)∧R (FP K a) H1
def Er(K:b5)(tl:TE):TI:=fun σ H R=>tl σ H fun x H1=>∃ a,x=.ref a∧(∃ xs,SqT K H1 a xs)∧R (FR K a) H1
theorem Dg{l:Expr}{tl:TE}(hl:PE X l tl):PI X tg l (Bp X.K tl):=by
 intro pins s σ H R I h
 refine bV (hl pins s σ H _ I h) fun v s1 ⟨x,H1,I1,r1,q1⟩=>?_
 obtain⟨a,e,⟨xs,hq⟩,q⟩:=q1
 subst e
 cases r1
 obtain⟨its,rv,p,hz⟩:=I1.list hq
 refine wpAny_pyIter_list p.isList ?_
 refine⟨s1.heap.objs.size,[s1.heap.objs.size],_,_,H1,rfl,I1.kept (t':=s1.toks) fun b o e=>b6 _ e,zY a _,⟨_,d3 _ rfl,rfl,rfl⟩,fun b hb=>?_,q⟩
 have e:b=s1.heap.objs.size:=by simpa using hb
 subst e
 exact I1.fpOk (b9 _) (I1.hok.fresh (b9 _))
theorem Eo{l:Expr}{tl:TE}(hl:PE X l tl):PI X tg l (Er X.K tl):=by
 intro pins s σ H R I h
 refine bV (hl pins s σ H _ I h) fun v s1 ⟨x,H1,I1,r1,q1⟩=>?_
 obtain⟨a,e,⟨xs,hq⟩,q⟩:=q1
 subst e
 cases r1
 obtain⟨its,rv,p,hz⟩:=I1.tuple hq
 refine wpAny_pyIter_tuple (show s1.heap.IsTuple a its.toArray from p) ?_
 refine⟨s1.heap.objs.size,[s1.heap.objs.size],_,_,H1,rfl,I1.kept (t':=s1.toks) fun b o e=>b6 _ e,vX a _,⟨_,d3 _ rfl,rfl,rfl⟩,fun b hb=>?_,q⟩
 have e:b=s1.heap.objs.size:=by simpa using hb
 subst e
 exact I1.fpOk (b9 _) (I1.hok.fresh (b9 _))
theorem BZ{pins:List (Addr×Obj)}{σ:St}{H:Hp}{s:Shared}{R:It→Hp→Prop}{E:Value→Shared→Prop}{lo hi:Int}{t u v:Tok}{tk:Nat}(I:Inv X pins σ H s)(h1:-(2 ^ 62)≤lo)(h2:lo<2 ^ 62)(h3:-(2 ^ 62)≤hi)(h4:hi<2 ^ 62)
  (q:R (DZ lo (hi - lo).toNat) H):wpAny (model X.prog X.w) X.A (pyIter (.ref s.heap.objs.size)) (IR X pins σ tg R) E { s with heap:=s.heap.push { cls:=.type "range",data:=.fields #[.int lo t,.int hi u,.int 1 v] },toks:=tk }:=by
 refine wpAny_pyIter_range (IsRange.new ..) (small_one h1 h2 h3 h4) ?_
 have I1:Inv X pins σ H { s with heap:=s.heap.push { cls:=.type "range",data:=.fields #[.int lo t,.int hi u,.int 1 v] },toks:=tk }:=I.kept fun b o e=>b6 _ e
 refine⟨(s.heap.push { cls:=.type "range",data:=.fields #[.int lo t,.int hi u,.int 1 v] }).objs.size,[(s.heap.push { cls:=.type "range",data:=.fields #[.int lo t,.int hi u,.int 1 v] }).objs.size],_,_,H,rfl,
  I1.kept (t':=tk) fun b o e=>b6 _ e,wX _ lo (hi - lo).toNat,?_,fun b hb=>?_,q⟩
 ·have e1:lo+((0:Nat):Int) * 1=lo:=by simp
  have e2:(((hi - lo).toNat:Nat):Int) - ((0:Nat):Int)=Builtin.Range.rangeSize lo hi 1:=by rw[rangeSize_one];split <;> omega
  show IsRangeIter _ _ (lo+((0:Nat):Int) * 1) ((((hi - lo).toNat:Nat):Int) - ((0:Nat):Int)) 1
  rw[e1,e2]
  exact d3 _ rfl
 ·have e:b=(s.heap.push { cls:=.type "range",data:=.fields #[.int lo t,.int hi u,.int 1 v] }).objs.size:=by simpa using hb
  subst e
  exact I1.fpOk (b9 _) (I1.hok.fresh (b9 _))
def GY(ta:TA):TI:=fun σ H R=>ta σ H fun vs H1=>∃ j:Int,vs=[.int j]∧-(2 ^ 62)≤j∧j<2 ^ 62∧R (DZ 0 j.toNat) H1
theorem dQ{a:Expr}{ta:TA}{p pos:Pos}(hg:Gl X "range")(hm:X.mg "range"=none)(ha:PA X [a] ta)(hs:starEach [a] X.env=[(false,eval a X.env)]:=by rfl):PI X tg (.Call (.Name "range" p) [a] [] pos) (GY ta):=by
 intro pins s σ H R I h
 refine Call_ (hU I hg hm boot_range (r9 (bV (ha pos pins s σ H _ I h) fun us s1 ⟨vs,H1,I1,r1,q1⟩=>?_) hs rfl))
 obtain⟨j,e,q1,q2,q⟩:=q1
 subst e
 cases r1 with
 | cons r rr =>
  cases rr
  obtain⟨t,rfl⟩:=r
  exact call_range_1 (BZ I1 (by omega) (by omega) q1 q2 (by simpa using q))
def Gg(wi:TI)(g:TG)(tb:TS):TS:=fun D σ H=>wi σ H fun J H1=>∃ W:Nat→Nat→St→Hp→Prop,(∃ m,W 0 m σ H1)∧∀ i m σ H,W i m σ H →
 (J.stop i H∧D.nx σ H)∨(J.go i H∧∃ N:St→Hp→Prop,(∀ σ' H',N σ' H'→∃ m',m' < m∧W (i+1) m' σ' H')∧∀ x H',J.yld i H x H'→g x σ H' fun σ2 H2=>tb { D with nx:=N,ct:=N,bk:=D.nx } σ2 H2)
def kA(fp:List Addr)(h:Heap):List (Addr×Obj):=fp.filterMap fun b=>(h.get? b).map fun o=>(b,o)
theorem gT{fp:List Addr}{h:Heap}{b:Addr}{o:Obj}(hb:b∈fp)(e:h.get? b=some o):(b,o)∈kA fp h:=aXz.mpr ⟨b,hb,by rw[e];rfl⟩
theorem Ao{fp:List Addr}{h:Heap}{p:Addr×Obj}(hp:p∈kA fp h):p.1∈fp∧h.get? p.1=some p.2:=by
 obtain⟨b,hb,e⟩:=aXz.mp hp
 cases q:h.get? b with
 | none=>rw[q] at e;cases e
 | some o =>
  rw[q] at e
  have e':(b,o)=p:=d6 e
  subst e'
  exact⟨hb,q⟩
theorem Inv.pinned{pins:List (Addr×Obj)}{σ:St}{H:Hp}{s:Shared}{fp:List Addr}(I:Inv X pins σ H s)(hf:∀ b∈fp,gI X pins H b)(ho:∀ b∈fp,∃ o,s.heap.get? b=some o∧∀ v,o.data≠.cell v):Inv X (pins++kA fp s.heap) σ H s :=
 I.pins_of fun p hp=>(i8.mp hp).elim (fun z=>I.pin p (i7 _ z)) fun z=>by
  obtain⟨hb,e⟩:=Ao z
  obtain⟨f0,f1,f2,_⟩:=hf p.1 hb
  obtain⟨o,e',d⟩:=ho p.1 hb
  rw[e] at e';cases e'
  exact⟨e,f0,f1,f2,d⟩
theorem Inv.unpinned{pins pl:List (Addr×Obj)}{σ:St}{H:Hp}{s:Shared}(I:Inv X (pins++pl) σ H s):Inv X pins σ H s:=I.pins_of fun p hp=>I.pin p (i7 _ (l4 _ hp))
theorem cW{iter:Expr}{body:List Stmt}{wi:TI}{g:TG}{tb:TS}{pos:Pos}(hp:PassesOwn (model X.prog X.w) X.A X.env X.xe)(hc:X.calm=true)(hi:PI X tg iter wi)(hg:PG X tg g)(hb:PSs X body tb)
  (hs:∀ x,foldedSetIterable iter X.env x=pure x:=by intro _;rfl):PS X (.For tg iter body [] pos) (Gg wi g tb):=by
 intro pins s σ H D I h
 refine wpAny_For (bV (hi pins s σ H _ I h) fun v s1 h1=>bV h1 fun itv s2 h2=>?_) hs
 obtain⟨it,fp,tn,J,H2,e,I2,T,st2,f2,W,⟨m0,w0⟩,turn⟩:=h2
 subst e
 -- what stays true of the iterator's objects through the loop
 have stat:∀ {H':Hp},(∀ b∈fp,H' b=none)→∀ b∈fp,gI X pins H' b:=fun hn b hb=>⟨hn b hb,(f2 b hb).2⟩
 refine codeAny_forLoop_any (fun n s'=>∃ i σ' H',Inv X pins σ' H' s'∧tn i s'.heap∧(∀ b∈fp,H' b=none)∧W i n σ' H') ?_ m0 ⟨0,σ,H2,I2,st2,fun b hb=>(f2 b hb).1,w0⟩
 rintro n s3 ⟨i,σ3,H3,I3,st3,fr3,w3⟩
 rcases turn i n σ3 H3 w3 with ⟨stop,qn⟩ | ⟨go,N,hN,step⟩
 ·refine wpAny_passesOwn hp (bV (T.done X rfl rfl rfl hc i pins s3 σ3 H3 X.xe I3 (stat fr3) st3 stop) fun r s4 ⟨hr,I4⟩=>?_)
  subst hr
  exact wpAny_execs_nil ⟨σ3,H3,I4,qn⟩
 ·refine wpAny_passesOwn hp (bV (T.item X rfl rfl rfl hc i pins s3 σ3 H3 X.xe I3 (stat fr3) st3 go) fun r s4 ⟨u,hr,h4⟩=>?_)
  subst hr
  refine wpAny_passesOwn hp (bV h4 fun _ s5 ⟨x,H5,I5,r5,y5,st5,fr5⟩=>?_)
  have I5':=I5.pinned (stat fr5) (T.obj _ _ st5)
  refine wpAny_passesOwn hp (bV (hg _ s5 σ3 H5 x u _ I5' r5 (step x H5 y5)) fun _ s6 ⟨σ6,H6,I6,q6⟩=>?_)
  refine wpAny_passesOwn hp (bV (hb _ s6 σ6 H6 _ I6 q6) fun f s7 q7=>?_)
  have again:∀ {σ7:St} {H7:Hp},Inv X (pins++kA fp s5.heap) σ7 H7 s7→N σ7 H7→∃ m,m<n∧∃ i σ' H',Inv X pins σ' H' s7∧tn i s7.heap∧(∀ b∈fp,H' b=none)∧W i m σ' H':=fun {σ7 H7} I7 n7=>by
   obtain⟨m',hm,w7⟩:=hN σ7 H7 n7
   refine⟨m',hm,i+1,σ7,H7,I7.unpinned,T.keep _ _ _ st5 fun b hb o e=>(I7.pin (b,o) (i7 _ (i7 _ (gT hb e)))).1,fun b hb=>?_,w7⟩
   obtain⟨o,e,d⟩:=T.obj _ _ st5 b hb
   exact(I7.pin (b,o) (i7 _ (i7 _ (gT hb e)))).2.1
  cases f with
  | next=>obtain⟨σ7,H7,I7,n7⟩:=q7;exact again I7 n7
  | cont=>obtain⟨σ7,H7,I7,n7⟩:=q7;exact again I7 n7
  | brk=>obtain⟨σ7,H7,I7,q7⟩:=q7;exact⟨σ7,H7,I7.unpinned,q7⟩
  | ret v=>obtain⟨x7,σ7,H7,I7,r7,q7⟩:=q7;exact⟨x7,σ7,H7,I7.unpinned,r7,q7⟩
end
theorem iY{K:b5}{a:Addr}{xs:List V}{g:TG}{tb:TS}{D:Ends}{σ:St}{H:Hp}(Pv:Nat→St→Hp→Prop)(h0:Pv 0 σ H)(hl:∀ i σ H,i≤xs.length→Pv i σ H→SqL K H a xs)
  (hs:∀ i x σ H,xs[i]?=some x→Pv i σ H→g x σ H fun σ2 H2=>tb { D with nx:=Pv (i+1),ct:=Pv (i+1),bk:=D.nx } σ2 H2) (hd:∀ σ H,Pv xs.length σ H→D.nx σ H) :
  ∃ W:Nat→Nat→St→Hp→Prop,(∃ m,W 0 m σ H)∧∀ i m σ H,W i m σ H →
   ((FP K a).stop i H∧D.nx σ H)∨((FP K a).go i H∧∃ N:St→Hp→Prop,(∀ σ' H',N σ' H'→∃ m',m' < m∧W (i+1) m' σ' H')∧∀ x H',(FP K a).yld i H x H'→g x σ H' fun σ2 H2=>tb { D with nx:=N,ct:=N,bk:=D.nx } σ2 H2):=by
 refine⟨fun i m σ H=>m=xs.length - i∧i≤xs.length∧Pv i σ H,⟨xs.length,by simp,j9 _,h0⟩,?_⟩
 rintro i m σ H ⟨rfl,hi,p⟩
 have q:=hl i σ H hi p
 by_cases hlt:i<xs.length
 ·refine .inr ⟨⟨xs,xs[i],q,by simp[hlt]⟩,Pv (i+1),fun σ' H' p'=>⟨xs.length - (i+1),by omega,rfl,hlt,p'⟩,fun x H' y=>?_⟩
  obtain⟨e,y⟩:=y
  subst e
  exact hs i x σ _ (y xs q) p
 ·have e:i=xs.length:=by omega
  subst e
  exact .inl ⟨⟨xs,q,b9 _⟩,hd σ H p⟩
theorem yM{K:b5}{a:Addr}{xs:List V}{g:TG}{tb:TS}{D:Ends}{σ:St}{H:Hp}(Pv:Nat→St→Hp→Prop)(h0:Pv 0 σ H)(hl:∀ i σ H,i≤xs.length→Pv i σ H→SqT K H a xs)
  (hs:∀ i x σ H,xs[i]?=some x→Pv i σ H→g x σ H fun σ2 H2=>tb { D with nx:=Pv (i+1),ct:=Pv (i+1),bk:=D.nx } σ2 H2) (hd:∀ σ H,Pv xs.length σ H→D.nx σ H) :
  ∃ W:Nat→Nat→St→Hp→Prop,(∃ m,W 0 m σ H)∧∀ i m σ H,W i m σ H →
   ((FR K a).stop i H∧D.nx σ H)∨((FR K a).go i H∧∃ N:St→Hp→Prop,(∀ σ' H',N σ' H'→∃ m',m' < m∧W (i+1) m' σ' H')∧∀ x H',(FR K a).yld i H x H'→g x σ H' fun σ2 H2=>tb { D with nx:=N,ct:=N,bk:=D.nx } σ2 H2):=by
 refine⟨fun i m σ H=>m=xs.length - i∧i≤xs.length∧Pv i σ H,⟨xs.length,by simp,j9 _,h0⟩,?_⟩
 rintro i m σ H ⟨rfl,hi,p⟩
 have q:=hl i σ H hi p
 by_cases hlt:i<xs.length
 ·refine .inr ⟨⟨xs,xs[i],q,by simp[hlt]⟩,Pv (i+1),fun σ' H' p'=>⟨xs.length - (i+1),by omega,rfl,hlt,p'⟩,fun x H' y=>?_⟩
  obtain⟨e,y⟩:=y
  subst e
  exact hs i x σ _ (y xs q) p
 ·have e:i=xs.length:=by omega
  subst e
  exact .inl ⟨⟨xs,q,b9 _⟩,hd σ H p⟩
theorem eX{lo:Int}{n:Nat}{g:TG}{tb:TS}{D:Ends}{σ:St}{H:Hp}(Pv:Nat→St→Hp→Prop)(h0:Pv 0 σ H)
  (hs:∀ i σ H,i<n→Pv i σ H→g (.int (lo+i)) σ H fun σ2 H2=>tb { D with nx:=Pv (i+1),ct:=Pv (i+1),bk:=D.nx } σ2 H2) (hd:∀ σ H,Pv n σ H→D.nx σ H) :
  ∃ W:Nat→Nat→St→Hp→Prop,(∃ m,W 0 m σ H)∧∀ i m σ H,W i m σ H →
   ((DZ lo n).stop i H∧D.nx σ H)∨((DZ lo n).go i H∧∃ N:St→Hp→Prop,(∀ σ' H',N σ' H'→∃ m',m' < m∧W (i+1) m' σ' H')∧∀ x H',(DZ lo n).yld i H x H'→g x σ H' fun σ2 H2=>tb { D with nx:=N,ct:=N,bk:=D.nx } σ2 H2):=by
 refine⟨fun i m σ H=>m=n - i∧i≤n∧Pv i σ H,⟨n,by simp,j9 _,h0⟩,?_⟩
 rintro i m σ H ⟨rfl,hi,p⟩
 by_cases hlt:i<n
 ·refine .inr ⟨hlt,Pv (i+1),fun σ' H' p'=>⟨n - (i+1),by omega,rfl,hlt,p'⟩,fun x H' y=>?_⟩
  obtain⟨e,y⟩:=y
  subst e y
  exact hs i σ _ hlt p
 ·have e:i=n:=by omega
  subst e
  exact .inl ⟨b9 _,hd σ H p⟩
abbrev R2:=V→V→Hp→VK→Prop
def jZ(X:Cx)(f:Value→Value→Sem Value)(r:R2):Prop :=
 ∀ (pins:List (Addr×Obj)) (s:Shared) (σ:St) (H:Hp) (x y:V) (v u:Value) (Q:VK),Inv X pins σ H s→RelV x v→RelV y u→r x y H Q →
  wpAny (model X.prog X.w) X.A (f v u) (EP X pins σ Q) X.xe s
def IP(X:Cx)(f:Value→Sem Value)(r:V→Hp→VK→Prop):Prop :=
 ∀ (pins:List (Addr×Obj)) (s:Shared) (σ:St) (H:Hp) (x:V) (v:Value) (Q:VK),Inv X pins σ H s→RelV x v→r x H Q →
  wpAny (model X.prog X.w) X.A (f v) (EP X pins σ Q) X.xe s
def fC(X:Cx)(f:Value)(r:List V→Hp→VK→Prop):Prop :=
 ∀ (pins:List (Addr×Obj)) (s:Shared) (σ:St) (H:Hp) (xs:List V) (us:List Value) (Q:VK),Inv X pins σ H s→Vals xs us→r xs H Q →
  wpAny (model X.prog X.w) X.A (call f us) (EP X pins σ Q) X.xe s
def HR(r:R2)(ta tb:TE):TE:=fun σ H Q=>ta σ H fun x H1=>tb σ H1 fun y H2=>r x y H2 Q
def Ji(r:V→Hp→VK→Prop)(ta:TE):TE:=fun σ H Q=>ta σ H fun x H1=>r x H1 Q
def rI(C:Int→Int→Prop)(g:Int→Int→V):R2:=fun x y H Q=>∃ i j,x=.int i∧y=.int j∧C i j∧Q (g i j) H
def DT(g:Int→Int→V):R2:=fun x y H Q=>∃ i j,x=.int i∧y=.int j∧Q (g i j) H
def rU(g:Int→V):V→Hp→VK→Prop:=fun x H Q=>∃ i,x=.int i∧Q (g i) H
section
variable {X:Cx}{a b c:Expr}{ta tb tc:TE}{pos:Pos}
theorem Eg(ha:PE X a ta)(hb:PE X b tb){pins:List (Addr×Obj)}{s:Shared}{σ:St}{H:Hp}{R:V→V→Hp→Prop}(I:Inv X pins σ H s)
  (h:ta σ H fun x H1=>tb σ H1 fun y H2=>R x y H2) {Q:Value→Shared→Prop} {f:Value→Value→Sem Value}
  (hf:∀ v u s2 x y H2,Inv X pins σ H2 s2→RelV x v→RelV y u→R x y H2→wpAny (model X.prog X.w) X.A (f v u) Q X.xe s2) :
  wpAny (model X.prog X.w) X.A (eval a X.env) (fun v s₁=>wpAny (model X.prog X.w) X.A (eval b X.env) (fun u s₂=>wpAny (model X.prog X.w) X.A (f v u) Q X.xe s₂) X.xe s₁) X.xe s:=by
 refine bV (ha pins s σ H _ I h) fun v s1 ⟨x,H1,I1,r1,q1⟩=>?_
 refine bV (hb pins s1 σ H1 _ I1 q1) fun u s2 ⟨y,H2,I2,r2,q2⟩=>?_
 exact hf v u s2 x y H2 I2 r1 r2 q2
theorem aZ{op:Operator}{r:R2}(ho:jZ X (binaryOp op) r)(ha:PE X a ta)(hb:PE X b tb):PE X (.BinOp a op b pos) (HR r ta tb):=by
 intro pins s σ H Q I h
 exact wpAny_BinOp (Eg ha hb I h fun v u s2 x y H2 I2 rx ry q=>ho pins s2 σ H2 x y v u Q I2 rx ry q)
theorem Bh{op:UnaryOp}{r:V→Hp→VK→Prop}(ho:IP X (unaryOp op) r)(ha:PE X a ta):PE X (.UnaryOp op a pos) (Ji r ta):=by
 intro pins s σ H Q I h
 exact UnaryOp_ (bV (ha pins s σ H _ I h) fun v s1 ⟨x,H1,I1,r1,q1⟩=>ho pins s1 σ H1 x v Q I1 r1 q1)
theorem HX{f:Value→Value→Sem Value}{C:Int→Int→Prop}{g:Int→Int→Int}
  (rule:∀ (i j:Int) (t u:Tok) (s:Shared) (Q:Value→Shared→Prop) (E:Value→Shared→Prop),C i j→Q (.int (g i j) s.toks) { s with toks:=s.toks+1 }→wpAny (model X.prog X.w) X.A (f (.int i t) (.int j u)) Q E s) :
  jZ X f (rI C fun i j=>.int (g i j)):=by
 intro pins s σ H x y v u Q I rx ry h
 obtain⟨i,j,rfl,rfl,hc,q⟩:=h
 obtain⟨t,rfl⟩:=rx
 obtain⟨t',rfl⟩:=ry
 exact rule i j t t' s _ _ hc ⟨.int (g i j),H,I.tok _,⟨_,rfl⟩,q⟩
theorem Hj{f:Value→Value→Sem Value}{g:Int→Int→Int}
  (rule:∀ (i j:Int) (t u:Tok) (s:Shared) (Q:Value→Shared→Prop) (E:Value→Shared→Prop),Q (.int (g i j) s.toks) { s with toks:=s.toks+1 }→wpAny (model X.prog X.w) X.A (f (.int i t) (.int j u)) Q E s) :
  jZ X f (DT fun i j=>.int (g i j)):=by
 intro pins s σ H x y v u Q I rx ry h
 obtain⟨i,j,rfl,rfl,q⟩:=h
 obtain⟨t,rfl⟩:=rx
 obtain⟨t',rfl⟩:=ry
 exact rule i j t t' s _ _ ⟨.int (g i j),H,I.tok _,⟨_,rfl⟩,q⟩
theorem DA{f:Value→Value→Sem Value}{g:Int→Int→Bool}
  (rule:∀ (i j:Int) (t u:Tok) (s:Shared) (Q:Value→Shared→Prop) (E:Value→Shared→Prop),Q (.bool (g i j)) s→wpAny (model X.prog X.w) X.A (f (.int i t) (.int j u)) Q E s) :
  jZ X f (DT fun i j=>.bl (g i j)):=by
 intro pins s σ H x y v u Q I rx ry h
 obtain⟨i,j,rfl,rfl,q⟩:=h
 obtain⟨t,rfl⟩:=rx
 obtain⟨t',rfl⟩:=ry
 exact rule i j t t' s _ _ ⟨.bl (g i j),H,I,rfl,q⟩
def IF(i j:Int):Prop:=0<j∧j<1073741824
def IN(i j:Int):Prop:=0≤j∧j≤1000000∧i.natAbs<2 ^ 64
def CMul(i j:Int):Prop:=(-(2 ^ 64)<i∧i<2 ^ 64)∨(-(2 ^ 64)<j∧j<2 ^ 64)
theorem CMul.ok{i j:Int}(h:CMul i j):IntMulOk i j:=by
 rcases h with ⟨h1,h2⟩ | ⟨h1,h2⟩
 ·exact .of_left (intBits_le_64 h1 h2)
 ·exact .of_right (intBits_le_64 h1 h2)
theorem eT:jZ X (binaryOp .Add) (DT fun i j=>.int (i+j)):=Hj fun _ _ _ _ _ _ _ q=>add_int q
theorem FH:jZ X (binaryOp .Sub) (DT fun i j=>.int (i - j)):=Hj fun _ _ _ _ _ _ _ q=>sub_int q
theorem iK:jZ X (binaryOp .Mult) (rI CMul fun i j=>.int (i * j)):=HX fun _ _ _ _ _ _ _ hc q=>mul_int q hc.ok
theorem rY:jZ X (binaryOp .FloorDiv) (rI IF fun i j=>.int (i / j)):=HX fun i j _ _ _ _ _ hc q=>by
 have h1:(0:Int)<j:=hc.1
 have h2:j<1073741824:=hc.2
 exact floordiv_int (by omega) (by rw[Int.fdiv_eq_ediv_of_nonneg i (by omega)];exact q) (.inl (PyProof.noPylong_small (by omega)))
theorem jU:jZ X (binaryOp .Mod) (rI (fun _ j=>0<j) fun i j=>.int (i % j)):=HX fun i j _ _ _ _ _ hc q=>by
 have h1:(0:Int)<j:=hc
 exact mod_int' (by omega) (by rw[Int.fmod_eq_emod_of_nonneg i (by omega)];exact q)
theorem E6:jZ X (binaryOp .Pow) (rI IN fun i j=>.int (i ^ j.toNat)):=HX fun _ _ _ _ _ _ _ hc q=>pow_int_small hc.1 hc.2.1 hc.2.2 q
theorem Jt{f:Value→Sem Value}{g:Int→Int}
  (rule:∀ (i:Int) (t:Tok) (s:Shared) (Q:Value→Shared→Prop) (E:Value→Shared→Prop),Q (.int (g i) s.toks) { s with toks:=s.toks+1 }→wpAny (model X.prog X.w) X.A (f (.int i t)) Q E s) :
  IP X f (rU fun i=>.int (g i)):=by
 intro pins s σ H x v Q I rx h
 obtain⟨i,rfl,q⟩:=h
 obtain⟨t,rfl⟩:=rx
 exact rule i t s _ _ ⟨.int (g i),H,I.tok _,⟨_,rfl⟩,q⟩
theorem wR:IP X (unaryOp .USub) (rU fun i=>.int (-i)):=Jt fun _ _ _ _ _ q=>neg_int q
end
def Hc:V→V→Bool
 | .non,.non=>true | .non,.int _=>true | .int _,.non=>true | .non,.bl _=>true | .bl _,.non=>true | .non,.str _=>true | .str _,.non=>true
 | .int _,.int _=>true | .bl _,.bl _=>true | .str _,.str _=>true | .byt _,.byt _=>true
 | .int _,.str _=>true | .str _,.int _=>true | .bl _,.str _=>true | .str _,.bl _=>true
 | _,_=>false
def Jf:R2:=fun x y H Q=>Hc x y=true∧Q (.bl (decide (x=y))) H
def Jb:R2:=fun x y H Q=>Hc x y=true∧Q (.bl (!decide (x=y))) H
theorem xW{i j:Int}:decide (V.int i=V.int j)=(i == j):=by
 rw[y4]
 simp
theorem BI{i j:Bool}:decide (V.bl i=V.bl j)=(i == j):=by
 rw[y4]
 simp
theorem zF{i j:Str}:decide (V.str i=V.str j)=(i == j):=by
 rw[y4]
 simp
theorem zE{i j:Array UInt8}:decide (V.byt i=V.byt j)=(i.toList == j.toList):=by
 rw[y4]
 cases i
 cases j
 simp
section
variable {X:Cx}{a b c:Expr}{ta tb tc:TE}{pos:Pos}
theorem bH{pins:List (Addr×Obj)}{σ:St}{H:Hp}{s:Shared}{Q:VK}{k k':Bool}(I:Inv X pins σ H s)(q:Q (.bl k) H)(e:k=k'):EP X pins σ Q (.bool k') s:=by
 subst e
 exact⟨.bl k,H,I,rfl,q⟩
theorem fH:jZ X (compareOp .Eq) Jf:=by
 intro pins s σ H x y v u Q I rx ry h
 obtain⟨hs,q⟩:=h
 cases x with
 | non =>
  cases rx
  cases y with
  | non=>cases ry;exact aZh (bH I q (by simp))
  | bl j=>cases ry;exact aZi (bH I q (by simp))
  | int j=>obtain⟨t',rfl⟩:=ry;exact aZr (bH I q (by simp))
  | str j=>obtain⟨t',rfl⟩:=ry;exact aZs (bH I q (by simp))
  | _=>exact absurd (show false=true from hs) i3
 | bl i =>
  cases rx
  cases y with
  | non=>cases ry;exact aZj (bH I q (by simp))
  | bl j=>cases ry;exact eq_bool (bH I q BI)
  | str j=>obtain⟨t',rfl⟩:=ry;exact aZk (bH I q (by simp))
  | _=>exact absurd (show false=true from hs) i3
 | int i =>
  obtain⟨t,rfl⟩:=rx
  cases y with
  | non=>cases ry;exact aZt (bH I q (by simp))
  | int j=>obtain⟨t',rfl⟩:=ry;exact eq_int (bH I q xW)
  | str j=>obtain⟨t',rfl⟩:=ry;exact aZu (bH I q (by simp))
  | _=>exact absurd (show false=true from hs) i3
 | str i =>
  obtain⟨t,rfl⟩:=rx
  cases y with
  | non=>cases ry;exact aZv (bH I q (by simp))
  | bl j=>cases ry;exact aZl (bH I q (by simp))
  | int j=>obtain⟨t',rfl⟩:=ry;exact aZw (bH I q (by simp))
  | str j=>obtain⟨t',rfl⟩:=ry;exact eq_str (bH I q zF)
  | _=>exact absurd (show false=true from hs) i3
 | byt i =>
  obtain⟨t,rfl⟩:=rx
  cases y with
  | byt j=>obtain⟨t',rfl⟩:=ry;exact PySem.W.eq_bytes (bH I q zE)
  | _=>exact absurd (show false=true from hs) i3
 | _=>cases y <;> exact absurd (show false=true from hs) i3
theorem jT:jZ X (compareOp .NotEq) Jb:=by
 intro pins s σ H x y v u Q I rx ry h
 obtain⟨hs,q⟩:=h
 cases x with
 | non =>
  cases rx
  cases y with
  | non=>cases ry;exact aZm (bH I q (by simp))
  | bl j=>cases ry;exact aZn (bH I q (by simp))
  | int j=>obtain⟨t',rfl⟩:=ry;exact aZx (bH I q (by simp))
  | str j=>obtain⟨t',rfl⟩:=ry;exact aZy (bH I q (by simp))
  | _=>exact absurd (show false=true from hs) i3
 | bl i =>
  cases rx
  cases y with
  | non=>cases ry;exact aZo (bH I q (by simp))
  | bl j=>cases ry;exact ne_bool (bH I q (congrArg not BI))
  | str j=>obtain⟨t',rfl⟩:=ry;exact aZp (bH I q (by simp))
  | _=>exact absurd (show false=true from hs) i3
 | int i =>
  obtain⟨t,rfl⟩:=rx
  cases y with
  | non=>cases ry;exact aZz (bH I q (by simp))
  | int j=>obtain⟨t',rfl⟩:=ry;exact ne_int (bH I q (congrArg not xW))
  | str j=>obtain⟨t',rfl⟩:=ry;exact aJA (bH I q (by simp))
  | _=>exact absurd (show false=true from hs) i3
 | str i =>
  obtain⟨t,rfl⟩:=rx
  cases y with
  | non=>cases ry;exact aJB (bH I q (by simp))
  | bl j=>cases ry;exact aZq (bH I q (by simp))
  | int j=>obtain⟨t',rfl⟩:=ry;exact aJC (bH I q (by simp))
  | str j=>obtain⟨t',rfl⟩:=ry;exact ne_str (bH I q (congrArg not zF))
  | _=>exact absurd (show false=true from hs) i3
 | byt i =>
  obtain⟨t,rfl⟩:=rx
  cases y with
  | byt j=>obtain⟨t',rfl⟩:=ry;exact PySem.W.ne_bytes (bH I q (congrArg not zE))
  | _=>exact absurd (show false=true from hs) i3
 | _=>cases y <;> exact absurd (show false=true from hs) i3
theorem B8:jZ X (compareOp .Lt) (DT fun i j=>.bl (decide (i<j))):=DA fun _ _ _ _ _ _ _ q=>lt_int q
theorem BD:jZ X (compareOp .LtE) (DT fun i j=>.bl (decide (i≤j))):=DA fun _ _ _ _ _ _ _ q=>le_int q
theorem nV:jZ X (compareOp .Gt) (DT fun i j=>.bl (decide (j<i))):=DA fun _ _ _ _ _ _ _ q=>gt_int q
theorem GJ:jZ X (compareOp .GtE) (DT fun i j=>.bl (decide (j≤i))):=DA fun _ _ _ _ _ _ _ q=>ge_int q
theorem vS:jZ X (compareOp .Is) (fun x y H Q=>y=.non∧Q (.bl (decide (x=.non))) H):=by
 intro pins s σ H x y v u Q I rx ry h
 obtain⟨rfl,q⟩:=h
 cases ry
 refine is_none_gen (bH I q ?_)
 cases x <;> first
  | (cases rx;rfl)
  | (obtain⟨t,rfl⟩:=rx;rfl)
theorem mV:jZ X (compareOp .IsNot) (fun x y H Q=>y=.non∧Q (.bl (!decide (x=.non))) H):=by
 intro pins s σ H x y v u Q I rx ry h
 obtain⟨rfl,q⟩:=h
 cases ry
 refine isnot_none_gen (bH I q ?_)
 cases x <;> first
  | (cases rx;rfl)
  | (obtain⟨t,rfl⟩:=rx;rfl)
theorem aS(b:Expr){op:CmpOp}(h:op≠.In:=by decide)(h2:op≠.NotIn:=by decide):behindInMarks op b=false:=by
 have e1:(op == CmpOp.In)=false:=by cases op <;> first | rfl | exact absurd rfl h
 have e2:(op == CmpOp.NotIn)=false:=by cases op <;> first | rfl | exact absurd rfl h2
 cases b <;> simp[behindInMarks,e1,e2]
theorem fJ{op:CmpOp}{r:R2}(ho:jZ X (compareOp op) r)(ha:PE X a ta)(hb:PE X b tb)(hm:behindInMarks op b=false):PE X (.Compare a [op] [b] pos) (HR r ta tb):=by
 intro pins s σ H Q I h
 exact wpAny_Compare1 (Eg ha hb I h fun v u s2 x y H2 I2 rx ry q=>ho pins s2 σ H2 x y v u Q I2 rx ry q) hm
def Gp(t:TE):TT:=fun σ H Q=>t σ H fun x H'=>∃ k,x=.bl k∧Q k H'
theorem aP{op:CmpOp}{r:R2}(ho:jZ X (compareOp op) r)(ha:PE X a ta)(hb:PE X b tb)(hm:behindInMarks op b=false):PT X (.Compare a [op] [b] pos) (Gp (HR r ta tb)):=by
 intro pins s σ H Q I h
 refine wpAny_isTrue_Compare1 (bV (ha pins s σ H _ I h) fun v s1 ⟨x,H1,I1,r1,q1⟩=>bV (hb pins s1 σ H1 _ I1 q1) fun u s2 ⟨y,H2,I2,r2,q2⟩ =>
  bV (ho pins s2 σ H2 x y v u _ I2 r1 r2 q2) fun c s3 ⟨z,H3,I3,r3,k,e,q3⟩=>?_) hm
 subst e
 cases r3
 exact wpAny_truthy_bool ⟨H3,I3,q3⟩
theorem mB:(sizeLine:Nat)<2 ^ 63:=by rw[sizeLine_eq];decide
theorem bT:jZ X (binaryOp .Add) (fun x y H Q=>∃ i j,x=.str i∧y=.str j∧i.length+j.length≤sizeLine∧Q (.str (i++j)) H):=by
 intro pins s σ H x y v u Q I rx ry h
 obtain⟨i,j,rfl,rfl,hz,q⟩:=h
 obtain⟨t,rfl⟩:=rx
 obtain⟨t',rfl⟩:=ry
 exact add_str (fun t' tk=>⟨.str (i++j),H,I.tok _,⟨_,rfl⟩,q⟩) hz
theorem kM{x:V}{us:List Value}(r:Vals [x] us):∃ u,us=[u]∧RelV x u:=by
 cases r with
 | cons r1 r2=>cases r2;exact⟨_,rfl,r1⟩
theorem HE{x y:V}{us:List Value}(r:Vals [x,y] us):∃ u w',us=[u,w']∧RelV x u∧RelV y w':=by
 cases r with
 | cons r1 r2 =>
  cases r2 with
  | cons r3 r4=>cases r4;exact⟨_,_,rfl,r1,r3⟩
theorem lK:fC X (.type "int") (fun xs H Q=>(∃ i,xs=[.int i]∧Q (.int i) H)∨∃ k,xs=[.bl k]∧Q (.int (if k then 1 else 0)) H):=by
 intro pins s σ H xs us Q I r h
 rcases h with ⟨i,rfl,q⟩ | ⟨k,rfl,q⟩
 ·obtain⟨u,rfl,t,rfl⟩:=kM r
  exact call_int_int ⟨.int i,H,I,⟨_,rfl⟩,q⟩
 ·obtain⟨u,rfl,r1⟩:=kM r
  cases r1
  exact call_int_bool ⟨.int (if k then 1 else 0),H,I.tok _,⟨_,rfl⟩,q⟩
end
structure ObjM(h:Heap)(x dx C:Addr)(mA:Str→Option Value):Prop where
 obj:h.get? x=some (PySem.W.instObj C dx)
 ns:h.Ns1 dx mA
 ne:dx≠x
theorem zX{h:Heap}{dx:Addr}{mA:Str→Option Value}(n:h.Ns1 dx mA):∃ od,h.get? dx=some od∧∀ name,PySem.W.lookIn name od=some (mA name):=by
 obtain⟨o,es,ep,ho,hd,hk,_,hm⟩:=n
 refine⟨o,ho,fun name=>?_⟩
 have e:=hm name
 unfold nsFind findBy at e
 rw[← Array.find?_toList] at e
 unfold PySem.W.lookIn
 rw[hd]
 dsimp only
 split
 ·rename_i y q
  rw[q] at e
  exact congrArg some e
 ·rename_i q
  rw[q] at e
  have a:es.toList.any (·.refKey)=false:=by
   rw[List.any_eq_false]
   intro y hy
   obtain⟨z,t,hkey⟩:=hk y (Array.mem_toList_iff.mp hy)
   simp[DictEntry.refKey,hkey]
  have a':¬ es.toList.any (·.refKey)=true:=by rw[a];exact i3
  rw[if_neg a']
  exact congrArg some e
theorem ObjM.look{h:Heap}{x dx C:Addr}{mA:Str→Option Value}(I:ObjM h x dx C mA):∃ od,PySem.W.InstAt h x (PySem.W.instObj C dx) C (some od)∧∀ name,PySem.W.lookIn name od=some (mA name) :=
 let ⟨od,ho,hl⟩:=zX I.ns
 ⟨od,⟨I.obj,rfl,rfl,ho⟩,hl⟩
section
variable {prog:Program}{w:World}{A:Around}{E:Value→Shared→Prop}{s:Shared}{K:b5}{x dx C f:Addr}{mA:Str→Option Value}{name:Str}{v:Value}
theorem Dn{expr:Bool}{Q:Value→Shared→Prop}(X:K.In s.heap)(I:ObjM s.heap x dx C mA)(hg:PySem.W.plainGet K C name=true)(hh:PySem.W.hasDictIn K C=true)
  (ha:PySem.W.findIn K (.ref C) name=some none) (hv:mA name=some v) (hv':PySem.W.handedIn v=true) (h:Q v { s with toks:=s.toks+1 }) :
  wpAny (model prog w) A (getAttr (.ref x) name expr) Q E s:=by
 obtain⟨od,J,hl⟩:=I.look
 exact PySem.W.get_value X J (aXE hg).1 (PySem.W.findObj_own hh ha rfl (by rw[hl,hv])) hv' h
theorem Co{pl:Sem Bool}{Q:Value×List Value→Shared→Prop}(X:K.In s.heap)(I:ObjM s.heap x dx C mA)(hg:PySem.W.plainGet K C name=true)
  (hf:PySem.W.findIn K (.ref C) name=some (some (.ref f))) (ht:PySem.W.isFn K (.ref f)=true) (hv:mA name=none) (h:Q (.ref f,[.ref x]) s) :
  wpAny (model prog w) A (getMethod (.ref x) name pl) Q E s:=by
 obtain⟨od,J,hl⟩:=I.look
 exact PySem.W.method_fn X J (aXE hg).1 (aXE hg).2 hf (beq_iff_eq.mp ht) (by show (PySem.W.lookIn name od).map (·.isSome)=some false;rw[hl,hv];rfl) h
theorem Du{ns:List Str}{Q:Unit→Shared→Prop}(X:K.In s.heap)(I:ObjM s.heap x dx C mA)
  (hs:PySem.W.findIn K (.ref C) "__setattr__"=some (some (.builtin "object.__setattr__"))) (hp:PySem.W.plainOver K C=true) (ht:PySem.W.takerIn K C name=some none) (hh:PySem.W.hasDictIn K C=true)
  (hw:PySem.Within mA ns) (hsz:ns.length≤sizeLine)
  (h:∀ h',ObjM h' x dx C (fun y=>if y=name then some v else mA y)→Heap.SameBut dx s.heap h'→Q () { s with heap:=h',toks:=s.toks+2 }) :
  wpAny (model prog w) A (setAttr (.ref x) name v) Q E s:=by
 obtain⟨od,J,hl⟩:=I.look
 refine PySem.W.set_plain X J hs (PySem.W.osa_open (s:={ s with toks:=s.toks+1 }) (r:=none) X J hp ht fun b=>?_)
 obtain⟨cd,hc,hd'⟩:=PySem.W.any_some hh
 have hx:s.heap.get? x=some ⟨.ref C,some dx,.plain,#[]⟩:=I.obj
 refine wpAny_bind (wpAny_pure (wpAny_bind (wpAny_bind (wpAny_loadPart hx (wpAny_bind (aJN (s:={ s with toks:=s.toks+1 }) (PySem.W.looks_clsIn X hc) ?_))))))
 rw[hd']
 refine wpAny_pure (a:=some dx) (wpAny_bind (wpAny_pure (wpAny_bind ?_)))
 refine wpAny_nsSet1 (s:={ s with toks:=s.toks+1 }) I.ns fun h' hn2 hs2=>?_
 obtain⟨oD,esD,epD,hoD,hdD,hcD⟩:=hn2.count (aJP name v hw)
 refine wpAny_bind (wpAny_lookBehind hoD (by rw[hdD];exact pastItsLine_dict (k8 hcD (by rw[j1];omega))) ?_)
 exact wpAny_pure (h _ ⟨(hs2.2 _ (y7 I.ne)).trans I.obj,hn2,I.ne⟩ hs2)
theorem Bn{R:Result→Shared→Prop}{vs:List Value}{kw:List (Str×Value)}(X:K.In s.heap)(hm:PySem.W.makesIn K C=true)
  (hi:PySem.W.findIn K (.ref C) "__init__"=some (some (.ref f))) (hf:PySem.W.typeIn K (.ref f)=some (.type "function"))
  (h:codeAny (model prog w) (A.under (.builtin "type.__call__" ⟨.ref C::vs,kw⟩)) (.call (.ref f) ⟨.ref (s.heap.objs.size+1)::vs,kw⟩) (PySem.W.InitBack (s.heap.objs.size+1) R)
   { s with heap:=(s.heap.push PySem.W.emptyDict).push (PySem.W.instObj C s.heap.objs.size) }) :
  codeAny (model prog w) A (.call (.ref C) ⟨vs,kw⟩) R s:=by
 obtain⟨hh,g,d,t,os⟩:=s
 exact PySem.W.make_core (PySem.W.makes_of X hm) (PySem.W.looks_findIn X hi) (fun self=>PySem.W.bind_fn X self hf) (.inl rfl) h
end
def fE(f:Str)(v:V):List (Str×V)→List (Str×V)
 | []=>[(f,v)]
 | (g,x)::r=>if g=f then (g,v)::r else (g,x)::fE f v r
theorem bC(f g:Str)(v:V):∀ fs:List (Str×V),(fE f v fs).lookup g=if g=f then some v else fs.lookup g
 | []=>by
  show List.lookup g [(f,v)]=_
  by_cases h:g=f
  ·have hb:(g == f)=true:=beq_iff_eq.mpr h
   simp only [List.lookup,hb,if_pos h]
  ·have hb:(g == f)=false:=beq_eq_false_iff_ne.mpr h
   simp only [List.lookup,hb,if_neg h]
 | (k,x)::r=>by
  have ih:=bC f g v r
  rw[show fE f v ((k,x)::r)=(if k=f then (k,v)::r else (k,x)::fE f v r) from rfl]
  by_cases hk:k=f
  ·rw[if_pos hk]
   by_cases h:g=k
   ·have hb:(g == k)=true:=beq_iff_eq.mpr h
    simp only [List.lookup,hb,if_pos (h.trans hk)]
   ·have hb:(g == k)=false:=beq_eq_false_iff_ne.mpr h
    simp only [List.lookup,hb,if_neg (fun e:g=f=>h (e.trans hk.symm))]
  ·rw[if_neg hk]
   by_cases h:g=k
   ·have hb:(g == k)=true:=beq_iff_eq.mpr h
    simp only [List.lookup,hb,if_neg (fun e:g=f=>hk (h.symm.trans e))]
   ·have hb:(g == k)=false:=beq_eq_false_iff_ne.mpr h
    simp only [List.lookup,hb]
    exact ih
theorem lH(f:Str)(v:V):∀ fs:List (Str×V),f∈(fE f v fs).map (·.1)∧∀ g,g∈fs.map (·.1)→g∈(fE f v fs).map (·.1)
 | []=>⟨by simp[fE],fun g h=>by simp at h⟩
 | (k,x)::r=>by
  obtain⟨i1,i2⟩:=lH f v r
  rw[show fE f v ((k,x)::r)=(if k=f then (k,v)::r else (k,x)::fE f v r) from rfl]
  by_cases hk:k=f
  ·rw[if_pos hk]
   subst hk
   exact⟨by simp,fun g h=>by simpa using h⟩
  ·rw[if_neg hk]
   refine⟨?_,fun g h=>?_⟩
   ·rw[i6]
    exact d4 _ i1
   ·rw[i6] at h ⊢
    rcases c6.mp h with e | e
    ·exact c6.mpr (.inl e)
    ·exact d4 _ (i2 g e)
theorem mN(f:Str)(v:V):∀ fs:List (Str×V),(fE f v fs).length≤fs.length+1
 | []=>by simp[fE]
 | (k,x)::r=>by
  have ih:=mN f v r
  rw[show fE f v ((k,x)::r)=(if k=f then (k,v)::r else (k,x)::fE f v r) from rfl]
  by_cases hk:k=f
  ·rw[if_pos hk,j1,j1];omega
  ·rw[if_neg hk,j1,j1];omega
theorem RelO.some_of{v:V}{o:Option Value}(r:RelO (some v) o):∃ u,o=some u∧RelV v u:=by
 cases o with
 | none=>exact(show False from r).elim
 | some u=>exact⟨u,rfl,r⟩
theorem RelO.none_of{o:Option Value}(r:RelO none o):o=none:=by
 cases o with
 | none=>rfl
 | some u=>exact(show False from r).elim
theorem AF{v:V}{u:Value}(r:RelV v u):PySem.W.handedIn u=true:=by
 cases v with
 | non=>cases (show u=Value.none from r);rfl
 | bl b=>cases (show u=Value.bool b from r);rfl
 | int i=>obtain⟨t,e⟩:=(show ∃ t,u=Value.int i t from r);cases e;rfl
 | str x=>obtain⟨t,e⟩:=(show ∃ t,u=Value.str x t from r);cases e;rfl
 | byt b=>obtain⟨t,e⟩:=(show ∃ t,u=Value.bytes b t from r);cases e;rfl
 | flt b=>obtain⟨t,e⟩:=(show ∃ t,u=Value.float b t from r);cases e;rfl
 | ref a=>cases (show u=Value.ref a from r);rfl
 | ty n=>cases (show u=Value.type n from r);rfl
section
variable {P:Program}{w:World}{H H':Hp}{h h':Heap}{a C dx:Addr}{fs fs':List (Str×V)}
theorem rF(hok:HOk P w H h)(e:H a=some (.ins C dx fs)):∃ mA,ObjM h a dx C mA∧(∀ f,RelO (fs.lookup f) (mA f))∧PySem.Within mA (fs.map (·.1))∧fs.length≤1000∧H dx=some (.own a):=by
 obtain⟨d,z,ne,ob,mA,n,r,q⟩:=(show ObjOk P w H h a (.ins C dx fs) from hok a _ e)
 exact⟨mA,⟨ob,n,ne⟩,r,q,z,d⟩
end
structure Cls(K:b5)(C:Addr):Prop where
 pg:PySem.W.plainGet K C Str.empty=true
 hd:PySem.W.hasDictIn K C=true
 po:PySem.W.plainOver K C=true
 sa:PySem.W.findIn K (.ref C) "__setattr__"=some (some (.builtin "object.__setattr__"))
theorem Cls.get{K:b5}{C:Addr}(c:Cls K C)(f:Str):PySem.W.plainGet K C f=true:=c.pg
def NoAttr(K:b5)(C:Addr)(f:Str):Prop:=PySem.W.findIn K (.ref C) f=some none
theorem NoAttr.taker{K:b5}{C:Addr}{f:Str}(n:NoAttr K C f):PySem.W.takerIn K C f=some none:=by
 unfold PySem.W.takerIn
 rw[show PySem.W.findIn K (.ref C) f=some none from n]
 rfl
structure Meth(K:b5)(C:Addr)(m:Str)(f:Addr):Prop where
 at_:PySem.W.findIn K (.ref C) m=some (some (.ref f))
 fn:PySem.W.isFn K (.ref f)=true
 kp:PySem.W.keepIn K (.ref f)=true
section
variable {X:Cx}{pins:List (Addr×Obj)}{σ:St}{H:Hp}{s:Shared}{a C dx:Addr}{fs:List (Str×V)}{f:Str}{v:V}{A:Around}{E:Value→Shared→Prop}
theorem vU{b:Bool}{Q:Value→Shared→Prop}(I:Inv X pins σ H s)(e:H a=some (.ins C dx fs))(c:Cls X.K C)(n:NoAttr X.K C f)(l:fs.lookup f=some v)
  (h:∀ u s',Inv X pins σ H s'→RelV v u→Q u s'):wpAny (model X.prog X.w) A (getAttr (.ref a) f b) Q E s:=by
 obtain⟨mA,O,r,_,_,_⟩:=rF I.hok e
 obtain⟨u,hu,ru⟩:=RelO.some_of (v:=v) (o:=mA f) (by rw[← l];exact r f)
 exact Dn I.kIn O (c.get f) c.hd n hu (AF ru) (h u _ (I.tok _) ru)
theorem jX{m:Str}{g:Addr}{pl:Sem Bool}{Q:Value×List Value→Shared→Prop}(I:Inv X pins σ H s)(e:H a=some (.ins C dx fs))(c:Cls X.K C)(k:Meth X.K C m g)(l:fs.lookup m=none)
  (h:Q (.ref g,[.ref a]) s):wpAny (model X.prog X.w) A (getMethod (.ref a) m pl) Q E s:=by
 obtain⟨mA,O,r,_,_,_⟩:=rF I.hok e
 have hn:mA m=none:=RelO.none_of (by rw[← l];exact r m)
 exact Co I.kIn O (c.get m) k.at_ k.fn hn h
theorem wA{y:V}{u:Value}{Q:Unit→Shared→Prop}(I:Inv X pins σ H s)(e:H a=some (.ins C dx fs))(c:Cls X.K C)(n:NoAttr X.K C f)(hl:fs.length<1000)(ry:RelV y u)
  (h:∀ s',Inv X pins σ (upd H a (.ins C dx (fE f y fs))) s'→Q () s'):wpAny (model X.prog X.w) A (setAttr (.ref a) f u) Q E s:=by
 obtain⟨mA,O,r,wi,_,ho⟩:=rF I.hok e
 have hz:(fs.map (·.1)).length≤sizeLine:=by rw[b7,sizeLine_eq];omega
 refine Du I.kIn O c.sa c.po n.taker c.hd wi hz fun h' O' sb=>h _ ?_
 have hd:∃ o,h'.get? dx=some o:=let ⟨o,_,_,e',_⟩:=O'.ns;⟨o,e'⟩
 refine I.write (x:=a) (e:=dx) (by rw[e];exact True.intro) (.inr ho) (fun b q hb z=>(sb.2 b hb).trans z) hd ?_
 refine⟨by rw[aE O.ne];exact ho,?_,O.ne,O'.obj,_,O'.ns,fun g=>?_,fun g hg=>?_⟩
 ·have:=mN f y fs;omega
 ·show RelO ((fE f y fs).lookup g) (if g=f then some u else mA g)
  rw[bC]
  by_cases q:g=f
  ·rw[if_pos q,if_pos q];exact ry
  ·rw[if_neg q,if_neg q];exact r g
 ·by_cases q:g=f
  ·rw[q];exact(lH f y fs).1
  ·refine(lH f y fs).2 g (wi g fun z=>hg ?_)
   show (if g=f then some u else mA g)=none
   rw[if_neg q];exact z
theorem Inv.made(I:Inv X pins σ H s):Inv X pins σ (upd (upd H s.heap.objs.size (.own (s.heap.objs.size+1))) (s.heap.objs.size+1) (.ins C s.heap.objs.size []))
  { s with heap:=(s.heap.push PySem.W.emptyDict).push (PySem.W.instObj C s.heap.objs.size) }:=by
 have e1:(s.heap.push PySem.W.emptyDict).get? s.heap.objs.size=some PySem.W.emptyDict:=d3 s.heap rfl
 have e2:((s.heap.push PySem.W.emptyDict).push (PySem.W.instObj C s.heap.objs.size)).get? (s.heap.objs.size+1)=some (PySem.W.instObj C s.heap.objs.size):=by
  have:=d3 (s.heap.push PySem.W.emptyDict) (o:=PySem.W.instObj C s.heap.objs.size) rfl
  rwa [x0] at this
 have e3:(s.heap.push PySem.W.emptyDict).Ns s.heap.objs.size (fun _=>none):=⟨PySem.W.emptyDict,#[],_,e1,rfl,(fun e he=>absurd he (by simp)),fun _=>rfl⟩
 have I1:=I.laid (a:=s.heap.objs.size) (o:=.own (s.heap.objs.size+1)) (h':=s.heap.push PySem.W.emptyDict) (t':=s.toks) (fun b u q=>b6 _ q) (b9 _) ⟨_,e1⟩
 refine I1.laid (a:=s.heap.objs.size+1) (o:=.ins C s.heap.objs.size []) (t':=s.toks) (fun b u q=>b6 _ q) (aZA (x0 _ _)) ?_
 have ne:s.heap.objs.size≠s.heap.objs.size+1:=g6 (aZT _)
 refine⟨by rw[aE ne,aB],j9 _,ne,e2,fun _=>none,(Heap.Ns1.of_empty e3).at fun o q=>b6 _ q,fun _=>True.intro,fun y hy=>absurd rfl hy⟩
theorem C1{prog:Program}{w:World}{env:Env}{e:Expr}{f:Str}{pos:Pos}{s:Shared}{Q:Value→Shared→Prop}(hb:attributeBase e f env (eval e env)=eval e env)
  (h:wpAny (model prog w) A (eval e env) (fun o s₁=>wpAny (model prog w) A (getAttr o f true) Q E s₁) E s):wpAny (model prog w) A (eval (.Attribute e f pos) env) Q E s :=
 Attribute_any_ h (by rw[arm_eval_Attribute,hb])
end
def Gs(K:b5)(ta:TE)(f:Str):TE:=fun σ H Q=>ta σ H fun x H1=>∃ a C dx fs v,x=.ref a∧H1 a=some (.ins C dx fs)∧Cls K C∧NoAttr K C f∧fs.lookup f=some v∧Q v H1
def GB(K:b5)(ta tv:TE)(f:Str):TS:=fun D σ H=>tv σ H fun y H1=>ta σ H1 fun x H2=>∃ a C dx fs,x=.ref a∧H2 a=some (.ins C dx fs)∧Cls K C∧NoAttr K C f∧fs.length<1000 ∧
 D.nx σ (upd H2 a (.ins C dx (fE f y fs)))
section
variable {X:Cx}{o e value:Expr}{f:Str}{pos pos' tpos:Pos}{ta tv:TE}
theorem Fm(he:PE X e ta)(hb:attributeBase e f X.env (eval e X.env)=eval e X.env):PE X (.Attribute e f pos) (Gs X.K ta f):=by
 intro pins s σ H Q I h
 refine C1 hb (bV (he pins s σ H _ I h) fun u s1 ⟨x,H1,I1,rx,a,C,dx,fs,v,ex,ea,c,n,l,q⟩=>?_)
 subst ex
 obtain rfl:u=Value.ref a:=rx
 exact vU I1 ea c n l fun u' s2 I2 ru=>⟨v,H1,I2,ru,q⟩
theorem Fv(ha:PE X o ta)(hv:PE X value tv)(hs:swapsWith value (some (.Attribute o f pos')) pos.line X.env=pure false):PS X (.Assign [.Attribute o f pos'] value pos) (GB X.K ta tv f):=by
 intro pins s σ H D I h
 refine plainObj_wpAny_Assign_Attribute (bV (hv pins s σ H _ I h) fun u s1 ⟨y,H1,I1,ry,q⟩=>bV (ha pins s1 σ H1 _ I1 q) fun ov s2 ⟨x,H2,I2,rx,a,C,dx,fs,ex,ea,c,n,l,q2⟩=>?_) hs
 subst ex
 obtain rfl:ov=Value.ref a:=rx
 exact wA I2 ea c n l ry fun s3 I3=>⟨σ,_,I3,q2⟩
theorem D5{pl:Sem Bool}{m:Str}{apos:Pos}{args:List Expr}{pins:List (Addr×Obj)}{s:Shared}{σ:St}{H:Hp}{Q:Value→Shared→Prop}{te:TE}(he:PE X e te)(I:Inv X pins σ H s)
  (h:te σ H fun x H1=>∃ a C dx fs g,x=.ref a∧H1 a=some (.ins C dx fs)∧Cls X.K C∧Meth X.K C m g∧fs.lookup m=none ∧
   ∀ s1,Inv X pins σ H1 s1→wpAny (model X.prog X.w) X.A (callWith pos (.ref g) [.ref a] (backTo pos (starEach args X.env)) (backToKw pos (keywordEach [] X.env))) Q X.xe s1)
  (ht:eval (.Call (.Attribute e m apos) args [] pos) X.env=(do
   let ov ← eval e X.env
   standAt apos.atName
   let (f,first) ← holding [ov] (getMethod ov m pl)
   callWith pos f first (backTo pos (starEach args X.env)) (backToKw pos (keywordEach [] X.env)))) :
  wpAny (model X.prog X.w) X.A (eval (.Call (.Attribute e m apos) args [] pos) X.env) Q X.xe s:=by
 refine aQn (pl:=pl) (bV (he pins s σ H _ I h) fun u s1 ⟨x,H1,I1,rx,a,C,dx,fs,g,ex,ea,c,k,l,q⟩=>?_) ht
 subst ex
 obtain rfl:u=Value.ref a:=rx
 exact jX I1 ea c k l (q s1 I1)
end
structure Room(k:Nat)(A:Around):Prop where
 hd:A.handled=none
 dp:A.depth+3 * k+5<recursionLimit
 un:A.units+16 * k+200<cLine
theorem Room.mono{j k:Nat}{A:Around}(r:Room k A)(h:j≤k):Room j A:=⟨r.hd,by have:=r.dp;omega,by have:=r.un;omega⟩
theorem Room.deeper{k:Nat}{A:Around}(r:Room (k+1) A)(env:Env):Room k (A.deeper env) :=
 ⟨r.hd,by have:=r.dp;show A.depth+1+3 * k+5<_;omega,by have:=r.un;show A.units+3+16 * k+200<_;omega⟩
theorem Room.in1{k:Nat}{A:Around}(r:Room (k+1) A):Room k A.in1 :=
 ⟨r.hd,by have:=r.dp;show A.depth+3 * k+5<_;omega,by have:=r.un;show A.units+1+16 * k+200<_;omega⟩
theorem xL{A:Around}{C:Addr}{us:List Value}{kw:List (Str×Value)}:(A.under (.builtin "type.__call__" ⟨.ref C::us,kw⟩)).depth=A.depth+1:=by
 first | rfl | simp[Around.under,Code.weight,Code.isCreation,Code.isGuard,Code.isCaller,Code.frames,Code.isFrame,guardIds]
theorem wS{A:Around}{C:Addr}{us:List Value}{kw:List (Str×Value)}:(A.under (.builtin "type.__call__" ⟨.ref C::us,kw⟩)).units=A.units+1:=by
 first | rfl | simp[Around.under,Code.cUnits,Code.frames,Code.isFrame]
theorem Room.make{k:Nat}{A:Around}(r:Room (k+1) A)(C:Addr)(us:List Value)(kw:List (Str×Value)):Room k (A.under (.builtin "type.__call__" ⟨.ref C::us,kw⟩)) :=
 ⟨r.hd,by have:=r.dp;rw[xL];omega,by have:=r.un;rw[wS];omega⟩
theorem Room.depth{k:Nat}{A:Around}(r:Room k A):A.depth<recursionLimit:=by have:=r.dp;omega
theorem Room.units{k:Nat}{A:Around}(r:Room k A):A.units+64<cLine:=by have:=r.un;omega
theorem Room.units0{k:Nat}{A:Around}(r:Room k A):A.units<cLine:=by have:=r.un;omega
def Cq:TA:=fun _ H Q=>Q [] H
def BV(ta:TE)(tr:TA):TA:=fun σ H Q=>ta σ H fun x H1=>tr σ H1 fun xs H2=>Q (x::xs) H2
section
variable {X:Cx}{e:Expr}{es:List Expr}{te:TE}{t:TA}{pos:Pos}
theorem aC:PA X [] Cq:=fun _ _ _ _ H Q I h=>aXQ ⟨[],H,I,.nil,h⟩
theorem aA(ha:PE X e te)(hr:PA X es t)(hs:starEach (e::es) X.env=(false,eval e X.env)::starEach es X.env:=by rfl):PA X (e::es) (BV te t):=by
 intro pos pins s σ H Q I h
 rw[hs]
 show wpAny _ _ (spliced ((false,eval e X.env)::backTo pos (starEach es X.env))) _ _ s
 refine aQ9 (bV (ha pins s σ H _ I h) fun u s1 ⟨x,H1,I1,r1,q1⟩=>?_)
 exact bV (hr pos pins s1 σ H1 _ I1 q1) fun us s2 ⟨xs,H2,I2,r2,q2⟩=>⟨x::xs,H2,I2,.cons r1 r2,q2⟩
def Iz(t:TA):TE:=fun σ H Q=>t σ H fun xs H1=>xs.length≤sizeLine∧∀ p,H1 p=none→Q (.ref p) (upd H1 p (.tup xs))
def Ia(t:TA):TE:=fun σ H Q=>t σ H fun xs H1=>xs.length≤sizeLine∧∀ p,H1 p=none→Q (.ref p) (upd H1 p (.lst xs))
theorem eF{x1}(h:PA X es t):PE X (.Tuple es x1 pos) (Iz t):=by
 intro pins s σ H Q I hq
 refine wpAny_Tuple_spliced (bV (h pos pins s σ H _ I hq) fun us s1 ⟨xs,H1,I1,r,z,q⟩=>⟨by rw[← r.length];exact z,?_⟩)
 have hf:H1 s1.heap.objs.size=none:=I1.hok.fresh (b9 _)
 refine⟨.ref s1.heap.objs.size,upd H1 s1.heap.objs.size (.tup xs),I1.laid (t':=s1.toks) (fun b u e=>b6 _ e) (b9 _) ?_,rfl,q _ hf⟩
 exact⟨z,us,r,⟨_,d3 _ rfl,rfl,_,rfl⟩,NoD.new _ _⟩
theorem dB(h:PA X es t):PE X (.List es pos) (Ia t):=by
 intro pins s σ H Q I hq
 refine wpAny_List_spliced (bV (h pos pins s σ H _ I hq) fun us s1 ⟨xs,H1,I1,r,z,q⟩=>⟨by rw[← r.length];exact z,?_⟩)
 have hf:H1 s1.heap.objs.size=none:=I1.hok.fresh (b9 _)
 refine⟨.ref s1.heap.objs.size,upd H1 s1.heap.objs.size (.lst xs),I1.laid (t':=s1.toks) (fun b u e=>b6 _ e) (b9 _) ?_,rfl,q _ hf⟩
 exact⟨z,us,0,r,d3 _ rfl⟩
end
abbrev Sp:=List V→Hp→VK→XK→Prop
abbrev AR:=List Env→Hp→Shared→XK→Value→Shared→Prop
structure Env0(P:Program)(w:World)(K:b5)(mg:Str→Option Value)(base:Heap)(A:Around)(outer:List Env)(s:Shared)(H:Hp):Prop where
 frames:A.frames=some outer
 mod:Mod K mg base
 bs:∀ b o,base.get? b=some o→s.heap.get? b=some o∧H b=none
 bsz:base.objs.size≤s.heap.objs.size
 funs:s.heap.FunFrames base outer
 frf:∀ b∈AS outer,H b=none
 hok:HOk P w H s.heap
 bare:AllBare s.gens
def CE(outer:List Env)(P:Program)(w:World)(H:Hp)(s:Shared)(Q:VK)(u:Value)(s':Shared):Prop :=
 ∃ v H',s'.os=s.os∧AllBare s'.gens∧Un (AS outer) [] H H' s.heap s'.heap∧HOk P w H' s'.heap∧RelV v u∧Q v H'
def CR(CX:AR)(outer:List Env)(P:Program)(w:World)(H:Hp)(s:Shared)(Q:VK)(E:XK)(r:Result)(s':Shared):Prop :=
 match r with
 | .ok (.ret u)=>CE outer P w H s Q u s'
 | .ok _=>False
 | .error e=>CX outer H s E e s'
structure FnOk(P:Program)(w:World)(K:b5)(mg:Str→Option Value)(base:Heap)(CX:AR)(k:Nat)(f:Addr)(fd:FuncData)(ps:List Str)(sp:Sp):Prop where
 len:∀ vs H Q E,sp vs H Q E→vs.length=ps.length
 run:∀ (A:Around) (outer:List Env) (s:Shared) (H:Hp) (args:Args) (us:List Value) (vs:List V) (Q:VK) (E:XK),Room k A→Env0 P w K mg base A outer s H→BindsTo s fd args (ps.zip us)→Vals vs us→sp vs H Q E →
  codeAny (model P w) A (.call (.ref f) args) (CR CX outer P w H s Q E) s
theorem FnOk.mono{P:Program}{w:World}{K:b5}{mg:Str→Option Value}{base:Heap}{CX:AR}{j k:Nat}{f:Addr}{fd:FuncData}{ps:List Str}{sp:Sp}(F:FnOk P w K mg base CX j f fd ps sp)(h:j≤k) :
  FnOk P w K mg base CX k f fd ps sp:=⟨F.len,fun A outer s H args us vs Q E hr=>F.run A outer s H args us vs Q E (hr.mono h)⟩
theorem Env0.make{P:Program}{w:World}{K:b5}{mg:Str→Option Value}{base:Heap}{A:Around}{outer:List Env}{s:Shared}{H:Hp}(e:Env0 P w K mg base A outer s H)(C:Addr)(us:List Value)(kw:List (Str×Value)) :
  Env0 P w K mg base (A.under (.builtin "type.__call__" ⟨.ref C::us,kw⟩)) outer s H:=⟨by first | exact e.frames | (simpa [Around.under,Code.envs,Code.isFrame,pushEnvs] using e.frames),e.mod,e.bs,e.bsz,e.funs,e.frf,e.hok,e.bare⟩
section
variable {X:Cx}{pins:List (Addr×Obj)}{σ:St}{H:Hp}{s s':Shared}
theorem Inv.env0(I:Inv X pins σ H s):Env0 X.prog X.w X.K X.mg X.base X.A X.stack s H :=
 ⟨I.ok.frames,I.ok.mod,I.bs,k8 I.ok.bsz I.sz,I.stack,I.stkFree,I.hok,I.bare⟩
theorem Inv.after{Q:VK}{u:Value}(I:Inv X pins σ H s)(h:CE X.stack X.prog X.w H s Q u s'):EP X pins σ Q u s':=by
 obtain⟨v,H',os,bare,un,hok,r,q⟩:=h
 obtain⟨hh,g,d,t,os'⟩:=s'
 obtain rfl:os'=s.os:=os
 exact⟨v,H',I.call (h':=hh) (g':=g) (d':=d) (t':=t) (ch:=[]) un hok bare (fun b z=>absurd z (by simp)),r,q⟩
end
def DW(sp:Sp)(dvs:List V)(E:XK)(t:TA):TE:=fun σ H Q=>t σ H fun vs H1=>sp (vs++dvs) H1 Q E
def D6(C:Addr)(m:Str)(sp:Sp)(dvs:List V)(E:XK)(ta:TE)(t:TA):TE:=fun σ H Q=>ta σ H fun x H1=>∃ a dx fs,x=.ref a∧H1 a=some (.ins C dx fs)∧fs.lookup m=none ∧
 t σ H1 fun vs H2=>sp (x::(vs++dvs)) H2 Q E
def Gc(C:Addr)(sp:Sp)(dvs:List V)(E:XK)(t:TA):TE:=fun σ H Q=>t σ H fun vs H1=>∀ x dx,H1 x=none→H1 dx=none→dx≠x →
 sp (.ref x::(vs++dvs)) (upd (upd H1 dx (.own x)) x (.ins C dx [])) (fun v H2=>v=.non∧Q (.ref x) H2) E
def Binds(K:b5)(fd:FuncData)(ps:List Str)(ds:List Value):Prop :=
 ∀ (s:Shared) (us:List Value),K.In s.heap→(us++ds).length=ps.length→BindsTo s fd ⟨us,[]⟩ (ps.zip (us++ds))
theorem Binds.all{K:b5}{fd:FuncData}{ps:List Str}(h:∀ us:List Value,us.length=ps.length→bindArgs fd ⟨us,[]⟩=pure (ps.zip us)):Binds K fd ps []:=fun s us _ hl=>by
 rw[o6] at hl ⊢
 exact .of_eq (h us hl)
def jW(CX:AR)(X:Cx)(E:XK):Prop:=∀ (pins:List (Addr×Obj)) (σ:St) (H:Hp) (s:Shared) (e:Value) (s':Shared),Inv X pins σ H s→CX X.stack H s E e s'→X.xe e s'
section
variable {X:Cx}{CX:AR}{k:Nat}{f C:Addr}{fd:FuncData}{ps:List Str}{sp:Sp}{dvs:List V}{ds:List Value}{E:XK}{x m:Str}{p pos apos:Pos}{e o:Expr}{es:List Expr}{ta:TE}{t:TA}
theorem rX{pins:List (Addr×Obj)}{σ:St}{H:Hp}{s:Shared}{Q:VK}{us:List Value}{vs:List V}(F:FnOk X.prog X.w X.K X.mg X.base CX k f fd ps sp)(hr:Room k X.A)(hb:Binds X.K fd ps ds)(hd:Vals dvs ds)(hx:jW CX X E)
  (I:Inv X pins σ H s) (r:Vals vs us) (h:sp (vs++dvs) H Q E):wpAny (model X.prog X.w) X.A (call (.ref f) us) (EP X pins σ Q) X.xe s:=by
 have r2:Vals (vs++dvs) (us++ds):=r.append hd
 have hl:(us++ds).length=ps.length:=by rw[← r2.length];exact F.len _ _ _ _ h
 refine wpAny_call (codeAny_mono (F.run X.A X.stack s H ⟨us,[]⟩ (us++ds) (vs++dvs) Q E hr I.env0 (hb s us I.kIn hl) r2 h) fun r s' hq=>?_)
 cases r with
 | error e=>exact hx pins σ H s e s' I hq
 | ok fl =>
  cases fl with
  | ret u=>exact I.after hq
  | next=>exact False.elim hq
  | brk=>exact False.elim hq
  | cont=>exact False.elim hq
theorem Dc(F:FnOk X.prog X.w X.K X.mg X.base CX k f fd ps sp)(hr:Room k X.A)(hg:Gl X x)(hm:X.mg x=some (.ref f))(hk:PySem.W.keepIn X.K (.ref f)=true)(hb:Binds X.K fd ps ds)(hd:Vals dvs ds)(hx:jW CX X E)
  (ha:PA X (e::es) t) (hdb:(x == ("__debug__":Str))=false:=by decide) (he:starEach (e::es) X.env=(false,eval e X.env)::starEach es X.env:=by rfl) (hpl:(backTo pos (starEach es X.env)).any (·.1)=false:=by rfl) :
  PE X (.Call (.Name x p) (e::es) [] pos) (DW sp dvs E t):=by
 intro pins s σ H Q I h
 refine wpAny_Call_Name_kw (sT I hg hm ?_ hdb)
 refine aZB (h₀:=X.base) I.ok.mod.kin hk (bV (ha pos pins s σ H _ I h) fun us s1 ⟨vs,H1,I1,r,q⟩=>⟨I1.kIn,?_⟩) he hpl
 exact rX F hr hb hd hx I1 r q
theorem dW{pl:Sem Bool}(he:PE X o ta)(c:Cls X.K C)(hm:Meth X.K C m f)(F:FnOk X.prog X.w X.K X.mg X.base CX k f fd ps sp)(hr:Room k X.A)(hb:Binds X.K fd ps ds)(hd:Vals dvs ds)(hx:jW CX X E)(ha:PA X (e::es) t)
  (hst:starEach (e::es) X.env=(false,eval e X.env)::starEach es X.env:=by rfl) (hpl:(backTo pos (starEach es X.env)).any (·.1)=false:=by rfl)
  (ht:eval (.Call (.Attribute o m apos) (e::es) [] pos) X.env=(do
   let ov ← eval o X.env
   standAt apos.atName
   let (f,first) ← holding [ov] (getMethod ov m pl)
   callWith pos f first (backTo pos (starEach (e::es) X.env)) (backToKw pos (keywordEach [] X.env))):=by rfl) :
  PE X (.Call (.Attribute o m apos) (e::es) [] pos) (D6 C m sp dvs E ta t):=by
 intro pins s σ H Q I h
 refine aQn (pl:=pl) (bV (he pins s σ H _ I h) fun u s1 ⟨x,H1,I1,rx,a,dx,fs,ex,ea,l,q⟩=>?_) ht
 subst ex
 obtain rfl:u=Value.ref a:=rx
 refine jX I1 ea c hm l ?_
 refine aZB (first:=[.ref a]) (h₀:=X.base) I.ok.mod.kin hm.kp (bV (ha pos pins s1 σ H1 _ I1 q) fun us s2 ⟨vs,H2,I2,r,q2⟩=>⟨I2.kIn,?_⟩) hst hpl
 exact rX (us:=.ref a::us) (vs:=.ref a::vs) F hr hb hd hx I2 (.cons rfl r) q2
theorem uR{pl:Sem Bool}(he:PE X o ta)(c:Cls X.K C)(hm:Meth X.K C m f)(F:FnOk X.prog X.w X.K X.mg X.base CX k f fd ps sp)(hr:Room k X.A)(hb:Binds X.K fd ps ds)(hd:Vals dvs ds)(hx:jW CX X E)
  (ht:eval (.Call (.Attribute o m apos) [] [] pos) X.env=(do
   let ov ← eval o X.env
   standAt apos.atName
   let (f,first) ← holding [ov] (getMethod ov m pl)
   callWith pos f first (backTo pos (starEach [] X.env)) (backToKw pos (keywordEach [] X.env))):=by rfl) :
  PE X (.Call (.Attribute o m apos) [] [] pos) (D6 C m sp dvs E ta Cq):=by
 intro pins s σ H Q I h
 refine aQn (pl:=pl) (bV (he pins s σ H _ I h) fun u s1 ⟨x,H1,I1,rx,a,dx,fs,ex,ea,l,q⟩=>?_) ht
 subst ex
 obtain rfl:u=Value.ref a:=rx
 refine jX I1 ea c hm l ?_
 exact aXs (first:=[.ref a]) I1.kIn hm.kp (rX (us:=[.ref a]) (vs:=[.ref a]) F hr hb hd hx I1 (.cons rfl .nil) q)
structure Mk(K:b5)(C f:Addr):Prop where
 makes:PySem.W.makesIn K C=true
 init:PySem.W.findIn K (.ref C) "__init__"=some (some (.ref f))
 fn:PySem.W.isFn K (.ref f)=true
 kp:PySem.W.keepIn K (.ref C)=true
theorem Cu{pins:List (Addr×Obj)}{σ:St}{H:Hp}{s:Shared}{Q:VK}{us:List Value}{vs:List V}(M:Mk X.K C f)(F:FnOk X.prog X.w X.K X.mg X.base CX k f fd ps sp)(hr:Room (k+1) X.A)(hb:Binds X.K fd ps ds)(hd:Vals dvs ds)
  (hx:jW CX X E) (I:Inv X pins σ H s) (r:Vals vs us)
  (h:∀ x dx,H x=none→H dx=none→dx≠x→sp (.ref x::(vs++dvs)) (upd (upd H dx (.own x)) x (.ins C dx [])) (fun v H2=>v=.non∧Q (.ref x) H2) E) :
  wpAny (model X.prog X.w) X.A (call (.ref C) us) (EP X pins σ Q) X.xe s:=by
 have hq:=h (s.heap.objs.size+1) s.heap.objs.size (I.hok.fresh (aQT _)) (I.hok.fresh (b9 _)) (g6 (aZT _))
 have I2:=Inv.made (C:=C) I
 have r2:Vals (V.ref (s.heap.objs.size+1)::(vs++dvs)) (Value.ref (s.heap.objs.size+1)::(us++ds)):=.cons rfl (r.append hd)
 have hl:(Value.ref (s.heap.objs.size+1)::us++ds).length=ps.length:=by
  have e:=r2.length
  rw[F.len _ _ _ _ hq] at e
  exact e.symm
 refine wpAny_call (Bn (f:=f) I.kIn M.makes M.init (beq_iff_eq.mp M.fn) (codeAny_mono (F.run _ X.stack _ _ ⟨Value.ref (s.heap.objs.size+1)::us,[]⟩ (Value.ref (s.heap.objs.size+1)::(us++ds)) _ _ E (hr.make C us [])
  (I2.env0.make C us []) (hb _ (Value.ref (s.heap.objs.size+1)::us) I2.kIn hl) r2 hq) fun r s' hq'=>?_))
 cases r with
 | error e=>exact hx pins σ _ _ e s' I2 hq'
 | ok fl =>
  cases fl with
  | ret u =>
   obtain⟨v,H',I3,rv,ev,q3⟩:=I2.after hq'
   subst ev
   exact⟨rv,⟨V.ref (s.heap.objs.size+1),H',I3,rfl,q3⟩⟩
  | next=>exact False.elim hq'
  | brk=>exact False.elim hq'
  | cont=>exact False.elim hq'
theorem Ck(M:Mk X.K C f)(F:FnOk X.prog X.w X.K X.mg X.base CX k f fd ps sp)(hr:Room (k+1) X.A)(hg:Gl X x)(hm:X.mg x=some (.ref C))(hb:Binds X.K fd ps ds)(hd:Vals dvs ds)(hx:jW CX X E)
  (hdb:(x == ("__debug__":Str))=false:=by decide):PE X (.Call (.Name x p) [] [] pos) (Gc C sp dvs E Cq):=by
 intro pins s σ H Q I h
 refine wpAny_Call_Name_kw (sT I hg hm ?_ hdb)
 exact aXs I.kIn M.kp (Cu (us:=[]) M F hr hb hd hx I .nil h)
end
def PK(X:Cx)(kws:List Keyword)(t:TA):Prop :=
 ∀ (pos:Pos) (pins:List (Addr×Obj)) (s:Shared) (σ:St) (H:Hp) (Q:List V→Hp→Prop),Inv X pins σ H s→t σ H Q→wpAny (model X.prog X.w) X.A (evalAll ((backToKw pos (keywordEach kws X.env)).map (·.2))) (AP X pins σ Q) X.xe s
section
variable {X:Cx}{CX:AR}{k:Nat}{f C:Addr}{fd:FuncData}{ps ks:List Str}{sp:Sp}{E:XK}{x m:Str}{p pos apos kpos:Pos}{e o:Expr}{es:List Expr}{kws:List Keyword}{te ta:TE}{t tk:TA}{nm:Option Str}
theorem Fe:PK X [] Cq:=fun _ _ _ _ H Q I h=>wpAny_evalAll_nil ⟨[],H,I,.nil,h⟩
theorem CY(ha:PE X e te)(hr:PK X kws t):PK X (⟨nm,e,kpos⟩::kws) (BV te t):=by
 intro pos pins s σ H Q I h
 show wpAny _ _ (evalAll ((do let v ← eval e X.env;standAt pos;pure v)::(backToKw pos (keywordEach kws X.env)).map (·.2))) _ _ s
 refine wpAny_evalAll_cons (wpAny_bind (bV (ha pins s σ H _ I h) fun u s1 ⟨x,H1,I1,r1,q1⟩=>wpAny_bind (wpAny_standAt (wpAny_pure ?_))))
 exact bV (hr pos pins s1 σ H1 _ I1 q1) fun us s2 ⟨xs,H2,I2,r2,q2⟩=>⟨x::xs,H2,I2,.cons r1 r2,q2⟩
variable {g:List Value→List Value→List Value}{gV:List V→List V→List V}
end
structure FnScope(N P:List Str)(sc:Scope):Prop where
 kind:sc.kind=.function
 co:sc.isCoroutine=false
 gen:sc.isGenerator=false
 nd:N.Nodup
 pre:N.take P.length=P
 par:∀ x∈P,sc.names.lookup x=some .local∨sc.names.lookup x=some .cell
 nofree:∀ y∈sc.names,y.2≠.free
theorem rB{kindOf:Str→Option NameKind}{x:Str}:∀ {binds:List (Str×Value)} {m:Str→Option Value},(∀ v,(x,v) ∉ binds)→bindL kindOf binds m x=m x
 | [],_,_=>rfl
 | (n,v)::r,m,h=>by
  unfold bindL
  rw[rB fun w hw=>h w (d4 _ hw)]
  split
  ·have:x≠n:=by rintro rfl;exact h v d9
   simp[this]
  ·rfl
theorem pQ{kindOf:Str→Option NameKind}{x:Str}:∀ {binds:List (Str×Value)} {m:Str→Option Value},(∀ v,(x,v) ∉ binds)→bindC kindOf binds m x=m x
 | [],_,_=>rfl
 | (n,v)::r,m,h=>by
  unfold bindC
  rw[pQ fun w hw=>h w (d4 _ hw)]
  split
  ·rfl
  ·have:x≠n:=by rintro rfl;exact h v d9
   simp[this]
theorem qB{kindOf:Str→Option NameKind}{x:Str}{v:Value}:∀ {P:List Str} {vs:List Value} {i:Nat} {m:Str→Option Value},P.Nodup→P[i]?=some x→vs[i]?=some v→kindOf x=some .local →
  bindL kindOf (P.zip vs) m x=some v
 | [],_,_,_,_,h,_,_=>by simp at h
 | _::_,[],_,_,_,_,h,_=>by simp at h
 | p::P,w::vs,0,m,nd,h1,h2,hk=>by
  simp at h1 h2;subst h1;subst h2
  show bindL kindOf ((p,w)::P.zip vs) m p=_
  unfold bindL
  rw[rB fun v hv=>(l9.mp nd).1 (aX8 hv).1,if_pos hk]
  simp
 | p::P,w::vs,i+1,m,nd,h1,h2,hk=>by
  show bindL kindOf ((p,w)::P.zip vs) m x=_
  unfold bindL
  exact qB (i:=i) (l9.mp nd).2 (by simpa using h1) (by simpa using h2) hk
theorem qW{kindOf:Str→Option NameKind}{x:Str}{v:Value}:∀ {P:List Str} {vs:List Value} {i:Nat} {m:Str→Option Value},P.Nodup→P[i]?=some x→vs[i]?=some v→kindOf x≠some .local →
  bindC kindOf (P.zip vs) m x=some v
 | [],_,_,_,_,h,_,_=>by simp at h
 | _::_,[],_,_,_,_,h,_=>by simp at h
 | p::P,w::vs,0,m,nd,h1,h2,hk=>by
  simp at h1 h2;subst h1;subst h2
  show bindC kindOf ((p,w)::P.zip vs) m p=_
  unfold bindC
  rw[pQ fun v hv=>(l9.mp nd).1 (aX8 hv).1,if_neg hk]
  simp
 | p::P,w::vs,i+1,m,nd,h1,h2,hk=>by
  show bindC kindOf ((p,w)::P.zip vs) m x=_
  unfold bindC
  exact qW (i:=i) (l9.mp nd).2 (by simpa using h1) (by simpa using h2) hk
def mM(N:List Str)(vs:List V):St:=vs.map some++List.replicate (N.length - vs.length) none
def AO(CX:AR)(P:Program)(w:World)(K:b5)(mg:Str→Option Value)(base:Heap)(N:List Str)(qual:Str)(scope:Scope)(f:Addr)(cd:Value)(A:Around)(outer:List Env)(s:Shared)(H:Hp)(E:XK):Cx where
 prog:=P
 w:=w
 K:=K
 mg:=mg
 base:=base
 A:=A.deeper (envOfC qual scope s.heap.objs.size f cd)
 N:=N
 s₀:=s
 H₀:=H
 env:=envOfC qual scope s.heap.objs.size f cd
 outer:=outer
 stack:=envOfC qual scope s.heap.objs.size f cd::outer
 ex:=[]
 calm:=true
 fn:=fun _=>true
 pn:=[]
 xe:=fun e s'=>wpAny (model P w) (A.deeper (envOfC qual scope s.heap.objs.size f cd)) (leaving (envOfC qual scope s.heap.objs.size f cd) e) (fun _ s''=>CX outer H s E e s'') (fun e' s''=>CX outer H s E e' s'') s'
theorem tR{sc:Scope}{n:Nat}{x:Str}(h:sc.names.lookup x=some .cell):∃ c,(cellsFrom n sc.names []).lookup x=some c:=by
 have q:=aXb sc.names n [] (.inl h)
 exact aQL.mp q
theorem AL{CX:AR}{P:Program}{w:World}{K:b5}{mg:Str→Option Value}{base:Heap}{N ps:List Str}{qual:Str}{scope:Scope}{f:Addr}{cd:Value}{A:Around}{outer:List Env}{s s1:Shared}{H:Hp}{E:XK}{us:List Value}{vs:List V}
  (S:FnScope N ps scope) (hd:A.handled=none) (e0:Env0 P w K mg base A outer s H) (hl:vs.length=ps.length) (r:Vals vs us)
  (x:InCallC s s.heap.objs.size (bindL (envOfC qual scope s.heap.objs.size f cd).kindOf (ps.zip us) fun _=>none) (cellsFrom (s.heap.objs.size+1) scope.names []) (bindC (envOfC qual scope s.heap.objs.size f cd).kindOf (ps.zip us) fun _=>none) s1) :
  Inv (AO CX P w K mg base N qual scope f cd A outer s H E) [] (mM N vs) H s1:=by
 have hpl:ps.length≤N.length:=by have:=congrArg List.length S.pre;rw[i9] at this;omega
 obtain⟨h1,tk,rfl,hk⟩:=x.done
 have noA:∀ b:Addr,b ∉ (AO CX P w K mg base N qual scope f cd A outer s H E).ex:=fun b z=>absurd (show b∈([]:List Addr) from z) (by simp)
 refine⟨⟨e0.mod,S.kind,rfl,rfl,b9 _,fun y z c h1 h2=>?_,fun y hy=>?_,fun y c _ h=>?_,fun _=>hd,Around.frames_deeper e0.frames,.inr ⟨rfl,rfl⟩,fun b z=>absurd z (noA b),e0.bs,e0.bsz,fun b _ _=>noA b,fun b z=>absurd z (noA b),e0.funs,e0.frf⟩,
  rfl,e0.bare,Un.kept hk,⟨_,x.toInCall.ns,fun i y v h1 h2 h3=>?_⟩,fun y c h=>⟨_,x.cell y c h⟩,e0.hok.fresh (b9 _),fun y c h=>?_,fun p hp=>absurd (show p∈([]:List (Addr×Obj)) from hp) (by simp),e0.hok.kept hk,?_⟩
 ·exact name_of_addr x.apart (r6 h1) (r6 h2)
 ·have hy:scope.names.lookup y=some .cell∨scope.names.lookup y=some .free:=hy
  rcases hy with hy | hy
  ·exact tR hy
  ·exact absurd rfl (S.nofree _ (r6 hy))
 ·exact aQX (x.above y c (r6 h))
 ·have hi:i<vs.length:=by
   unfold mM at h2
   by_cases hi:i<vs.length
   ·exact hi
   ·rw[aQF (by simpa using hi)] at h2
    rw[List.getElem?_replicate] at h2
    split at h2 <;> cases h2
  have ha:vs[i]?=some v:=by
   unfold mM at h2
   rw[m9 (by simpa using hi),c7] at h2
   cases e:vs[i]? with
   | none=>rw[e] at h2;cases h2
   | some a=>rw[e] at h2;cases h2;rfl
  obtain⟨u,hu,rv⟩:=r.get ha
  have hp:ps[i]?=some y:=by
   rw[← S.pre,aQa (by omega)];exact h1
  have ndP:ps.Nodup:=by rw[← S.pre];exact S.nd.sublist (List.take_sublist _ _)
  refine⟨u,rv,?_⟩
  rcases S.par y (b0 hp) with k | k
  ·exact .inl ⟨k,qB ndP hp hu k⟩
  ·obtain⟨c,e⟩:=tR (n:=s.heap.objs.size+1) k
   refine .inr ⟨.inl k,c,e,?_⟩
   have q:=x.cell y c e
   rw[qW ndP hp hu (by show scope.names.lookup y≠_;rw[k];decide)] at q
   exact q
 ·exact e0.hok.fresh (aQX (x.above y c (r6 h)))
 ·unfold mM
  show _=N.length
  rw[b8,b7,aQY]
  omega
theorem GT{CX:AR}{P:Program}{w:World}{K:b5}{mg:Str→Option Value}{base:Heap}{k:Nat}{f:Addr}{name qual:Str}{params:Arguments}{body:List Stmt}{scope:Scope}{dV kV doc pm cdv ct oc:Value}{an od:Option Addr}
  {osl:Array (Option Value)} {N ps:List Str} {sp:Sp} (lk:K.lookup f=some ⟨oc,od,.func (PySem.W.fnOf name qual params body scope dV kV doc pm an cdv ct),osl⟩) (hcd:PySem.W.codeIn K cdv qual=true) (S:FnScope N ps scope)
  (len:∀ vs H Q E,sp vs H Q E→vs.length=ps.length)
  (hbody:∀ (A:Around) (outer:List Env) (s:Shared) (H:Hp) (vs:List V) (Q:VK) (E:XK),Room k (A.deeper (envOfC qual scope s.heap.objs.size f cdv))→sp vs H Q E →
   ∃ t,PSs (AO CX P w K mg base N qual scope f cdv A outer s H E) body t∧t { nx:=fun _ H'=>Q .non H',rt:=Q } (mM N vs) H) :
  FnOk P w K mg base CX (k+1) f (PySem.W.fnOf name qual params body scope dV kV doc pm an cdv ct) ps sp:=by
 refine⟨len,fun A outer s H args us vs Q E hr e0 hb r hsp=>?_⟩
 have hl:=len _ _ _ _ hsp
 have KX:K.In s.heap:=e0.mod.kin.keeps fun b o e=>(e0.bs b o e).1
 have lim:s.heap.NoLimit:=e0.mod.nolimit.keeps fun b o e=>(e0.bs b o e).1
 have hkind:∀ y∈ps.zip us,scope.names.lookup y.1=some .local∨(scope.names.lookup y.1=some .cell∧((cellsFrom (s.heap.objs.size+1) scope.names []).lookup y.1).isSome=true):=fun ⟨n,v⟩ hy=>by
  rcases S.par n (aX8 hy).1 with q | q
  ·exact .inl q
  ·exact .inr ⟨q,aXb _ _ _ (.inl q)⟩
 refine codeAny_call_function hr.depth (KX _ _ lk) rfl S.co S.gen rfl (PySem.W.codeRec_of KX hcd) (hb _ _ _ _ ?_)
 refine wpAny_newFunctionEnv_cells S.kind hkind fun env he s1 x=>?_
 subst he
 refine⟨lim.keeps x.toInCall.keep,codeAny_func ?_⟩
 obtain⟨t,ht,hq⟩:=hbody A outer s H vs Q E (hr.deeper _) hsp
 have I:Inv (AO CX P w K mg base N qual scope f cdv A outer s H E) [] (mM N vs) H s1:=AL S hr.hd e0 hl r x
 refine wpAny_mono (ht [] s1 (mM N vs) H _ I hq) (fun fl s' hs=>?_) fun e s' hs=>hs
 have fin:∀ {σ':St} {H':Hp} {v:V} {u:Value},Inv (AO CX P w K mg base N qual scope f cdv A outer s H E) [] σ' H' s'→RelV v u→Q v H'→CE outer P w H s Q u s' :=
  fun {σ' H' v u} J rv q=>⟨v,H',J.os,J.bare,J.base,J.hok,rv,q⟩
 cases fl with
 | ret u =>
  obtain⟨v,σ',H',J,rv,q⟩:=hs
  exact fin J rv q
 | next =>
  obtain⟨σ',H',J,q⟩:=hs
  exact fin (v:=V.non) (u:=Value.none) J rfl q
 | brk =>
  obtain⟨_,_,_,q⟩:=hs
  exact False.elim q
 | cont =>
  obtain⟨_,_,_,q⟩:=hs
  exact False.elim q
section
variable {X:Cx}{x:Str}{p pos:Pos}{e:Expr}{es:List Expr}{t:TA}{id T:String}{r:List V→Hp→VK→Prop}
def IY(r:List V→Hp→VK→Prop)(t:TA):TE:=fun σ H Q=>t σ H fun vs H1=>r vs H1 Q
theorem aT(hc:fC X (.builtin id) r)(hg:Gl X x)(hm:X.mg x=none)(hv:bootBuiltins x=some (.builtin id))(ha:PA X (e::es) t)(hn:x≠"__name__":=by decide)(hdb:(x == ("__debug__":Str))=false:=by decide)
  (he:starEach (e::es) X.env=(false,eval e X.env)::starEach es X.env:=by rfl) (hpl:(backTo pos (starEach es X.env)).any (·.1)=false:=by rfl):PE X (.Call (.Name x p) (e::es) [] pos) (IY r t):=by
 intro pins s σ H Q I h
 refine wpAny_Call_Name_kw (hU I hg hm hv ?_ hn hdb)
 exact aZ3 (bV (ha pos pins s σ H _ I h) fun us s1 ⟨vs,H1,I1,r1,q1⟩=>hc pins s1 σ H1 vs us Q I1 r1 q1) he hpl
theorem bQ(hc:fC X (.type T) r)(hg:Gl X x)(hm:X.mg x=none)(hv:bootBuiltins x=some (.type T))(ha:PA X (e::es) t)(hn:x≠"__name__":=by decide)(hdb:(x == ("__debug__":Str))=false:=by decide)
  (he:starEach (e::es) X.env=(false,eval e X.env)::starEach es X.env:=by rfl) (hpl:(backTo pos (starEach es X.env)).any (·.1)=false:=by rfl):PE X (.Call (.Name x p) (e::es) [] pos) (IY r t):=by
 intro pins s σ H Q I h
 refine wpAny_Call_Name_kw (hU I hg hm hv ?_ hn hdb)
 exact r9 (bV (ha pos pins s σ H _ I h) fun us s1 ⟨vs,H1,I1,r1,q1⟩=>hc pins s1 σ H1 vs us Q I1 r1 q1) he hpl
end
end L2
namespace HT
open PySem PyProof.Rows
def lexLt:List Int→List Int→Bool
 | [],[]=>false
 | [],_::_=>true
 | _::_,[]=>false
 | x::xs,y::ys=>if x=y then lexLt xs ys else decide (x<y)
theorem lexLt_cons(x y:Int)(xs ys:List Int):lexLt (x::xs) (y::ys)=if x=y then lexLt xs ys else decide (x<y):=rfl
theorem A_(A:Around)(s:Shared)(a:Int)(t:Tok)(c:Int)(u:Tok)(prog:Program)(w:World)(E:Value→Shared→Prop)(Q:Value→Shared→Prop)(h:Q (.bool (decide (a<c))) s) :
  wpAny (model prog w) A (richCompare .Lt (.int a t) (.int c u)) Q E s :=
 (aJM h:wpAny (model prog w) A (compareOp .Lt (.int a t) (.int c u)) Q E s)
section
variable {prog:Program}{w:World}{A:Around}{E:Value→Shared→Prop}{s:Shared}
theorem cat_tup{t b:Addr}{vs ws:List Value}{Q:Value→Shared→Prop}(ht:IsTup s.heap t vs.toArray)(hb:IsTup s.heap b ws.toArray)(hv:vs≠[])
  (h1:ws=[]→Q (.ref t) s) (h2:ws≠[]→Q (.ref s.heap.objs.size) { s with heap:=s.heap.push { cls:=.type "tuple",data:=.seq (vs++ws).toArray } })
  (hsz:vs.length+ws.length≤sizeLine):wpAny (model prog w) A (binaryOp .Add (.ref t) (.ref b)) Q E s:=by
 obtain⟨⟨cls,dd,data,sl⟩,ho,hc,n,hd⟩:=id ht
 obtain⟨⟨cls2,dd2,data2,sl2⟩,ho2,hc2,n2,hd2⟩:=id hb
 simp only at hc hd hc2 hd2
 subst hc hd hc2 hd2
 have e:vs.toArray++ws.toArray=(vs++ws).toArray:=by simp
 by_cases hw:ws=[]
 ·exact concat_meets ⟨_,ho,rfl⟩ ⟨_,ho2,rfl⟩ noFill_tuple_add seq_tuple_add aXc aX3 (aXW _ _)
   (tuple_addW1 t b vs.toArray ws.toArray n n2 dd dd2 sl sl2 (by simpa using hv) (by simp[hw])) ⟨ho,ho2,h1 hw⟩
 ·refine concat_meets ⟨_,ho,rfl⟩ ⟨_,ho2,rfl⟩ noFill_tuple_add seq_tuple_add aXc aX3 (aXW _ _)
   (tuple_addW2 t b vs.toArray ws.toArray n n2 dd dd2 sl sl2 (by simpa using hv) (by simpa using hw) (by rw[c0,c0];exact hsz)) ⟨ho,ho2,?_⟩
  rw[e]
  exact h2 hw
def sIx(n d:Nat):Option Int→Nat
 | none=>d
 | some v=>if v<0 then (v+(n:Int)).toNat else min v.toNat n
theorem Ew(n d:Nat)(hd:d≤n)(o:Option Int):sIx n d o≤n:=by
 cases o with
 | none=>exact hd
 | some v =>
  show (if v<0 then (v+(n:Int)).toNat else min v.toNat n)≤n
  by_cases hv:v<0
  ·rw[if_pos hv];omega
  ·rw[if_neg hv];exact Nat.min_le_right _ _
theorem yG(v:Int)(n d:Nat):(if v<0 then max (v+(n:Int)) 0 else min v (n:Int))=((sIx n d (some v):Nat):Int):=by
 show (if v<0 then max (v+(n:Int)) 0 else min v (n:Int))=(((if v<0 then (v+(n:Int)).toNat else min v.toNat n):Nat):Int)
 by_cases hv:v<0
 ·simp only [if_pos hv];omega
 ·simp only [if_neg hv];omega
theorem wZ(lo hi:Option Int)(n:Nat):Builtin.Slice.sliceAdjust lo hi 1 (n:Int)=(((sIx n 0 lo:Nat):Int),((sIx n n hi:Nat):Int)):=by
 have h1:¬ ((1:Int)<0):=by omega
 unfold Builtin.Slice.sliceAdjust
 simp only [h1,if_false]
 refine Prod.ext ?_ ?_
 ·cases lo with
  | none=>rfl
  | some v=>exact yG v n 0
 ·cases hi with
  | none=>rfl
  | some v=>exact yG v n n
theorem wV(i j:Nat):Builtin.Slice.slicePlaces (i:Int) (j:Int) 1=j - i:=by
 unfold Builtin.Slice.slicePlaces
 have h1:(1:Int) > 0:=by omega
 simp only [h1,if_true,Int.ediv_one]
 split <;> omega
theorem slicePart_{v:Value}{o:Option Int}{Q:Option Int→Shared→Prop}(p:IsPart v o)(h:Q o s):wpAny (model prog w) A (Builtin.Slice.slicePartIndex v) Q E s:=by
 cases p with
 | none=>exact slicePart_none h
 | int i t=>exact slicePart_int h
theorem sliceApplied_gen{sl:Addr}{vl vu:Value}{lo hi:Option Int}{n:Nat}{Q:Int×Int×Nat→Shared→Prop}(hs:s.heap.IsSliceOf sl vl vu .none)(pl:IsPart vl lo)(pu:IsPart vu hi)
  (h:Q (((sIx n 0 lo:Nat):Int),1,sIx n n hi - sIx n 0 lo) s):wpAny (model prog w) A (Builtin.Slice.sliceApplied (.ref sl) (pure (n:Int))) Q E s:=by
 obtain⟨os,hos,hcs,hds⟩:=id hs
 unfold Builtin.Slice.sliceApplied Builtin.Slice.sliceFields
 refine wpAny_bind (wpAny_bind (wpAny_field hos hds (x:=vl) rfl (wpAny_bind (wpAny_field hos hds (x:=vu) rfl (wpAny_bind (wpAny_field hos hds (x:=.none) rfl (wpAny_pure ?_)))))))
 refine wpAny_bind (slicePart_none ?_)
 show wpAny _ _ (if ((1:Int) == 0)=true then _ else _) _ _ s
 rw[if_neg (by decide)]
 refine wpAny_bind (slicePart_ pl (wpAny_bind (slicePart_ pu (wpAny_bind (wpAny_pure ?_)))))
 show wpAny _ _ (match Builtin.Slice.sliceAdjust lo hi 1 (n:Int) with | (lo,hi)=>pure (lo,(1:Int),Builtin.Slice.slicePlaces lo hi 1)) _ _ s
 rw[wZ lo hi n]
 show wpAny _ _ (pure (((sIx n 0 lo:Nat):Int),(1:Int),Builtin.Slice.slicePlaces ((sIx n 0 lo:Nat):Int) ((sIx n n hi:Nat):Int) 1)) _ _ s
 rw[wV]
 exact wpAny_pure h
theorem Cf(xs:Array Value)(i k:Nat):((List.range k).filterMap fun (m:Nat)=>xs[((i:Int)+(m:Int) * 1).toNat]?).toArray=((xs.toList.drop i).take k).toArray:=by
 have e:(fun (m:Nat)=>xs[((i:Int)+(m:Int) * 1).toNat]?)=fun m=>xs[i+m]?:=by
  funext m
  have:((i:Int)+(m:Int) * 1).toNat=i+m:=by omega
  rw[this]
 rw[e]
 have:=pick_run xs i k
 rw[List.filterMap_map] at this
 have e2:((fun x=>xs[x]?) ∘ fun x=>i+x)=fun m=>xs[i+m]?:=rfl
 rw[e2] at this
 rw[this]
theorem getItem_tuple_cut{t sl:Addr}{items:Array Value}{vl vu:Value}{lo hi:Option Int}{Q:Value→Shared→Prop}(ht:IsTup s.heap t items)(hs:s.heap.IsSliceOf sl vl vu .none)(pl:IsPart vl lo)(pu:IsPart vu hi)
  (hw:¬ (sIx items.size 0 lo=0∧sIx items.size items.size hi=items.size))
  (h:Q (.ref s.heap.objs.size) { s with heap:=s.heap.push { cls:=.type "tuple",data:=.seq ((items.toList.drop (sIx items.size 0 lo)).take (sIx items.size items.size hi - sIx items.size 0 lo)).toArray } })
  (hsz:items.size≤sizeLine):wpAny (model prog w) A (getItem (.ref t) (.ref sl)) Q E s:=by
 have htake:sizeOk (.seq ((items.toList.drop (sIx items.size 0 lo)).take (sIx items.size items.size hi - sIx items.size 0 lo)).toArray):=by
  show ((items.toList.drop (sIx items.size 0 lo)).take (sIx items.size items.size hi - sIx items.size 0 lo)).toArray.size≤sizeLine
  rw[c0,i9,aQ5,t5]
  omega
 have hj:sIx items.size items.size hi≤items.size:=Ew _ _ (b9 _) hi
 obtain⟨os,hos,hcs,hds⟩:=id hs
 have hTs:s.TypeIs (.ref sl) "slice":=⟨os,hos,hcs⟩
 unfold getItem
 try with_reducible refine wpAny_holding ?_
 first | refine wpAny_bind (wpAny_pure ?_) | skip
 refine wpAny_bind (wpAny_sequenceKey ht.typeIs (by decide) ?_)
 refine wpAny_bind (wpAny_callSpecial?_slot (name:=Str.ofString "__getitem__") ht.typeIs m7
  (wpAny_call_entry m7 ht.typeIs entry_tuple_getitem ?_ (args_tuple_getitem _ _)))
 show wpAny _ _ (Builtin.Tuple.tupleItemsOf (.ref t) >>= _) _ _ s
 refine wpAny_bind (tupleItemsOf_ ht ?_)
 refine wpAny_bind (wpAny_typeOf hTs ?_)
 rw[if_pos (by decide)]
 refine wpAny_bind (sliceApplied_gen hs pl pu ?_)
 have hno:¬ ((((sIx items.size 0 lo:Nat):Int) == 0 && (1:Int) == 1 && (sIx items.size items.size hi - sIx items.size 0 lo) == items.size)=true):=by
  intro q
  rw[aQA,aQA] at q
  have q1:((sIx items.size 0 lo:Nat):Int)=0:=eq_of_beq q.1.1
  have q2:sIx items.size items.size hi - sIx items.size 0 lo=items.size:=eq_of_beq q.2
  exact hw ⟨by omega,by omega⟩
 show wpAny _ _ (if (((sIx items.size 0 lo:Nat):Int) == 0 && (1:Int) == 1 && (sIx items.size items.size hi - sIx items.size 0 lo) == items.size)=true then _ else _) _ _ s
 rw[if_neg hno,Cf]
 first
  | exact wpAny_bind (m:=Builtin.Tuple.tupleExact _) (wpAny_newObj_type (wpAny_pure ⟨_,rfl,wpAny_pure h⟩) htake)
  | exact wpAny_bind (m:=Builtin.Tuple.tupleExact _) (wpAny_newObj_type (wpAny_bind (wpAny_pure (wpAny_pure ⟨_,rfl,wpAny_pure h⟩))) htake)
  | exact wpAny_bind (wpAny_bind (m:=Builtin.Tuple.tupleExact _) (wpAny_newObj_type (wpAny_pure (wpAny_pure ⟨_,rfl,wpAny_pure h⟩)) htake))
  | exact wpAny_bind (wpAny_bind (m:=Builtin.Tuple.tupleExact _) (wpAny_newObj_type (wpAny_pure ⟨_,rfl,wpAny_pure h⟩) htake))
end
end HT
namespace L2
open PySem PySem.Spec PyProof.Rows
abbrev TO:=St→Hp→(Option Int→Hp→Prop)→Prop
def PO(X:Cx)(e:Option Expr)(t:TO):Prop :=
 ∀ (pins:List (Addr×Obj)) (s:Shared) (σ:St) (H:Hp) (Q:Option Int→Hp→Prop),Inv X pins σ H s→t σ H Q →
  wpAny (model X.prog X.w) X.A (evalPart e X.env) (fun u s'=>∃ o H',Inv X pins σ H' s'∧IsPart u o∧Q o H') X.xe s
def Dq:TO:=fun _ H Q=>Q none H
def HA(t:TE):TO:=fun σ H Q=>t σ H fun x H1=>∃ i,x=.int i∧Q (some i) H1
theorem pB{ns:List Int}:∀ {us:List Value},Vals (ns.map V.int) us→IntsAre us ns:=by
 induction ns with
 | nil=>intro us r;rw[aXX] at r;cases r;exact .nil
 | cons n ns ih =>
  intro us r
  rw[i6] at r
  cases r with
  | cons r1 r2 =>
   obtain⟨t,e⟩:=r1
   subst e
   exact .cons n t (ih r2)
section
variable {X:Cx}{e:Expr}{te:TE}{lo hi:Option Expr}{tl th:TO}{pos p2:Pos}
theorem kW:PO X none Dq:=by
 intro pins s σ H Q I h
 rw[evalPart_none]
 exact wpAny_pure ⟨none,H,I,.none,h⟩
theorem jC(h:PE X e te):PO X (some e) (HA te):=by
 intro pins s σ H Q I hw
 rw[evalPart_some]
 refine bV (h pins s σ H _ I hw) fun u s1 ⟨x,H1,I1,r1,q1⟩=>?_
 obtain⟨i,rfl,q⟩:=q1
 obtain⟨t,rfl⟩:=r1
 exact⟨some i,H1,I1,.int i t,q⟩
def Hm(X:Cx)(r:V→Option Int→Option Int→Hp→VK→Prop):Prop :=
 ∀ (pins:List (Addr×Obj)) (s:Shared) (σ:St) (H:Hp) (x:V) (v vl vu:Value) (lo hi:Option Int) (sl:Addr) (Q:VK),Inv X pins σ H s→RelV x v→s.heap.IsSliceOf sl vl vu .none→IsPart vl lo→IsPart vu hi→r x lo hi H Q →
  ∃ T id,typeLookup (.type T) "__getitem__"=pure (some (.builtin id))∧s.TypeIs v T∧wpAny (model X.prog X.w) X.A (getItem v (.ref sl)) (EP X pins σ Q) X.xe s
def Jc(r:V→Option Int→Option Int→Hp→VK→Prop)(te:TE)(tl th:TO):TE:=fun σ H Q=>te σ H fun x H1=>tl σ H1 fun l H2=>th σ H2 fun u H3=>r x l u H3 Q
theorem kN{r:V→Option Int→Option Int→Hp→VK→Prop}(hr:Hm X r)(he:PE X e te)(hl:PO X lo tl)(hu:PO X hi th):PE X (.Subscript e (.Slice lo hi none p2) pos) (Jc r te tl th):=by
 intro pins s σ H Q I h
 refine Subscript_ (bV (he pins s σ H _ I h) fun v s1 ⟨x,H1,I1,r1,q1⟩=>?_)
 refine wpAny_Slice (bV (hl pins s1 σ H1 _ I1 q1) fun vl s2 ⟨l,H2,I2,pl,q2⟩=>bV (hu pins s2 σ H2 _ I2 q2) fun vu s3 ⟨u,H3,I3,pu,q3⟩=>?_)
 rw[evalPart_none]
 refine wpAny_pure ?_
 have I4:Inv X pins σ H3 { s3 with heap:=s3.heap.push { cls:=.type "slice",data:=.fields #[vl,vu,.none] } }:=I3.kept (t':=s3.toks) fun b ob q=>b6 _ q
 obtain⟨T,id,hT,ht,hg⟩:=hr pins { s3 with heap:=s3.heap.push { cls:=.type "slice",data:=.fields #[vl,vu,.none] } } σ H3 x v vl vu l u s3.heap.objs.size Q I4 r1 (aZC ..) pl pu q3
 show wpAny (model X.prog X.w) X.A (subscriptTail e (.Slice lo hi none p2) v (.ref s3.heap.objs.size)) (EP X pins σ Q) X.xe { s3 with heap:=s3.heap.push { cls:=.type "slice",data:=.fields #[vl,vu,.none] } }
 exact tail_any (ops:=[.ref s3.heap.objs.size,v]) ht hT hg (by with_unfolding_all rfl)
def tS(xs:List V)(lo hi:Option Int):List V:=(xs.drop (HT.sIx xs.length 0 lo)).take (HT.sIx xs.length xs.length hi - HT.sIx xs.length 0 lo)
theorem mF(xs:List V)(lo hi:Option Int):(tS xs lo hi).length≤xs.length:=by
 unfold tS
 rw[i9,aQ5]
 omega
def IM(K:b5):V→Option Int→Option Int→Hp→VK→Prop:=fun x lo hi H Q=>∃ a xs,x=.ref a∧SqT K H a xs ∧
 ¬ (HT.sIx xs.length 0 lo=0∧HT.sIx xs.length xs.length hi=xs.length)∧∀ p,H p=none→Q (.ref p) (upd H p (.tup (tS xs lo hi)))
theorem ER:Hm X (IM X.K):=by
 intro pins s σ H x v vl vu lo hi sl Q I rx hs pl pu h
 obtain⟨a,xs,rfl,hx,hw,q⟩:=h
 cases rx
 obtain⟨its,r,ht,hz⟩:=I.tuple hx
 have hlen:its.toArray.size=xs.length:=by rw[c0];exact r.length.symm
 refine⟨"tuple",_,m7.lookup,ht.typeIs,?_⟩
 refine HT.getItem_tuple_cut ht hs pl pu (by rw[hlen];exact hw) ?_ (by rw[hlen];exact hz)
 rw[hlen]
 refine⟨.ref s.heap.objs.size,_,I.laid (t':=s.toks) (o:=.tup (tS xs lo hi)) (fun b ob q=>b6 _ q) (b9 _) ?_,rfl,q _ (I.hok.fresh (b9 _))⟩
 exact⟨k8 (mF xs lo hi) hz,_,(r.drop (HT.sIx xs.length 0 lo)).take (HT.sIx xs.length xs.length hi - HT.sIx xs.length 0 lo),aXJ _ _,NoD.new _ _⟩
def DX(K:b5):R2:=fun x y H Q=>∃ a b xs ys,x=.ref a∧y=.ref b∧SqT K H a xs∧SqT K H b ys∧xs≠[]∧xs.length+ys.length≤sizeLine ∧
 (ys=[]→Q (.ref a) H)∧(ys≠[]→∀ p,H p=none→Q (.ref p) (upd H p (.tup (xs++ys))))
theorem Vals.nil_iff{xs:List V}{us:List Value}(r:Vals xs us):us=[]↔xs=[]:=by
 cases r with
 | nil=>simp
 | cons _ _=>simp
theorem C9:jZ X (binaryOp .Add) (DX X.K):=by
 intro pins s σ H x y v u Q I rx ry h
 obtain⟨a,b,xs,ys,rfl,rfl,ha,hb,hx,hz,q1,q2⟩:=h
 cases rx
 cases ry
 obtain⟨its,r1,p1,_⟩:=I.tuple ha
 obtain⟨its2,r2,p2,_⟩:=I.tuple hb
 refine HT.cat_tup p1 p2 (fun z=>hx (r1.nil_iff.mp z)) (fun z=>⟨.ref a,H,I,rfl,q1 (r2.nil_iff.mp z)⟩) (fun z=>?_) (by rw[← r1.length,← r2.length];exact hz)
 refine⟨.ref s.heap.objs.size,_,I.laid (t':=s.toks) (o:=.tup (xs++ys)) (fun b ob q=>b6 _ q) (b9 _) ?_,rfl,q2 (fun w=>z (r2.nil_iff.mpr w)) _ (I.hok.fresh (b9 _))⟩
 exact⟨by rw[b8];exact hz,_,r1.append r2,aXJ _ _,NoD.new _ _⟩
end
def AT(n:Nat)(i:Int):Option Nat:=if 0≤i then (if i<n then some i.toNat else none) else if -(n:Int)≤i then some (i+n).toNat else none
def sX{α:Type}(xs:List α)(i:Int):Option α:=(AT xs.length i).bind fun j=>xs[j]?
theorem zA{n:Nat}{i:Int}{j:Nat}(h:AT n i=some j):seqIndex? i n=some j∧j<n∧-(n:Int)≤i∧i<n:=by
 unfold AT at h
 by_cases h0:0≤i
 ·rw[if_pos h0] at h
  by_cases h1:i<n
  ·rw[if_pos h1] at h
   have e:i.toNat=j:=d6 h
   exact⟨by rw[seqIndex_of h0 h1,e],by omega,by omega,h1⟩
  ·rw[if_neg h1] at h;cases h
 ·rw[if_neg h0] at h
  by_cases h1:-(n:Int)≤i
  ·rw[if_pos h1] at h
   have e:(i+n).toNat=j:=d6 h
   exact⟨by rw[seqIndex_neg (by omega) h1,e],by omega,h1,by omega⟩
  ·rw[if_neg h1] at h;cases h
theorem sL{α:Type}{xs:List α}{i:Int}{v:α}(h:sX xs i=some v):∃ j,seqIndex? i xs.length=some j∧xs[j]?=some v∧j<xs.length∧-(xs.length:Int)≤i∧i<xs.length:=by
 unfold sX at h
 cases e:AT xs.length i with
 | none=>rw[e] at h;cases h
 | some j =>
  rw[e] at h
  obtain⟨h1,h2,h3,h4⟩:=zA e
  exact⟨j,h1,h,h2,h3,h4⟩
theorem bD{α:Type}{xs:List α}{j:Nat}{v:α}(h:xs[j]?=some v):sX xs (j:Int)=some v:=by
 have hj:j<xs.length:=(a8.mp h).1
 have e:AT xs.length (j:Int)=some j:=by
  unfold AT
  rw[if_pos (by omega),if_pos (by omega)];simp
 unfold sX;rw[e];exact h
theorem oP{α:Type}(xs:List α)(v:α):sX (xs++[v]) (-1)=some v:=by
 have hl:(xs++[v]).length=xs.length+1:=by simp
 have e:AT (xs++[v]).length (-1)=some xs.length:=by
  unfold AT
  rw[hl,if_neg (by decide),if_pos (by omega)]
  congr 1
  omega
 unfold sX
 rw[e]
 show (xs++[v])[xs.length]?=some v
 simp
def Dj(b:Expr):Prop:=∀ o i,subscripted b false o i=operate [o,i] (getItem o i)
def Fb(X:Cx)(r:R2):Prop :=
 ∀ (value slice:Expr) (pins:List (Addr×Obj)) (s:Shared) (σ:St) (H:Hp) (x y:V) (v u:Value) (Q:VK),Inv X pins σ H s→RelV x v→RelV y u→r x y H Q →
  subscripted slice false v u=operate [v,u] (getItem v u)→wpAny (model X.prog X.w) X.A (subscriptTail value slice v u) (EP X pins σ Q) X.xe s
def AQ(X:Cx)(id:String)(r:V→List V→Hp→VK→Prop):Prop :=
 ∀ (pins:List (Addr×Obj)) (s:Shared) (σ:St) (H:Hp) (x:V) (xs:List V) (v:Value) (us:List Value) (Q:VK),Inv X pins σ H s→RelV x v→Vals xs us→r x xs H Q →
  wpAny (model X.prog X.w) X.A (call (.builtin id) (v::us)) (EP X pins σ Q) X.xe s
section
variable {X:Cx}{a b:Expr}{ta tb:TE}{pos:Pos}
theorem aQ{r:R2}(hr:Fb X r)(ha:PE X a ta)(hb:PE X b tb)(hs:Dj b):PE X (.Subscript a b pos) (HR r ta tb):=by
 intro pins s σ H Q I h
 exact Subscript_ (Eg ha hb I h fun v u s2 x y H2 I2 rx ry q=>hr a b pins s2 σ H2 x y v u Q I2 rx ry q (hs _ _))
def Gz(K:b5):R2:=fun x y H Q=>∃ p xs i v,x=.ref p∧y=.int i∧SqL K H p xs∧sX xs i=some v∧Q v H
def GX(K:b5):R2:=fun x y H Q=>∃ p xs i v,x=.ref p∧y=.int i∧SqT K H p xs∧sX xs i=some v∧Q v H
def Ij:R2:=fun x y H Q=>∃ z i c,x=.str z∧y=.int i∧z.length≤sizeLine∧sX z.cps.toList i=some c∧Q (.str ⟨#[c]⟩) H
theorem CP:Fb X (Gz X.K):=by
 intro value slice pins s σ H x y v u Q I rx ry h hs
 obtain⟨p,xs,i,z,rfl,rfl,hq,he,q⟩:=h
 cases rx
 obtain⟨t,rfl⟩:=ry
 obtain⟨its,r,pl,hz⟩:=I.list hq
 obtain⟨j,h1,h2,h3,h4,h5⟩:=sL he
 obtain⟨w,ew,rw'⟩:=r.get h2
 have hl:=r.length
 have hn:=mB
 have fin:EP X pins σ Q w s:=⟨z,H,I,rw',q⟩
 by_cases h0:0≤i
 ·have hj:i.toNat=j:=by
   rw[seqIndex_of h0 h5] at h1
   exact d6 h1
  exact item_listR pl.isList h0 (by omega) (by rw[hj];simpa using ew) fin hs
 ·have hj:(i+(its.toArray.size:Int)).toNat=j:=by
   rw[seqIndex_neg (by omega) h4] at h1
   rw[c0,← hl]
   exact d6 h1
  exact subscriptTail_builtinR (x:=w) pl.isList.typeIs slot_list_getitem.lookup
   (wpAny_getItem_list_neg (Q:=fun r s'=>r=w∧EP X pins σ Q r s') pl.isList (by omega) (by rw[c0] <;> omega) (by omega) (by rw[hj];simpa using ew) ⟨rfl,fin⟩) hs
theorem EY:Fb X (GX X.K):=by
 intro value slice pins s σ H x y v u Q I rx ry h hs
 obtain⟨p,xs,i,z,rfl,rfl,hq,he,q⟩:=h
 cases rx
 obtain⟨t,rfl⟩:=ry
 obtain⟨its,r,pl,hz⟩:=I.tuple hq
 obtain⟨j,h1,h2,h3,h4,h5⟩:=sL he
 obtain⟨w,ew,rw'⟩:=r.get h2
 have hl:=r.length
 have hn:=mB
 have fin:EP X pins σ Q w s:=⟨z,H,I,rw',q⟩
 exact subscriptTail_builtinR (x:=w) pl.typeIs slot_tuple_getitem.lookup
  (getItem_tuple (j:=j) (Q:=fun r s'=>r=w∧EP X pins σ Q r s') pl (by omega) (by omega) (by rw[c0,← hl];exact h1) (by simpa using ew) ⟨rfl,fin⟩) hs
theorem sV:Fb X Ij:=by
 intro value slice pins s σ H x y v u Q I rx ry h hs
 obtain⟨z,i,c,rfl,rfl,hz,he,q⟩:=h
 obtain⟨t,rfl⟩:=rx
 obtain⟨t',rfl⟩:=ry
 obtain⟨j,h1,h2,h3,h4,h5⟩:=sL he
 have hl:z.cps.toList.length=z.length:=by simp[Str.length]
 rw[hl] at h1 h4 h5
 have hn:=mB
 exact tail_any (typeIs_str s z t) slot_str_getitem.lookup (getItem_str (c:=c) (by
  have e1:decide (i < -(2 ^ 63:Int))=false:=decide_eq_false (by omega)
  have e2:decide (i ≥ 2 ^ 63)=false:=decide_eq_false (by omega)
  rw[e1,e2,aZd]) (by rw[h1];simpa using h2) ⟨.str ⟨#[c]⟩,H,I.tok _,⟨_,rfl⟩,q⟩) hs
theorem vR(its:List Value)(n j:Nat)(u:Value):Obj.mapSeq (·.setIfInBounds j u) { cls:=.type "list",data:=.seq its.toArray n }={ cls:=.type "list",data:=.seq (its.set j u).toArray n }:=by
 simp[Obj.mapSeq]
theorem Inv.lst{pins:List (Addr×Obj)}{σ:St}{H:Hp}{s:Shared}{p:Addr}{xs:List V}(I:Inv X pins σ H s)(h:H p=some (.lst xs)) :
  ∃ (its:List Value) (n:Nat),Vals xs its∧s.heap.get? p=some { cls:=.type "list",data:=.seq its.toArray n }∧xs.length≤sizeLine:=by
 obtain⟨z,its,n,r,e⟩:=I.hok p _ h
 exact⟨its,n,r,e,z⟩
theorem Inv.lstUpd{pins:List (Addr×Obj)}{σ:St}{H:Hp}{s:Shared}{p:Addr}{xs ys:List V}{its its':List Value}{n n':Nat}{f:Obj→Obj}(I:Inv X pins σ H s)(h:H p=some (.lst xs))
  (ho:s.heap.get? p=some { cls:=.type "list",data:=.seq its.toArray n }) (hf:f { cls:=.type "list",data:=.seq its.toArray n }={ cls:=.type "list",data:=.seq its'.toArray n' }) (r:Vals ys its') (hz:ys.length≤sizeLine) (t:Nat) :
  Inv X pins σ (upd H p (.lst ys)) { s with heap:=s.heap.update p f,toks:=t }:=by
 have e:(s.heap.update p f).get? p=some { cls:=.type "list",data:=.seq its'.toArray n' }:=by
  rw[y2 f ho (by rw[hf] <;> rfl),hf]
 refine I.write (x:=p) (e:=p) (by rw[h];trivial) (.inl rfl) (fun b u hb q=>(aQU _ _ (y7 hb)).trans q) ⟨_,e⟩ ?_
 exact⟨hz,its',n',r,e⟩
def GP:V→V→V→Hp→(Hp→Prop)→Prop:=fun o i v H Q=>∃ p xs k j,o=.ref p∧i=.int k∧H p=some (.lst xs)∧AT xs.length k=some j∧Q (upd H p (.lst (xs.set j v)))
theorem cJ:Hd X GP:=by
 intro pins s σ H o i v ov iv u Q I ro ri rv h
 obtain⟨p,xs,k,j,rfl,rfl,hp,hj,q⟩:=h
 cases ro
 obtain⟨t,rfl⟩:=ri
 obtain⟨its,n,r,ho,hz⟩:=I.lst hp
 obtain⟨h1,h2,h3,h4⟩:=zA hj
 have hl:=r.length
 have hn:=mB
 have I':Inv X pins σ (upd H p (.lst (xs.set j v))) { s with heap:=s.heap.update p (Obj.mapSeq (·.setIfInBounds j u)) } :=
  I.lstUpd hp ho (vR its n j u) (r.set rv j) (by rw[j0];exact hz) s.toks
 by_cases h0:0≤k
 ·have hk:k.toNat=j:=by
   rw[seqIndex_of h0 h4] at h1
   exact d6 h1
  exact PySem.W.ki_setAt ho h0 (by omega) (by rw[c0,← hl];exact h4) (by rw[hk];exact⟨_,I',q⟩)
 ·have hk:(k+(its.toArray.size:Int)).toNat=j:=by
   rw[seqIndex_neg (by omega) h3] at h1
   rw[c0,← hl]
   exact d6 h1
  exact PySem.W.ki_setBack ho (by omega) (by rw[c0,← hl];exact h3) (by omega) (by rw[hk];exact⟨_,I',q⟩)
theorem sP(lo hi:Option Int)(n:Nat):(sliceBounds lo hi none n).1=((HT.sIx n 0 lo:Nat):Int)∧(sliceBounds lo hi none n).2.1=((HT.sIx n n hi:Nat):Int)∧(sliceBounds lo hi none n).2.2=1:=by
 refine⟨?_,?_,rfl⟩
 ·cases lo with
  | none=>simp[sliceBounds,HT.sIx]
  | some i =>
   simp only [sliceBounds,HT.sIx,aZU,show (1:Int) > 0 by decide,if_true]
   by_cases h:i<0
   ·simp only [h,if_true] <;> omega
   ·simp only [h,if_false] <;> omega
 ·cases hi with
  | none=>simp[sliceBounds,HT.sIx]
  | some i =>
   simp only [sliceBounds,HT.sIx,aZU,show (1:Int) > 0 by decide,if_true]
   by_cases h:i<0
   ·simp only [h,if_true] <;> omega
   ·simp only [h,if_false] <;> omega
theorem pJ(its:List Value)(lo hi:Option Int):slicePick its.toArray lo hi none=((its.drop (HT.sIx its.length 0 lo)).take (HT.sIx its.length its.length hi - HT.sIx its.length 0 lo)).toArray:=by
 obtain⟨h1,h2,h3⟩:=sP lo hi its.toArray.size
 unfold slicePick
 rw[h1,h2,h3]
 simp only [sliceRange_one,pick_run,c0] <;> rfl
def IK(K:b5):V→Option Int→Option Int→Hp→VK→Prop:=fun x lo hi H Q=>∃ a xs,x=.ref a∧SqL K H a xs∧∀ p,H p=none→Q (.ref p) (upd H p (.lst (tS xs lo hi)))
theorem HZ:Hm X (IK X.K):=by
 intro pins s σ H x v vl vu lo hi sl Q I rx hs pl pu h
 obtain⟨a,xs,rfl,hx,q⟩:=h
 cases rx
 obtain⟨its,r,ht,hz⟩:=I.list hx
 have hlen:=r.length
 refine⟨"list",_,slot_list_getitem.lookup,ht.isList.typeIs,?_⟩
 refine wpAny_getItem_list_slice ht.isList hs pl pu .none (by simp) ?_ (by rw[c0] <;> omega)
 rw[pJ,← hlen]
 refine⟨.ref s.heap.objs.size,_,I.laid (t':=s.toks) (o:=.lst (tS xs lo hi)) (fun b ob q=>b6 _ q) (b9 _) ?_,rfl,q _ (I.hok.fresh (b9 _))⟩
 exact⟨k8 (mF xs lo hi) hz,_,0,(r.drop (HT.sIx xs.length 0 lo)).take (HT.sIx xs.length xs.length hi - HT.sIx xs.length 0 lo),d3 _ rfl⟩
def fW:V→Bool
 | .non=>true
 | .bl _=>true
 | .int _=>true
 | .str _=>true
 | _=>false
def nX:V→V→Bool
 | .non,.non=>true
 | .bl a,.bl b=>a == b
 | .bl a,.int b=>(if a then 1 else 0) == b
 | .int a,.bl b=>a == (if b then 1 else 0)
 | .int a,.int b=>a == b
 | .str a,.str b=>a == b
 | _,_=>false
theorem vT{A:Around}{s:Shared}{y x:V}{u v:Value}(ry:RelV y u)(rx:RelV x v)(fy:fW y=true)(fx:fW x=true):SeqAt.EqAt A s u v (nX y x):=by
 cases y with
 | non =>
  cases ry
  cases x with
  | non=>cases rx;exact aX9 _
  | bl b=>cases rx;exact SeqAt.EqAt.none_bool b
  | int b=>obtain⟨t,rfl⟩:=rx;exact SeqAt.EqAt.none_int b t
  | str b=>obtain⟨t,rfl⟩:=rx;exact SeqAt.EqAt.none_str b t
  | _=>exact absurd (show false=true from fx) i3
 | bl a =>
  cases ry
  cases x with
  | non=>cases rx;exact SeqAt.EqAt.bool_none a
  | bl b=>cases rx;exact SeqAt.EqAt.bool_bool a b
  | int b=>obtain⟨t,rfl⟩:=rx;exact SeqAt.EqAt.bool_int a b t
  | str b=>obtain⟨t,rfl⟩:=rx;exact SeqAt.EqAt.bool_str a b t
  | _=>exact absurd (show false=true from fx) i3
 | int a =>
  obtain⟨t',rfl⟩:=ry
  cases x with
  | non=>cases rx;exact SeqAt.EqAt.int_none a t'
  | bl b=>cases rx;exact SeqAt.EqAt.int_bool a t' b
  | int b=>obtain⟨t,rfl⟩:=rx;exact aXK a t' b t
  | str b=>obtain⟨t,rfl⟩:=rx;exact aXx a t' b t
  | _=>exact absurd (show false=true from fx) i3
 | str a =>
  obtain⟨t',rfl⟩:=ry
  cases x with
  | non=>cases rx;exact SeqAt.EqAt.str_none a t'
  | bl b=>cases rx;exact SeqAt.EqAt.str_bool a t' b
  | int b=>obtain⟨t,rfl⟩:=rx;exact aXy a t' b t
  | str b=>obtain⟨t,rfl⟩:=rx;exact SeqAt.EqAt.str_str a t' b t
  | _=>exact absurd (show false=true from fx) i3
 | _=>exact absurd (show false=true from fy) i3
def DC(x:V)(u:Value):Bool:=match u with
 | .none=>nX .non x
 | .bool b=>nX (.bl b) x
 | .int i _=>nX (.int i) x
 | .str z _=>nX (.str z) x
 | _=>false
theorem Bc{x y:V}{u:Value}(r:RelV y u)(f:fW y=true):DC x u=nX y x:=by
 cases y with
 | non=>cases r;rfl
 | bl b=>cases r;rfl
 | int i=>obtain⟨t,rfl⟩:=r;rfl
 | str z=>obtain⟨t,rfl⟩:=r;rfl
 | _=>exact absurd (show false=true from f) i3
theorem sI{x:V}:∀ {xs:List V} {us:List Value},Vals xs us→xs.all fW=true→us.any (DC x)=xs.any fun y=>nX y x
 | _,_,.nil,_=>rfl
 | y::xs,u::us,.cons r t,f=>by
  rw[aXq,aQA] at f
  rw[aQk,aQk,Bc r f.1,sI t f.2]
theorem oO{A:Around}{s:Shared}{x:V}{v:Value}(rx:RelV x v)(fx:fW x=true):∀ {xs:List V} {us:List Value},Vals xs us→xs.all fW=true→∀ u∈us,SeqAt.EqAt A s u v (DC x u)
 | _,_,.nil,_=>fun u hu=>by cases hu
 | y::xs,u::us,.cons r t,f=>fun u' hu=>by
  rw[aXq,aQA] at f
  rcases c6.mp hu with rfl | hu
  ·rw[Bc r f.1];exact vT r rx f.1 fx
  ·exact oO rx fx t f.2 u' hu
def FO(x:V)(xs:List V):Bool:=xs.any fun y=>nX y x
def Ja(K:b5)(neg:Bool):R2:=fun x y H Q=>∃ p xs,y=.ref p∧(SqL K H p xs∨SqT K H p xs)∧fW x=true∧xs.all fW=true∧Q (.bl (if neg then !FO x xs else FO x xs)) H
theorem zO:jZ X (compareOp .In) (Ja X.K false):=by
 intro pins s σ H x y v u Q I rx ry h
 obtain⟨p,xs,rfl,hq,fx,fs,q⟩:=h
 cases ry
 rcases hq with hq | hq
 ·obtain⟨its,r,pl,hz⟩:=I.list hq
  refine SeqAt.in_listAt (DC x) pl.isList (fun w hw=>oO rx fx r fs w (by simpa using hw)) ⟨.bl _,H,I,rfl,?_⟩
  rw[show its.toArray.any (DC x)=its.any (DC x) by simp,sI r fs]
  exact q
 ·obtain⟨its,r,pl,hz⟩:=I.tuple hq
  refine SeqAt.in_tupleAt (DC x) pl (fun w hw=>oO rx fx r fs w (by simpa using hw)) ⟨.bl _,H,I,rfl,?_⟩
  rw[show its.toArray.any (DC x)=its.any (DC x) by simp,sI r fs]
  exact q
theorem rG:fC X (.builtin "len") (fun xs H Q=>∃ p ys,xs=[.ref p]∧(SqL X.K H p ys∨SqT X.K H p ys)∧Q (.int ys.length) H):=by
 intro pins s σ H xs us Q I r h
 obtain⟨p,ys,rfl,hq,q⟩:=h
 obtain⟨u,rfl,rx⟩:=kM r
 cases rx
 have hn:=mB
 rcases hq with hq | hq
 ·obtain⟨its,r',pl,hz⟩:=I.list hq
  have hlen:=r'.length
  exact Calls.call_len_list pl.isList (by simp only [c0] <;> omega) ⟨.int ys.length,H,I.tok _,⟨s.toks+1,by rw[c0,hlen]⟩,q⟩
 ·obtain⟨its,r',pl,hz⟩:=I.tuple hq
  have hlen:=r'.length
  exact len_tuple pl (by simp only [c0] <;> omega) ⟨.int ys.length,H,I.tok _,⟨s.toks+1,by rw[c0,hlen]⟩,q⟩
theorem eJ:fC X (.builtin "len") (fun xs H Q=>∃ z,xs=[.str z]∧z.length≤sizeLine∧Q (.int z.length) H):=by
 intro pins s σ H xs us Q I r h
 obtain⟨z,rfl,hz,q⟩:=h
 obtain⟨u,rfl,t,rfl⟩:=kM r
 have hn:=mB
 exact len_str (by omega) ⟨.int z.length,H,I.tok _,⟨_,rfl⟩,q⟩
theorem sE:fC X (.type "list") (fun xs H Q=>∃ p ys,xs=[.ref p]∧(SqL X.K H p ys∨SqT X.K H p ys)∧∀ l,H l=none→Q (.ref l) (upd H l (.lst ys))):=by
 intro pins s σ H xs us Q I r h
 obtain⟨p,ys,rfl,hq,q⟩:=h
 obtain⟨u,rfl,rx⟩:=kM r
 cases rx
 have fin:∀ (its:List Value),Vals ys its→ys.length≤sizeLine→∀ (h':Heap) (c':Nat),(∀ b o',s.heap.get? b=some o'→h'.get? b=some o') →
   h'.get? s.heap.objs.size=some { cls:=.type "list",dict:=none,data:=.seq its.toArray c',slots:=#[] }→EP X pins σ Q (.ref s.heap.objs.size) { s with heap:=h' }:=fun its r' hz h' c' kp e =>
  ⟨.ref s.heap.objs.size,_,I.laid (t':=s.toks) kp (b9 _) (show ObjOk X.prog X.w _ h' _ (.lst ys) from ⟨hz,its,c',r',e⟩),rfl,q _ (I.hok.fresh (b9 _))⟩
 rcases hq with hq | hq
 ·obtain⟨its,r',pl,hz⟩:=I.list hq
  have hlen:=r'.length
  obtain⟨o,ho,hc,n,hd⟩:=pl.isList
  exact call_list_seq p (.inl rfl) ho hc hd (fun h' c' kp e=>fin its r' hz h' c' kp e) (by simp only [c0] <;> omega)
 ·obtain⟨its,r',pl,hz⟩:=I.tuple hq
  have hlen:=r'.length
  obtain⟨o,ho,hc,n,hd⟩:=pl
  exact call_list_seq p (.inr rfl) ho hc hd (fun h' c' kp e=>fin its r' hz h' c' kp e) (by simp only [c0] <;> omega)
theorem pG:fC X (.type "tuple") (fun xs H Q=>∃ p ys,xs=[.ref p]∧((SqL X.K H p ys∧∀ l,H l=none→Q (.ref l) (upd H l (.tup ys)))∨(SqT X.K H p ys∧Q (.ref p) H))):=by
 intro pins s σ H xs us Q I r h
 obtain⟨p,ys,rfl,h⟩:=h
 obtain⟨u,rfl,rx⟩:=kM r
 cases rx
 rcases h with ⟨hq,q⟩ | ⟨hq,q⟩
 ·obtain⟨its,r',pl,hz⟩:=I.list hq
  have hlen:=r'.length
  refine call_tuple_list pl.isList (fun h' kp=>?_) (by simp only [c0] <;> omega)
  have I1:Inv X pins σ H { s with heap:=h' }:=I.kept (t':=s.toks) kp
  have I2:Inv X pins σ (upd H h'.objs.size (.tup ys)) { s with heap:=h'.push { cls:=.type "tuple",data:=.seq its.toArray } } :=
   I1.laid (t':=s.toks) (fun b o e=>b6 _ e) (b9 _) (show ObjOk X.prog X.w _ _ _ (.tup ys) from ⟨hz,its,r',aXJ _ _,NoD.new _ _⟩)
  exact⟨.ref h'.objs.size,_,I2,rfl,q _ (I1.hok.fresh (b9 _))⟩
 ·obtain⟨its,r',pl,hz⟩:=I.tuple hq
  exact call_tuple_same pl ⟨.ref p,H,I,rfl,q⟩
def Ip(K:b5)(T:String)(x:V)(H:Hp):Prop:=match x with
 | .str _=>T="str"
 | .int _=>T="int"
 | .ref p=>(T="list"∧∃ xs,SqL K H p xs)∨(T="tuple"∧∃ o,K.lookup p=some o∧o.cls=.type "tuple"∧o.dict=none) ∨
   (T="dict"∧((∃ kvs,H p=some (.dK kvs))∨∃ kvs,H p=some (.dT kvs)))∨(T="set"∧∃ S n,H p=some (.set S n))
 | _=>False
theorem A9{pins:List (Addr×Obj)}{σ:St}{H:Hp}{s:Shared}{T:String}{x:V}{v:Value}(I:Inv X pins σ H s)(r:RelV x v)(ty:Ip X.K T x H) :
  s.TypeIs v T∧∀ a,v=.ref a→∃ ob,s.heap.get? a=some ob∧ob.dict=none:=by
 cases x with
 | str z =>
  obtain⟨t,rfl⟩:=r
  cases (show T="str" from ty)
  exact⟨typeIs_str s z t,fun _ e=>nomatch e⟩
 | int i =>
  obtain⟨t,rfl⟩:=r
  cases (show T="int" from ty)
  exact⟨typeIs_int s i t,fun _ e=>nomatch e⟩
 | ref p =>
  cases r
  rcases ty with ⟨rfl,xs,hq⟩ | ⟨rfl,o,hk,hc,hd⟩ | ⟨rfl,hk⟩ | ⟨rfl,S,n,hk⟩
  ·obtain⟨its,_,pl,_⟩:=I.list hq
   refine⟨pl.isList.typeIs,fun a e=>?_⟩
   cases e
   obtain⟨o,n,e,c,hd,_⟩:=pl
   exact⟨o,e,hd⟩
  ·refine⟨⟨o,I.kIn p o hk,hc⟩,fun a e=>?_⟩
   cases e
   exact⟨o,I.kIn _ o hk,hd⟩
  ·have z:∃ o,s.heap.get? p=some o∧o.ExactDict:=by
    rcases hk with ⟨kvs,hk⟩ | ⟨kvs,hk⟩
    ·obtain⟨_,_,_,_,o,_,_,e,ex,_⟩:=I.hok p _ hk
     exact⟨o,e,ex⟩
    ·obtain⟨_,_,_,_,o,_,_,e,ex,_⟩:=I.hok p _ hk
     exact⟨o,e,ex⟩
   obtain⟨o,e,ex⟩:=z
   refine⟨⟨o,e,ex.1⟩,fun a e2=>?_⟩
   cases e2
   exact⟨o,e,ex.2.1⟩
  ·obtain⟨o,_,_,_,e,ex,_⟩:=I.hok p _ hk
   refine⟨⟨o,e,ex.1⟩,fun a e2=>?_⟩
   cases e2
   exact⟨o,e,ex.2.1⟩
 | _=>exact False.elim ty
def Ht(K:b5)(T:String)(r:V→List V→Hp→VK→Prop)(to:TE):TE:=fun σ H Q=>to σ H fun x H1=>Ip K T x H1∧r x [] H1 Q
def IT(K:b5)(T:String)(r:V→List V→Hp→VK→Prop)(to:TE)(t:TA):TE:=fun σ H Q=>to σ H fun x H1=>Ip K T x H1∧t σ H1 fun xs H2=>r x xs H2 Q
variable {o e:Expr}{es:List Expr}{to:TE}{t:TA}{name:Str}{apos cpos:Pos}{T id:String}{r:V→List V→Hp→VK→Prop}
theorem E9(pa:PlainAttrs T)(slot:Slot T name id)(hty:typeOf (.builtin id)=pure (.type "method_descriptor"))(hm:AQ X id r)(ho:PE X o to)
  (hbase:attributeBase o name X.env (eval o X.env)=eval o X.env:=by rfl) (hline:(apos.endLine == cpos.line)=true:=by rfl):PE X (.Call (.Attribute o name apos) [] [] cpos) (Ht X.K T r to):=by
 intro pins s σ H Q I h
 refine wpAny_Call_method0_late hbase hline (bV (ho pins s σ H _ I h) fun v s1 ⟨x,H1,I1,r1,ty,q1⟩=>?_)
 obtain⟨h1,h2⟩:=A9 I1 r1 ty
 exact⟨T,id,pa,slot,hty,h1,h2,aQC rfl (aXt (hm pins s1 σ H1 x [] v [] Q I1 r1 .nil q1))⟩
theorem Hu(pa:PlainAttrs T)(slot:Slot T name id)(hty:typeOf (.builtin id)=pure (.type "method_descriptor"))(hm:AQ X id r)(ho:PE X o to)(ha:PA X (e::es) t)
  (hbase:attributeBase o name X.env (eval o X.env)=eval o X.env:=by rfl)
  (hfew:((backTo cpos (starEach (e::es) X.env)).all (fun x=>!x.1) && (backToKw cpos (keywordEach [] X.env)).all (fun x=>x.1.isSome)
   && decide ((e::es).length+([]:List Keyword).length+(if ([]:List Keyword).isEmpty then 0 else 1)<30))=true:=by rfl)
  (hline:(apos.endLine == cpos.line)=true:=by rfl) (hs:starEach (e::es) X.env=(false,eval e X.env)::starEach es X.env:=by rfl) (hplain:(backTo cpos (starEach es X.env)).any (·.1)=false:=by rfl) :
  PE X (.Call (.Attribute o name apos) (e::es) [] cpos) (IT X.K T r to t):=by
 intro pins s σ H Q I h
 refine wpAny_Call_method_late hbase hfew hline rfl (bV (ho pins s σ H _ I h) fun v s1 ⟨x,H1,I1,r1,ty,q1⟩=>?_)
 obtain⟨h1,h2⟩:=A9 I1 r1 ty
 refine⟨T,id,pa,slot,hty,h1,h2,?_⟩
 have hA:=ha cpos pins s1 σ H1 _ I1 q1
 rw[hs] at hA ⊢
 refine aQC (by show (false || (backTo cpos (starEach es X.env)).any (·.1))=false;rw[hplain] <;> rfl) (aQt ?_)
 exact bV hA fun us s2 ⟨vs,H2,I2,r2,q2⟩=>hm pins s2 σ H2 x vs v us Q I2 r1 r2 q2
/- xs.append(e),list.index on a module's tuple .. are AQ facts of 06m -/
end
def He(X:Cx)(id:String)(r:V→List V→Hp→VK→Prop):Prop :=
 ∀ (pins:List (Addr×Obj)) (s:Shared) (σ:St) (H:Hp) (x:V) (xs:List V) (v:Value) (us:List Value) (Q:VK),Inv X pins σ H s→RelV x v→Vals xs us→r x xs H Q →
  wpAny (model X.prog X.w) X.A (call (.builtin id) (v::us)) (EP X pins σ Q) X.xe s
theorem Vals.one:∀ {x:V} {us:List Value},Vals [x] us→∃ u,us=[u]∧RelV x u
 | _,_,.cons r .nil=>⟨_,rfl,r⟩
theorem Vals.two:∀ {x y:V} {us:List Value},Vals [x,y] us→∃ u v,us=[u,v]∧RelV x u∧RelV y v
 | _,_,_,.cons r (.cons q .nil)=>⟨_,_,rfl,r,q⟩
theorem Vals.zero:∀ {us:List Value},Vals [] us→us=[]
 | _,.nil=>rfl
theorem Vals.dropLast{xs:List V}{us:List Value}(h:Vals xs us):Vals xs.dropLast us.dropLast:=by
 induction h with
 | nil=>exact .nil
 | cons r t ih =>
  cases t with
  | nil=>exact .nil
  | cons q t'=>exact .cons r ih
theorem Vals.eraseIdx:∀ {xs:List V} {us:List Value} (i:Nat),Vals xs us→Vals (xs.eraseIdx i) (us.eraseIdx i)
 | _,_,_,.nil=>.nil
 | _,_,0,.cons _ t=>t
 | _,_,i+1,.cons r t=>.cons r (Vals.eraseIdx i t)
theorem xI{α:Type}(l:List α):l.eraseIdx (l.length - 1)=l.dropLast:=by
 induction l with
 | nil=>rfl
 | cons a r ih =>
  cases r with
  | nil=>rfl
  | cons b r =>
   have e:(a::b::r).length - 1=((b::r).length - 1)+1:=by
    have h1:(a::b::r).length=r.length+2:=rfl
    have h2:(b::r).length=r.length+1:=rfl
    omega
   rw[e,List.eraseIdx_cons_succ,ih]
   all_goals rfl
theorem qA{α:Type}:∀ (l:List α) (i:Nat),(l.eraseIdx i).length≤l.length
 | [],_=>b9 _
 | _::_,0=>aQT _
 | _::r,i+1=>Nat.succ_le_succ (qA r i)
section
variable {X:Cx}{pins:List (Addr×Obj)}{σ:St}{H:Hp}{s:Shared}{l b:Addr}{xs ys zs:List V}
theorem Inv.lset{its its':List Value}{n:Nat}{f:Array Value→Array Value}{t':Nat}(I:Inv X pins σ H s)(hH:H l=some (.lst xs))
  (e:s.heap.get? l=some { cls:=.type "list",data:=.seq its.toArray n }) (hf:f its.toArray=its'.toArray) (hv:Vals ys its') (hz:ys.length≤sizeLine) :
  Inv X pins σ (upd H l (.lst ys)) { s with heap:=s.heap.update l (Obj.mapSeq f),toks:=t' }:=by
 have q:=PySem.IsL.update e f
 rw[hf] at q
 refine I.write (x:=l) (e:=l) (by rw[hH];exact trivial) (.inl rfl) (fun b' u hb hu=>(aQU s.heap (Obj.mapSeq f) (y7 hb)).trans hu) ⟨_,q⟩ ?_
 exact⟨hz,its',_,hv,q⟩
theorem Inv.lnew{its:List Value}{t':Nat}(I:Inv X pins σ H s)(hv:Vals ys its)(hz:ys.length≤sizeLine) :
  Inv X pins σ (upd H s.heap.objs.size (.lst ys)) { s with heap:=s.heap.push { cls:=.type "list",data:=.seq its.toArray },toks:=t' } :=
 I.laid (fun _ _ q=>b6 _ q) (b9 _) ⟨hz,its,0,hv,d3 _ rfl⟩
theorem Inv.fresh(I:Inv X pins σ H s):H s.heap.objs.size=none:=I.hok.fresh (b9 _)
theorem Inv.lstM(I:Inv X pins σ H s)(hH:H l=some (.lst xs)):xs.length≤sizeLine∧∃ (its:List Value) (n:Nat),Vals xs its∧xs.length=its.length∧s.heap.get? l=some { cls:=.type "list",data:=.seq its.toArray n }:=by
 obtain⟨z,its,n,r,e⟩:=I.hok l _ hH
 exact⟨z,its,n,r,r.length,e⟩
theorem Cw{n:Nat}(h:n≤sizeLine):Builtin.List.listTooLong n=false:=by
 unfold Builtin.List.listTooLong
 exact decide_eq_false (by omega)
end
section
variable {X:Cx}
def Dh:V→List V→Hp→VK→Prop:=fun x vs H Q=>∃ l xs y,x=.ref l∧vs=[y]∧H l=some (.lst xs)∧xs.length<sizeLine∧Q .non (upd H l (.lst (xs++[y])))
theorem cI:He X "list.append" Dh:=by
 intro pins s σ H x vs v us Q I rx rv h
 obtain⟨l,xs,y,rfl,rfl,hH,hz,q⟩:=h
 cases rx
 obtain⟨u,rfl,ru⟩:=rv.one
 obtain⟨z,its,n,r,hl,e⟩:=I.lstM hH
 refine call_meets F.slot_list_append ⟨_,e,rfl⟩ F.entry_list_append (F.args_list_append_2 _ _) (PySem.list_append l its.toArray n u (by rw[c0];omega)) ⟨e,?_⟩
 refine⟨.non,_,I.lset (its':=its++[u]) hH e (by simp) (r.append (.cons ru .nil)) ?_,rfl,q⟩
 rw[b8,t9]
 omega
def DK:V→List V→Hp→VK→Prop:=fun x vs H Q=>∃ l b xs zs,x=.ref l∧vs=[.ref b]∧H l=some (.lst xs)∧H b=some (.lst zs)∧xs.length+zs.length≤sizeLine∧Q .non (upd H l (.lst (xs++zs)))
theorem FT:He X "list.extend" DK:=by
 intro pins s σ H x vs v us Q I rx rv h
 obtain⟨l,b,xs,zs,rfl,rfl,hH,hB,hz,q⟩:=h
 cases rx
 obtain⟨u,rfl,ru⟩:=rv.one
 cases ru
 obtain⟨z,its,n,r,hl,e⟩:=I.lstM hH
 obtain⟨z2,its2,n2,r2,hl2,e2⟩:=I.lstM hB
 have hsz:its.toArray.size+its2.toArray.size≤sizeLine:=by rw[c0,c0];omega
 have hlong:¬ (!its.toArray.isEmpty && Builtin.List.listTooLong (its.toArray.size+its2.toArray.size))=true:=by
  rw[Cw hsz,aZa]
  exact i3
 refine call_meets F.slot_list_extend ⟨_,e,rfl⟩ F.entry_list_extend (F.args_list_extend_2 _ _)
  (AutoSeq1.list_extend_list_list_0 l its.toArray n b its2.toArray n2 hlong (by rw[c0];omega) (by omega)) ⟨e,e2,?_⟩
 refine⟨.non,_,I.lset (its':=its++its2) hH e (by simp) (r.append r2) ?_,rfl,q⟩
 rw[b8]
 omega
def IL:V→List V→Hp→VK→Prop:=fun x vs H Q=>∃ l xs y,x=.ref l∧vs=[]∧H l=some (.lst xs)∧xs[xs.length - 1]?=some y∧Q y (upd H l (.lst xs.dropLast))
theorem B0:He X "list.pop" IL:=by
 intro pins s σ H x vs v us Q I rx rv h
 obtain⟨l,xs,y,rfl,rfl,hH,hy,q⟩:=h
 cases rx
 have hus:=rv.zero
 subst hus
 obtain⟨z,its,n,r,hl,e⟩:=I.lstM hH
 obtain⟨u,hu,ru⟩:=r.get hy
 have hy':its.toArray[its.toArray.size - 1]?=some u:=by
  show its.toArray[its.length - 1]?=some u
  rw[← aQo,← hl]
  exact hu
 refine call_meets aZ4 ⟨_,e,rfl⟩ aZV (F.args_list_pop_1 _) (MeetsSeq.list_pop_last l its.toArray n u hy' (by rw[c0];omega)) ⟨e,?_⟩
 refine⟨y,_,I.lset (its':=its.dropLast) hH e ?_ r.dropLast ?_,ru,q⟩
 ·show its.toArray.eraseIdxIfInBounds (its.toArray.size - 1)=its.dropLast.toArray
  rw[c0,aQs,xI]
 ·rw[List.length_dropLast]
  omega
def EW:V→List V→Hp→VK→Prop:=fun x vs H Q=>∃ l xs i k y,x=.ref l∧vs=[.int i]∧H l=some (.lst xs)∧-(2 ^ 63)≤i∧i<2 ^ 63∧seqIndex? i xs.length=some k∧xs[k]?=some y∧Q y (upd H l (.lst (xs.eraseIdx k)))
theorem vK:He X "list.pop" EW:=by
 intro pins s σ H x vs v us Q I rx rv h
 obtain⟨l,xs,i,k,y,rfl,rfl,hH,h1,h2,hk,hy,q⟩:=h
 cases rx
 obtain⟨u,rfl,ru⟩:=rv.one
 obtain⟨t,rfl⟩:=ru
 obtain⟨z,its,n,r,hl,e⟩:=I.lstM hH
 obtain⟨w,hw,rw'⟩:=r.get hy
 refine call_meets aZ4 ⟨_,e,rfl⟩ aZV (F.args_list_pop_2 _ _)
  (MeetsSeq.list_pop_at l its.toArray n i t k w (fitsIndex_both h1 h2) (by rw[c0,← hl];exact hk) (by rw[← aQo];exact hw) (by rw[c0];omega)) ⟨e,?_⟩
 refine⟨y,_,I.lset (its':=its.eraseIdx k) hH e ?_ (r.eraseIdx k) ?_,rw',q⟩
 ·show its.toArray.eraseIdxIfInBounds k=(its.eraseIdx k).toArray
  rw[aQs]
 ·have:=qA xs k
  omega
def Ix:R2:=fun x y H Q=>∃ l b xs zs,x=.ref l∧y=.ref b∧H l=some (.lst xs)∧H b=some (.lst zs)∧xs.length+zs.length≤sizeLine∧∀ p,H p=none→Q (.ref p) (upd H p (.lst (xs++zs)))
theorem sB:jZ X (binaryOp .Add) Ix:=by
 intro pins s σ H x y v u Q I rx ry h
 obtain⟨l,b,xs,zs,rfl,rfl,hH,hB,hz,q⟩:=h
 cases rx
 cases ry
 obtain⟨z,its,n,r,hl,e⟩:=I.lstM hH
 obtain⟨z2,its2,n2,r2,hl2,e2⟩:=I.lstM hB
 refine PySem.P.add_list e e2 ?_ (by rw[c0,c0];omega)
 have ea:its.toArray++its2.toArray=(its++its2).toArray:=by simp
 rw[ea]
 exact⟨.ref _,_,I.lnew (t':=s.toks) (r.append r2) (by rw[b8];omega),rfl,q _ I.fresh⟩
end
end L2
namespace Att
open PySem PySem.W PySem.Calls PyProof.Rows
theorem mP{P:Params}{h:Heap}:∀ (ns:List Int) (vs:List Value),WellAll P h vs (ns.map WData.int)→IntsAre vs ns:=by
 intro ns
 induction ns with
 | nil =>
  intro vs w
  rw[aXX] at w
  cases w
  exact .nil
 | cons n ns ih =>
  intro vs w
  rw[i6] at w
  cases w with
  | cons a b =>
   cases a
   exact .cons _ _ (ih _ b)
theorem Ad{l:OpenLaw}{n:Nat}(hn:l.most=some n){P:Params}{h:Heap}{args:List WData}{vals:List Value}
  (hpre:l.row.toRowW.claim.pre args=true) (hwl:WellAll P h vals args) :
  ∃ a vs ns,vals=[Value.ref a]∧args=[WData.list (ns.map WData.int)]∧h.get? a=some { cls:=.type "list",data:=.seq vs.toArray }∧IntsAre vs ns∧ns.length≤n:=by
 have hsh:WShape.hasAll [] args [.list .int]=true:=(pre_splitW hpre).1
 have hc:l.pre.holds [] { args:=args }=true:=(pre_splitW hpre).2
 obtain⟨d,r,rfl,h1,h2⟩:=hasAllW_cons hsh
 obtain rfl:=hasAllW_nil h2
 obtain⟨xs,rfl,h3⟩:=hasW_list h1
 obtain⟨ns,rfl⟩:=items_int h3
 have hlen:ns.length≤n:=by
  unfold OpenLaw.pre at hc
  have h4:(WTm.not (.lt (.lit (.int (n:Int))) (.len (.arg 0)))).holds [] { args:=[.list (ns.map .int)] }=true:=by
   have h4:=(holds_andW hc).1
   rw[hn] at h4
   exact h4
  have h5:=condW_of h4 (w_not (w_lt w_lit (w_len_list (w_arg rfl))))
  rw[b7] at h5
  refine Nat.le_of_not_lt fun q=>?_
  have q':(n:Int)<((ns.length:Nat):Int):=by omega
  first
   | (rw[decide_eq_true q'] at h5;exact absurd h5 (by decide))
   | (simp at h5;omega)
 cases hwl with
 | cons w1 w2 =>
  cases w2
  cases w1 with
  | list ho hall=>exact⟨_,_,ns,rfl,rfl,ho,mP ns _ hall,hlen⟩
theorem zM(l:OpenLaw)(args:List WData):l.row.toRowW.claim.post args (.bool true) args=true :=
 postW_of (r:=l.row.toRowW) (X:=(true == true))
  (show WShape.has [] (.bool true) .bool=true by first | rfl | decide | simp[WShape.has,WShape.arms,WShape.armsAll])
  (show (WTm.eq .res (.lit (.bool true))).value [] { args:=args,res:=some (.bool true),after:=args }=some (.bool (true == true)) from w_eq_bool (w_res rfl) w_lit) rfl
theorem attach_call{l:OpenLaw}{n:Nat}{q:Program}{loose:List Str}{XP:(Str→Option Value)→Heap→Prop}{YP:World→Heap→Prop}{d:DefRec}
  (hn:l.most=some n) (hdf:d.params.defaults=[])
  (call:∀ (w:World) (s₀ s₁:Shared) (mg mb:Str→Option Value) (fa:Addr) (o:Obj) (pm cd doc:Value) (a:Addr) (vs:List Value) (ns:List Int),
   Ground q loose [] XP w s₀ mg mb s₁.heap→YP w s₁.heap →
   s₁.heap.get? fa=some o→o.data=.func (docDef d.name d.params d.body d.scope pm cd doc)→s₁.heap.CodeRec cd d.name→mg d.name=some (.ref fa) →
   s₁.heap.get? a=some { cls:=.type "list",data:=.seq vs.toArray }→IntsAre vs ns→ns.length≤n→s₁.gens=#[] →
   codeAny (model l.prog w) callerA (.call (.ref fa) ⟨[.ref a],[]⟩) (fun r s'=>r=.ok (.ret (.bool true))∧OldK s₁.heap s'.heap∧s'.os=s₁.os∧AllBare s'.gens) s₁) :
  WalkO q loose XP YP l.row.toRowW d [] (fun f vs=>PySem.call f vs):=by
 intro w s₀ s₁ mg mb G Y fa o pm cd doc dV kV ho hd hcd hD hmg hg args vals as hpre hlay hrd hwl hlo
 obtain rfl:dV=.none:=Dflts.none hD hdf
 obtain rfl:kV=.none:=Dflts.noKw hD
 obtain⟨a,vs,ns,rfl,rfl,hobj,hints,hlen⟩:=Ad hn hpre hwl
 refine enter_call (codeAny_mono (call w s₀ s₁ mg mb fa o pm cd doc a vs ns G Y ho (fd_plain hd) hcd hmg hobj hints hlen hg) fun r s' hq=>?_)
 obtain⟨rfl,h2,h3,h4⟩:=hq
 exact⟨.inl ⟨.bool true,.bool true,[],rfl,fun _=>rfl,.bool true,zM l _,fun _=>⟨List.Pairwise.nil,fun _ hm=>(nomatch hm)⟩⟩,h2,h3,h4⟩
end Att
namespace L2
open PySem PySem.Spec PyProof.Rows
theorem qT:∀ {vs:List Value} {ns:List Int},IntsAre vs ns→Vals (ns.map V.int) vs
 | _,_,.nil=>.nil
 | _,_,.cons n t h=>.cons ⟨t,rfl⟩ (qT h)
def FB(H:Hp):Prop:=∀ b,H b=none∨∃ o xs,H b=some (.frz o (.lst xs))
theorem Bj{P:Program}{w:World}{K:b5}{mg mb:Str→Option Value}{CX:AR}{k:Nat}{fa a:Addr}{fd:FuncData}{x:Str}{sp:Sp}{s₁:Shared}{vs:List Value}{ns:List Int}
  (KX:K.In s₁.heap) (hns:s₁.heap.Ns mainGlobals mg) (hb:s₁.heap.Ns builtinsNs mb) (hbb:∀ x:Str,x≠"__name__"→mb x=bootBuiltins x) (hlim:s₁.heap.NoLimit) (hg:s₁.gens=#[])
  (ha:s₁.heap.get? a=some { cls:=.type "list",data:=.seq vs.toArray }) (hi:IntsAre vs ns) (hl:ns.length≤sizeLine) (hr:Room k callerA)
  (F:∀ base:Heap,K.In base→base.Ns mainGlobals mg→FnOk P w K mg base CX k fa fd [x] sp) (hbind:∀ (s:Shared) (u:Value),BindsTo s fd ⟨[u],[]⟩ [(x,u)])
  (hsp:∀ H:Hp,FB H→SqL K H a (ns.map V.int)→sp [.ref a] H (fun v _=>v=.bl true) fun _ _ _=>False)
  (hCX:∀ H e s',CX [] H s₁ (fun _ _ _=>False) e s'→False) :
  codeAny (model P w) callerA (.call (.ref fa) ⟨[.ref a],[]⟩) (fun r s'=>r=.ok (.ret (.bool true))∧OldK s₁.heap s'.heap∧s'.os=s₁.os∧AllBare s'.gens) s₁:=by
 have rv:=qT hi
 have lenV:=hi.length
 -- from an abstract heap in which nothing but the script may be tracked
 have core:∀ H:Hp,FB H→SqL K H a (ns.map V.int)→HOk P w H s₁.heap→(∀ b,H b≠none→b=a)→(H a≠none→K.lookup a=none) →
   codeAny (model P w) callerA (.call (.ref fa) ⟨[.ref a],[]⟩) (fun r s'=>r=.ok (.ret (.bool true))∧OldK s₁.heap s'.heap∧s'.os=s₁.os∧AllBare s'.gens) s₁:=by
  intro H hO hS hok hA hK
  have base_of:∀ {b:Addr} {o:Obj},s₁.heap.get? b=some o→H b=none→(rT s₁.heap H).get? b=some o:=fun e n=>CB e n
  have noA:∀ {b:Addr} {o:Obj} {es:Array DictEntry} {ep:Nat},s₁.heap.get? b=some o→o.data=.dict es ep→H b=none:=fun {b o es ep} e d=>by
   cases q:H b with
   | none=>rfl
   | some u =>
    have e':b=a:=hA b (by rw[q];simp)
    subst e'
    rw[ha] at e;cases e
    have d':Data.seq vs.toArray _=Data.dict es ep:=d
    cases d'
  have nsK:∀ {b:Addr} {m:Str→Option Value},s₁.heap.Ns b m→(rT s₁.heap H).Ns b m:=fun {b m} ⟨o,es,ep,e,d,r⟩=>⟨o,es,ep,base_of e (noA e d),d,r⟩
  have hKb:K.In (rT s₁.heap H):=fun b o e=>base_of (KX b o e) (by
   cases q:H b with
   | none=>rfl
   | some u =>
    have e':b=a:=hA b (by rw[q];simp)
    subst e'
    rw[hK (by rw[q];simp)] at e;cases e)
  have hM:Mod K mg (rT s₁.heap H):=⟨hKb,nsK hns,⟨mb,nsK hb,hbb⟩,let ⟨mc,h1,h2⟩:=hlim;⟨mc,nsK h1,h2⟩⟩
  have e0:Env0 P w K mg (rT s₁.heap H) callerA [] s₁ H:=⟨rfl,hM,fun b o e=>CM e,aZA (zN _ _),trivial,fun b hb=>absurd (show b∈([]:List Addr) from hb) (by simp),hok,.of_eq hg⟩
  refine codeAny_mono ((F _ hKb (nsK hns)).run callerA [] s₁ H ⟨[.ref a],[]⟩ [.ref a] [.ref a] _ _ hr e0 (hbind s₁ (.ref a)) (.cons rfl .nil) (hsp H hO hS)) fun r s' h=>?_
  cases r with
  | error e=>exact(hCX H e s' h).elim
  | ok fl =>
   cases fl with
   | next=>exact False.elim h
   | brk=>exact False.elim h
   | cont=>exact False.elim h
   | ret u =>
    obtain⟨v,H',os,bare,un,hok',r',q⟩:=h
    have q':v=.bl true:=q
    subst q'
    obtain rfl:u=Value.bool true:=r'
    refine⟨rfl,OldK.of_keep fun b o e=>?_,os,bare⟩
    cases q:H b with
    | none=>exact un.keep b o e q (by intro z;exact absurd (show b∈([]:List Addr) from z) (by simp)) (by simp)
    | some u =>
     rcases hO b with z | ⟨ob,xs,z⟩
     ·rw[q] at z;cases z
     ·have z2:=un.frzs b ob _ z
      obtain⟨e1,_⟩:=hok b _ z
      obtain⟨e2,_⟩:=hok' b _ z2
      rw[e] at e1;cases e1
      exact e2
 cases hk:K.lookup a with
 | some o =>
  -- the script is one of the module's own objects
  have e:=KX a o hk
  rw[ha] at e
  cases e
  refine core (fun _=>none) (fun _=>.inl rfl) (.inr ⟨_,vs.toArray,_,hk,rfl,rfl,rfl,by rw[c0,lenV];exact hl,by simpa using rv⟩) (fun b u z=>by have z':(none:Option HO)=some u:=z;cases z') (fun b z=>absurd rfl z) fun z=>absurd rfl z
 | none =>
  refine core (fun b=>if b=a then some (.frz { cls:=.type "list",data:=.seq vs.toArray } (.lst (ns.map V.int))) else none) (fun b=>?_) (.inl (.inr ⟨{ cls:=.type "list",data:=.seq vs.toArray },if_pos rfl⟩)) (fun b u z=>?_) (fun b z=>?_) fun _=>hk
  ·by_cases hb:b=a
   ·exact .inr ⟨_,_,if_pos hb⟩
   ·exact .inl (if_neg hb)
  ·by_cases hb:b=a
   ·have z':=(if_pos hb).symm.trans z
    cases z'
    subst hb
    exact⟨ha,by rw[b7];exact hl,vs,_,rv,ha⟩
   ·have z':=(if_neg hb).symm.trans z
    cases z'
  ·by_cases hb:b=a
   ·exact hb
   ·exact absurd (if_neg hb) z
theorem walk_of{l:PySem.W.OpenLaw}{n k:Nat}{q:Program}{loose:List Str}{XP:(Str→Option Value)→Heap→Prop}{YP:World→Heap→Prop}{d:DefRec}{K:Params→b5}{CX:World→AR}{sp:World→Sp}{x:Str}
  (hn:l.most=some n) (hn2:n≤sizeLine) (hdf:d.params.defaults=[]) (hr:Room k callerA)
  (hY:∀ (w:World) (h:Heap),YP w h→(K w.params).In h)
  (F:∀ (w:World) (mg:Str→Option Value) (fa:Addr) (h:Heap),(K w.params).In h→h.Ns mainGlobals mg→mg d.name=some (.ref fa) →
   ∃ fd:FuncData,(∀ (s:Shared) (u:Value),BindsTo s fd ⟨[u],[]⟩ [(x,u)]) ∧
    ∀ base:Heap,(K w.params).In base→base.Ns mainGlobals mg→FnOk l.prog w (K w.params) mg base (CX w) k fa fd [x] (sp w))
  (hsp:∀ (w:World) (H:Hp) (a:Addr) (ns:List Int),ns.length≤n→FB H→SqL (K w.params) H a (ns.map V.int)→sp w [.ref a] H (fun v _=>v=.bl true) fun _ _ _=>False)
  (hCX:∀ (w:World) (H:Hp) (s:Shared) (e:Value) (s':Shared),CX w [] H s (fun _ _ _=>False) e s'→False) :
  PySem.W.WalkO q loose XP YP l.row.toRowW d [] (fun f vs=>PySem.call f vs):=by
 refine Att.attach_call hn hdf fun w s₀ s₁ mg mb fa o pm cd doc a vs ns G Y ho hd hcd hmg hobj hints hlen hg=>?_
 have KX:=hY w _ Y
 obtain⟨fd,hb,hF⟩:=F w mg fa _ KX G.T.g hmg
 exact Bj KX G.T.g G.T.b G.T.builtins G.T.nolimit hg hobj hints (k8 hlen hn2) hr hF hb (fun H hO hS=>hsp w H a ns hlen hO hS) fun H e s'=>hCX w H s₁ e s'
end L2
/- THE LAST THEOREM (shape;LID,My.* are yours):
   My.Adr: a structure of the addresses that your layer names (classes,functions);My.Txt K t: a structure (Prop) of the equations over K;
   My.txt_mk:{K} {implicit addresses ..} (e1:nsIn K mainGlobals "law"=some (some (.ref f))) (e2:K.lookup f=some ⟨oc,od,.func (fnOf "law" "law" params body scope dV kV doc pm an cdv ct),sl⟩) (e3:codeIn K cdv "law"=true) ..:∃ t,My.Txt K t
set_option maxRecDepth 100000 in
set_option maxHeartbeats 0 in
theorem PySem.Challenge.cw_LID_holds : PySem.Challenge.rw_LID.Holds := by
 w_on;o_law;k_head;(case hw=>w_witness2)
 k_fill
 refine L2.walk_of (l:=PySem.Challenge.rw_LID) (n:=63) (k:=40) (x:="script") (CX:=fun w=>..) (sp:=fun _=>My.sp_law) rfl (by decide) rfl ⟨rfl,by decide,by decide⟩ (fun w h Y=>aZb Y) ?F ?S ?C
 case F =>
  intro w mg fa h KX G hmg
  have T:∃ t,My.Txt (L2.KOf KX) t:=by
   dsimp only [L2.KOf]                          -- K must stand as «<heap const> w.params» for k_is
   refine' My.txt_mk ?e1 ?e2 ?e3 ..
   (case e1=>PySem.W.k_is)                    -- in the order: a name -> its address -> its object -> its parts
   (case e2=>PySem.W.k_is)
   ..
  obtain⟨t,T⟩:=T
  have e0:=hmg.symm.trans (aQQ KX G T.law)
  cases e0                                       -- fa is the law's own address
  exact⟨_,fun s u=>.of_eq rfl,fun base kb nb=>My.law_fn T kb nb⟩     -- if «.of_eq rfl» comes too early: refine' ⟨_,?b,fun base kb nb=>My.law_fn T kb nb⟩;exact fun s u=>.of_eq rfl
 case S=>exact fun w H a ns hl hO hS=>..
 case C=>exact ..
(the tactic k_is has no namespace: write k_is) -/
namespace L2
open PySem PySem.Spec PyProof.Rows
def dX(s:Stmt):Arguments:=match s with
 | .FunctionDef _ a _ _ _ _ _ _ _ _=>a
 | _=>{ posonlyargs:=[],args:=[],vararg:=none,kwonlyargs:=[],kw_defaults:=[],kwarg:=none,defaults:=[] }
def dN(s:Stmt):List Stmt:=match s with
 | .FunctionDef _ _ b _ _ _ _ _ _ _=>b
 | _=>[]
def aH(s:Stmt):Scope:=match s with
 | .FunctionDef _ _ _ _ _ _ sc _ _ _=>sc
 | _=>{ kind:=.function,names:=[],isGenerator:=false,isCoroutine:=false }
abbrev yB:AR:=fun _ _ _ _ _ _=>False
abbrev E0:XK:=fun _ _ _=>False
theorem fA{X:Cx}:jW yB X E0:=fun _ _ _ _ _ _ _ h=>h.elim
structure Fun(K:b5)(x qual:Str)(st:Stmt)(f:Addr)(fd:FuncData):Prop where
 ex:∃ (oc:Value) (od:Option Addr) (kV doc pm:Value) (an:Option Addr) (cdv ct:Value) (osl:Array (Option Value)),
  fd=PySem.W.fnOf x qual (dX st) (dN st) (aH st) .none kV doc pm an cdv ct∧K.lookup f=some ⟨oc,od,.func fd,osl⟩∧PySem.W.codeIn K cdv qual=true
 kp:PySem.W.keepIn K (.ref f)=true
section
variable {P:Program}{w:World}{K:b5}{mg:Str→Option Value}{base:Heap}
theorem Fun.ok{x qual:Str}{st:Stmt}{f:Addr}{fd:FuncData}{N ps:List Str}{k:Nat}{sp:Sp}(F:Fun K x qual st f fd)(S:FnScope N ps (aH st))(len:∀ vs H Q E,sp vs H Q E→vs.length=ps.length)
  (hbody:∀ (cdv:Value) (A:Around) (outer:List Env) (s:Shared) (H:Hp) (vs:List V) (Q:VK) (E:XK),Room k (A.deeper (envOfC qual (aH st) s.heap.objs.size f cdv))→sp vs H Q E →
   ∃ t,PSs (AO yB P w K mg base N qual (aH st) f cdv A outer s H E).nox (dN st) t∧t { nx:=fun _ H'=>Q .non H',rt:=Q } (mM N vs) H):FnOk P w K mg base yB (k+1) f fd ps sp:=by
 obtain⟨oc,od,kV,doc,pm,an,cdv,ct,osl,rfl,lk,hcd⟩:=F.ex
 refine GT lk hcd S len fun A outer s H vs Q E hr hsp=>?_
 obtain⟨t,h,q⟩:=hbody cdv A outer s H vs Q E hr hsp
 exact⟨t,h.nox,q⟩
theorem Fun.binds{x qual:Str}{st:Stmt}{f:Addr}{fd:FuncData}{ps:List Str}(F:Fun K x qual st f fd)
  (h:∀ (kV doc pm:Value) (an:Option Addr) (cdv ct:Value) (us:List Value),us.length=ps.length→bindArgs (PySem.W.fnOf x qual (dX st) (dN st) (aH st) .none kV doc pm an cdv ct) ⟨us,[]⟩=pure (ps.zip us)):Binds K fd ps []:=by
 obtain⟨oc,od,kV,doc,pm,an,cdv,ct,osl,rfl,lk,hcd⟩:=F.ex
 exact .all (h kV doc pm an cdv ct)
theorem lT{x qual:Str}{st:Stmt}{f:Addr}{oc:Value}{od an:Option Addr}{osl:Array (Option Value)}{kV doc pm cdv ct:Value}(l:K.lookup f=some ⟨oc,od,.func (PySem.W.fnOf x qual (dX st) (dN st) (aH st) .none kV doc pm an cdv ct),osl⟩)
  (c:PySem.W.codeIn K cdv qual=true) (k:PySem.W.keepIn K (.ref f)=true):Fun K x qual st f (PySem.W.fnOf x qual (dX st) (dN st) (aH st) .none kV doc pm an cdv ct):=⟨⟨oc,od,kV,doc,pm,an,cdv,ct,osl,rfl,l,c⟩,k⟩
end
theorem aR{n:Nat}(h:n≤1000):n<sizeLine:=l7 h (by decide)
section
variable {X:Cx}
theorem pv(i:Nat){x:Str}{pos:Pos}(hN:X.N[i]?=some x:=by rfl)(hv:Hr X.env.scope x:=by first | exact Or.inl rfl | exact Or.inr (Or.inl rfl) | exact Or.inr (Or.inr rfl))(hd:(x == ("__debug__":Str))=false:=by decide)
  (hcd:(x == ("__classdict__":Str))=false:=by decide):PE X (.Name x pos) (sQ i):=Fn hN hv hd hcd
end
theorem eR{A B:Prop}(h:B):if false=true then A else B:=by
 rw[if_neg i3]
 exact h
theorem jJ{A B:Prop}(h:A):if true=true then A else B:=by
 rw[if_pos rfl]
 exact h
theorem eM{c A B:Prop}[Decidable c](h1:c→A)(h2:¬ c→B):if c then A else B:=by
 by_cases h:c
 ·rw[if_pos h]
  exact h1 h
 ·rw[if_neg h]
  exact h2 h
def Same(H H':Hp):Prop:=∀ b o,H b=some o→H' b=some o
theorem Same.refl(H:Hp):Same H H:=fun _ _ h=>h
theorem Same.trans{H H1 H2:Hp}(a:Same H H1)(b:Same H1 H2):Same H H2:=fun c o h=>b c o (a c o h)
theorem Same.free{H H':Hp}(e:Same H H'){l:Addr}(h:H' l=Option.none):H l=Option.none:=by
 cases q:H l with
 | none=>rfl
 | some o =>
  rw[e l o q] at h
  cases h
def eW(cells:List (Str×Addr))(acc:List (Str×Addr))(p:Str×NameKind):List (Str×Addr) :=
 if p.2 == .free then (match cells.lookup p.1 with | some c=>(p.1,c)::acc | none=>acc) else acc
def B5(names:List (Str×NameKind))(cells:List (Str×Addr)):List (Str×Addr):=names.foldl (eW cells) []
theorem kO{env:Env}:∀ (names:List (Str×NameKind)) (acc:List (Str×Addr)),(∀ y∈names,y.2=.free→∃ c,env.cells.lookup y.1=some c) →
  (forIn names acc (fun (p:Str×NameKind) (cs:List (Str×Addr))=>(match p with
   | (name,kind)=>if (kind == .free)=true then (do let c ← cellOf env name;pure (ForInStep.yield ((name,c)::cs))) else pure (ForInStep.yield cs):Sem (ForInStep (List (Str×Addr))))))=pure (names.foldl (eW env.cells) acc)
 | [],acc,_=>rfl
 | (n,k)::r,acc,h=>by
  have ih:=fun acc=>kO (env:=env) r acc fun y hy=>h y (d4 _ hy)
  rw[aQu,aQv]
  by_cases e:(k == NameKind.free)=true
  ·obtain⟨c,hc⟩:=h (n,k) d9 (by simpa using e)
   have hc':env.cells.lookup n=some c:=hc
   have e1:eW env.cells acc (n,k)=(n,c)::acc:=by unfold eW;rw[if_pos e];simp only [hc']
   rw[e1,← ih]
   have e2:cellOf env n=pure c:=by unfold cellOf;rw[hc']
   simp only [e,if_true,e2]
   rfl
  ·have e1:eW env.cells acc (n,k)=acc:=by unfold eW;rw[if_neg e]
   rw[e1,← ih]
   simp only [e,if_false]
   rfl
theorem jN{scope:Scope}{env:Env}(h:∀ y∈scope.names,y.2=.free→∃ c,env.cells.lookup y.1=some c):closureFor scope env=pure (B5 scope.names env.cells):=by
 unfold closureFor
 have q:=kO (env:=env) scope.names [] h
 unfold B5
 exact(congrArg (fun (m:Sem (List (Str×Addr)))=>m >>= fun cs=>pure cs) q).trans rfl
theorem tE{cells:List (Str×Addr)}:∀ (names:List (Str×NameKind)) (acc:List (Str×Addr)),(∀ y c,acc.lookup y=some c→cells.lookup y=some c)→∀ y c,(names.foldl (eW cells) acc).lookup y=some c→cells.lookup y=some c
 | [],acc,h,y,c,e=>h y c e
 | p::r,acc,h,y,c,e=>by
  refine tE r (eW cells acc p) (fun z d q=>?_) y c e
  unfold eW at q
  split at q
  ·split at q
   ·rename_i c' hc'
    rw[q8] at q
    split at q
    ·rename_i hz
     have hz':z=p.1:=by simpa using hz
     cases q
     rw[hz'];exact hc'
    ·exact h z d q
   ·exact h z d q
  ·exact h z d q
theorem tN{cells:List (Str×Addr)}:∀ (names:List (Str×NameKind)) (acc:List (Str×Addr)) (y:Str),(acc.lookup y).isSome=true→((names.foldl (eW cells) acc).lookup y).isSome=true
 | [],_,_,h=>h
 | p::r,acc,y,h=>by
  refine tN r _ y ?_
  unfold eW
  split
  ·split
   ·rw[q8]
    split
    ·rfl
    ·exact h
   ·exact h
  ·exact h
theorem wN{cells:List (Str×Addr)}:∀ (names:List (Str×NameKind)) (acc:List (Str×Addr)) (y:Str) (c:Addr),(y,NameKind.free)∈names→cells.lookup y=some c→((names.foldl (eW cells) acc).lookup y).isSome=true
 | [],_,_,_,h,_=>by simp at h
 | p::r,acc,y,c,h,hc=>by
  rcases c6.mp h with e | e
  ·refine tN r _ y ?_
   subst e
   unfold eW
   simp only [hc]
   simp[q8]
  ·exact wN r _ y c e hc
theorem kX{env:Env}:∀ {names:List (Str×NameKind)} {x:Str},names.lookup x=some .free →
  (names.map fun (n,k)=>if (k == NameKind.free && env.scope.kind == .function && env.kindOf n == some .cell) then (n,NameKind.cell) else (n,k)).lookup x=some .cell ∨
  (names.map fun (n,k)=>if (k == NameKind.free && env.scope.kind == .function && env.kindOf n == some .cell) then (n,NameKind.cell) else (n,k)).lookup x=some .free
 | [],_,h=>by simp at h
 | (n,k)::r,x,h=>by
  have ih:=@kX env r x
  rw[i6]
  cases hx:x == n with
  | true =>
   simp only [q8,hx] at h
   cases h
   by_cases hc:(NameKind.free == NameKind.free && env.scope.kind == .function && env.kindOf n == some .cell)=true
   ·left;dsimp only;rw[if_pos hc];simp[q8,hx]
   ·right;dsimp only;rw[if_neg hc];simp[q8,hx]
  | false =>
   simp only [q8,hx] at h
   have e:∀ z:Str×NameKind,z.1=n→((z::(r.map fun (n,k)=>if (k == NameKind.free && env.scope.kind == .function && env.kindOf n == some .cell) then (n,NameKind.cell) else (n,k))).lookup x=(r.map fun (n,k)=>if (k == NameKind.free && env.scope.kind == .function && env.kindOf n == some .cell) then (n,NameKind.cell) else (n,k)).lookup x):=fun z hz=>by
    obtain⟨z1,z2⟩:=z
    cases hz
    rw[q8,hx]
   dsimp only
   split
   ·rw[e _ rfl];exact ih h
   ·rw[e _ rfl];exact ih h
theorem lC{env:Env}:∀ {names:List (Str×NameKind)} {x:Str},(∀ y∈names,y.2≠.cell) →
  ((names.map fun (n,k)=>if (k == NameKind.free && env.scope.kind == .function && env.kindOf n == some .cell) then (n,NameKind.cell) else (n,k)).lookup x=some .cell ∨
  (names.map fun (n,k)=>if (k == NameKind.free && env.scope.kind == .function && env.kindOf n == some .cell) then (n,NameKind.cell) else (n,k)).lookup x=some .free)→names.lookup x=some .free
 | [],_,_,h=>by simp at h
 | (n,k)::r,x,hn,h=>by
  have ih:=@lC env r x fun y hy=>hn y (d4 _ hy)
  have hk:k≠.cell:=hn (n,k) d9
  rw[i6] at h
  cases hx:x == n with
  | true =>
   by_cases hc:(k == NameKind.free && env.scope.kind == .function && env.kindOf n == some .cell)=true
   ·have:k=.free:=by
     cases k <;> simp at hc ⊢
    subst this
    simp[q8,hx]
   ·dsimp only at h;rw[if_neg hc] at h
    simp only [q8,hx] at h ⊢
    rcases h with h | h
    ·cases h;exact absurd rfl hk
    ·exact h
  | false =>
   have e:∀ z:Str×NameKind,z.1=n→((z::(r.map fun (n,k)=>if (k == NameKind.free && env.scope.kind == .function && env.kindOf n == some .cell) then (n,NameKind.cell) else (n,k))).lookup x=(r.map fun (n,k)=>if (k == NameKind.free && env.scope.kind == .function && env.kindOf n == some .cell) then (n,NameKind.cell) else (n,k)).lookup x):=fun z hz=>by
    obtain⟨z1,z2⟩:=z
    cases hz
    rw[q8,hx]
   dsimp only at h
   have h':(r.map fun (n,k)=>if (k == NameKind.free && env.scope.kind == .function && env.kindOf n == some .cell) then (n,NameKind.cell) else (n,k)).lookup x=some .cell∨(r.map fun (n,k)=>if (k == NameKind.free && env.scope.kind == .function && env.kindOf n == some .cell) then (n,NameKind.cell) else (n,k)).lookup x=some .free:=by
    split at h
    ·rw[e _ rfl] at h;exact h
    ·rw[e _ rfl] at h;exact h
   rw[q8,hx]
   exact ih h'
structure CompSc(X:Cx)(scope:Scope)(x:Str)(ix:List Nat):Prop where
 kind:scope.kind=.function
 nocell:∀ y∈scope.names,y.2≠.cell
 loc:∀ y∈scope.names,y.2=.local→scope.names.lookup y.1=some .local
 x:scope.names.lookup x=some .local
 free:∀ y∈scope.names,y.2=.free→X.env.scope.names.lookup y.1=some .cell∨X.env.scope.names.lookup y.1=some .free
 cap:∀ i∈ix,i<X.N.length∧scope.names.lookup (X.N.getD i "")=some .free
def nK(X:Cx)(x:Str)(ix:List Nat):List Str:=x::ix.map fun i=>X.N.getD i ""
def uX(σ:St)(ix:List Nat):St:=none::ix.map fun i=>σ.getD i none
def cE(X:Cx)(scope:Scope)(x:Str)(ix:List Nat)(ex:List Addr)(s:Shared)(H:Hp):Cx where
 prog:=X.prog
 w:=X.w
 K:=X.K
 mg:=X.mg
 base:=X.base
 A:=X.A
 N:=nK X x ix
 s₀:=s
 H₀:=H
 env:=compEnvC scope (B5 scope.names X.env.cells) s.heap.objs.size X.env
 outer:=X.stack
 stack:=X.stack
 ex:=ex
 fn:=fun _=>false
 calm:=X.calm
 pn:=[]
 xe:=fun _ _=>False
section
variable {X:Cx}{scope:Scope}{x:Str}{ix:List Nat}
theorem CompSc.cells(S:CompSc X scope x ix)(ok:X.Ok):∀ y∈scope.names,y.2=.free→∃ c,X.env.cells.lookup y.1=some c:=fun y hy hf=>ok.has y.1 (S.free y hy hf)
theorem Ct{pins:List (Addr×Obj)}{σ:St}{H:Hp}{s:Shared}{h':Heap}{t':Nat}{fp:List Addr}(S:CompSc X scope x ix)(I:Inv X pins σ H s)(hf:∀ b∈fp,gI X pins H b)(hlt:∀ b∈fp,b<s.heap.objs.size)
  (ns:h'.Ns s.heap.objs.size (fun y=>([]:List (Str×Value)).reverse.lookup y)) (sb:Heap.SameBut s.heap.objs.size (s.heap.push { cls:=.type "dict",data:=.dict #[] }) h') :
  Inv (cE X scope x ix fp s H) [] (uX σ ix) H { s with heap:=h',toks:=t' }:=by
 have hk:∀ b u,s.heap.get? b=some u→h'.get? b=some u:=fun b u e=>(sb.2 b (g6 (c8 e))).trans (b6 _ e)
 have sound:∀ y c,(B5 scope.names X.env.cells).lookup y=some c→X.env.cells.lookup y=some c:=tE scope.names [] (fun _ _ q=>by simp at q)
 have cellLt:∀ y c,X.env.cells.lookup y=some c→c<s.heap.objs.size:=fun y c e=>by
  obtain⟨v,q⟩:=I.cell y c e
  exact q.lt
 have cellK:∀ y c v,X.env.cells.lookup y=some c→s.heap.IsCell c v→h'.IsCell c v:=fun y c v _ ⟨o,ho,hd⟩=>⟨o,hk c o ho,hd⟩
 refine⟨⟨I.ok.mod,S.kind,I.ok.glob,I.ok.blt,b9 _,fun y z c h1 h2=>I.ok.inj y z c (sound y c h1) (sound z c h2),fun y hy=>?_,fun y c hf _=>(by cases hf),I.ok.hd,I.ok.frames,.inl rfl,fun b hb=>⟨g6 (hlt b hb),fun y c e=>(hf b hb).2.2.2.2.1 y c (sound y c e)⟩,I.bs,k8 I.ok.bsz I.sz,fun b o e hb=>?_,fun b hb hs=>?_,I.stack,I.stkFree⟩,
  rfl,I.bare,Un.kept hk,⟨_,ns,fun i y v h1 h2 h3=>?_⟩,fun y c e=>?_,I.hok.fresh (b9 _),fun y c e=>I.freeC y c (sound y c e),fun p hp=>absurd (show p∈([]:List (Addr×Obj)) from hp) (by simp),I.hok.kept hk,?_⟩
 ·have hy':scope.names.lookup y=some .free:=lC (env:=X.env) S.nocell hy
  obtain⟨c,hc⟩:=S.cells I.ok (y,.free) (r6 hy') rfl
  exact aQL.mp (wN scope.names [] y c (r6 hy') hc)
 ·obtain⟨_,_,_,f3,_⟩:=hf b hb
  rcases f3 with f3 | f3
  ·exact I.ok.noex b o e f3
  ·exact absurd (l6 (c8 e) (k8 I.ok.bsz f3)) (aQE _)
 ·rcases c6.mp (I.stkSub b hs) with e | e
  ·exact(hf b hb).2.1 e
  ·exact(hf b hb).2.2.1 e
 ·cases i with
  | zero =>
   have h2':(none:Option V)=some v:=by simpa [uX] using h2
   cases h2'
  | succ i =>
   have h1':(ix.map fun i=>X.N.getD i "")[i]?=some y:=by simpa [cE,nK] using h1
   have h2':(ix.map fun i=>σ.getD i none)[i]?=some (some v):=by simpa [uX] using h2
   rw[c7] at h1' h2'
   cases ei:ix[i]? with
   | none=>rw[ei] at h1';cases h1'
   | some j =>
    rw[ei] at h1' h2'
    have h1'':X.N.getD j ""=y:=d6 h1'
    have h2'':σ.getD j none=some v:=d6 h2'
    obtain⟨hj,hfr⟩:=S.cap j (b0 ei)
    rw[h1''] at hfr
    have e1:X.N[j]?=some y:=by
     rw[a9 hj]
     rw[c9,a9 hj] at h1''
     exact congrArg some h1''
    have e2:σ[j]?=some (some v):=by
     have hj':j<σ.length:=by rw[I.len];exact hj
     rw[a9 hj']
     rw[c9,a9 hj'] at h2''
     exact congrArg some h2''
    have vis:Hr X.env.scope y:=by
     rcases S.free (y,.free) (r6 hfr) rfl with q | q
     ·exact .inr (.inl q)
     ·exact .inr (.inr q)
    obtain⟨m,hn,hl⟩:=I.loc
    obtain⟨u,r,q⟩:=hl j y v e1 e2 vis
    refine⟨u,r,.inr ⟨?_,?_⟩⟩
    ·exact kX (env:=X.env) hfr
    ·rcases q with ⟨k,_⟩ | ⟨_,c,hc,z⟩
     ·rcases S.free (y,.free) (r6 hfr) rfl with q | q
      ·rw[show X.env.kindOf y=X.env.scope.names.lookup y from rfl,q] at k;cases k
      ·rw[show X.env.kindOf y=X.env.scope.names.lookup y from rfl,q] at k;cases k
     ·obtain⟨c',hc'⟩:=aQL.mp (wN scope.names [] y c (r6 hfr) hc)
      have e3:=sound y c' hc'
      rw[hc] at e3;cases e3
      exact⟨c,hc',cellK y c _ hc z⟩
 ·obtain⟨v,q⟩:=I.cell y c (sound y c e)
  exact⟨v,cellK y c v (sound y c e) q⟩
 ·simp[uX,cE,nK]
theorem tG{pins:List (Addr×Obj)}{σ σ':St}{H H':Hp}{s s':Shared}{fp:List Addr}{h'':Heap}(I:Inv X pins σ H s)(hf:∀ b∈fp,gI X pins H b)(J:Inv (cE X scope x ix fp s H) [] σ' H' s')
  (sb:Heap.SameBut s.heap.objs.size s'.heap h''):Inv X pins σ H' { s' with heap:=h'' }:=by
 have neC:∀ b o,s.heap.get? b=some o→b≠s.heap.objs.size:=fun b o e=>g6 (c8 e)
 have B:Un (AS X.stack) fp H H' s.heap s'.heap:=J.base
 have hC:H' s.heap.objs.size=none:=J.free
 refine I.call' (ch:=fp) J.os ?_ ?_ J.bare fun b hb=>⟨(hf b hb).2.2.2.1,(hf b hb).2.1,(hf b hb).2.2.2.2.1,(hf b hb).2.2.2.2.2⟩
 ·refine⟨fun b o e n hb hx=>(sb.2 b (neC b o e)).trans (B.keep b o e n hb hx),fun b o e n hb hx=>?_,B.free,fun b o e hx=>?_,B.tups,B.frzs,B.tbls⟩
  ·obtain⟨sl,q⟩:=B.slot b o e n hb hx
   exact⟨sl,(sb.2 b (neC b o e)).trans q⟩
  ·obtain⟨o',q⟩:=B.there b o e hx
   exact⟨o',(sb.2 b (neC b o e)).trans q⟩
 ·intro b ob e
  refine(J.hok b ob e).stay (fun c w' hc q=>(sb.2 c ?_).trans q) (fun _ q=>q) fun _ _ q=>q
  rintro rfl
  rcases hc with hc | hc
  ·rw[← hc,hC] at e;cases e
  ·rw[hC] at hc;cases hc
end
theorem pH{α β:Type}{M:Model}{A:Around}{a:α}{t:Sem β}{P:α→Shared→Prop}{Q:β→Shared→Prop}{E E':Value→Shared→Prop}{s:Shared}(h:wpAny M A (pure a:Sem α) P E s)(k:P a s→wpAny M A t Q E' s):wpAny M A t Q E' s:=fun Γ p hΓ=>k (h Γ p hΓ) Γ p hΓ
def vY(X:Cx)(ifs:List Expr)(t:TT):Prop :=
 ∀ (pins:List (Addr×Obj)) (s:Shared) (σ:St) (H:Hp) (Q:Bool→Hp→Prop),Inv X pins σ H s→t σ H Q →
  wpAny (model X.prog X.w) X.A (forIn ifs true fun c r=>if r=true then do let ok ← isTrue c X.env (eval c X.env);pure (ForInStep.yield ok) else pure (ForInStep.yield r)) (TP X pins σ Q) X.xe s
def F9:TT:=fun _ H Q=>Q true H
theorem cB{X:Cx}:vY X [] F9:=fun _ _ _ H _ I h=>wpAny_tests_nil ⟨H,I,h⟩
theorem kZ{X:Cx}{c:Expr}{t:TT}(h:PT X c t):vY X [c] t:=fun pins s σ H Q I q=>wpAny_tests_one (h pins s σ H Q I q)
def CG(σ:St)(ix:List Nat):St:=ix.map fun i=>σ.getD i none
def gM(J:It)(D:Addr)(Q:VK)(ti:TT)(te:TE)(c:St)(H0:Hp):Prop :=
 ∃ W:Nat→Nat→Hp→Prop,(∃ m,W 0 m H0)∧∀ i m H,W i m H →
  (J.stop i H∧Q (.ref D) H)∨(J.go i H∧∃ N:Hp→Prop,(∀ H',N H'→∃ m',m' < m∧W (i+1) m' H')∧∀ v H',J.yld i H v H' →
   ti (some v::c) H' fun b H2=>if b=true then te (some v::c) H2 fun y H3=>∃ ys,H3 D=some (.lst ys)∧ys.length<sizeLine∧N (upd H3 D (.lst (ys++[y]))) else N H2)
def zG(wi:TI)(ix:List Nat)(ti:TT)(te:TE):TE:=fun σ H Q=>wi σ H fun J H1=>∀ D,H1 D=none→gM J D Q ti te (CG σ ix) (upd H1 D (.lst []))
section
variable {X:Cx}{scope:Scope}{x:Str}{px pos:Pos}{ix:List Nat}{elt iter:Expr}{ifs:List Expr}{wi:TI}{ti:TT}{te:TE}
theorem oV{pins:List (Addr×Obj)}{σ:St}{H:Hp}{s:Shared}{fp:List Addr}{it D:Addr}{tn:Nat→Heap→Prop}{J:It}{Q:VK}{E:Value→Shared→Prop}{RR:Result→Shared→Prop}(S:CompSc X scope x ix)(hc:X.calm=true)
  (he:∀ s H,PE (cE X scope x ix fp s H) elt te) (hi:∀ s H,vY (cE X scope x ix fp s H) ifs ti)
  (I:Inv X pins σ H s) (T:Turn X.prog X.w X.K (.Name x px) J fp it tn) (st:tn 0 s.heap) (hf:∀ b∈fp,gI X pins H b) (go:gM J D Q ti te (CG σ ix) H)
  (nd:(nK X x ix).Nodup)
  (hR:∀ σ' H' s',Inv (cE X scope x ix fp s H) [] σ' H' s'→Q (.ref D) H'→RR (.ok .next) s') :
  wpAny (model X.prog X.w) X.A (newFunctionEnv scope X.env.globals (B5 scope.names X.env.cells) [] X.env.qual none .none (some X.env)) (fun cenv s₄=>cenv.locals=s.heap.objs.size ∧
   codeAny (model X.prog X.w) X.A (.compStart (.ListComp elt [⟨.Name x px,iter,ifs,0⟩] scope pos) 0 (.ref it) (.ref D) { cenv with scope:=relabel scope X.env }) RR s₄) E s:=by
 refine wpAny_newFunctionEnv S.nocell (by intro y hy;simp at hy) (fun h' ns sb=>⟨rfl,?_⟩) S.kind
 have hlt:∀ b∈fp,b<s.heap.objs.size:=fun b hb=>by
  obtain⟨o,e,_⟩:=T.obj 0 _ st b hb
  exact c8 e
 have I0:Inv (cE X scope x ix fp s H) [] (uX σ ix) H { s with heap:=h',toks:=s.toks+([]:List (Str×Value)).length }:=Ct S I hf hlt ns sb
 have st0:tn 0 h':=T.keep 0 _ _ st fun b hb o e=>(sb.2 b (g6 (c8 e))).trans (b6 _ e)
 obtain⟨W,⟨m0,w0⟩,turn⟩:=go
 have stat:∀ {H':Hp},(∀ b∈fp,H' b=none)→∀ b∈fp,gI (cE X scope x ix fp s H) [] H' b:=fun hn b hb=>by
  refine⟨hn b hb,g6 (hlt b hb),fun z=>?_,.inl hb,fun y c e=>(I0.ok.exf b hb).2 y c e,fun p hp=>absurd (show p∈([]:List (Addr×Obj)) from hp) (by simp)⟩
  exact I0.ok.exfs b hb z
 have loop:codeAny (model X.prog X.w) X.A (.compLoop (.ListComp elt [⟨.Name x px,iter,ifs,0⟩] scope pos) 0 (.ref it) (.ref D) (cE X scope x ix fp s H).env) RR { s with heap:=h',toks:=s.toks+([]:List (Str×Value)).length }:=by
  refine codeAny_compLoop_tests (fun n s'=>∃ i o H',Inv (cE X scope x ix fp s H) [] (o::CG σ ix) H' s'∧tn i s'.heap∧(∀ b∈fp,H' b=none)∧W i n H') ?_ m0 ⟨0,none,H,I0,st0,fun b hb=>(hf b hb).1,w0⟩
  rintro n s3 ⟨i,o3,H3,I3,st3,fr3,w3⟩
  rcases turn i n H3 w3 with ⟨stop,qn⟩ | ⟨gone,N,hN,step⟩
  ·refine bV (T.done (cE X scope x ix fp s H) rfl rfl rfl hc i [] s3 _ H3 _ I3 (stat fr3) st3 stop) fun r s4 ⟨hr,I4⟩=>?_
   subst hr
   exact hR _ H3 s4 I4 qn
  ·refine bV (T.item (cE X scope x ix fp s H) rfl rfl rfl hc i [] s3 _ H3 (fun _ _=>False) I3 (stat fr3) st3 gone |> fun z=>wpAny_mono z (fun _ _ q=>q) fun _ _ f=>f.elim) fun r s4 ⟨u,hr,h4⟩=>?_
   subst hr
   refine pH (a:=()) h4 fun ⟨y,H5,I5,r5,y5,st5,fr5⟩=>?_
   have I5':=I5.pinned (stat fr5) (T.obj _ _ st5)
   have hx0:(cE X scope x ix fp s H).N[0]?=some x:=rfl
   refine wpAny_assign_Name (gF I5' nd hx0 (.inl (lookup_relabel_local S.x)) r5 (fun s6 I6=>?_) (.inr (lookup_relabel_local S.x)))
   refine wpAny_mono (hi s H _ s6 _ H5 _ I6 (step y H5 y5)) (fun ok s7 ⟨H7,I7,q7⟩=>?_) fun _ _ f=>f.elim
   have again:∀ {o7:Option V} {H7:Hp} {s7:Shared},Inv (cE X scope x ix fp s H) ([]++kA fp s4.heap) (o7::CG σ ix) H7 s7→N H7→∃ m,m<n∧∃ i o H',Inv (cE X scope x ix fp s H) [] (o::CG σ ix) H' s7∧tn i s7.heap∧(∀ b∈fp,H' b=none)∧W i m H':=fun {o7 H7 s7} I7 n7=>by
    obtain⟨m',hm,w7⟩:=hN H7 n7
    refine⟨m',hm,i+1,o7,H7,I7.unpinned,T.keep _ _ _ st5 fun b hb o e=>(I7.pin (b,o) (i7 _ (i7 _ (gT hb e)))).1,fun b hb=>?_,w7⟩
    obtain⟨o,e,d⟩:=T.obj _ _ st5 b hb
    exact(I7.pin (b,o) (i7 _ (i7 _ (gT hb e)))).2.1
   cases ok with
   | false =>
    rw[if_neg (by simp)] at q7
    exact again I7 q7
   | true =>
    rw[if_pos rfl] at q7
    refine wpAny_mono (he s H _ s7 _ H7 _ I7 q7) (fun v s8 ⟨y8,H8,I8,r8,ys,hD,hz,n8⟩=>?_) fun _ _ f=>f.elim
    obtain⟨z,its,k,rv,e⟩:=I8.hok D _ hD
    have hl:s8.heap.IsList D its.toArray:=⟨_,e,rfl,k,rfl⟩
    refine cI _ s8 _ H8 (.ref D) [y8] (.ref D) [v] _ I8 rfl (.cons r8 .nil) ⟨D,ys,y8,rfl,rfl,hD,hz,n8⟩ |> fun z=>wpAny_mono z (fun _ s9 ⟨_,H9,I9,_,q9⟩=>again I9 q9) fun _ _ f=>f.elim
 exact codeAny_compStart_list loop (T.self _ 0 _ _ _ st0 loop)
end
section
variable {X:Cx}{scope:Scope}{x:Str}{px pos:Pos}{ix:List Nat}{elt iter:Expr}{ifs:List Expr}{wi:TI}{ti:TT}{te:TE}
theorem Inv.fp_upd{pins:List (Addr×Obj)}{H:Hp}{D:Addr}{o:HO}{fp:List Addr}(hf:∀ b∈fp,gI X pins H b)(hD:∀ b∈fp,b≠D):∀ b∈fp,gI X pins (upd H D o) b:=fun b hb =>
 ⟨by rw[aE (hD b hb)];exact(hf b hb).1,(hf b hb).2⟩
theorem DB(S:CompSc X scope x ix)(nd:(nK X x ix).Nodup)(hc:X.calm=true)(hi:PI X (.Name x px) iter wi)(hif:∀ fp s H,vY (cE X scope x ix fp s H) ifs ti)(he:∀ fp s H,PE (cE X scope x ix fp s H) elt te)
  (hs:∀ z,foldedSetIterable iter X.env z=pure z:=by intro _;rfl):PE X (.ListComp elt [⟨.Name x px,iter,ifs,0⟩] scope pos) (zG wi ix ti te):=by
 intro pins s σ H Q I h
 rw[eval_ListComp]
 refine wpAny_comprehension_free (use:=none) rfl hs (jN (S.cells I.ok)) S.kind S.loc (bV (hi pins s σ H _ I h) fun v s1 h1=>bV h1 fun itv s2 h2=>?_)
 obtain⟨it,fp,tn,J,H2,rfl,I2,T,st2,f2,q⟩:=h2
 refine wpAny_newObj_type ?_
 have fr:=I2.fresh
 have I3:Inv X pins σ (upd H2 s2.heap.objs.size (.lst [])) { s2 with heap:=s2.heap.push { cls:=.type "list",data:=.seq ([]:List Value).toArray } }:=I2.lnew (t':=s2.toks) .nil (j9 _)
 have hD:∀ b∈fp,b≠s2.heap.objs.size:=fun b hb=>by
  obtain⟨o,e,_⟩:=T.obj 0 _ st2 b hb
  exact g6 (c8 e)
 have f3:=Inv.fp_upd (o:=.lst []) f2 hD
 have st3:tn 0 (s2.heap.push { cls:=.type "list",data:=.seq ([]:List Value).toArray }):=T.keep 0 _ _ st2 fun b hb o e=>b6 _ e
 refine bV (oV (px:=px) (pos:=pos) (iter:=iter) (E:=X.xe) (RR:=compPost (model X.prog X.w) X.A X.xe none (EP X pins σ Q) (.ref s2.heap.objs.size) (s2.heap.push { cls:=.type "list",data:=.seq ([]:List Value).toArray }).objs.size) S hc (he fp) (hif fp) I3 T st3 f3 (q _ fr) nd ?_) fun cenv s4 ⟨e,z⟩=>?_
 ·intro σ' H' s' J' q'
  obtain⟨m,hn,_⟩:=J'.loc
  exact⟨m,hn,fun h'' sb=>⟨_,H',tG I3 f3 J' sb,(show RelV (.ref s2.heap.objs.size) _ from rfl),q'⟩⟩
 ·rw[← show cenv.locals=(s2.heap.push { cls:=.type "list",data:=.seq ([]:List Value).toArray }).objs.size from e] at z;exact z
def D1(i:Nat)(wi:TI)(ix:List Nat)(ti:TT)(te:TE):TS:=fun D σ H=>zG wi ix ti te σ H fun v H1=>D.nx (σ.set i (some v)) H1
theorem Do{i:Nat}{y:Str}{py spos:Pos}(hN:X.N.Nodup)(hy:X.N[i]?=some y)(hyl:X.env.scope.names.lookup y=some .local)(S:CompSc X scope x ix)(nd:(nK X x ix).Nodup)(hc:X.calm=true)(hi:PI X (.Name x px) iter wi)
  (hif:∀ fp s H,vY (cE X scope x ix fp s H) ifs ti) (he:∀ fp s H,PE (cE X scope x ix fp s H) elt te)
  (hsw:swapsWith (.ListComp elt [⟨.Name x px,iter,ifs,0⟩] scope pos) (some (.Name y py)) spos.line X.env=pure true:=by rfl)
  (hs:∀ z,foldedSetIterable iter X.env z=pure z:=by intro _;rfl):PS X (.Assign [.Name y py] (.ListComp elt [⟨.Name x px,iter,ifs,0⟩] scope pos) spos) (D1 i wi ix ti te):=by
 intro pins s σ H D I h
 rw[exec_Assign_Name_used _ _ _ _ hsw]
 refine wpAny_bind (wpAny_standAt (wpAny_bind ?_))
 show wpAny _ X.A (do let _ ← comprehension (.ListComp elt [⟨.Name x px,iter,ifs,0⟩] scope pos) scope X.env _ (newList []) false (eval iter X.env) (some (assign (.Name y py) X.env))) _ _ s
 refine wpAny_bind (wpAny_mono (wpAny_comprehension_free (use:=some (assign (.Name y py) X.env)) (Q:=fun _ s'=>SP X pins D .next s') rfl hs (jN (S.cells I.ok)) S.kind S.loc (bV (hi pins s σ H _ I h) fun v s1 h1=>bV h1 fun itv s2 h2=>?_)) (fun _ s' hq=>wpAny_pure (wpAny_pure hq)) fun _ _ e=>e)
 obtain⟨it,fp,tn,J,H2,rfl,I2,T,st2,f2,q⟩:=h2
 refine wpAny_newObj_type ?_
 have fr:=I2.fresh
 have I3:Inv X pins σ (upd H2 s2.heap.objs.size (.lst [])) { s2 with heap:=s2.heap.push { cls:=.type "list",data:=.seq ([]:List Value).toArray } }:=I2.lnew (t':=s2.toks) .nil (j9 _)
 have hD:∀ b∈fp,b≠s2.heap.objs.size:=fun b hb=>by
  obtain⟨o,e,_⟩:=T.obj 0 _ st2 b hb
  exact g6 (c8 e)
 have f3:=Inv.fp_upd (o:=.lst []) f2 hD
 have st3:tn 0 (s2.heap.push { cls:=.type "list",data:=.seq ([]:List Value).toArray }):=T.keep 0 _ _ st2 fun b hb o e=>b6 _ e
 refine bV (oV (px:=px) (pos:=pos) (iter:=iter) (E:=X.xe) (RR:=compPost (model X.prog X.w) X.A X.xe (some (assign (.Name y py) X.env)) (fun _ s'=>SP X pins D .next s') (.ref s2.heap.objs.size) (s2.heap.push { cls:=.type "list",data:=.seq ([]:List Value).toArray }).objs.size) S hc (he fp) (hif fp) I3 T st3 f3 (q _ fr) nd ?_) fun cenv s4 ⟨e,z⟩=>?_
 ·intro σ' H' s' J' q'
  have neL:(s2.heap.push { cls:=.type "list",data:=.seq ([]:List Value).toArray }).objs.size≠X.env.locals:=aQK I3.lt
  have I4:Inv X pins σ H' { s' with heap:=s'.heap }:=tG I3 f3 J' (.refl ..)
  show wpAny (model X.prog X.w) X.A (assign (.Name y py) X.env (.ref s2.heap.objs.size)) _ X.xe s'
  refine wpAny_assign_Name (qS (s:=s') I4 hN hy (.inl hyl) (show RelV (.ref s2.heap.objs.size) _ from rfl) (fun s6 I6 ⟨a,sb,ha⟩=>?_) (.inr hyl))
  have ha':a≠(s2.heap.push { cls:=.type "list",data:=.seq ([]:List Value).toArray }).objs.size:=by
   rcases ha with ha | ha
   ·rw[ha];exact y7 neL
   ·obtain⟨v,z⟩:=I3.cell y a ha
    exact g6 z.lt
  obtain⟨m,hn,_⟩:=J'.loc
  refine⟨m,hn.sameBut sb (y7 ha'),fun h'' sb2=>⟨σ.set i (some (.ref s2.heap.objs.size)),H',?_,q'⟩⟩
  -- the block's dict is not ours: its change is no matter
  have I7:Inv X pins (σ.set i (some (.ref s2.heap.objs.size))) H' s6:=I6
  have hCn:H' (s2.heap.push { cls:=.type "list",data:=.seq ([]:List Value).toArray }).objs.size=none:=J'.free
  refine I7.turned (s:=s6) (t':=s6.toks) (it:=(s2.heap.push { cls:=.type "list",data:=.seq ([]:List Value).toArray }).objs.size) (fun b o hb e=>(sb2.2 b hb).trans e) hCn neL (.inr (k8 I3.sz (b9 _))) (fun y c e z=>?_) fun p hp z=>?_
  ·obtain⟨v,q⟩:=I3.cell y c e
   exact absurd z (g6 q.lt)
  ·exact absurd z (g6 (c8 (I3.pin p hp).1))
 ·rw[← show cenv.locals=(s2.heap.push { cls:=.type "list",data:=.seq ([]:List Value).toArray }).objs.size from e] at z;exact z
end
theorem wJ{lo:Int}{n:Nat}{D:Addr}{Q:VK}{te:TE}{c:St}{H0:Hp}(Pv:Nat→Hp→Prop)(h0:Pv 0 H0)
  (hs:∀ i H,i<n→Pv i H→te (some (.int (lo+i))::c) H fun y H2=>∃ ys,H2 D=some (.lst ys)∧ys.length<sizeLine∧Pv (i+1) (upd H2 D (.lst (ys++[y])))) (hd:∀ H,Pv n H→Q (.ref D) H) :
  gM (DZ lo n) D Q F9 te c H0:=by
 refine⟨fun i m H'=>m=n - i∧i≤n∧Pv i H',⟨n,by simp,j9 _,h0⟩,?_⟩
 rintro i m H' ⟨rfl,hi,p⟩
 by_cases hlt:i<n
 ·refine .inr ⟨hlt,Pv (i+1),fun H'' p=>⟨n - (i+1),by omega,rfl,hlt,p⟩,fun v H2 y=>?_⟩
  obtain⟨e,y⟩:=y
  subst e y
  exact jJ (B:=Pv (i+1) H2) (hs i H2 hlt p)
 ·have e:i=n:=by omega
  subst e
  exact .inl ⟨b9 _,hd H' p⟩
theorem rO{lo:Int}{n:Nat}{D:Addr}{Q:VK}{ti:TT}{te:TE}{c:St}{H0:Hp}(Pv:Nat→Hp→Prop)(h0:Pv 0 H0)
  (hs:∀ i H,i<n→Pv i H→ti (some (.int (lo+i))::c) H fun b H1=>if b=true then te (some (.int (lo+i))::c) H1 fun y H2=>∃ ys,H2 D=some (.lst ys)∧ys.length<sizeLine∧Pv (i+1) (upd H2 D (.lst (ys++[y]))) else Pv (i+1) H1) (hd:∀ H,Pv n H→Q (.ref D) H) :
  gM (DZ lo n) D Q ti te c H0:=by
 refine⟨fun i m H'=>m=n - i∧i≤n∧Pv i H',⟨n,by simp,j9 _,h0⟩,?_⟩
 rintro i m H' ⟨rfl,hi,p⟩
 by_cases hlt:i<n
 ·refine .inr ⟨hlt,Pv (i+1),fun H'' p=>⟨n - (i+1),by omega,rfl,hlt,p⟩,fun v H2 y=>?_⟩
  obtain⟨e,y⟩:=y
  subst e y
  exact hs i H2 hlt p
 ·have e:i=n:=by omega
  subst e
  exact .inl ⟨b9 _,hd H' p⟩
theorem cG{K:b5}{a:Addr}{xs:List V}{D:Addr}{Q:VK}{ti:TT}{te:TE}{c:St}{H0:Hp}(Pv:Nat→Hp→Prop)(h0:Pv 0 H0)(hl:∀ i H,i≤xs.length→Pv i H→SqL K H a xs)
  (hs:∀ i x H,xs[i]?=some x→Pv i H→ti (some x::c) H fun b H1=>if b=true then te (some x::c) H1 fun y H2=>∃ ys,H2 D=some (.lst ys)∧ys.length<sizeLine∧Pv (i+1) (upd H2 D (.lst (ys++[y]))) else Pv (i+1) H1) (hd:∀ H,Pv xs.length H→Q (.ref D) H) :
  gM (FP K a) D Q ti te c H0:=by
 refine⟨fun i m H'=>m=xs.length - i∧i≤xs.length∧Pv i H',⟨xs.length,by simp,j9 _,h0⟩,?_⟩
 rintro i m H' ⟨rfl,hi,p⟩
 have q:=hl i H' hi p
 by_cases hlt:i<xs.length
 ·refine .inr ⟨⟨xs,xs[i],q,by simp[hlt]⟩,Pv (i+1),fun H'' p=>⟨xs.length - (i+1),by omega,rfl,hlt,p⟩,fun v H2 y=>?_⟩
  obtain⟨e,y⟩:=y
  subst e
  exact hs i v H2 (y xs q) p
 ·have e:i=xs.length:=by omega
  subst e
  exact .inl ⟨⟨xs,q,b9 _⟩,hd H' p⟩
theorem hX{K:b5}{a:Addr}{xs:List V}{D:Addr}{Q:VK}{ti:TT}{te:TE}{c:St}{H0:Hp}(Pv:Nat→Hp→Prop)(h0:Pv 0 H0)(hl:∀ i H,i≤xs.length→Pv i H→SqT K H a xs)
  (hs:∀ i x H,xs[i]?=some x→Pv i H→ti (some x::c) H fun b H1=>if b=true then te (some x::c) H1 fun y H2=>∃ ys,H2 D=some (.lst ys)∧ys.length<sizeLine∧Pv (i+1) (upd H2 D (.lst (ys++[y]))) else Pv (i+1) H1) (hd:∀ H,Pv xs.length H→Q (.ref D) H) :
  gM (FR K a) D Q ti te c H0:=by
 refine⟨fun i m H'=>m=xs.length - i∧i≤xs.length∧Pv i H',⟨xs.length,by simp,j9 _,h0⟩,?_⟩
 rintro i m H' ⟨rfl,hi,p⟩
 have q:=hl i H' hi p
 by_cases hlt:i<xs.length
 ·refine .inr ⟨⟨xs,xs[i],q,by simp[hlt]⟩,Pv (i+1),fun H'' p=>⟨xs.length - (i+1),by omega,rfl,hlt,p⟩,fun v H2 y=>?_⟩
  obtain⟨e,y⟩:=y
  subst e
  exact hs i v H2 (y xs q) p
 ·have e:i=xs.length:=by omega
  subst e
  exact .inl ⟨⟨xs,q,b9 _⟩,hd H' p⟩
def A0(x:Str):It:=⟨fun i _=>i<x.cps.size,fun i H v H'=>H'=H∧∃ c,x.cps[i]?=some c∧v=.str ⟨#[c]⟩,fun i _=>i=x.cps.size⟩
theorem Cc{P:Program}{w:World}{K:b5}{tg:Expr}(x:Str)(t:Tok)(T:String)(it:Addr)(hT:T="str_ascii_iterator"∨T="str_iterator"):Turn P w K tg (A0 x) [it] it (fun i h=>h.IsStrIter it T x t i) where
 mem:=by simp
 obj:=fun i h st b hb=>by
  have e:b=it:=by simpa using hb
  subst e
  obtain⟨o,e,c,d⟩:=st
  exact⟨o,e,fun v z=>by rw[d] at z;cases z⟩
 keep:=fun i h h' st k=>by
  obtain⟨o,e,r⟩:=st
  exact⟨o,k it (by simp) o e,r⟩
 item:=by
  intro X hP hw hK hc i pins s σ H E I hf st hg
  subst hP hw hK
  obtain⟨f0,f1,f2,f3,f4,f5⟩:=hf it (by simp)
  have hn:["enumerate","zip","dict_itemiterator","dict_reverseitemiterator","odict_iterator","itertools.zip_longest","itertools.pairwise"].contains T=false:=by rcases hT with rfl | rfl <;> decide
  have fin:∀ (v:Value) (h':Heap) (tk:Nat),SignAt x i v→h'.IsStrIter it T x t (i+1)→(∀ b o,b ∉ [it]→s.heap.get? b=some o→h'.get? b=some o) →
    ∃ u,some v=some u∧wpAny (model X.prog X.w) X.A (letOwnedTupleGo tg (.ref it) u) (fun _ s2=>∃ y H',Inv X pins σ H' s2∧RelV y u∧(A0 x).yld i H y H'∧s2.heap.IsStrIter it T x t (i+1)∧∀ b∈[it],H' b=none) E { s with heap:=h',toks:=tk }:=fun v h' tk hv st' kk=>by
   obtain⟨c,u,hc',rfl⟩:=hv
   have I1:Inv X pins σ H { s with heap:=h',toks:=tk }:=I.turned (fun b o hb e=>kk b o (by simpa using hb) e) f0 f1 f3 f4 f5
   obtain⟨o,e,c2,d⟩:=id st'
   exact⟨_,rfl,pU (s:={ s with heap:=h',toks:=tk }) e c2 d hn ⟨.str ⟨#[c]⟩,H,I1,⟨u,rfl⟩,⟨rfl,c,hc',rfl⟩,st',fun b hb=>(hf b hb).1⟩⟩
  rcases hT with rfl | rfl
  ·exact(aZc (prog:=X.prog) (w:=X.w) (I.ok.hd hc) it x t).item i s _ _ hg st fin
  ·exact(aZe (prog:=X.prog) (w:=X.w) (I.ok.hd hc) it x t).item i s _ _ hg st fin
 done:=by
  intro X hP hw hK hc i pins s σ H E I hf st hg
  subst hP hw hK
  obtain⟨f0,f1,f2,f3,f4,f5⟩:=hf it (by simp)
  have hi:i=x.cps.size:=hg
  subst hi
  have fin:∀ (h':Heap) (tk:Nat),(∀ b o,b ∉ [it]→s.heap.get? b=some o→h'.get? b=some o)→(none:Option Value)=none∧Inv X pins σ H { s with heap:=h',toks:=tk }:=fun h' tk kk =>
   ⟨rfl,I.turned (fun b o hb e=>kk b o (by simpa using hb) e) f0 f1 f3 f4 f5⟩
  rcases hT with rfl | rfl
  ·exact(aZc (prog:=X.prog) (w:=X.w) (I.ok.hd hc) it x t).done s _ _ st fin
  ·exact(aZe (prog:=X.prog) (w:=X.w) (I.ok.hd hc) it x t).done s _ _ st fin
 self:=fun A i s Q E st h=>by
  rcases hT with rfl | rfl
  ·exact wpAny_pyIter_striter_ascii st h
  ·exact wpAny_pyIter_striter_wide st h
section
variable {X:Cx}{tg:Expr}
def Iu(tl:TE):TI:=fun σ H R=>tl σ H fun x H1=>∃ z,x=.str z∧R (A0 z) H1
theorem lZ{l:Expr}{tl:TE}(hl:PE X l tl):PI X tg l (Iu tl):=by
 intro pins s σ H R I h
 refine bV (hl pins s σ H _ I h) fun v s1 ⟨x,H1,I1,r1,q1⟩=>?_
 obtain⟨z,e,q⟩:=q1
 subst e
 obtain⟨t,rfl⟩:=r1
 refine wpAny_pyIter_strU ?_
 refine⟨s1.heap.objs.size,[s1.heap.objs.size],_,_,H1,rfl,I1.kept (t':=s1.toks) fun b o e=>b6 _ e,Cc z t (strIterType z) _ (by unfold strIterType;split <;> simp),⟨_,d3 _ rfl,rfl,rfl⟩,fun b hb=>?_,q⟩
 have e:b=s1.heap.objs.size:=by simpa using hb
 subst e
 exact I1.fpOk (b9 _) (I1.hok.fresh (b9 _))
end
abbrev S(w:List Nat):Str:=⟨w.toArray⟩
theorem kU{w:List Nat}{g:TG}{tb:TS}{D:Ends}{σ:St}{H:Hp}(Pv:Nat→St→Hp→Prop)(h0:Pv 0 σ H)
  (hs:∀ i c σ H,w[i]?=some c→Pv i σ H→g (.str (S [c])) σ H fun σ2 H2=>tb { D with nx:=Pv (i+1),ct:=Pv (i+1),bk:=D.nx } σ2 H2) (hd:∀ σ H,Pv w.length σ H→D.nx σ H) :
  ∃ W:Nat→Nat→St→Hp→Prop,(∃ m,W 0 m σ H)∧∀ i m σ H,W i m σ H →
   ((A0 (S w)).stop i H∧D.nx σ H)∨((A0 (S w)).go i H∧∃ N:St→Hp→Prop,(∀ σ' H',N σ' H'→∃ m',m' < m∧W (i+1) m' σ' H')∧∀ x H',(A0 (S w)).yld i H x H'→g x σ H' fun σ2 H2=>tb { D with nx:=N,ct:=N,bk:=D.nx } σ2 H2):=by
 refine⟨fun i m σ H=>m=w.length - i∧i≤w.length∧Pv i σ H,⟨w.length,by simp,j9 _,h0⟩,?_⟩
 rintro i m σ H ⟨rfl,hi,p⟩
 by_cases hlt:i<w.length
 ·refine .inr ⟨by simpa [A0] using hlt,Pv (i+1),fun σ' H' p'=>⟨w.length - (i+1),by omega,rfl,hlt,p'⟩,fun x H' y=>?_⟩
  obtain⟨e,c,hc,rfl⟩:=y
  subst e
  exact hs i c σ _ (by simpa using hc) p
 ·have e:i=w.length:=by omega
  subst e
  exact .inl ⟨by simp[A0],hd σ H p⟩
theorem wQ{w:List Nat}{D:Addr}{Q:VK}{ti:TT}{te:TE}{c:St}{H0:Hp}(Pv:Nat→Hp→Prop)(h0:Pv 0 H0)
  (hs:∀ i k H,w[i]?=some k→Pv i H→ti (some (.str (S [k]))::c) H fun b H1=>if b=true then te (some (.str (S [k]))::c) H1 fun y H2=>∃ ys,H2 D=some (.lst ys)∧ys.length<sizeLine∧Pv (i+1) (upd H2 D (.lst (ys++[y]))) else Pv (i+1) H1) (hd:∀ H,Pv w.length H→Q (.ref D) H) :
  gM (A0 (S w)) D Q ti te c H0:=by
 refine⟨fun i m H'=>m=w.length - i∧i≤w.length∧Pv i H',⟨w.length,by simp,j9 _,h0⟩,?_⟩
 rintro i m H' ⟨rfl,hi,p⟩
 by_cases hlt:i<w.length
 ·refine .inr ⟨by simpa [A0] using hlt,Pv (i+1),fun H'' p=>⟨w.length - (i+1),by omega,rfl,hlt,p⟩,fun v H2 y=>?_⟩
  obtain⟨e,k,hk,rfl⟩:=y
  subst e
  exact hs i k H2 (by simpa using hk) p
 ·have e:i=w.length:=by omega
  subst e
  exact .inl ⟨by simp[A0],hd H' p⟩
section
variable {X:Cx}
def Iq(a:Addr)(D:List (PyData×PyData)):R2:=fun x y H Q=>x=.ref a∧∃ z,y=.str z∧((∃ v,lookup (.str z) D=some (.str v)∧Q (.str v) H)∨∃ i,lookup (.str z) D=some (.int i)∧Q (.int i) H)
theorem EQ{a:Addr}{D:List (PyData×PyData)}(T:∀ h,X.K.In h→StrTab X.prog X.w h a D):Fb X (Iq a D):=by
 intro value slice pins s σ H x y v u Q I rx ry h hs
 obtain⟨rfl,z,rfl,q⟩:=h
 cases rx
 obtain⟨t,rfl⟩:=ry
 obtain⟨lo,kvs,hd,hf⟩:=T s.heap I.kIn
 rcases q with ⟨y,hl,q⟩ | ⟨y,hl,q⟩
 ·obtain⟨v,hv,hfl⟩:=hf.of_lookup (enc:=PyData.str) aZD hl
  exact tail_any hd.typeIs slot_dict_getitem.lookup (wpAny_getItem_of (strKind_is X.prog X.w z t) hd.mapOf hv ⟨.str y,H,I.tok _,aJJ hfl,q⟩) hs
 ·obtain⟨v,hv,hfl⟩:=hf.of_lookup (enc:=PyData.str) aZD hl
  exact tail_any hd.typeIs slot_dict_getitem.lookup (wpAny_getItem_of (strKind_is X.prog X.w z t) hd.mapOf hv ⟨.int y,H,I.tok _,aJK hfl,q⟩) hs
def Ic:V→Option Int→Option Int→Hp→VK→Prop:=fun x lo hi H Q=>∃ z,x=.str z∧z.length≤sizeLine∧Q (.str (Txt.slice z lo hi)) H
theorem xK:Hm X Ic:=by
 intro pins s σ H x v vl vu lo hi sl Q I rx hs pl pu h
 obtain⟨z,rfl,hz,q⟩:=h
 obtain⟨t,rfl⟩:=rx
 refine⟨"str",_,aXL.lookup,typeIs_str _ _ _,?_⟩
 obtain⟨o,ho,hc,hd⟩:=hs
 have fin:∀ t' k,EP X pins σ Q (.str (Txt.slice z lo hi) t') { s with toks:=k }:=fun t' k=>⟨.str (Txt.slice z lo hi),H,I.tok _,⟨t',rfl⟩,q⟩
 cases pl with
 | none =>
  cases pu with
  | none=>exact wpAny_getItem_str_slice (l:=none) (u:=none) (st:=none) ⟨o,ho,hc,hd⟩ rfl (post_val_or_str ⟨k8 (aXY z _ _) hz,fin⟩)
  | int j uj=>exact wpAny_getItem_str_slice (l:=none) (u:=some (j,uj)) (st:=none) ⟨o,ho,hc,hd⟩ rfl (post_val_or_str ⟨k8 (aXY z _ _) hz,fin⟩)
 | int i ui =>
  cases pu with
  | none=>exact wpAny_getItem_str_slice (l:=some (i,ui)) (u:=none) (st:=none) ⟨o,ho,hc,hd⟩ rfl (post_val_or_str ⟨k8 (aXY z _ _) hz,fin⟩)
  | int j uj=>exact wpAny_getItem_str_slice (l:=some (i,ui)) (u:=some (j,uj)) (st:=none) ⟨o,ho,hc,hd⟩ rfl (post_val_or_str ⟨k8 (aXY z _ _) hz,fin⟩)
theorem wM:AQ X "str.islower" (fun x xs H Q=>∃ z,x=.str z∧xs=[]∧Q (.bl (Txt.islower z)) H):=by
 intro pins s σ H x xs v us Q I rx rs h
 obtain⟨z,rfl,rfl,q⟩:=h
 obtain⟨t,rfl⟩:=rx
 cases rs
 exact SC.islower ⟨.bl _,H,I,rfl,q⟩
theorem xG:AQ X "str.isupper" (fun x xs H Q=>∃ z,x=.str z∧xs=[]∧Q (.bl (Txt.isupper z)) H):=by
 intro pins s σ H x xs v us Q I rx rs h
 obtain⟨z,rfl,rfl,q⟩:=h
 obtain⟨t,rfl⟩:=rx
 cases rs
 exact SC.isupper ⟨.bl _,H,I,rfl,q⟩
theorem CF:AQ X "str.upper" (fun x xs H Q=>∃ z,x=.str z∧xs=[]∧Builtin.Str.tooLong (Txt.upper z).length=false∧Q (.str (Txt.upper z)) H):=by
 intro pins s σ H x xs v us Q I rx rs h
 obtain⟨z,rfl,rfl,hf,q⟩:=h
 obtain⟨t,rfl⟩:=rx
 cases rs
 exact SC.upper hf ⟨.str _,H,I.tok _,⟨_,rfl⟩,q⟩
theorem oC:AQ X "str.lower" (fun x xs H Q=>∃ z,x=.str z∧xs=[]∧Builtin.Str.tooLong (Txt.lower z).length=false∧Q (.str (Txt.lower z)) H):=by
 intro pins s σ H x xs v us Q I rx rs h
 obtain⟨z,rfl,rfl,hf,q⟩:=h
 obtain⟨t,rfl⟩:=rx
 cases rs
 exact SC.lower hf ⟨.str _,H,I.tok _,⟨_,rfl⟩,q⟩
theorem nY:∀ {zs:List Str} {us:List Value},Vals (zs.map V.str) us→StrsAre us zs
 | [],_,r=>by
  cases r
  exact .nil
 | z::zs,_,r=>by
  rw[i6] at r
  cases r with
  | cons r1 r2 =>
   obtain⟨t,rfl⟩:=r1
   exact .cons z t (nY r2)
theorem DP:AQ X "str.join" (fun x xs H Q=>∃ z a zs,x=.str z∧xs=[.ref a]∧SqL X.K H a (zs.map V.str)∧(zs.map (·.length)).sum+zs.length * z.length≤16777216∧Q (.str (Txt.join z zs)) H):=by
 intro pins s σ H x xs v us Q I rx rs h
 obtain⟨z,a,zs,rfl,rfl,hq,hz,q⟩:=h
 obtain⟨t,rfl⟩:=rx
 obtain⟨u,rfl,ru⟩:=rs.one
 cases ru
 obtain⟨its,r,pl,_⟩:=I.list hq
 exact join_list pl.isList (by simpa using nY r) hz fun t' k=>⟨.str _,H,I.tok _,⟨t',rfl⟩,q⟩
end
section
variable {X:Cx}
theorem mL:∀ {bs:List Bool} {us:List Value},Vals (bs.map V.bl) us→LSm.BoolsAre us bs
 | [],_,r=>by
  cases r
  exact .nil
 | b::bs,_,r=>by
  rw[i6] at r
  cases r with
  | cons r1 r2 =>
   cases (show _=Value.bool b from r1)
   exact .cons b (mL r2)
theorem AN(hc:X.calm=true):fC X (.builtin "all") (fun xs H Q=>∃ (a:Addr) (bs:List Bool),xs=[.ref a]∧SqL X.K H a (bs.map V.bl)∧Q (.bl (bs.all id)) H):=by
 intro pins s σ H xs us Q I r h
 obtain⟨a,bs,rfl,hq,q⟩:=h
 obtain⟨u,rfl,ru⟩:=r.one
 cases ru
 obtain⟨its,rv,pl,_⟩:=I.list hq
 have hl:=pl.isList
 have hb:=mL rv
 have hlt:a<s.heap.objs.size:=by obtain⟨_,e,_⟩:=hl;exact c8 e
 refine call_all_walk (wpAny_pyIter_list hl ?_)
 refine⟨s.heap.objs.size,[s.heap.objs.size,a],[s.heap.objs.size],its.toArray.size,_,_,fun i=>(bs[i]?).getD true,rfl,aJL (A:=X.A.in1) (I.ok.hd hc) _ a (g6 hlt) its.toArray,
  ⟨⟨_,d3 _ rfl,rfl,rfl⟩,hl.push _⟩,fun i v s' Q' E' hP hQ=>?_,fun h' tk hk=>?_⟩
 ·obtain⟨b,e,rfl⟩:=hb.get i v (by simpa using hP)
  simp only [e,Option.getD_some] at hQ
  exact wpAny_truthy_bool hQ
 ·have e:((List.range its.toArray.size).all fun i=>(bs[i]?).getD true)=bs.all id:=by
   rw[c0,hb.length];exact LSm.range_all bs
  rw[e]
  exact⟨.bl _,H,I.kept (t':=tk) (aZf hk),rfl,q⟩
end
end L2
namespace PySem
open Sem (wp)
namespace F
theorem qF:Manifest.owners.lookup (String.ofList ['d','e','s','r','e','v','e','r'].reverse)=some Manifest.sig_reversed:=by kernel_rfl
theorem slot_rvd_next:Slot "reversed" "__next__" "reversed.__next__" :=
 .of (owner:="reversed") (n:="__next__") (by rw[typeLookup_type,builtinLookup_eq_fast];kernel_rfl) (by decide +kernel) (by decide +kernel) (by decide +kernel)
  (by first | exact .inl (by decide +kernel) | exact .inr (by decide +kernel)) (by rw[isSubtype_type];kernel_rfl)
theorem entry_rvd_next:entryFor table "reversed.__next__"=some Builtin.«reversed.__next__»:=entryFor_of_tree (by kernel_rfl)
theorem args_rvd_next_1(a:Value):argsOk "reversed.__next__" ⟨[a],[]⟩:=by
 unfold argsOk;rw[signature?_of (id:="reversed.__next__") (n:=['_','_','t','x','e','n','_','_']) (o:=['d','e','s','r','e','v','e','r']) (by kernel_rfl) qF];kernel_rfl
theorem slot_rvd_iter:Slot "reversed" "__iter__" "reversed.__iter__" :=
 .of (owner:="reversed") (n:="__iter__") (by rw[typeLookup_type,builtinLookup_eq_fast];kernel_rfl) (by decide +kernel) (by decide +kernel) (by decide +kernel)
  (by first | exact .inl (by decide +kernel) | exact .inr (by decide +kernel)) (by rw[isSubtype_type];kernel_rfl)
theorem args_rvd_iter_1(a:Value):argsOk "reversed.__iter__" ⟨[a],[]⟩:=by
 unfold argsOk;rw[signature?_of (id:="reversed.__iter__") (n:=['_','_','r','e','t','i','_','_']) (o:=['d','e','s','r','e','v','e','r']) (by kernel_rfl) qF];kernel_rfl
theorem entry_rvd_iter:entryFor table "reversed.__iter__"=some Builtin.«dict_keyiterator.__iter__» :=
 entryFor_alias (id':="dict_keyiterator.__iter__") (by kernel_rfl) (by first | rfl | decide +kernel | (unfold String.splitOn;simp +decide [String.splitOnAux])) (by decide +kernel) (by kernel_rfl)
theorem pK:Slot "reversed" "__init__" "object.__init__" :=
 .of (owner:="object") (n:="__init__") (by rw[typeLookup_type,builtinLookup_eq_fast];kernel_rfl) (by decide +kernel) (by decide +kernel) (by decide +kernel)
  (by first | exact .inl (by decide +kernel) | exact .inr (by decide +kernel)) (by rw[isSubtype_type];kernel_rfl)
theorem called_reversed:TypeCalled "reversed" "reversed.__new__" "object.__init__" :=
 ⟨by decide +kernel,by decide +kernel,⟨_,_,mro_reversed⟩,madeBy_type mro_reversed lookup_reversed_new (by decide +kernel),by decide +kernel,by rw[isSubtype_type];kernel_rfl,pK⟩
theorem str_norev:typeLookup (.type "str") "__reversed__"=pure none:=by rw[typeLookup_type,builtinLookup_eq_fast];kernel_rfl
end F
theorem jM(x:Str)(t:Tok)(hx:¬ (x.length:Int) ≥ 2 ^ 63) :
  Meets (Builtin.«reversed.__new__» ⟨[.type "reversed",.str x t],[]⟩) (fun _ R s=>∀ tk,
   R (.ok (.ret (.ref s.heap.objs.size))) { s with heap:=s.heap.push { cls:=.type "reversed",data:=.fields #[.str x t,rawInt ((x.length:Int) - 1)] },toks:=tk }) :=
 .of_wp fun prog w A R s h=>by
  obtain⟨hp,g,d,tk,os⟩:=s
  have hsub:=F.sub_reversed_self
  have hnr:=F.str_norev
  have hsd:isSubtype (.type "str") (.type "dict")=pure false:=by rw[isSubtype_type];kernel_rfl
  have hgi:=aXL.lookup
  unfold Builtin.«reversed.__new__»
  refine wpAny_bind (wpAny_of_eq (newClass_reversed _) ?_)
  dsimp only
  refine wpAny_bind (wpAny_of_eq (a:=()) (by first | rfl | kernel_rfl) ?_)
  refine wpAny_bind (wpAny_of_eq (a:=()) (by first | rfl | kernel_rfl) ?_)
  try dsimp only
  wp_walk using P.len_str
  case hfit=>exact hx
  all_goals
   refine wpAny_bind (m:=asInt? _) (wpAny_of_eq (a:=some (x.length:Int)) rfl ?_)
   dsimp only
   refine wpAny_bind ?_
   show wpAny _ _ (newObj (.type "reversed") (.fields #[Value.str x t,rawInt ((x.length:Int) - 1)])) _ _ _
   exact wpAny_newObj_type (wpAny_pure ⟨_,rfl,h _⟩)
def Heap.IsRvd(h:Heap)(a:Addr)(x:Str)(t:Tok)(i:Int):Prop:=∃ o,h.get? a=some o∧o.cls=.type "reversed"∧o.data=.fields #[.str x t,rawInt i]
section
variable {prog:Program}{w:World}{A:Around}{E:Value→Shared→Prop}{s:Shared}
theorem Heap.IsRvd.typeIs{a:Addr}{x:Str}{t:Tok}{i:Int}(h:s.heap.IsRvd a x t i):s.TypeIs (.ref a) "reversed":=let ⟨o,ho,hc,_⟩:=h;⟨o,ho,hc⟩
theorem gA{x:Str}{t:Tok}{Q:Value→Shared→Prop}(hx:¬ (x.length:Int) ≥ 2 ^ 63)
  (h:∀ tk,Q (.ref s.heap.objs.size) { s with heap:=s.heap.push { cls:=.type "reversed",data:=.fields #[.str x t,rawInt ((x.length:Int) - 1)] },toks:=tk }):wpAny (model prog w) A (call (.type "reversed") [.str x t]) Q E s :=
 callType_new F.called_reversed (by decide) (F.typeCall_reversed_1 _) (F.newCall_reversed_1 _) (fun obj=>aXl obj _) F.entry_reversed_new (jM x t hx) fun tk=>⟨⟨_,d3 _ rfl,rfl⟩,h tk⟩
theorem eP{it:Addr}{x:Str}{t:Tok}{i:Int}{Q:Value→Shared→Prop}(hit:s.heap.IsRvd it x t i)(h:Q (.ref it) s):wpAny (model prog w) A (pyIter (.ref it)) Q E s:=by
 refine wpAny_pyIter_slot hit.typeIs F.slot_rvd_iter (wpAny_call_entry F.slot_rvd_iter hit.typeIs F.entry_rvd_iter ?_ (F.args_rvd_iter_1 _))
 show wpAny _ _ (ret (.ref it)) _ _ s
 exact wpAny_pure ⟨_,rfl,"reversed",_,hit.typeIs,F.slot_rvd_next.lookup,h⟩
theorem iF{it:Addr}{x:Str}{t:Tok}{i c:Nat}{Q:Option Value→Shared→Prop}(hit:s.heap.IsRvd it x t (i:Int))(hc:x.cps[i]?=some c)(hx:(x.length:Int)<2 ^ 63)
  (hQ:∀ h' tk u,h'.IsRvd it x t ((i:Int) - 1)→Heap.SameBut it s.heap h'→Q (some (.str ⟨#[c]⟩ u)) { s with heap:=h',toks:=tk }):wpAny (model prog w) A (pyNext (.ref it)) Q E s:=by
 obtain⟨o,ho,hcl,hd⟩:=id hit
 have hi:i<x.length:=by
  have:=(Array.getElem?_eq_some_iff.mp hc).1
  exact this
 unfold pyNext
 refine wpAny_bind (wpAny_attempt (wpAny_callSpecial?_slot (name:=Str.ofString "__next__") hit.typeIs F.slot_rvd_next
  (wpAny_call_entry F.slot_rvd_next hit.typeIs F.entry_rvd_next ?_ (F.args_rvd_next_1 _))))
 unfold Builtin.«reversed.__next__»
 refine wpAny_bind (wpAny_of_eq (a:=(Value.ref it,[])) rfl ?_)
 try dsimp only
 refine wpAny_bind (wpAny_field ho hd (x:=.str x t) rfl ?_)
 refine wpAny_bind (wpAny_field ho hd (x:=rawInt (i:Int)) rfl ?_)
 show wpAny _ _ (if (i:Int)<0 then _ else _) _ _ s
 rw[if_neg (by omega)]
 have hgi:=aXL.lookup
 refine wpAny_bind (wpAny_specialOf (T:="str") (typeIs_str _ _ _) hgi ?_)
 show wpAny _ _ (if (some (Value.builtin "str.__getitem__")).isNone=true then _ else _) _ _ _
 rw[if_neg (by simp)]
 refine wpAny_bind (m:=mkInt _) (wpAny_mkInt ?_)
 refine wpAny_bind (wpAny_attempt (P.getItem_str (c:=c) (by
  have e1:decide ((i:Int) < -(2 ^ 63:Int))=false:=decide_eq_false (by omega)
  have e2:decide ((i:Int) ≥ 2 ^ 63)=false:=decide_eq_false (by omega)
  rw[e1,e2,aZd]) (by rw[seqIndex_of (by omega) (by omega)];simpa using hc) ?_))
 dsimp only
 refine wpAny_bind (wpAny_field ho hd (x:=rawInt (i:Int)) rfl ?_)
 refine wpAny_bind (wpAny_setField ho hd (by simp) ?_)
 refine wpAny_pure ⟨_,rfl,wpAny_pure (hQ _ _ _ ?_ (u6 ..))⟩
 exact⟨_,y2 _ ho (aQZ (u9 hd _)),(aXR ..).trans hcl,by
  rw[u9 hd];simp⟩
theorem iI{it:Addr}{x:Str}{t:Tok}{Q:Option Value→Shared→Prop}(hh:A.handled=none)(hit:s.heap.IsRvd it x t (-1))
  (hQ:∀ h',Heap.ExtBut it s.heap h'→Q none { s with heap:=h' }):wpAny (model prog w) A (pyNext (.ref it)) Q E s:=by
 obtain⟨o,ho,hcl,hd⟩:=id hit
 unfold pyNext
 refine wpAny_bind (wpAny_attempt (wpAny_callSpecial?_slot (name:=Str.ofString "__next__") hit.typeIs F.slot_rvd_next
  (wpAny_call_entry F.slot_rvd_next hit.typeIs F.entry_rvd_next ?_ (F.args_rvd_next_1 _))))
 unfold Builtin.«reversed.__next__»
 refine wpAny_bind (wpAny_of_eq (a:=(Value.ref it,[])) rfl ?_)
 try dsimp only
 refine wpAny_bind (wpAny_field ho hd (x:=.str x t) rfl ?_)
 refine wpAny_bind (wpAny_field ho hd (x:=rawInt (-1)) rfl ?_)
 show wpAny _ _ (if (-1:Int)<0 then _ else _) _ _ s
 rw[if_pos (by decide)]
 refine wpAny_bind (wpAny_rule ?_)
 refine wpAny_bind ?_
 show wpAny _ _ (setField (.ref it) 1 (rawInt (-1)) >>= fun _=>setField (.ref it) 0 .none) _ _ _
 refine wpAny_bind (wpAny_setField ho hd (by simp) ?_)
 have ho':(s.heap.update it (Obj.mapFields fun xs=>xs.setIfInBounds 1 (rawInt (-1)))).get? it=some _:=y2 _ ho (aQZ (u9 hd (fun xs=>xs.setIfInBounds 1 (rawInt (-1)))))
 have hd':=u9 hd (fun xs=>xs.setIfInBounds 1 (rawInt (-1)))
 refine wpAny_setField (s:={ s with heap:=s.heap.update it (Obj.mapFields fun xs=>xs.setIfInBounds 1 (rawInt (-1))) }) ho' hd' (by simp) ?_
 have eb:Heap.ExtBut it s.heap ((s.heap.update it (Obj.mapFields fun xs=>xs.setIfInBounds 1 (rawInt (-1)))).update it (Obj.mapFields fun xs=>xs.setIfInBounds 0 .none)):=fun b ob hb e =>
  (aQU _ _ (y7 hb)).trans ((aQU _ _ (y7 hb)).trans e)
 refine wpAny_bind ?_
 show wpAny _ _ (newExc (.type "StopIteration") [] >>= _) _ _ _
 refine wpAny_bind ?_
 simp only [newExc,newTuple]
 refine wpAny_bind (wpAny_newObj_type ?_ (by size_fits))
 refine wpAny_bind (m:=firstArgMember _ _) (wpAny_of_eq (a:=Value.none) (by first | rfl | (simp only [firstArgMember];rfl)) ?_)
 refine wpAny_newObj_type ?_ (by size_fits)
 simp only [raiseNew]
 refine wpAny_bind (wpAny_handled ?_)
 first | rw[show A.in1.handled=none from hh] | rw[hh]
 refine wpAny_bind (wpAny_pure (wpAny_throw ?_))
 refine wpAny_bind (wpAny_isInstance (T:="StopIteration") (b:=true) ⟨_,d3 _ rfl,rfl⟩ isSubtype_stop ?_)
 exact wpAny_pure (hQ _ ((eb.push _).push _))
end
end PySem
namespace L2
open PySem PySem.Spec PyProof.Rows
def FQ(x:Str):It:=⟨fun i _=>i<x.cps.size,fun i H v H'=>H'=H∧∃ c,x.cps[x.cps.size - 1 - i]?=some c∧v=.str ⟨#[c]⟩,fun i _=>i=x.cps.size⟩
theorem uY{P:Program}{w:World}{K:b5}{tg:Expr}(x:Str)(t:Tok)(it:Addr)(hx:(x.length:Int)<2 ^ 63):Turn P w K tg (FQ x) [it] it (fun i h=>i≤x.cps.size∧h.IsRvd it x t ((x.cps.size:Int) - 1 - (i:Int))) where
 mem:=by simp
 obj:=fun i h st b hb=>by
  have e:b=it:=by simpa using hb
  subst e
  obtain⟨_,o,e,c,d⟩:=st
  exact⟨o,e,fun v z=>by rw[d] at z;cases z⟩
 keep:=fun i h h' st k=>by
  obtain⟨hi,o,e,r⟩:=st
  exact⟨hi,o,k it (by simp) o e,r⟩
 item:=by
  intro X hP hw hK hc i pins s σ H E I hf st hg
  subst hP hw hK
  obtain⟨f0,f1,f2,f3,f4,f5⟩:=hf it (by simp)
  obtain⟨hi,st⟩:=st
  have hg':i<x.cps.size:=hg
  have e1:(x.cps.size:Int) - 1 - (i:Int)=((x.cps.size - 1 - i:Nat):Int):=by omega
  rw[e1] at st
  have hcx:x.cps[x.cps.size - 1 - i]?=some (x.cps[x.cps.size - 1 - i]'(by omega)):=Array.getElem?_eq_getElem (by omega)
  refine iF st hcx hx fun h' tk u st' sb=>?_
  have e2:((x.cps.size - 1 - i:Nat):Int) - 1=(x.cps.size:Int) - 1 - ((i+1:Nat):Int):=by omega
  rw[e2] at st'
  have I1:Inv X pins σ H { s with heap:=h',toks:=tk }:=I.turned (fun b o hb e=>(sb.2 b hb).trans e) f0 f1 f3 f4 f5
  obtain⟨o,e,c,d⟩:=id st'
  exact⟨_,rfl,pU (s:={ s with heap:=h',toks:=tk }) e c d (by decide) ⟨.str ⟨#[_]⟩,H,I1,⟨u,rfl⟩,⟨rfl,_,hcx,rfl⟩,⟨hg',st'⟩,fun b hb=>(hf b hb).1⟩⟩
 done:=by
  intro X hP hw hK hc i pins s σ H E I hf st hg
  subst hP hw hK
  obtain⟨f0,f1,f2,f3,f4,f5⟩:=hf it (by simp)
  have hi:i=x.cps.size:=hg
  subst hi
  have e1:(x.cps.size:Int) - 1 - ((x.cps.size:Nat):Int)=-1:=by omega
  have st':=st.2
  rw[e1] at st'
  exact iI (I.ok.hd hc) st' fun h' eb=>⟨rfl,I.turned (t':=s.toks) (fun b o hb e=>eb b o hb e) f0 f1 f3 f4 f5⟩
 self:=fun A i s Q E st h=>eP st.2 h
section
variable {X:Cx}{tg:Expr}
def II(ta:TA):TI:=fun σ H R=>ta σ H fun vs H1=>∃ z:Str,vs=[.str z]∧z.length≤1000∧R (FQ z) H1
theorem E4{a:Expr}{ta:TA}{p pos:Pos}(hg:Gl X "reversed")(hm:X.mg "reversed"=none)(ha:PA X [a] ta)(hs:starEach [a] X.env=[(false,eval a X.env)]:=by rfl):PI X tg (.Call (.Name "reversed" p) [a] [] pos) (II ta):=by
 intro pins s σ H R I h
 refine Call_ (hU I hg hm boot_reversed (r9 (bV (ha pos pins s σ H _ I h) fun us s1 ⟨vs,H1,I1,r1,q1⟩=>?_) hs rfl))
 obtain⟨z,e,hz,q⟩:=q1
 subst e
 obtain⟨u,rfl,ru⟩:=r1.one
 obtain⟨t,rfl⟩:=ru
 refine gA (by omega) fun tk=>?_
 have I2:Inv X pins σ H1 { s1 with heap:=s1.heap.push { cls:=.type "reversed",data:=.fields #[.str z t,rawInt ((z.length:Int) - 1)] },toks:=tk }:=I1.kept fun b o e=>b6 _ e
 have st:(s1.heap.push { cls:=.type "reversed",data:=.fields #[.str z t,rawInt ((z.length:Int) - 1)] }).IsRvd s1.heap.objs.size z t ((z.length:Int) - 1):=⟨_,d3 _ rfl,rfl,rfl⟩
 refine eP st ?_
 refine⟨s1.heap.objs.size,[s1.heap.objs.size],_,_,H1,rfl,I2,uY z t _ (by omega),⟨j9 _,?_⟩,fun b hb=>?_,q⟩
 ·have e0:(z.cps.size:Int) - 1 - ((0:Nat):Int)=(z.length:Int) - 1:=by show (z.cps.size:Int) - 1 - ((0:Nat):Int)=(z.cps.size:Int) - 1;omega
  rw[e0];exact st
 ·have e:b=s1.heap.objs.size:=by simpa using hb
  subst e
  exact I1.fpOk (b9 _) (I1.hok.fresh (b9 _))
end
theorem oR{w:List Nat}{D:Addr}{Q:VK}{ti:TT}{te:TE}{c:St}{H0:Hp}(Pv:Nat→Hp→Prop)(h0:Pv 0 H0)
  (hs:∀ i k H,w.reverse[i]?=some k→Pv i H→ti (some (.str (S [k]))::c) H fun b H1=>if b=true then te (some (.str (S [k]))::c) H1 fun y H2=>∃ ys,H2 D=some (.lst ys)∧ys.length<sizeLine∧Pv (i+1) (upd H2 D (.lst (ys++[y]))) else Pv (i+1) H1) (hd:∀ H,Pv w.length H→Q (.ref D) H) :
  gM (FQ (S w)) D Q ti te c H0:=by
 refine⟨fun i m H'=>m=w.length - i∧i≤w.length∧Pv i H',⟨w.length,by simp,j9 _,h0⟩,?_⟩
 rintro i m H' ⟨rfl,hi,p⟩
 by_cases hlt:i<w.length
 ·refine .inr ⟨by simpa [FQ] using hlt,Pv (i+1),fun H'' p=>⟨w.length - (i+1),by omega,rfl,hlt,p⟩,fun v H2 y=>?_⟩
  obtain⟨e,k,hk,rfl⟩:=y
  subst e
  refine hs i k H2 ?_ p
  rw[aXh hlt]
  simpa using hk
 ·have e:i=w.length:=by omega
  subst e
  exact .inl ⟨by simp[FQ],hd H' p⟩
def fV:List V→List V→Bool
 | [],[]=>true
 | x::xs,y::ys=>nX x y && fV xs ys
 | _,_=>false
theorem nL:∀ {xs ys:List V},xs.length≠ys.length→fV xs ys=false
 | [],[],h=>absurd rfl h
 | [],_::_,_=>rfl
 | _::_,[],_=>rfl
 | x::xs,y::ys,h=>by unfold fV;rw[nL (by simpa using h),aZa]
theorem nJ(n:Nat)(e:Nat→Bool):(List.range (n+1)).all e=(e 0 && (List.range n).all fun i=>e (i+1)):=by
 rw[List.range_succ_eq_map,aXq,aJD];rfl
theorem gQ:∀ {xs ys:List V},xs.length=ys.length→(List.range xs.length).all (fun i=>match xs[i]?,ys[i]? with | some x,some y=>nX x y | _,_=>true)=fV xs ys
 | [],[],_=>rfl
 | [],_::_,h=>by simp at h
 | _::_,[],h=>by simp at h
 | x::xs,y::ys,h=>by
  have h':xs.length=ys.length:=by simpa using h
  rw[j1,nJ]
  unfold fV
  rw[← gQ h']
  simp
theorem vI:∀ (a b:List Str),fV (a.map V.str) (b.map V.str)=decide (a=b)
 | [],[]=>by simp[fV]
 | [],_::_=>by simp[fV]
 | _::_,[]=>by simp[fV]
 | x::xs,y::ys=>by
  have e:nX (V.str x) (V.str y)=decide (x=y):=by
   unfold nX;by_cases h:x=y <;> simp[h]
  rw[i6,i6]
  unfold fV
  rw[vI xs ys,e]
  by_cases h:x=y <;> by_cases h2:xs=ys <;> simp[h,h2]
section
variable {X:Cx}
theorem oJ{A:Around}{s:Shared}{xs ys:List V}{us vs:List Value}(rx:Vals xs us)(ry:Vals ys vs)(fx:xs.all fW=true)(fy:ys.all fW=true) :
  ∀ (j:Nat) (h1:j<us.toArray.size) (h2:j<vs.toArray.size),SeqAt.EqAt A s us.toArray[j] vs.toArray[j] (match xs[j]?,ys[j]? with | some x,some y=>nX x y | _,_=>true):=fun j h1 h2=>by
 have hx:j<xs.length:=by rw[rx.length];simpa using h1
 have hy:j<ys.length:=by rw[ry.length];simpa using h2
 obtain⟨u,hu,ru⟩:=rx.get (a9 hx)
 obtain⟨v,hv,rv⟩:=ry.get (a9 hy)
 have eu:us.toArray[j]=u:=by
  have:us[j]?=some us.toArray[j]:=by rw[a9 (by simpa using h1)];simp
  rw[hu] at this;exact(d6 this).symm
 have ev:vs.toArray[j]=v:=by
  have:vs[j]?=some vs.toArray[j]:=by rw[a9 (by simpa using h2)];simp
  rw[hv] at this;exact(d6 this).symm
 rw[eu,ev,a9 hx,a9 hy]
 exact vT ru rv (y1.mp fx _ (aQM hx)) (y1.mp fy _ (aQM hy))
def Hk(K:b5)(neg:Bool):R2:=fun x y H Q=>∃ a b xs ys,x=.ref a∧y=.ref b∧((SqL K H a xs∧SqL K H b ys)∨(SqT K H a xs∧SqT K H b ys))∧xs.all fW=true∧ys.all fW=true∧Q (.bl (if neg then !fV xs ys else fV xs ys)) H
theorem FC(hu:X.A.units<cLine):jZ X (compareOp .NotEq) (Hk X.K true):=by
 intro pins s σ H x y v u Q I rx ry h
 obtain⟨a,b,xs,ys,rfl,rfl,hq,fx,fy,q⟩:=h
 cases rx
 cases ry
 rcases hq with ⟨ha,hb⟩ | ⟨ha,hb⟩
 ·obtain⟨us,r1,p1,_⟩:=I.list ha
  obtain⟨vs,r2,p2,_⟩:=I.list hb
  by_cases hl:xs.length=ys.length
  ·refine aQf (aJO p1.isList p2.isList (by simp;rw[← r1.length,← r2.length];exact hl) hu (oJ r1 r2 fx fy)) ?_
   rw[c0,← r1.length,gQ hl]
   exact⟨.bl _,H,I,rfl,q⟩
  ·refine aQf (aZg p1.isList p2.isList (by simp;rw[← r1.length,← r2.length];exact hl) hu) ?_
   rw[nL hl] at q
   exact⟨.bl _,H,I,rfl,q⟩
 ·obtain⟨us,r1,p1,_⟩:=I.tuple ha
  obtain⟨vs,r2,p2,_⟩:=I.tuple hb
  refine aQf (aXu (show s.heap.IsTuple a us.toArray from p1) (show s.heap.IsTuple b vs.toArray from p2) hu (oJ r1 r2 fx fy)) ?_
  refine⟨.bl _,H,I,rfl,?_⟩
  have e:((List.range (min us.toArray.size vs.toArray.size)).all (fun i=>match xs[i]?,ys[i]? with | some x,some y=>nX x y | _,_=>true) && us.toArray.size == vs.toArray.size)=fV xs ys:=by
   rw[c0,c0,← r1.length,← r2.length]
   by_cases hl:xs.length=ys.length
   ·rw[← hl,aJE,gQ hl];simp
   ·rw[nL hl];simp[hl]
  rw[e]
  exact q
theorem sD(hc:X.calm=true):fC X (.type "list") (fun xs H Q=>∃ w:List Nat,xs=[.str (S w)]∧w.length≤1000∧∀ l,H l=none→Q (.ref l) (upd H l (.lst (w.map fun c=>V.str (S [c]))))):=by
 intro pins s σ H xs us Q I r h
 obtain⟨w,rfl,hz,q⟩:=h
 obtain⟨u,rfl,ru⟩:=r.one
 obtain⟨t,rfl⟩:=ru
 have hz2:w.length≤sizeLine:=aQX (aR hz)
 refine call_list_str (I.ok.hd hc) (S w) t (fun h' tk acc c hk hl hit=>?_) (by simpa using hz2)
 have hv:Vals (w.map fun c=>V.str (S [c])) acc.toList:=by
  have hn:acc.size=w.length:=by simpa using hit.1
  have:∀ (n:Nat) (w:List Nat) (l:List Value),w.length=n→l.length=n→(∀ (j:Nat) (v:Value),l[j]?=some v→∃ (c:Nat) (u:Tok),w[j]?=some c∧v=Value.str ⟨#[c]⟩ u)→Vals (w.map fun c=>V.str (S [c])) l:=by
   intro n
   induction n with
   | zero =>
    intro w l h1 h2 _
    have e1:=p8.mp h1
    have e2:=p8.mp h2
    subst e1 e2
    exact .nil
   | succ n ih =>
    intro w l h1 h2 h3
    cases w with
    | nil=>simp at h1
    | cons c w =>
     cases l with
     | nil=>simp at h2
     | cons v l =>
      obtain⟨c',u,hc',rfl⟩:=h3 0 v rfl
      have hc'':c=c':=by simpa using hc'
      subst hc''
      exact .cons ⟨u,rfl⟩ (ih w l (by simpa using h1) (by simpa using h2) fun j v hv=>by simpa using h3 (j+1) v (by simpa using hv))
  refine this w.length w acc.toList rfl (by simpa using hn) fun j v hv=>?_
  obtain⟨c,u,hc,hv'⟩:=hit.2 j v (by simpa using hv)
  exact⟨c,u,by simpa using hc,hv'⟩
 refine⟨.ref s.heap.objs.size,_,I.laid (t':=tk) (o:=.lst (w.map fun c=>V.str (S [c]))) hk (b9 _) ⟨by rw[b7];exact hz2,acc.toList,c,hv,?_⟩,rfl,q _ I.fresh⟩
 simpa using hl
end
def nB(sc0 scope:Scope)(N:List Str)(x:Str)(ix:List Nat):Bool :=
 decide (scope.kind=.function) && scope.names.all (fun y=>decide (y.2≠.cell)) && scope.names.all (fun y=>decide (y.2=.local→scope.names.lookup y.1=some .local)) && decide (scope.names.lookup x=some .local) &&
 scope.names.all (fun y=>decide (y.2=.free→sc0.names.lookup y.1=some .cell∨sc0.names.lookup y.1=some .free)) && ix.all (fun i=>decide (i<N.length) && decide (scope.names.lookup (N.getD i "")=some .free)) && decide ((x::ix.map fun i=>N.getD i "").Nodup)
theorem jI{X:Cx}{sc0 scope:Scope}{N:List Str}{x:Str}{ix:List Nat}(h:nB sc0 scope N x ix=true)(e1:X.env.scope=sc0)(e2:X.N=N):CompSc X scope x ix∧(nK X x ix).Nodup:=by
 subst e1 e2
 simp only [nB,aQA,y1,decide_eq_true_eq] at h
 obtain⟨⟨⟨⟨⟨⟨h1,h2⟩,h3⟩,h4⟩,h5⟩,h6⟩,h7⟩:=h
 exact⟨⟨h1,h2,h3,h4,h5,h6⟩,h7⟩
section
variable {prog:Program}{w:World}{A:Around}{E:Value→Shared→Prop}{s:Shared}
theorem pO{it t:Addr}{items:Array Value}(hne:t≠it):∀ (n i:Nat) (s:Shared) (Q:List Value→Shared→Prop),s.heap.IsListIter it t i→s.heap.IsList t items→i+n≤items.size →
  (∀ h',h'.IsListIter it t (i+n)→Heap.SameBut it s.heap h'→Q ((items.toList.drop i).take n) { s with heap:=h' })→wpAny (model prog w) A (draw (.ref it) n) Q E s
 | 0,i,s,Q,hit,_,_,hQ=>by
  show wpAny _ _ (pure []) Q E s
  exact wpAny_pure (by simpa using hQ s.heap hit (aJQ ..))
 | n+1,i,s,Q,hit,ht,hle,hQ=>by
  have hlt:i<items.size:=by omega
  show wpAny _ _ (pyNext (.ref it) >>= _) Q E s
  refine wpAny_bind (wpAny_pyNext_list_item hit ht (x:=items[i]) (by simp[hlt]) fun h₁ hit₁ hs₁=>?_)
  refine wpAny_bind (wpAny_holding (pO hne n (i+1) _ _ hit₁ (ht.extBut hs₁.extBut hne) (by omega) fun h₂ hit₂ hs₂=>wpAny_pure ?_))
  have hd:items.toList.drop i=items[i]::items.toList.drop (i+1):=by simp[u7,hlt]
  have:=hQ h₂ (by rw[show i+(n+1)=i+1+n by omega];exact hit₂) (hs₁.trans hs₂)
  rw[hd,List.take_succ_cons] at this
  exact this
theorem lU{t:Addr}{items:Array Value}{Q:List Value→Shared→Prop}(hh:A.handled=none)(ht:s.heap.IsList t items)
  (hQ:∀ h',Heap.ExtBut s.heap.objs.size s.heap h'→Q items.toList { s with heap:=h' }):wpAny (model prog w) A (unpackItems (.ref t) items.size none) Q E s:=by
 have hlt:t≠s.heap.objs.size:=by obtain⟨o,ho,_⟩:=ht;exact g6 (c8 ho)
 unfold unpackItems
 refine wpAny_bind ?_
 ·unfold notIterableAtAll
  refine wpAny_bind (wpAny_specialOf ht.typeIs slot_list_iter.lookup ?_)
  refine wpAny_pure ?_
  simp only [aQR,if_false]
  refine wpAny_bind (wpAny_holding (wpAny_pyIter_list ht ?_))
  refine wpAny_bind (wpAny_holding (pO hlt items.size 0 _ _ ⟨_,d3 _ rfl,rfl,rfl⟩ (ht.push _) (by omega) fun h₁ hit₁ hs₁=>?_))
  have hall:List.take items.size (List.drop 0 items.toList)=items.toList:=by
   rw[aXi];exact t4 (by simp)
  rw[hall]
  rw[if_neg (by simp)]
  have ht₁:h₁.IsList t items:=(ht.push _).extBut hs₁.extBut hlt
  refine wpAny_bind (wpAny_holding (wpAny_pyNext_list_end hh hit₁ ht₁ (by simp) fun h₂ he₂=>?_))
  simp only [Option.isSome_none,aQR,if_false]
  refine wpAny_pure (hQ h₂ fun b o hb e=>he₂ b o hb (hs₁.extBut b o hb (b6 _ e)))
theorem kE{env:Env}{elts:List Expr}{x1}{pos:Pos}{t:Addr}{items:Array Value}{Q:Unit→Shared→Prop}(hh:A.handled=none)(ht:s.heap.IsList t items)
  (hn:(assignEach elts env).length=items.size) (hstar:(assignEach elts env).findIdx? (·.1)=none)
  (h:∀ h',Heap.ExtBut s.heap.objs.size s.heap h'→wpAny (model prog w) A (assignInOrder ((assignEach elts env).map (·.2)) items.toList) Q E { s with heap:=h' }) :
  wpAny (model prog w) A (assign (.Tuple elts x1 pos) env (.ref t)) Q E s:=by
 rw[assign_Tuple]
 refine wpAny_bind (wpAny_standAt ?_)
 unfold unpack
 rw[hn,hstar]
 exact wpAny_bind (wpAny_holding (lU hh ht h))
end
section
variable {X:Cx}{pos:Pos}{K:b5}
def IE(K:b5)(n:Nat)(t:EL):TG:=fun v σ H Q=>∃ a xs,v=.ref a∧(SqL K H a xs∨SqT K H a xs)∧xs.length=n∧t xs σ H Q
theorem iS{es:List Expr}{k:Nat}{t:EL}{n:Nat}(hK:X.K=K)(hc:X.calm=true)(h:HU X es t)
  (hn:(assignEach es X.env).length=n:=by rfl) (hst:(assignEach es X.env).findIdx? (·.1)=none:=by rfl):PG X (.Tuple es k pos) (IE K n t):=by
 subst hK
 intro pins s σ H v u Q I r hw
 obtain⟨a,xs,e1,hq,hl,hw⟩:=hw
 subst e1
 cases r
 rcases hq with hq | hq
 ·obtain⟨its,rv,ht,hz⟩:=I.list hq
  refine kE (I.ok.hd hc) ht.isList (by simp[hn,← hl,rv.length]) hst fun h' hx=>?_
  have I1:Inv X pins σ H { s with heap:=h' }:=I.kept (t':=s.toks) fun b o e=>hx b o (g6 (c8 e)) e
  exact h pins _ σ H xs _ Q I1 (by simpa using rv) hw
 ·obtain⟨its,rv,ht,hz⟩:=I.tuple hq
  refine assign_Tuple_tuple (I.ok.hd hc) ht (by simp[hn,← hl,rv.length]) hst fun h' hx=>?_
  have I1:Inv X pins σ H { s with heap:=h' }:=I.kept (t':=s.toks) fun b o e=>hx b o (g6 (c8 e)) e
  exact h pins _ σ H xs _ Q I1 (by simpa using rv) hw
end
end L2
namespace Ma
def aU(c:Nat):Nat:=if 96<c then c - 32 else c+32
def cN(c:Nat):Prop:=(97≤c∧c≤100)∨(65≤c∧c≤68)
theorem bK{c:Nat}(h:cN c):aU (aU c)=c:=by unfold aU;unfold cN at h;split <;> split <;> omega
theorem cZ{c:Nat}(h:cN c):cN (aU c):=by unfold aU;unfold cN at *;split <;> omega
theorem A3{c:Nat}(h:cN c):aU c≠c:=by unfold aU;unfold cN at h;split <;> omega
def push(k:List Nat)(c:Nat):List Nat:=match k with
 | []=>[c]
 | x::r=>if x=aU c then r else c::x::r
def PlainR:List Nat→Prop
 | []=>True
 | [_]=>True
 | a::b::r=>b≠aU a∧PlainR (b::r)
def AllL(w:List Nat):Prop:=∀ c∈w,cN c
def act(k:List Nat)(w:List Nat):List Nat:=w.foldl push k
def lay(w:List Nat):List Nat:=(act [] w).reverse
def bF(w:List Nat):Prop:=PlainR w.reverse
def back(w:List Nat):List Nat:=(w.map aU).reverse
theorem AllL.cons{c:Nat}{w:List Nat}:AllL (c::w)↔cN c∧AllL w:=by unfold AllL;simp
theorem AllL.nil:AllL []:=by unfold AllL;simp
theorem AllL.app{u w:List Nat}:AllL (u++w)↔AllL u∧AllL w:=by
 unfold AllL;constructor
 ·intro h;exact⟨fun c hc=>h c (l4 _ hc),fun c hc=>h c (i7 _ hc)⟩
 ·rintro⟨h1,h2⟩ c hc;rcases i8.mp hc with h | h;exact h1 c h;exact h2 c h
theorem AllL.rev{w:List Nat}:AllL w.reverse↔AllL w:=by unfold AllL;simp
theorem PlainR.tail{a:Nat}{r:List Nat}(h:PlainR (a::r)):PlainR r:=by
 cases r with
 | nil=>trivial
 | cons b r=>exact h.2
theorem vL{k:List Nat}{c:Nat}(hk:PlainR k):PlainR (push k c):=by
 cases k with
 | nil=>trivial
 | cons x r =>
  unfold push
  dsimp only
  split
  ·exact hk.tail
  ·rename_i h;exact⟨h,hk⟩
theorem uF{k:List Nat}{c:Nat}(hk:AllL k)(hc:cN c):AllL (push k c):=by
 cases k with
 | nil=>exact AllL.cons.mpr ⟨hc,hk⟩
 | cons x r =>
  unfold push
  dsimp only
  split
  ·exact(AllL.cons.mp hk).2
  ·exact AllL.cons.mpr ⟨hc,hk⟩
theorem fM:∀ {w k:List Nat},PlainR k→PlainR (act k w)
 | [],_,h=>h
 | c::w,k,h=>fM (w:=w) (vL h)
theorem gK:∀ {w k:List Nat},AllL k→AllL w→AllL (act k w)
 | [],_,h,_=>h
 | c::w,k,h,hw=>gK (w:=w) (uF h (AllL.cons.mp hw).1) (AllL.cons.mp hw).2
theorem gX(k u w:List Nat):act k (u++w)=act (act k u) w:=by unfold act;rw[aXS]
theorem fQ(k u:List Nat)(c:Nat):act k (u++[c])=push (act k u) c:=by rw[gX];rfl
theorem iM(k w:List Nat)(c:Nat):act k (c::w)=act (push k c) w:=rfl
theorem pS{k:List Nat}{c:Nat}(hk:PlainR k)(ha:AllL k)(hc:cN c):push (push k c) (aU c)=k:=by
 cases k with
 | nil =>
  show (if c=aU (aU c) then [] else _)=[]
  rw[if_pos (bK hc).symm]
 | cons x r =>
  have hx:cN x:=(AllL.cons.mp ha).1
  by_cases e:x=aU c
  ·have e1:push (x::r) c=r:=by unfold push;dsimp only;rw[if_pos e]
   rw[e1]
   cases r with
   | nil=>unfold push;dsimp only;rw[e]
   | cons y r =>
    have h1:y≠aU x:=hk.1
    unfold push
    dsimp only
    rw[if_neg (by rw[← e];exact h1),e]
  ·have e1:push (x::r) c=c::x::r:=by unfold push;dsimp only;rw[if_neg e]
   rw[e1]
   unfold push
   dsimp only
   rw[if_pos (bK hc).symm]
theorem dI{w:List Nat}(h:AllL w):AllL (lay w):=AllL.rev.mpr (gK AllL.nil h)
theorem eC(w:List Nat):bF (lay w):=by unfold bF lay;rw[y6];exact fM trivial
theorem A6(k:List Nat)(c:Nat):(push k c).length≤k.length+1:=by
 cases k with
 | nil=>simp[push]
 | cons x r =>
  unfold push
  dsimp only
  split
  ·simp;omega
  ·simp
theorem mY:∀ (w k:List Nat),(act k w).length≤k.length+w.length
 | [],k=>by simp[act]
 | c::w,k=>by
  have h1:=mY w (push k c)
  have h2:=A6 k c
  rw[iM,j1]
  omega
theorem eZ(w:List Nat):(lay w).length≤w.length:=by
 unfold lay;rw[x9];have:=mY w [];simpa using this
theorem sU(u v:List Nat){a b:Nat}(hu:AllL u)(hb:cN b)(e:a=aU b):lay (u++a::b::v)=lay (u++v):=by
 unfold lay
 have ha:cN a:=by rw[e];exact cZ hb
 rw[gX,iM,iM,gX]
 have e2:b=aU a:=by rw[e,bK hb]
 rw[e2,pS (fM (k:=[]) trivial) (gK AllL.nil hu) ha]
theorem gJ:∀ (w k:List Nat),PlainR (w.reverse++k)→act k w=w.reverse++k
 | [],k,_=>rfl
 | c::w,k,h=>by
  have h0:PlainR (w.reverse++(c::k)):=by simpa using h
  have e:push k c=c::k:=by
   cases k with
   | nil=>rfl
   | cons x r =>
    have h1:x≠aU c:=by
     have:∀ (l:List Nat),PlainR (l++(c::x::r))→x≠aU c:=by
      intro l
      induction l with
      | nil=>intro h;exact h.1
      | cons y l ih =>
       intro h
       exact ih (PlainR.tail h)
     exact this _ h0
    unfold push
    dsimp only
    rw[if_neg h1]
  rw[iM,e,gJ w (c::k) h0]
  simp
theorem fO{w:List Nat}(h:bF w):lay w=w:=by
 unfold lay
 rw[gJ w [] (by rw[o6];exact h)]
 simp
theorem Di(w:List Nat):lay (lay w)=lay w:=fO (eC w)
theorem Dv:∀ (n:Nat) (w k:List Nat),w.length=n→PlainR k→AllL k→AllL w→act k (lay w)=act k w:=by
 intro n
 induction n with
 | zero =>
  intro w k hn _ _ _
  have:w=[]:=p8.mp hn
  subst this;rfl
 | succ n ih =>
  intro w k hn hk ha hw
  have hne:w≠[]:=by intro h;subst h;simp at hn
  obtain⟨u,c,rfl⟩:∃ u c,w=u++[c]:=⟨w.dropLast,w.getLast hne,(aQB hne).symm⟩
  have hu:u.length=n:=by simpa using hn
  obtain⟨hau,hac⟩:=AllL.app.mp hw
  have hc:cN c:=(AllL.cons.mp hac).1
  have ihu:=ih u k hu hk ha hau
  have hal:=gK (k:=[]) AllL.nil hau
  unfold lay at ihu ⊢
  rw[fQ,fQ,← ihu]
  cases e:act [] u with
  | nil=>simp[push,act]
  | cons x r =>
   rw[e] at hal
   have hx:cN x:=(AllL.cons.mp hal).1
   have har:AllL r:=(AllL.cons.mp hal).2
   by_cases h:x=aU c
   ·have e1:push (x::r) c=r:=by unfold push;dsimp only;rw[if_pos h]
    rw[e1,o8,fQ]
    have e2:c=aU x:=by rw[h,bK hc]
    rw[e2,pS (fM hk) (gK ha (AllL.rev.mpr har)) hx]
   ·have e1:push (x::r) c=c::x::r:=by unfold push;dsimp only;rw[if_neg h]
    rw[e1,o8,fQ]
theorem eQ(u w:List Nat)(hu:AllL u)(hw:AllL w):lay (u++lay w)=lay (u++w):=by
 unfold lay
 rw[gX,gX]
 have:=Dv w.length w (act [] u) rfl (fM trivial) (gK AllL.nil hu) hw
 unfold lay at this
 rw[this]
theorem fR(u w:List Nat)(hu:AllL u):lay (lay u++w)=lay (u++w):=by
 unfold lay
 rw[gX,gX]
 have e:=gJ (lay u) [] (by rw[o6];exact eC u)
 unfold lay at e
 rw[e]
 simp
theorem dA(u w:List Nat):back (u++w)=back w++back u:=by unfold back;simp
theorem bW(w:List Nat):(back w).length=w.length:=by unfold back;simp
theorem aO{w:List Nat}(h:AllL w):AllL (back w):=by
 unfold back AllL
 intro c hc
 simp only [aQ6,j2] at hc
 obtain⟨a,ha,rfl⟩:=hc
 exact cZ (h a ha)
theorem cP:∀ {w:List Nat},AllL w→back (back w)=w
 | [],_=>rfl
 | c::w,h=>by
  have e:back (c::w)=back w++[aU c]:=by unfold back;simp
  have ih:=cP (AllL.cons.mp h).2
  rw[e,dA,ih]
  unfold back
  simp[bK (AllL.cons.mp h).1]
theorem iC:∀ (n:Nat) (w:List Nat),w.length=n→AllL w→lay (w++back w)=[]:=by
 intro n
 induction n with
 | zero =>
  intro w hn _
  have:w=[]:=p8.mp hn
  subst this;rfl
 | succ n ih =>
  intro w hn hw
  have hne:w≠[]:=by intro h;subst h;simp at hn
  obtain⟨u,c,rfl⟩:∃ u c,w=u++[c]:=⟨w.dropLast,w.getLast hne,(aQB hne).symm⟩
  obtain⟨hau,hac⟩:=AllL.app.mp hw
  have hc:cN c:=(AllL.cons.mp hac).1
  have e:u++[c]++back (u++[c])=u++c::aU c::back u:=by rw[dA];simp[back]
  rw[e,sU u (back u) hau (cZ hc) (bK hc).symm]
  exact ih u (by simpa using hn) hau
theorem iX{w:List Nat}(h:AllL w):lay (w++back w)=[]:=iC _ w rfl h
theorem iZ{w:List Nat}(h:AllL w):lay (back w++w)=[]:=by
 have:=iX (aO h)
 rwa [cP h] at this
theorem mK:∀ (l:List Nat) (a b:Nat),PlainR (l++[a])→b≠aU a→PlainR (l++[a,b])
 | [],a,b,_,h=>⟨h,trivial⟩
 | [x],a,b,h,h2=>⟨h.1,h2,trivial⟩
 | x::y::l,a,b,h,h2=>⟨h.1,mK (y::l) a b h.2 h2⟩
theorem jP:∀ {k:List Nat},AllL k→PlainR k→PlainR (k.map aU).reverse
 | [],_,_=>trivial
 | [a],_,_=>trivial
 | a::b::r,ha,h=>by
  have ih:=jP (AllL.cons.mp ha).2 h.2
  have hA:=AllL.cons.mp ha
  have hB:=AllL.cons.mp hA.2
  rw[i6,o8] at ih ⊢
  rw[i6,o8] at *
  have e:((r.map aU).reverse++[aU b])++[aU a]=(r.map aU).reverse++[aU b,aU a]:=by simp
  rw[e]
  refine mK _ _ _ ih ?_
  rw[bK hB.1]
  intro e2
  exact h.1 e2.symm
theorem gW{w:List Nat}(hw:AllL w)(h:bF w):bF (back w):=by
 unfold bF back at *
 rw[y6]
 have:=jP (AllL.rev.mpr hw) h
 rwa [aXZ,y6] at this
theorem BF:∀ (n:Nat) (w:List Nat),w.length=n→AllL w→lay (back w)=back (lay w):=by
 intro n
 induction n with
 | zero =>
  intro w hn _
  have:w=[]:=p8.mp hn
  subst this;rfl
 | succ n ih =>
  intro w hn hw
  have hne:w≠[]:=by intro h;subst h;simp at hn
  obtain⟨u,c,rfl⟩:∃ u c,w=u++[c]:=⟨w.dropLast,w.getLast hne,(aQB hne).symm⟩
  obtain⟨hau,hac⟩:=AllL.app.mp hw
  have hc:cN c:=(AllL.cons.mp hac).1
  have ihu:=ih u (by simpa using hn) hau
  have e0:back (u++[c])=[aU c]++back u:=by rw[dA];simp[back]
  have hcc:AllL [aU c]:=AllL.cons.mpr ⟨cZ hc,AllL.nil⟩
  rw[e0,← eQ [aU c] (back u) hcc (aO hau),ihu]
  have hal:=gK (k:=[]) AllL.nil hau
  have hpl:=fM (w:=u) (k:=[]) trivial
  have el:lay u=(act [] u).reverse:=rfl
  have el2:lay (u++[c])=(push (act [] u) c).reverse:=by unfold lay;rw[fQ]
  rw[el2,el]
  cases e:act [] u with
  | nil=>rfl
  | cons x r =>
   rw[e] at hal hpl
   have hx:cN x:=(AllL.cons.mp hal).1
   have har:AllL r:=(AllL.cons.mp hal).2
   have hbr:AllL (back r.reverse):=aO (AllL.rev.mpr har)
   have eb:back (x::r).reverse=aU x::back r.reverse:=by rw[o8,dA];rfl
   rw[eb]
   have hp2:bF (back (x::r).reverse):=gW (AllL.rev.mpr hal) (by unfold bF;rw[y6];exact hpl)
   by_cases h:x=aU c
   ·have e1:push (x::r) c=r:=by unfold push;dsimp only;rw[if_pos h]
    rw[e1]
    show lay ([]++aU c::aU x::back r.reverse)=_
    rw[sU [] _ AllL.nil (cZ hx) (by rw[bK hx,h])]
    exact fO (gW (AllL.rev.mpr har) (by unfold bF;rw[y6];exact hpl.tail))
   ·have e1:push (x::r) c=c::x::r:=by unfold push;dsimp only;rw[if_neg h]
    rw[e1]
    have e3:back (c::x::r).reverse=[aU c]++aU x::back r.reverse:=by rw[o8,dA,eb];rfl
    rw[e3]
    refine fO ?_
    rw[← e3]
    refine gW (AllL.rev.mpr (AllL.cons.mpr ⟨hc,hal⟩)) ?_
    unfold bF
    rw[y6]
    exact⟨h,hpl⟩
theorem iV{w:List Nat}(h:AllL w):lay (back w)=back (lay w):=BF _ w rfl h
end Ma
namespace Lw
open PySem PySem.Spec PyProof.Rows L2 Ma
theorem bG(w:List Nat):(S w).length=w.length:=by simp[Str.length]
theorem fP(u w:List Nat):(S u++S w:Str)=S (u++w):=by
 show Str.append (S u) (S w)=S (u++w)
 unfold Str.append;simp
theorem Bb{u w:List Nat}(h:S u=S w):u=w:=by
 have h':u.toArray=w.toArray:=congrArg Str.cps h
 simpa using congrArg Array.toList h'
theorem eO(u w:List Nat):decide (V.str (S u)=V.str (S w))=decide (u=w):=by
 by_cases h:u=w
 ·subst h;simp
 ·rw[decide_eq_false h,decide_eq_false fun e=>h (Bb (V.str.inj e))]
theorem kS:(Str.ofString "":Str)=S []:=by decide +kernel
theorem IH(w:List Nat):(S w).cps.toList=w:=by simp
theorem aK{n:Nat}(h:n≤100000):n≤sizeLine:=k8 h (by decide)
theorem rS{n:Nat}(h:n≤99999):n<sizeLine:=l6 (show n<100000 by omega) (aK (b9 _))
theorem pE(w:List Nat){j:Int}(h0:0≤j)(h2:j≤w.length):Txt.slice (S w) none (some j)=S (w.take j.toNat):=by
 have:=slice_closes_toL (x:=S w) h0 (by rw[bG];exact h2)
 rw[beq_iff_eq.mp this]
 simp
theorem Bi:∀ (zs:List (List Nat)),Txt.join (S []) (zs.map S)=S zs.flatten
 | []=>by unfold Txt.join;rw[aQp];rfl
 | [z]=>by unfold Txt.join;rw[aQp];simp[Str.join]
 | z::y::r=>by
  have ih:=Bi (y::r)
  unfold Txt.join at ih ⊢
  rw[aQp] at ih ⊢
  rw[i6,i6]
  show (S z++S [])++Str.join (S []) (S y::r.map S)=_
  rw[i6] at ih
  rw[ih,fP,fP]
  simp
theorem DM(zs:List (List Nat)):((zs.map S).map (·.length)).sum=zs.flatten.length:=by
 induction zs with
 | nil=>rfl
 | cons z zs ih=>simp only [i6,aXP,aQV,b8,ih,bG]
def bO(c:Nat):Bool:=decide (96<c)
theorem aW{c:Nat}(h:cN c):c=97∨c=98∨c=99∨c=100∨c=65∨c=66∨c=67∨c=68:=by unfold cN at h;omega
theorem Af{c:Nat}(h:cN c):Txt.islower (S [c])=bO c:=by
 rcases aW h with rfl | rfl | rfl | rfl | rfl | rfl | rfl | rfl <;> decide +kernel
theorem AB{c:Nat}(h:cN c):Txt.isupper (S [c])=!bO c:=by
 rcases aW h with rfl | rfl | rfl | rfl | rfl | rfl | rfl | rfl <;> decide +kernel
theorem xZ{c:Nat}(h:cN c)(hl:bO c=true):Txt.upper (S [c])=S [aU c]:=by
 rcases aW h with rfl | rfl | rfl | rfl | rfl | rfl | rfl | rfl <;> first | (decide +kernel) | (exact absurd hl (by decide))
theorem xM{c:Nat}(h:cN c)(hl:bO c=false):Txt.lower (S [c])=S [aU c]:=by
 rcases aW h with rfl | rfl | rfl | rfl | rfl | rfl | rfl | rfl <;> first | (decide +kernel) | (exact absurd hl (by decide))
theorem Bv(c:Nat):Builtin.Str.tooLong (S [c]).length=false:=by rw[bG];show Builtin.Str.tooLong 1=false;decide +kernel
def conTab_rows:List (Str×PyData):=[("a",.str "A"),("A",.str "a"),("b",.str "B"),("B",.str "b"),("c",.str "C"),("C",.str "c"),("d",.str "D"),("D",.str "d")]
def Cd:List (PyData×PyData):=conTab_rows.map fun p=>(PyData.str p.1,p.2)
theorem uI{c:Nat}(h:cN c):lookup (.str (S [c])) Cd=some (.str (S [aU c])):=by
 rcases aW h with rfl | rfl | rfl | rfl | rfl | rfl | rfl | rfl <;> kernel_rfl
def Kp(fl:Addr)(H H':Hp):Prop:=∀ b o,H b=some o→b≠fl→H' b=some o
theorem Kp.refl(fl:Addr)(H:Hp):Kp fl H H:=fun _ _ h _=>h
theorem Kp.trans{fl:Addr}{H H1 H2:Hp}(a:Kp fl H H1)(b:Kp fl H1 H2):Kp fl H H2:=fun c o h n=>b c o (a c o h n) n
theorem _root_.L2.Same.kp{fl:Addr}{H H':Hp}(h:Same H H'):Kp fl H H':=fun b o e _=>h b o e
theorem _root_.L2.Same.new{H:Hp}{l:Addr}{o:HO}(h:H l=none):Same H (upd H l o):=fun b u e=>by rw[aE (aI e h)];exact e
theorem _root_.L2.Same.upd{H H':Hp}{l:Addr}{o:HO}(s:Same H H')(h:H l=none):Same H (upd H' l o):=fun b u e=>by rw[aE (aI e h)];exact s b u e
theorem _root_.L2.Same.upd'{H H':Hp}{l:Addr}{o:HO}(s:Same H H')(h:H' l=none):Same H (upd H' l o):=s.trans (Same.new h)
theorem Kp.upd{fl:Addr}{H H':Hp}{l:Addr}{o:HO}(s:Kp fl H H')(h:H l=none):Kp fl H (upd H' l o):=fun b u e n=>by rw[aE (aI e h)];exact s b u e n
theorem Kp.self{fl:Addr}{H H':Hp}{o:HO}(s:Kp fl H H'):Kp fl H (L2.upd H' fl o):=fun b u e n=>by rw[aE n];exact s b u e n
theorem Kp.free{fl:Addr}{H H':Hp}(k:Kp fl H H'){l:Addr}(h:H' l=none)(n:l≠fl):H l=none:=by
 cases q:H l with
 | none=>rfl
 | some o=>rw[k l o q n] at h;cases h
def IsFl(H:Hp)(fl sc:Addr):Prop:=∃ (ns:List Int) (i a b c:Int),H fl=some (.lst [.ref sc,.int i,.int a,.int b,.int c])∧H sc=some (.lst (ns.map V.int))∧ns.length≤63∧0≤i∧0≤a∧0≤b
theorem IsFl.same{H H':Hp}{fl sc:Addr}(s:Same H H')(h:IsFl H fl sc):IsFl H' fl sc:=by
 obtain⟨ns,i,a,b,c,h1,h2,r⟩:=h
 exact⟨ns,i,a,b,c,s _ _ h1,s _ _ h2,r⟩
theorem IsFl.some{H:Hp}{fl sc:Addr}(h:IsFl H fl sc):(∃ o,H fl=some o)∧∃ o,H sc=some o:=by
 obtain⟨ns,i,a,b,c,h1,h2,r⟩:=h
 exact⟨⟨_,h1⟩,⟨_,h2⟩⟩
theorem IsFl.ne{H:Hp}{fl sc l:Addr}(h:IsFl H fl sc)(n:H l=none):l≠fl:=by
 obtain⟨⟨o,e⟩,_⟩:=h.some
 exact(aI e n).symm
theorem IsFl.ne2{H:Hp}{fl sc l:Addr}(h:IsFl H fl sc)(n:H l=none):l≠sc:=by
 obtain⟨_,⟨o,e⟩⟩:=h.some
 exact(aI e n).symm
theorem IsFl.upd{H:Hp}{fl sc l:Addr}{o:HO}(h:IsFl H fl sc)(n:H l=none):IsFl (L2.upd H l o) fl sc:=h.same (Same.new n)
theorem IsFl.set{H:Hp}{fl sc l:Addr}{o:HO}(h:IsFl H fl sc)(n:l≠fl)(n2:l≠sc):IsFl (L2.upd H l o) fl sc:=by
 obtain⟨ns,i,a,b,c,h1,h2,r⟩:=h
 exact⟨ns,i,a,b,c,by rw[aE n.symm];exact h1,by rw[aE n2.symm];exact h2,r⟩
structure Df(K:b5)(mg:Str→Option Value)(x:Str)(st:Stmt)(ps:List Str)(f:Addr)(fd:FuncData):Prop where
 F:Fun K x x st f fd
 b:Binds K fd ps []
 m:mg x=some (.ref f)
def Cl(P:Program)(w:World)(K:b5)(mg:Str→Option Value)(base:Heap)(x:Str)(ps:List Str)(n:Nat)(sp:Sp):Prop :=
 ∃ f fd,FnOk P w K mg base yB n f fd ps sp∧mg x=some (.ref f)∧PySem.W.keepIn K (.ref f)=true∧Binds K fd ps []
theorem Df.cl{P:Program}{w:World}{K:b5}{mg:Str→Option Value}{base:Heap}{x:Str}{st:Stmt}{ps:List Str}{f:Addr}{fd:FuncData}{n:Nat}{sp:Sp}(D:Df K mg x st ps f fd)(h:FnOk P w K mg base yB n f fd ps sp):Cl P w K mg base x ps n sp :=
 ⟨f,fd,h,D.m,D.F.kp,D.b⟩
def lets:List Nat:=[97,65,98,66,99,67,100,68]
def aJ(n:Int):List Nat:=lets.take (2 * n).toNat
def OfN(n:Int)(w:List Nat):Prop:=∀ c∈w,c∈aJ n
theorem aV{n:Int}{c:Nat}(h:c∈aJ n):cN c:=by
 have h2:c∈lets:=p9 h
 unfold lets at h2
 simp only [c6,n9,or_false] at h2
 unfold cN
 omega
theorem OfN.all{n:Int}{w:List Nat}(h:OfN n w):AllL w:=fun c hc=>aV (h c hc)
theorem jF{n:Int}(h1:1≤n)(h4:n≤4):(aJ n).length=(2 * n).toNat:=by
 unfold aJ lets
 rw[i9]
 simp
 omega
def bJ(w:List Nat):List V:=w.map fun c=>V.str (S [c])
theorem mU(w:List Nat):bJ w=(w.map fun c=>S [c]).map V.str:=by unfold bJ;rw[y0];rfl
theorem lY:∀ (w:List Nat),(w.map fun c=>[c]).flatten=w
 | []=>rfl
 | c::w=>by rw[i6,aQV,lY w];rfl
theorem B9(w:List Nat):(w.map fun c=>[c]).map S=w.map fun c=>S [c]:=by rw[y0];rfl
theorem jG(w:List Nat):Txt.join (Str.ofString "") (w.map fun c=>S [c])=S w:=by
 have h:=Bi (w.map fun c=>[c])
 rw[B9,lY] at h
 rw[kS]
 exact h
theorem gZ(w:List Nat)(hw:w.length≤100000):((w.map fun c=>S [c]).map (·.length)).sum+(w.map fun c=>S [c]).length * (Str.ofString "").length≤16777216:=by
 have h:=DM (w.map fun c=>[c])
 rw[B9,lY] at h
 have e2:(Str.ofString "").length=0:=by decide +kernel
 rw[e2,Nat.mul_zero,Nat.add_zero,h]
 omega
theorem cO(w:List Nat)(c:Nat):bJ (w++[c])=bJ w++[V.str (S [c])]:=by unfold bJ;simp
theorem bI(w:List Nat):(bJ w).length=w.length:=by unfold bJ;simp
theorem uT{w:List Nat}{i:Nat}{c:Nat}(h:w[i]?=some c):(bJ w)[i]?=some (.str (S [c])):=by unfold bJ;rw[c7,h];rfl
theorem rV{α:Type}{xs:List α}{i:Int}{v:α}(h0:0≤i)(h:xs[i.toNat]?=some v):sX xs i=some v:=by
 have:=bD h
 rwa [aXv h0] at this
theorem bM{w:List Nat}{i c:Nat}(h:w[i]?=some c):w.take (i+1)=w.take i++[c]:=by rw[t8,h];rfl
def Bx(K:b5):Sp:=fun vs H Q _=>∃ (a:Addr) (ns:List Int),vs=[.ref a]∧SqL K H a (ns.map V.int)∧ns.length≤63∧∀ (fl sc:Addr) (H':Hp),H fl=none→Same H H'→IsFl H' fl sc→Q (.ref fl) H'
def iH:Sp:=fun vs H Q _=>∃ (fl sc:Addr) (m:Int),vs=[.ref fl,.int m]∧IsFl H fl sc∧0<m∧m<1073741824∧∀ (d:Int) (H':Hp),0≤d→d<m→IsFl H' fl sc→Kp fl H H'→Q (.int d) H'
def iD:Sp:=fun vs H Q _=>∃ c:Nat,vs=[.str (S [c])]∧cN c∧∀ H',Same H H'→Q (.str (S [aU c])) H'
def mH:Sp:=fun vs H Q _=>∃ w:List Nat,vs=[.str (S w)]∧AllL w∧w.length≤60000∧∀ H',Same H H'→Q (.str (S (lay w))) H'
def lF:Sp:=fun vs H Q _=>∃ w:List Nat,vs=[.str (S w)]∧AllL w∧w.length≤1000∧∀ H',Same H H'→Q (.str (S (back w))) H'
def mC:Sp:=fun vs H Q _=>∃ n:Int,vs=[.int n]∧1≤n∧n≤4∧∀ (l:Addr) (H':Hp),H l=none→Same H H'→H' l=some (.lst (bJ (aJ n)))→Q (.ref l) H'
def xB:Sp:=fun vs H Q _=>∃ (fl sc:Addr) (n most:Int),vs=[.ref fl,.int n,.int most]∧IsFl H fl sc∧1≤n∧n≤4∧0≤most∧most≤900 ∧
 ∀ (w:List Nat) (H':Hp),OfN n w→bF w→(w.length:Int)≤most→IsFl H' fl sc→Kp fl H H'→Q (.str (S w)) H'
def yS(K:b5):Sp:=fun vs H Q _=>∃ (a:Addr) (ns:List Int),vs=[.ref a]∧SqL K H a (ns.map V.int)∧ns.length≤63∧∀ H',Q (.bl true) H'
end Lw
namespace L2
open PySem PySem.Spec PyProof.Rows
def Ih(t u:TS):TS:=fun D σ H=>∃ M:St→Hp→Prop,t { D with nx:=M } σ H∧∀ σ' H',M σ' H'→u D σ' H'
theorem gB{X:Cx}{st:Stmt}{rest:List Stmt}{t u:TS}(h1:PS X st t)(h2:PSs X rest u):PSs X (st::rest) (Ih t u):=by
 intro pins s σ H D I ⟨M,q1,q2⟩
 refine wpAny_execs_cons (bV (h1 pins s σ H { D with nx:=M } I q1) fun f s1 q=>?_)
 cases f with
 | next =>
  obtain⟨σ',H',I',q⟩:=q
  exact h2 pins s1 σ' H' D I' (q2 σ' H' q)
 | ret v=>exact q
 | brk=>exact q
 | cont=>exact q
end L2
namespace Lw
open PySem PySem.Spec PyProof.Rows L2 Ma
def mX(x:List Nat)(c:Nat):Bool:=match x.getLast? with
 | none=>true
 | some z=>!decide ([c]=[aU z])
theorem DN{n:Int}{x:List Nat}(h1:1≤n)(h4:n≤4):0<((aJ n).filter (mX x)).length:=by
 have m1:97∈aJ n∧65∈aJ n:=by
  have:n=1∨n=2∨n=3∨n=4:=by omega
  rcases this with rfl | rfl | rfl | rfl <;> decide
 have:mX x 97=true∨mX x 65=true:=by
  unfold mX
  cases x.getLast? with
  | none=>exact .inl rfl
  | some z =>
   by_cases e:aU z=97
   ·right;dsimp only;rw[e];rfl
   ·left;dsimp only;simp;omega
 rcases this with h | h
 ·exact aQh (x8.mpr ⟨m1.1,h⟩)
 ·exact aQh (x8.mpr ⟨m1.2,h⟩)
theorem AJ{x:List Nat}{c:Nat}(hx:AllL x)(hc:cN c)(hp:bF x)(h:mX x c=true):bF (x++[c]):=by
 unfold bF at *
 rw[List.reverse_append]
 show PlainR (c::x.reverse)
 cases hq:x.reverse with
 | nil=>trivial
 | cons z r =>
  rw[hq] at hp
  refine⟨?_,hp⟩
  intro e
  have hz:x.getLast?=some z:=by
   rw[List.getLast?_eq_head?_reverse,hq];rfl
  unfold mX at h
  rw[hz] at h
  have h':¬ c=aU z:=by simpa using h
  exact h' (by rw[e,bK hc])
end Lw
namespace L2
open PySem PySem.Spec PyProof.Rows
section
variable {X:Cx}{K:b5}
theorem aN(h:X.K=K):Fb X (Gz K):=by subst h;exact CP
theorem bL(h:X.K=K):Fb X (GX K):=by subst h;exact EY
theorem bB(h:X.K=K):fC X (.builtin "len") (fun xs H Q=>∃ p ys,xs=[.ref p]∧(SqL K H p ys∨SqT K H p ys)∧Q (.int ys.length) H):=by subst h;exact rG
theorem iA(h:X.K=K):fC X (.type "list") (fun xs H Q=>∃ p ys,xs=[.ref p]∧(SqL K H p ys∨SqT K H p ys)∧∀ l,H l=none→Q (.ref l) (upd H l (.lst ys))):=by subst h;exact sE
theorem eB(h:X.K=K):fC X (.type "tuple") (fun xs H Q=>∃ p ys,xs=[.ref p]∧((SqL K H p ys∧∀ l,H l=none→Q (.ref l) (upd H l (.tup ys)))∨(SqT K H p ys∧Q (.ref p) H))):=by subst h;exact pG
theorem lO(h:X.K=K)(hc:X.calm=true):fC X (.builtin "all") (fun xs H Q=>∃ (a:Addr) (bs:List Bool),xs=[.ref a]∧SqL K H a (bs.map V.bl)∧Q (.bl (bs.all id)) H):=by subst h;exact AN hc
theorem kD(h:X.K=K):AQ X "str.join" (fun x xs H Q=>∃ z a zs,x=.str z∧xs=[.ref a]∧SqL K H a (zs.map V.str)∧(zs.map (·.length)).sum+zs.length * z.length≤16777216∧Q (.str (Txt.join z zs)) H):=by subst h;exact DP
theorem Dz(h:X.K=K)(hu:X.A.units<cLine):jZ X (compareOp .NotEq) (Hk K true):=by subst h;exact FC hu
theorem Bd(h:X.K=K):jZ X (compareOp .In) (Ja K false):=by subst h;exact zO
theorem Ci(h:X.K=K):jZ X (binaryOp .Add) (DX K):=by subst h;exact C9
theorem cK{tg l:Expr}{tl:TE}(h:X.K=K)(hl:PE X l tl):PI X tg l (Bp K tl):=by subst h;exact Dg hl
theorem jH{tg l:Expr}{tl:TE}(h:X.K=K)(hl:PE X l tl):PI X tg l (Er K tl):=by subst h;exact Eo hl
variable {o e:Expr}{es:List Expr}{to:TE}{t:TA}{name:Str}{apos cpos:Pos}{T id:String}{r:V→List V→Hp→VK→Prop}
theorem fX(h:X.K=K)(pa:PlainAttrs T)(slot:Slot T name id)(hty:typeOf (.builtin id)=pure (.type "method_descriptor"))(hm:AQ X id r)(ho:PE X o to)
  (hbase:attributeBase o name X.env (eval o X.env)=eval o X.env:=by rfl) (hline:(apos.endLine == cpos.line)=true:=by rfl):PE X (.Call (.Attribute o name apos) [] [] cpos) (Ht K T r to):=by subst h;exact E9 pa slot hty hm ho hbase hline
theorem cX(h:X.K=K)(pa:PlainAttrs T)(slot:Slot T name id)(hty:typeOf (.builtin id)=pure (.type "method_descriptor"))(hm:AQ X id r)(ho:PE X o to)(ha:PA X (e::es) t)
  (hbase:attributeBase o name X.env (eval o X.env)=eval o X.env:=by rfl)
  (hfew:((backTo cpos (starEach (e::es) X.env)).all (fun x=>!x.1) && (backToKw cpos (keywordEach [] X.env)).all (fun x=>x.1.isSome)
   && decide ((e::es).length+([]:List Keyword).length+(if ([]:List Keyword).isEmpty then 0 else 1)<30))=true:=by rfl)
  (hline:(apos.endLine == cpos.line)=true:=by rfl) (hs:starEach (e::es) X.env=(false,eval e X.env)::starEach es X.env:=by rfl) (hplain:(backTo cpos (starEach es X.env)).any (·.1)=false:=by rfl) :
  PE X (.Call (.Attribute o name apos) (e::es) [] cpos) (IT K T r to t):=by subst h;exact Hu pa slot hty hm ho ha hbase hfew hline hs hplain
end
section
variable {X:Cx}{scope:Scope}{x:Str}{px pos:Pos}{ix:List Nat}{elt iter:Expr}{ifs:List Expr}{wi:TI}{ti:TT}{te:TE}
theorem cL{sc0:Scope}{N:List Str}(h:nB sc0 scope N x ix=true)(e1:X.env.scope=sc0)(e2:X.N=N)(hc:X.calm=true)(hi:PI X (.Name x px) iter wi)(hif:∀ fp s H,vY (cE X scope x ix fp s H) ifs ti)(he:∀ fp s H,PE (cE X scope x ix fp s H) elt te)
  (hs:∀ z,foldedSetIterable iter X.env z=pure z:=by intro _;rfl):PE X (.ListComp elt [⟨.Name x px,iter,ifs,0⟩] scope pos) (zG wi ix ti te) :=
 DB (jI h e1 e2).1 (jI h e1 e2).2 hc hi hif he hs
theorem iR{i:Nat}{y:Str}{py spos:Pos}{sc0:Scope}{N:List Str}(hN:X.N.Nodup)(hy:X.N[i]?=some y)(hyl:X.env.scope.names.lookup y=some .local)(h:nB sc0 scope N x ix=true)(e1:X.env.scope=sc0)(e2:X.N=N)(hc:X.calm=true)(hi:PI X (.Name x px) iter wi)
  (hif:∀ fp s H,vY (cE X scope x ix fp s H) ifs ti) (he:∀ fp s H,PE (cE X scope x ix fp s H) elt te)
  (hsw:swapsWith (.ListComp elt [⟨.Name x px,iter,ifs,0⟩] scope pos) (some (.Name y py)) spos.line X.env=pure true:=by rfl)
  (hs:∀ z,foldedSetIterable iter X.env z=pure z:=by intro _;rfl):PS X (.Assign [.Name y py] (.ListComp elt [⟨.Name x px,iter,ifs,0⟩] scope pos) spos) (D1 i wi ix ti te) :=
 Do hN hy hyl (jI h e1 e2).1 (jI h e1 e2).2 hc hi hif he hsw hs
end
end L2
namespace Lw
open PySem PySem.Spec PyProof.Rows L2 Ma
def HF(x:List Nat)(k:Nat):Prop:=∃ a b,x[k]?=some a∧x[k+1]?=some b∧a=aU b
theorem pV{x:List Nat}{k:Nat}(h:HF x k):∃ a b,x=x.take k++a::b::x.drop (k+2)∧a=aU b∧k+1<x.length:=by
 obtain⟨a,b,h1,h2,e⟩:=h
 obtain⟨l1,e1⟩:=a8.mp h1
 obtain⟨l2,e2⟩:=a8.mp h2
 refine⟨a,b,?_,e,l2⟩
 have q1:x.drop k=x[k]::x.drop (k+1):=u7 l1
 have q2:x.drop (k+1)=x[k+1]::x.drop (k+1+1):=u7 l2
 rw[e1] at q1
 rw[e2] at q2
 have q3:=aQ0 k x
 rw[q1,q2] at q3
 exact q3.symm
theorem CW{x:List Nat}{k:Nat}(hx:AllL x)(h:HF x k):lay (x.take k++x.drop (k+2))=lay x:=by
 obtain⟨a,b,e,hab,_⟩:=pV h
 have hx':AllL (x.take k++a::b::x.drop (k+2)):=by rw[← e];exact hx
 obtain⟨h1,h2⟩:=AllL.app.mp hx'
 have hb:cN b:=(AllL.cons.mp (AllL.cons.mp h2).2).1
 have:=sU (x.take k) (x.drop (k+2)) h1 hb hab
 rw[← this,← e]
theorem qJ:∀ (k:List Nat),(∀ i a b,k[i]?=some a→k[i+1]?=some b→b≠aU a)→PlainR k
 | [],_=>trivial
 | [_],_=>trivial
 | a::b::r,h=>⟨h 0 a b rfl rfl,qJ (b::r) fun i x y h1 h2=>h (i+1) x y (by simpa using h1) (by simpa using h2)⟩
theorem nS{x:List Nat}(h:∀ k,¬ HF x k):bF x:=by
 unfold bF
 refine qJ _ fun i a b h1 h2 e=>?_
 have l2:i+1<x.length:=by
  have:=(a8.mp h2).1
  simpa using this
 rw[aXh (by omega)] at h1 h2
 refine h (x.length - 1 - (i+1)) ⟨b,a,h2,?_,e⟩
 rw[show x.length - 1 - (i+1)+1=x.length - 1 - i by omega]
 exact h1
theorem dF{n:Int}{c:Nat}(h1:1≤n)(h4:n≤4)(h:c∈aJ n):aU c∈aJ n:=by
 have:n=1∨n=2∨n=3∨n=4:=by omega
 have hL:=aW (aV h)
 rcases this with rfl | rfl | rfl | rfl <;> rcases hL with rfl | rfl | rfl | rfl | rfl | rfl | rfl | rfl <;> revert h <;> decide
theorem Br{k:List Nat}{c d:Nat}(h:d∈push k c):d∈k∨d=c:=by
 cases k with
 | nil=>right;simpa [push] using h
 | cons x r =>
  unfold push at h
  dsimp only at h
  split at h
  ·left;exact d4 _ h
  ·rcases c6.mp h with q | q
   ·exact .inr q
   ·exact .inl q
theorem xT:∀ {w k:List Nat} {d:Nat},d∈act k w→d∈k∨d∈w
 | [],_,_,h=>.inl h
 | c::w,k,d,h=>by
  rcases xT (w:=w) (k:=push k c) h with q | q
  ·rcases Br q with q | q
   ·exact .inl q
   ·exact .inr (by rw[q];exact d9)
  ·exact .inr (d4 _ q)
theorem C_{w:List Nat}{c:Nat}(h:c∈lay w):c∈w:=by
 rcases xT (w:=w) (k:=[]) (aQ6.mp h) with q | q
 ·exact nomatch q
 ·exact q
theorem OfN.back{n:Int}{w:List Nat}(h:OfN n w)(h1:1≤n)(h4:n≤4):OfN n (Ma.back w):=fun c hc=>by
 unfold Ma.back at hc
 simp only [aQ6,j2] at hc
 obtain⟨a,ha,rfl⟩:=hc
 exact dF h1 h4 (h a ha)
theorem OfN.lay{n:Int}{w:List Nat}(h:OfN n w):OfN n (Ma.lay w):=fun c hc=>h c (C_ hc)
theorem OfN.app{n:Int}{u w:List Nat}(h:OfN n u)(h2:OfN n w):OfN n (u++w):=fun c hc=>(i8.mp hc).elim (h c) (h2 c)
theorem OfN.nil{n:Int}:OfN n []:=fun c hc=>nomatch hc
end Lw
namespace LtL
open PySem PyProof.Rows HT
open PySem.SeqAt
open PySem.AutoSeq1 (wpAny_loadPart')
open PySem.MeetsSeq PySem.MeetsSeq2 PySem.MeetsSeq3
theorem sM:∀ {us:List Value} {ns:List Int},IntsAre us ns→∀ i,i<us.length→∃ a t,us[i]?=some (.int a t)∧ns[i]?=some a
 | _,_,.nil,i,h=>by simp at h
 | _,_,.cons a t r,0,_=>⟨a,t,rfl,rfl⟩
 | _,_,.cons a t r,i+1,h=>by
  obtain⟨c,u,h1,h2⟩:=sM r i (by simpa using h)
  exact⟨c,u,by simpa using h1,by simpa using h2⟩
theorem yL{ns:List Int}{i:Nat}{a:Int}(h:ns[i]?=some a):ns.drop i=a::ns.drop (i+1):=by
 obtain⟨hl,e⟩:=a8.mp h
 rw[u7 hl,e]
theorem Da(l b:Addr)(us vs:List Value)(n n2:Nat)(ns ms:List Int)(hi:IntsAre us ns)(hj:IntsAre vs ms)(k:Nat) :
  ∀ i:Nat,us.length - i=k→us.length=vs.length→Meets (Builtin.«list.__eq__.loop» ⟨[.ref l,.ref b,rawInt i,rawInt 0],[]⟩)
   (fun A R s=>s.heap.get? l=some { cls:=.type "list",data:=.seq us.toArray n }∧s.heap.get? b=some { cls:=.type "list",data:=.seq vs.toArray n2 }∧R (.ok (.ret (.bool (lexLt (ns.drop i) (ms.drop i))))) s):=by
 have ln:us.length=ns.length:=hi.length
 have lm:vs.length=ms.length:=hj.length
 induction k with
 | zero =>
  intro i hk hlen prog w A R s h
  obtain⟨hp,g,d,tk,os⟩:=s;obtain⟨hl,hb,h⟩:=h
  wp_walk using wpAny_loadPart' hl,wpAny_loadPart' hb
  have n1:us.toArray[((i:Nat):Int).toNat]?=none:=by simp;omega
  have n2':vs.toArray[((i:Nat):Int).toNat]?=none:=by simp;omega
  rw[n1,n2']
  wp_walk using wpAny_loadPart' hl,wpAny_loadPart' hb
  have d1:ns.drop i=[]:=by simp;omega
  have d2:ms.drop i=[]:=by simp;omega
  rw[d1,d2] at h
  have e:(decide (us.toArray.size<vs.toArray.size))=HT.lexLt [] []:=by rw[c0,c0,hlen];simp[HT.lexLt]
  show R (.ok (.ret (.bool (decide (us.toArray.size<vs.toArray.size))))) _
  rw[e]
  exact h
 | succ k ih =>
  intro i hk hlen prog w A R s h
  obtain⟨hp,g,d,tk,os⟩:=s;obtain⟨hl,hb,h⟩:=h
  obtain⟨a,t,ha,ha'⟩:=sM hi i (by omega)
  obtain⟨c,u,hc,hc'⟩:=sM hj i (by omega)
  have n1:us.toArray[((i:Nat):Int).toNat]?=some (.int a t):=by simpa using ha
  have n2':vs.toArray[((i:Nat):Int).toNat]?=some (.int c u):=by simpa using hc
  rw[yL ha',yL hc',lexLt_cons] at h
  wp_walk using wpAny_loadPart' hl,wpAny_loadPart' hb
  rw[n1,n2']
  have he:=aXK (A:=A.in1) (s:=⟨hp,g,d,tk,os⟩) a t c u
  refine wpAny_bind (he prog w _ _ ?_)
  cases q:(a == c) with
  | true =>
   have q':a=c:=by simpa using q
   rw[if_pos q'] at h
   wp_walk
   refine⟨plainId_quiet plain_eq_loop _,codeAny_builtin entry_eq_loop ?_⟩
   rw[aXm plain_eq_loop _]
   exact ih (i+1) (by omega) hlen prog w A R _ ⟨hl,hb,h⟩
  | false =>
   have q':¬ a=c:=by simpa using q
   rw[if_neg q'] at h
   have hri:=A_ A.in1 ⟨hp,g,d,tk,os⟩ a t c u prog w
   wp_walk using wpAny_loadPart' hl,wpAny_loadPart' hb
   rw[n1,n2']
   wp_walk using hri
   exact h
theorem list_lt(l b:Addr)(us vs:List Value)(n n2:Nat)(ns ms:List Int)(hi:IntsAre us ns)(hj:IntsAre vs ms)(hlen:us.length=vs.length) :
  Meets (Builtin.«list.__lt__» ⟨[.ref l,.ref b],[]⟩)
   (fun A R s=>s.heap.get? l=some { cls:=.type "list",data:=.seq us.toArray n }∧s.heap.get? b=some { cls:=.type "list",data:=.seq vs.toArray n2 }∧R (.ok (.ret (.bool (lexLt ns ms)))) s):=by
 intro prog w A R s h
 obtain⟨hp,g,d,tk,os⟩:=s;obtain⟨hl,hb,h⟩:=h
 have f3:=AutoSeq1.sub_list_list
 wp_walk using wpAny_loadPart' hl,wpAny_loadPart' hb
 refine⟨plainId_quiet plain_eq_loop _,codeAny_builtin entry_eq_loop ?_⟩
 rw[aXm plain_eq_loop _]
 exact Da l b us vs n n2 ns ms hi hj _ 0 rfl hlen prog w A R _ ⟨hl,hb,h⟩
end LtL
namespace L2
open PySem PySem.Spec PyProof.Rows
theorem oE:∀ ns:List Int,HT.lexLt ns ns=false
 | []=>rfl
 | n::ns=>by rw[HT.lexLt_cons,if_pos rfl];exact oE ns
theorem oI:∀ (a b:List Int),fV (a.map V.int) (b.map V.int)=decide (a=b)
 | [],[]=>by simp[fV]
 | [],_::_=>by simp[fV]
 | _::_,[]=>by simp[fV]
 | x::xs,y::ys=>by
  have e:nX (V.int x) (V.int y)=decide (x=y):=by
   unfold nX;by_cases h:x=y <;> simp[h]
  rw[i6,i6]
  unfold fV
  rw[oI xs ys,e]
  by_cases h:x=y <;> by_cases h2:xs=ys <;> simp[h,h2]
section
variable {X:Cx}
theorem vF(hc:X.calm=true):AQ X "str.index" (fun x xs H Q=>∃ z y,x=.str z∧xs=[.str y]∧(Builtin.Str.occurrences z y 0 z.length 1).isEmpty=false∧Q (.int (Txt.find z y)) H):=by
 intro pins s σ H x xs v us Q I rx rs h
 obtain⟨z,y,rfl,rfl,ho,q⟩:=h
 obtain⟨t,rfl⟩:=rx
 obtain⟨u,rfl,ru⟩:=rs.one
 obtain⟨t',rfl⟩:=ru
 exact index_or (I.ok.hd hc) (fun _ e=>by rw[e] at ho;cases ho) fun _ _=>⟨.int _,H,I.tok _,⟨_,rfl⟩,q⟩
theorem oK:jZ X (binaryOp .Mult) (fun x y H Q=>∃ z n,x=.str z∧y=.int n∧MulOk z n∧Q (.str (Txt.mul z n)) H):=by
 intro pins s σ H x y v u Q I rx ry h
 obtain⟨z,n,rfl,rfl,hok,q⟩:=h
 obtain⟨t,rfl⟩:=rx
 obtain⟨t',rfl⟩:=ry
 exact SB.mul hok fun t' k=>⟨.str _,H,I.tok _,⟨t',rfl⟩,q⟩
end
end L2
namespace MaR
end MaR
namespace Lw
open PySem PySem.Spec PyProof.Rows L2 Ma MaR
def rk(c:Nat):Nat:=if 96<c then 2 * (c - 97) else 2 * (c - 65)+1
theorem EO{a b:Nat}(ha:cN a)(hb:cN b)(h:rk a=rk b):a=b:=by unfold rk at h;unfold cN at *;split at h <;> split at h <;> omega
def rks(x:List Nat):List Int:=x.map fun c=>((rk c:Nat):Int)
theorem nC(x:List Nat):(rks x).length=x.length:=by unfold rks;rw[b7]
theorem D4{c:Nat}(h:cN c):(Builtin.Str.occurrences (Str.ofString "aAbBcCdD") (S [c]) 0 (Str.ofString "aAbBcCdD").length 1).isEmpty=false∧Txt.find (Str.ofString "aAbBcCdD") (S [c])=((rk c:Nat):Int):=by
 rcases aW h with rfl | rfl | rfl | rfl | rfl | rfl | rfl | rfl <;> exact⟨by decide +kernel,by decide +kernel⟩
def Ch:Sp:=fun vs H Q _=>∃ x:List Nat,vs=[.str (S x)]∧AllL x∧x.length≤900∧∀ (p a:Addr) (H':Hp),H p=none→H a=none→Same H H'→H' p=some (.tup [.int (x.length:Nat),.ref a])→H' a=some (.lst ((rks x).map V.int))→Q (.ref p) H'
theorem EK(w:List Nat)(n:Nat)(h1:1≤n)(h2:n≤10)(hw:w.length≤100):MulOk (S w) (n:Int):=by
 refine⟨?_,fun _ _=>?_,fun _ _=>?_⟩
 ·have e1:decide ((n:Int) < -(2 ^ 63:Int))=false:=decide_eq_false (by omega)
  have e2:decide ((n:Int) ≥ 2 ^ 63)=false:=decide_eq_false (by omega)
  rw[e1,e2];rfl
 ·rw[bG]
  have:(n=1∨n=2∨n=3∨n=4∨n=5∨n=6∨n=7∨n=8∨n=9∨n=10):=by omega
  rcases this with rfl | rfl | rfl | rfl | rfl | rfl | rfl | rfl | rfl | rfl <;> omega
 ·rw[bG,show ((n:Nat):Int).toNat=n by omega]
  have h9:w.length * n≤1000:=k8 (aQd hw h2) (by decide)
  unfold Builtin.Str.tooLong
  have h10:(1000:Nat)≤sizeLine:=aK (by decide)
  exact decide_eq_false (by omega)
end Lw
namespace L2
open PySem PySem.Spec PyProof.Rows
section
variable {X:Cx}{e:Expr}{te:TE}{lo hi:Option Expr}{stp:Expr}{tl th tk:TO}{pos p2:Pos}
def GK(X:Cx)(r:V→Option Int→Option Int→Option Int→Hp→VK→Prop):Prop :=
 ∀ (pins:List (Addr×Obj)) (s:Shared) (σ:St) (H:Hp) (x:V) (v vl vu vk:Value) (lo hi st:Option Int) (sl:Addr) (Q:VK),Inv X pins σ H s→RelV x v→s.heap.IsSliceOf sl vl vu vk→IsPart vl lo→IsPart vu hi→IsPart vk st→r x lo hi st H Q →
  ∃ T id,typeLookup (.type T) "__getitem__"=pure (some (.builtin id))∧s.TypeIs v T∧wpAny (model X.prog X.w) X.A (getItem v (.ref sl)) (EP X pins σ Q) X.xe s
def Im(r:V→Option Int→Option Int→Option Int→Hp→VK→Prop)(te:TE)(tl th tk:TO):TE:=fun σ H Q=>te σ H fun x H1=>tl σ H1 fun l H2=>th σ H2 fun u H3=>tk σ H3 fun k H4=>r x l u k H4 Q
theorem AA{r:V→Option Int→Option Int→Option Int→Hp→VK→Prop}(hr:GK X r)(he:PE X e te)(hl:PO X lo tl)(hu:PO X hi th)(hk:PO X (some stp) tk):PE X (.Subscript e (.Slice lo hi (some stp) p2) pos) (Im r te tl th tk):=by
 intro pins s σ H Q I h
 refine Subscript_ (bV (he pins s σ H _ I h) fun v s1 ⟨x,H1,I1,r1,q1⟩=>?_)
 refine wpAny_Slice (bV (hl pins s1 σ H1 _ I1 q1) fun vl s2 ⟨l,H2,I2,pl,q2⟩=>bV (hu pins s2 σ H2 _ I2 q2) fun vu s3 ⟨u,H3,I3,pu,q3⟩=>bV (hk pins s3 σ H3 _ I3 q3) fun vk s4 ⟨k,H4,I4,pk,q4⟩=>?_)
 have I5:Inv X pins σ H4 { s4 with heap:=s4.heap.push { cls:=.type "slice",data:=.fields #[vl,vu,vk] } }:=I4.kept (t':=s4.toks) fun b ob q=>b6 _ q
 obtain⟨T,id,hT,ht,hg⟩:=hr pins { s4 with heap:=s4.heap.push { cls:=.type "slice",data:=.fields #[vl,vu,vk] } } σ H4 x v vl vu vk l u k s4.heap.objs.size Q I5 r1 (aZC ..) pl pu pk q4
 show wpAny (model X.prog X.w) X.A (subscriptTail e (.Slice lo hi (some stp) p2) v (.ref s4.heap.objs.size)) (EP X pins σ Q) X.xe { s4 with heap:=s4.heap.push { cls:=.type "slice",data:=.fields #[vl,vu,vk] } }
 exact tail_any (ops:=[v,.ref s4.heap.objs.size]) ht hT hg rfl
end
abbrev Cx.one(X:Cx):Cx:={ X with A:=X.A.in1,xe:=fun _ _=>False }
theorem Cx.Ok.one{X:Cx}(o:X.Ok):X.one.Ok :=
 ⟨o.mod,o.kind,o.glob,o.blt,o.above,o.inj,o.has,o.cab,o.hd,o.frames,o.stk,o.exf,o.bs,o.bsz,o.noex,o.exfs,o.funs,o.frf⟩
section
variable {X:Cx}{pins:List (Addr×Obj)}{σ:St}{H:Hp}{s:Shared}
theorem Inv.one(I:Inv X pins σ H s):Inv X.one pins σ H s:=⟨I.ok.one,I.os,I.bare,I.base,I.loc,I.cell,I.free,I.freeC,I.pin,I.hok,I.len⟩
theorem Inv.unone(o:X.Ok)(I:Inv X.one pins σ H s):Inv X pins σ H s:=⟨o,I.os,I.bare,I.base,I.loc,I.cell,I.free,I.freeC,I.pin,I.hok,I.len⟩
end
end L2
namespace Lw
open PySem PySem.Spec PyProof.Rows L2 Ma MaR
theorem yV(u v w:List Nat)(hu:AllL u)(hv:AllL v)(hw:AllL w):lay (u++lay v++w)=lay (u++v++w):=by
 rw[← fR (u++lay v) w (AllL.app.mpr ⟨hu,dI hv⟩),eQ u v hu hv,fR (u++v) w (AllL.app.mpr ⟨hu,hv⟩)]
def lo(c:Nat):Nat:=if 96<c then c else c+32
theorem Ak{c:Nat}(h:cN c):Unicode.lowerOf c=[lo c]:=by
 rcases aW h with rfl | rfl | rfl | rfl | rfl | rfl | rfl | rfl <;> decide +kernel
theorem zZ{w:List Nat}{i c:Nat}(h:cN c)(e:w[i]?=some c):Unicode.lowerAt w.toArray i=[lo c]:=by
 unfold Unicode.lowerAt
 have e2:w.toArray[i]?=some c:=by simpa using e
 rw[e2]
 have e3:((c == 0x3A3 && Unicode.endsWord w.toArray i))=false:=by
  have:(c == 0x3A3)=false:=by unfold cN at h;simp;omega
  rw[this];rfl
 simp only [e3]
 exact Ak h
theorem Ap{α:Type}(f:Nat→α)(w:List Nat):(w.map fun c=>[f c]).flatten=w.map f:=by
 induction w with
 | nil=>rfl
 | cons a w ih=>rw[i6,aQV,ih];rfl
theorem jA{w:List Nat}(h:AllL w):Txt.lower (S w)=S (w.map lo):=by
 unfold Txt.lower placed
 show Str.mk _=Str.mk _
 congr 1
 apply aZW.mp
 rw[Array.toList_flatten,Array.toList_mapIdx]
 have e:(List.mapIdx (fun i c=>(Unicode.lowerAt (S w).cps i).toArray) (S w).cps.toList)=w.map fun c=>#[lo c]:=by
  refine aQg fun i=>?_
  have e1:(S w).cps.toList=w:=by simp
  have e2:(S w).cps=w.toArray:=rfl
  rw[e1,e2,List.getElem?_mapIdx,c7]
  cases hq:w[i]? with
  | none=>rfl
  | some c =>
   show some _=some _
   rw[zZ (h c (b0 hq)) hq]
 rw[e,y0]
 show (w.map fun c=>[lo c]).flatten=w.map lo
 exact Ap lo w
theorem pY(w:List Nat)(h:AllL w)(hl:w.length≤1000):Builtin.Str.tooLong (Txt.lower (S w)).length=false:=by
 rw[jA h,bG,b7]
 unfold Builtin.Str.tooLong
 have h10:(1000:Nat)≤sizeLine:=aK (by decide)
 exact decide_eq_false (by omega)
theorem Cj{c:Nat}(h:cN c):c∈lets:=by rcases aW h with rfl | rfl | rfl | rfl | rfl | rfl | rfl | rfl <;> decide
end Lw
namespace PySem
open Sem (wp)
section
variable {prog:Program}{w:World}{A:Around}{E:Value→Shared→Prop}{s:Shared}
theorem gS{j t:Addr}{k:Nat}{vs:Array Value}{x:Value}{Q:Value→Shared→Prop}(hj:s.heap.IsTupleIter j t k)(ht:s.heap.IsTuple t vs)(hx:vs[k]?=some x)
  (hQ:∀ g,g.IsTupleIter j t (k+1)→Heap.SameBut j s.heap g→Q x { s with heap:=g }):wpAny (model prog w) A (Builtin.SmallTypes.nextOf (.ref j)) Q E s:=by
 obtain⟨oj,goj,cj,dj⟩:=id hj
 obtain⟨ot,got,_,m,dt⟩:=ht
 unfold Builtin.SmallTypes.nextOf
 refine wpAny_bind (wpAny_callSpecial?_slot (name:=Str.ofString "__next__") hj.typeIs aQG (wpAny_call_entry aQG hj.typeIs aXM ?_ (aXG _)))
 show wpAny _ _ (field (.ref j) 0 >>= _) _ _ s
 refine wpAny_bind (wpAny_field goj dj (x:=.ref t) rfl ?_)
 show wpAny _ _ (if (Value.ref t == Value.none)=true then _ else _) _ _ s
 rw[if_neg (by intro c;cases c)]
 show wpAny _ _ (field (.ref j) 1 >>= _) _ _ s
 refine wpAny_bind (wpAny_field goj dj (x:=.int k 0) rfl ?_)
 show wpAny _ _ (seqItems? (.ref t) >>= _) _ _ s
 refine wpAny_bind (wpAny_seqItems got dt ?_)
 simp only [aQI,hx]
 refine wpAny_bind (wpAny_setField goj dj (by simp) (wpAny_pure ⟨x,rfl,wpAny_pure (hQ _ ?_ (u6 ..))⟩))
 refine⟨_,y2 _ goj (aQZ (u9 dj _)),(aXR ..).trans cj,?_⟩
 rw[u9 dj]
 simp[rawInt]
theorem lN{j t:Addr}{k:Nat}{vs:Array Value}{Q:Value→Shared→Prop}(hh:A.handled=none)(hj:s.heap.IsTupleIter j t k)(ht:s.heap.IsTuple t vs)(hx:vs[k]?=none)
  (hE:∀ g e,Heap.ExtBut j s.heap g→(∃ o,g.get? e=some o∧o.cls=.type "StopIteration")→E (.ref e) { s with heap:=g }):wpAny (model prog w) A (Builtin.SmallTypes.nextOf (.ref j)) Q E s:=by
 obtain⟨oj,goj,cj,dj⟩:=id hj
 obtain⟨ot,got,_,m,dt⟩:=ht
 unfold Builtin.SmallTypes.nextOf
 refine wpAny_bind (wpAny_callSpecial?_slot (name:=Str.ofString "__next__") hj.typeIs aQG (wpAny_call_entry aQG hj.typeIs aXM ?_ (aXG _)))
 show wpAny _ _ (field (.ref j) 0 >>= _) _ _ s
 refine wpAny_bind (wpAny_field goj dj (x:=.ref t) rfl ?_)
 show wpAny _ _ (if (Value.ref t == Value.none)=true then _ else _) _ _ s
 rw[if_neg (by intro c;cases c)]
 show wpAny _ _ (field (.ref j) 1 >>= _) _ _ s
 refine wpAny_bind (wpAny_field goj dj (x:=.int k 0) rfl ?_)
 show wpAny _ _ (seqItems? (.ref t) >>= _) _ _ s
 refine wpAny_bind (wpAny_seqItems got dt ?_)
 simp only [aQI,hx]
 refine wpAny_bind (wpAny_rule (wpAny_bind (wpAny_setField goj dj (by simp) ?_)))
 show wpAny _ _ (newExc (.type "StopIteration") [] >>= _) _ _ _
 refine wpAny_bind ?_
 simp only [newExc,newTuple]
 refine wpAny_bind (wpAny_newObj_type ?_ (by size_fits))
 refine wpAny_bind (m:=firstArgMember _ _) (wpAny_of_eq (a:=Value.none) (by first | rfl | (simp only [firstArgMember];rfl)) ?_)
 refine wpAny_newObj_type ?_ (by size_fits)
 simp only [raiseNew]
 refine wpAny_bind (wpAny_handled ?_)
 first | rw[show A.in1.handled=none from hh] | rw[hh]
 refine wpAny_bind (wpAny_pure (wpAny_throw ?_))
 exact hE _ _ (((u6 ..).extBut.push _).push _) ⟨_,d3 _ rfl,rfl⟩
structure ZApart(z a b i j t u:Addr):Prop where
 az:a≠z
 bz:b≠z
 iz:i≠z
 jz:j≠z
 ab:a≠b
 ai:a≠i
 aj:a≠j
 bi:b≠i
 bj:b≠j
 ij:i≠j
 tz:t≠z
 tb:t≠b
 ti:t≠i
 tj:t≠j
 uz:u≠z
 ub:u≠b
 ui:u≠i
 uj:u≠j
structure ZSt(h:Heap)(z a b i j t u:Addr)(k:Nat)(f0:Value):Prop where
 zip:IsZip h z a b f0
 its:IsPair h a (.ref i) (.ref j)
 own:∃ p q,IsPair h b p q
 one:h.IsTupleIter i t k
 two:h.IsTupleIter j u k
theorem ZSt.at{h h':Heap}{z a b i j t u:Addr}{k:Nat}{f0:Value}(S:ZSt h z a b i j t u k f0)(kp:∀ c∈[z,a,b,i,j],∀ o,h.get? c=some o→h'.get? c=some o):ZSt h' z a b i j t u k f0:=by
 obtain⟨p,q,ho⟩:=S.own
 obtain⟨o1,g1,r1⟩:=S.one
 obtain⟨o2,g2,r2⟩:=S.two
 exact⟨kp z (by simp) _ S.zip,kp a (by simp) _ S.its,⟨p,q,kp b (by simp) _ ho⟩,⟨o1,kp i (by simp) _ g1,r1⟩,⟨o2,kp j (by simp) _ g2,r2⟩⟩
theorem Am{z a b i j t u:Addr}{k:Nat}{xs ys:Array Value}{x y:Value}{Q:Value→Shared→Prop}(D:ZApart z a b i j t u)(S:ZSt s.heap z a b i j t u k .none)
  (ht:s.heap.IsTuple t xs) (hu:s.heap.IsTuple u ys) (hx:xs[k]?=some x) (hy:ys[k]?=some y)
  (hQ:∀ g,ZSt g z a b i j t u (k+1) (rawInt s.heap.objs.size)→IsPair g s.heap.objs.size x y→g.objs.size=s.heap.objs.size+1→(∀ c o,c≠z→c≠b→c≠i→c≠j→s.heap.get? c=some o→g.get? c=some o)→Q (.ref s.heap.objs.size) { s with heap:=g }) :
  wpAny (model prog w) A (Builtin.«zip.__next__» ⟨[.ref z],[]⟩) (fun fin s'=>∃ v,fin=.done (.ret v)∧Q v s') E s:=by
 obtain⟨hz,hI,⟨p,q,hO⟩,h1,h2⟩:=S
 show wpAny _ _ (field (.ref z) 2 >>= _) _ _ _
 refine wpAny_bind (wpAny_field hz rfl (x:=.bool false) rfl ?_)
 show wpAny _ _ (field (.ref z) 3 >>= _) _ _ _
 refine wpAny_bind (wpAny_field hz rfl (x:=.ref a) rfl (wpAny_bind (wpAny_seqItems hI rfl ?_)))
 show wpAny _ _ (Builtin.SmallTypes.ownedTupleIsFree (.ref z) >>= _) _ _ _
 unfold Builtin.SmallTypes.ownedTupleIsFree
 refine wpAny_bind (wpAny_bind (wpAny_field hz rfl (x:=.none) rfl (wpAny_pure ?_)))
 simp only [if_true]
 refine wpAny_bind (wpAny_rule (wpAny_bind (wpAny_field hz rfl (x:=.ref b) rfl (wpAny_bind (wpAny_setField_rec hz (by simp) fun g1 z1 e1=>?_)))))
 replace z1:IsZip g1 z a b .ellipsis:=z1
 refine wpAny_bind ?_
 simp only [aX0,aZ5,aQu,aXj]
 refine wpAny_bind (wpAny_bind (wpAny_onRaise ?_))
 show wpAny _ _ (Builtin.SmallTypes.nextOf (.ref i) >>= _) _ _ _
 refine wpAny_bind (gS (h1.extBut e1.extBut D.iz) (ht.extBut e1.extBut D.tz) hx fun g2 i2 e2=>wpAny_pure ?_)
 have o2:IsPair g2 b p q:=e2.extBut _ _ D.bi (e1.extBut _ _ D.bz hO)
 refine wpAny_bind (wpAny_seqItems o2 rfl (wpAny_bind (wpAny_updateSeq_pair o2 fun g3 o3 e3=>wpAny_bind (wpAny_letGo (wpAny_pure ?_)))))
 replace o3:IsPair g3 b x q:=o3
 refine wpAny_bind (wpAny_bind (wpAny_onRaise ?_))
 show wpAny _ _ (Builtin.SmallTypes.nextOf (.ref j) >>= _) _ _ _
 have j3:=((h2.extBut e1.extBut D.jz).extBut e2.extBut D.ij.symm).extBut e3.extBut D.bj.symm
 have u3:=((hu.extBut e1.extBut D.uz).extBut e2.extBut D.ui).extBut e3.extBut D.ub
 refine wpAny_bind (gS j3 u3 hy fun g4 j4 e4=>wpAny_pure ?_)
 have o4:IsPair g4 b x q:=e4.extBut _ _ D.bj o3
 refine wpAny_bind (wpAny_seqItems o4 rfl (wpAny_bind (wpAny_updateSeq_pair o4 fun g5 o5 e5=>wpAny_bind (wpAny_letGo (wpAny_pure (wpAny_pure ?_))))))
 replace o5:IsPair g5 b x y:=o5
 refine wpAny_bind (wpAny_seqItems o5 rfl (wpAny_bind (wpAny_newTuple ?_)))
 have sz:g5.objs.size=s.heap.objs.size:=by rw[e5.1,e4.1,e3.1,e2.1,e1.1]
 have z5:IsZip g5 z a b .ellipsis:=e5.extBut _ _ D.bz.symm (e4.extBut _ _ D.jz.symm (e3.extBut _ _ D.bz.symm (e2.extBut _ _ D.iz.symm z1)))
 have kp:∀ c o,c≠z→c≠b→c≠i→c≠j→s.heap.get? c=some o→g5.get? c=some o:=fun c o c1 c2 c3 c4 e=>e5.extBut _ _ c2 (e4.extBut _ _ c4 (e3.extBut _ _ c2 (e2.extBut _ _ c3 (e1.extBut _ _ c1 e))))
 have i5:g5.IsTupleIter i t (k+1):=((i2.extBut e3.extBut D.bi.symm).extBut e4.extBut D.ij).extBut e5.extBut D.bi.symm
 have j5:g5.IsTupleIter j u (k+1):=j4.extBut e5.extBut D.bj.symm
 have lz:=c8 z5
 show wpAny _ _ (Builtin.SmallTypes.ownedTupleHandOut (.ref z) (.ref g5.objs.size) >>= _) _ _ _
 unfold Builtin.SmallTypes.ownedTupleHandOut
 have z6:IsZip (g5.push { cls:=.type "tuple",data:=.seq #[x,y] }) z a b .ellipsis:=b6 _ z5
 refine wpAny_bind (wpAny_bind (wpAny_setField_rec z6 (by simp) fun g7 z7 e7=>?_))
 replace z7:IsZip g7 z a b (rawInt g5.objs.size):=z7
 refine wpAny_setField_rec z7 (by simp) fun g8 z8 e8=>wpAny_pure ⟨_,rfl,?_⟩
 replace z8:IsZip g8 z a b (rawInt g5.objs.size):=z8
 have up:∀ c o,c≠z→g5.get? c=some o→g8.get? c=some o:=fun c o c1 e=>e8.extBut _ _ c1 (e7.extBut _ _ c1 (b6 _ e))
 have T8:IsPair g8 g5.objs.size x y:=e8.extBut _ _ (aQK lz) (e7.extBut _ _ (aQK lz) (d3 _ rfl))
 have n8:g8.objs.size=g5.objs.size+1:=by rw[e8.1,e7.1,x0]
 show Q (.ref g5.objs.size) _
 rw[sz] at z8 T8 n8 ⊢
 obtain⟨oi,goi,ri⟩:=i5
 obtain⟨oj,goj,rj⟩:=j5
 exact hQ g8 ⟨z8,up _ _ D.az (kp _ _ D.az D.ab D.ai D.aj hI),⟨x,y,up _ _ D.bz o5⟩,⟨oi,up _ _ D.iz goi,ri⟩,⟨oj,up _ _ D.jz goj,rj⟩⟩ T8 n8 fun c o c1 c2 c3 c4 e=>up c o c1 (kp c o c1 c2 c3 c4 e)
theorem Cb{z a b i j t u:Addr}{k:Nat}{xs ys:Array Value}{Q:Fin→Shared→Prop}(hh:A.handled=none)(D:ZApart z a b i j t u)(S:ZSt s.heap z a b i j t u k .none)
  (ht:s.heap.IsTuple t xs) (hu:s.heap.IsTuple u ys) (hn:xs[k]?=none∨ys[k]?=none)
  (hE:∀ g e,(∀ c o,c≠z→c≠b→c≠i→c≠j→s.heap.get? c=some o→g.get? c=some o)→(∃ o,g.get? e=some o∧o.cls=.type "StopIteration")→E (.ref e) { s with heap:=g }) :
  wpAny (model prog w) A (Builtin.«zip.__next__» ⟨[.ref z],[]⟩) Q E s:=by
 obtain⟨hz,hI,⟨p,q,hO⟩,h1,h2⟩:=S
 show wpAny _ _ (field (.ref z) 2 >>= _) _ _ _
 refine wpAny_bind (wpAny_field hz rfl (x:=.bool false) rfl ?_)
 show wpAny _ _ (field (.ref z) 3 >>= _) _ _ _
 refine wpAny_bind (wpAny_field hz rfl (x:=.ref a) rfl (wpAny_bind (wpAny_seqItems hI rfl ?_)))
 show wpAny _ _ (Builtin.SmallTypes.ownedTupleIsFree (.ref z) >>= _) _ _ _
 unfold Builtin.SmallTypes.ownedTupleIsFree
 refine wpAny_bind (wpAny_bind (wpAny_field hz rfl (x:=.none) rfl (wpAny_pure ?_)))
 simp only [if_true]
 refine wpAny_bind (wpAny_rule (wpAny_bind (wpAny_field hz rfl (x:=.ref b) rfl (wpAny_bind (wpAny_setField_rec hz (by simp) fun g1 z1 e1=>?_)))))
 replace z1:IsZip g1 z a b .ellipsis:=z1
 refine wpAny_bind ?_
 simp only [aX0,aZ5,aQu,aXj]
 refine wpAny_bind (wpAny_bind (wpAny_onRaise ?_))
 show wpAny _ _ (Builtin.SmallTypes.nextOf (.ref i) >>= _) _ _ _
 cases hx:xs[k]? with
 | none =>
  refine wpAny_bind (lN hh (h1.extBut e1.extBut D.iz) (ht.extBut e1.extBut D.tz) hx fun g2 e e2 he=>?_)
  obtain⟨oe,goe,ce⟩:=he
  have z2:IsZip g2 z a b .ellipsis:=e2 _ _ D.iz.symm z1
  have ne:e≠z:=fun c=>by subst c;rw[z2] at goe;cases goe;simp at ce
  exact wpAny_setField_rec z2 (by simp) fun g3 _ e3=>hE g3 e (fun c o c1 _ c3 _ v=>e3.extBut _ _ c1 (e2 _ _ c3 (e1.extBut _ _ c1 v))) ⟨oe,e3.extBut _ _ ne goe,ce⟩
 | some x =>
  have hy:ys[k]?=none:=by
   rcases hn with h | h
   ·rw[hx] at h;cases h
   ·exact h
  refine wpAny_bind (gS (h1.extBut e1.extBut D.iz) (ht.extBut e1.extBut D.tz) hx fun g2 i2 e2=>wpAny_pure ?_)
  have o2:IsPair g2 b p q:=e2.extBut _ _ D.bi (e1.extBut _ _ D.bz hO)
  refine wpAny_bind (wpAny_seqItems o2 rfl (wpAny_bind (wpAny_updateSeq_pair o2 fun g3 o3 e3=>wpAny_bind (wpAny_letGo (wpAny_pure ?_)))))
  refine wpAny_bind (wpAny_bind (wpAny_onRaise ?_))
  show wpAny _ _ (Builtin.SmallTypes.nextOf (.ref j) >>= _) _ _ _
  have j3:=((h2.extBut e1.extBut D.jz).extBut e2.extBut D.ij.symm).extBut e3.extBut D.bj.symm
  have u3:=((hu.extBut e1.extBut D.uz).extBut e2.extBut D.ui).extBut e3.extBut D.ub
  refine wpAny_bind (lN hh j3 u3 hy fun g4 e e4 he=>?_)
  obtain⟨oe,goe,ce⟩:=he
  have z4:IsZip g4 z a b .ellipsis:=e4 _ _ D.jz.symm (e3.extBut _ _ D.bz.symm (e2.extBut _ _ D.iz.symm z1))
  have ne:e≠z:=fun c=>by subst c;rw[z4] at goe;cases goe;simp at ce
  exact wpAny_setField_rec z4 (by simp) fun g5 _ e5=>hE g5 e (fun c o c1 c2 c3 c4 v=>e5.extBut _ _ c1 (e4 _ _ c4 (e3.extBut _ _ c2 (e2.extBut _ _ c3 (e1.extBut _ _ c1 v))))) ⟨oe,e5.extBut _ _ ne goe,ce⟩
theorem xC{z a b i j t u:Addr}{k:Nat}{xs ys:Array Value}{x y:Value}{Q:Option Value→Shared→Prop}(D:ZApart z a b i j t u)(S:ZSt s.heap z a b i j t u k .none)
  (ht:s.heap.IsTuple t xs) (hu:s.heap.IsTuple u ys) (hx:xs[k]?=some x) (hy:ys[k]?=some y)
  (hQ:∀ g,ZSt g z a b i j t u (k+1) (rawInt s.heap.objs.size)→IsPair g s.heap.objs.size x y→g.objs.size=s.heap.objs.size+1→(∀ c o,c≠z→c≠b→c≠i→c≠j→s.heap.get? c=some o→g.get? c=some o)→Q (some (.ref s.heap.objs.size)) { s with heap:=g }) :
  wpAny (model prog w) A (pyNext (.ref z)) Q E s:=by
 have hT:s.TypeIs (.ref z) "zip":=⟨_,S.zip,rfl⟩
 unfold pyNext
 exact wpAny_bind (wpAny_attempt (wpAny_callSpecial?_slot (name:=Str.ofString "__next__") hT aQw (wpAny_call_entry aQw hT aZX (Am D S ht hu hx hy fun g b1 b2 b3 b4=>wpAny_pure (hQ g b1 b2 b3 b4)) (aZK _))))
theorem zP{z a b i j t u:Addr}{k:Nat}{xs ys:Array Value}{Q:Option Value→Shared→Prop}(hh:A.handled=none)(D:ZApart z a b i j t u)(S:ZSt s.heap z a b i j t u k .none)
  (ht:s.heap.IsTuple t xs) (hu:s.heap.IsTuple u ys) (hn:xs[k]?=none∨ys[k]?=none)
  (hQ:∀ g,(∀ c o,c≠z→c≠b→c≠i→c≠j→s.heap.get? c=some o→g.get? c=some o)→Q none { s with heap:=g }):wpAny (model prog w) A (pyNext (.ref z)) Q E s:=by
 have hT:s.TypeIs (.ref z) "zip":=⟨_,S.zip,rfl⟩
 unfold pyNext
 refine wpAny_bind (wpAny_attempt (wpAny_callSpecial?_slot (name:=Str.ofString "__next__") hT aQw (wpAny_call_entry aQw hT aZX (Cb hh D S ht hu hn fun g e kp he=>?_) (aZK _))))
 obtain⟨o,go,co⟩:=he
 exact wpAny_bind (wpAny_isInstance (T:="StopIteration") (b:=true) ⟨o,go,co⟩ isSubtype_stop (wpAny_pure (hQ _ kp)))
end
abbrev HP(h:Heap)(t:Addr):Heap:=h.push { cls:=.type "tuple_iterator",data:=.fields #[.ref t,.int 0 0] }
abbrev HQ(h:Heap)(t u:Addr):Heap:=(HP h t).push { cls:=.type "tuple_iterator",data:=.fields #[.ref u,.int 0 0] }
abbrev HS(h:Heap)(t u:Addr):Heap:=(HQ h t u).push { cls:=.type "tuple",data:=.seq #[.ref h.objs.size,.ref (HP h t).objs.size] }
abbrev HW(h:Heap)(t u:Addr):Heap:=(HS h t u).push { cls:=.type "tuple",data:=.seq #[.none,.none] }
abbrev FS(h:Heap)(t u:Addr):Heap:=(HW h t u).push { cls:=.type "zip",data:=.fields #[.none,.bool false,.bool false,.ref (HQ h t u).objs.size,.ref (HS h t u).objs.size] }
theorem xJ(t u:Addr)(xs ys:Array Value) :
  Meets (Builtin.«zip.__new__» ⟨[.type "zip",.ref t,.ref u],[]⟩) (fun _ R s=>s.heap.IsTuple t xs∧s.heap.IsTuple u ys∧R (.ok (.ret (.ref (HW s.heap t u).objs.size))) { s with heap:=FS s.heap t u }) :=
 .of_wp fun prog w A R s h=>by
  obtain⟨hp,g,d,tk,os⟩:=s
  obtain⟨ht,hu,h⟩:=h
  have hsub:=sub_zip
  have hL1:Heap.IsTuple (Shared.heap ⟨hp,g,d,tk,os⟩) t xs:=ht
  have hL2:Heap.IsTuple (Shared.heap ⟨hp.push { cls:=.type "tuple_iterator",data:=.fields #[.ref t,.int 0 0] },g,d,tk,os⟩) u ys:=aJR hu _
  wp_walk using wpAny_pyIter_tuple hL1,wpAny_pyIter_tuple hL2
  exact⟨_,rfl,h⟩
end PySem
namespace L2
open PySem PySem.Spec PyProof.Rows
section
variable {X:Cx}{pins:List (Addr×Obj)}{σ:St}{H:Hp}{s:Shared}{h':Heap}
theorem Inv.turnedN{t':Nat}{ch:List Addr}{a:Addr}{xs:List V}(I:Inv X pins σ H s)(k:∀ b o,b ∉ ch→s.heap.get? b=some o→h'.get? b=some o)(hf:∀ b∈ch,gI X pins H b)(ha:s.heap.objs.size≤a)
  (new:ObjOk X.prog X.w (upd H a (.tup xs)) h' a (.tup xs)):Inv X pins σ (upd H a (.tup xs)) { s with heap:=h',toks:=t' }:=by
 have hn:H a=none:=I.hok.fresh ha
 have un:∀ {b u},H b=some u→upd H a (.tup xs) b=some u:=fun e=>by rw[aE (aI e hn)];exact e
 have nch:∀ {b u},H b=some u→b ∉ ch:=fun e hb=>by rw[(hf _ hb).1] at e;cases e
 refine I.step (g':=s.gens) (d':=s.drawn) (ch:=ch) (fun b hb=>?_) (fun b o _ _ hc e _=>k b o hc e) (fun b o _ _ hc e _=>⟨o.slots,k b o hc e⟩) (fun b o _ e n=>?_) (fun b o hc e=>⟨o,k b o hc e⟩) (fun _ _ e=>un e) (fun _ _ _ e=>un e)
  (fun b ps e=>⟨#[],by rw[un e];simp⟩) (fun m hm=>?_) (fun b u e=>?_) I.bare
 ·obtain⟨f0,f1,f2,f3,f4,f5⟩:=hf b hb
  exact⟨f3,f1,f4,f5⟩
 ·rw[aE (g6 (l6 (c8 e) ha))]
  exact n
 ·obtain⟨o,es,ep,ho,r⟩:=hm
  exact⟨o,es,ep,k _ o (fun hb=>(hf _ hb).2.1 rfl) ho,r⟩
 ·by_cases hb:b=a
  ·subst hb
   rw[aB] at e
   cases e
   exact new
  ·rw[aE hb] at e
   refine(I.hok b u e).stay (fun c v hc q=>k c v ?_ q) (fun c q=>un q) fun c ys q=>un q
   rcases hc with z | z
   ·rw[z];exact nch e
   ·exact nch z
theorem Inv.turnedM{t':Nat}{ch:List Addr}(I:Inv X pins σ H s)(k:∀ b o,b ∉ ch→s.heap.get? b=some o→h'.get? b=some o)(hf:∀ b∈ch,gI X pins H b):Inv X pins σ H { s with heap:=h',toks:=t' }:=by
 have nch:∀ {b u},H b=some u→b ∉ ch:=fun e hb=>by rw[(hf _ hb).1] at e;cases e
 refine I.step (g':=s.gens) (d':=s.drawn) (ch:=ch) (fun b hb=>?_) (fun b o _ _ hc e _=>k b o hc e) (fun b o _ _ hc e _=>⟨o.slots,k b o hc e⟩) (fun b o _ e n=>n) (fun b o hc e=>⟨o,k b o hc e⟩) (fun _ _ e=>e) (fun _ _ _ e=>e)
  (fun b ps e=>⟨#[],by rw[e];simp⟩) (fun m hm=>?_) (fun b u e=>?_) I.bare
 ·obtain⟨f0,f1,f2,f3,f4,f5⟩:=hf b hb
  exact⟨f3,f1,f4,f5⟩
 ·obtain⟨o,es,ep,ho,r⟩:=hm
  exact⟨o,es,ep,k _ o (fun hb=>(hf _ hb).2.1 rfl) ho,r⟩
 ·refine(I.hok b u e).stay (fun c v hc q=>k c v ?_ q) (fun c q=>q) fun c ys q=>q
  rcases hc with z | z
  ·rw[z];exact nch e
  ·exact nch z
end
def F_(K:b5)(t u:Addr):It :=
 ⟨fun i H=>∃ xs ys x y,SqT K H t xs∧SqT K H u ys∧xs[i]?=some x∧ys[i]?=some y,
  fun i H v H'=>∃ p x y,v=.ref p∧H p=none∧H'=upd H p (.tup [x,y])∧∀ xs ys,SqT K H t xs→SqT K H u ys→xs[i]?=some x∧ys[i]?=some y,
  fun i H=>∃ xs ys,SqT K H t xs∧SqT K H u ys∧(xs.length≤i∨ys.length≤i)⟩
theorem A2{P:Program}{w:World}{K:b5}{es:List Expr}{x1}{pos:Pos}(z a b i j t u:Addr)(D:ZApart z a b i j t u):Turn P w K (.Tuple es x1 pos) (F_ K t u) [z,a,b,i,j] z (fun k h=>ZSt h z a b i j t u k .none) where
 mem:=by simp
 obj:=fun k h st c hc=>by
  obtain⟨p,q,ho⟩:=st.own
  obtain⟨o1,g1,c1,d1⟩:=st.one
  obtain⟨o2,g2,c2,d2⟩:=st.two
  simp only [c6,n9,or_false] at hc
  rcases hc with rfl | rfl | rfl | rfl | rfl
  ·exact⟨_,st.zip,fun v e=>by cases e⟩
  ·exact⟨_,st.its,fun v e=>by cases e⟩
  ·exact⟨_,ho,fun v e=>by cases e⟩
  ·exact⟨o1,g1,fun v e=>by rw[d1] at e;cases e⟩
  ·exact⟨o2,g2,fun v e=>by rw[d2] at e;cases e⟩
 keep:=fun k h h' st kp=>st.at kp
 item:=by
  intro X hP hw hK hc k pins s σ H E I hf st hg
  subst hP hw hK
  obtain⟨xs,ys,x,y,hq1,hq2,hx,hy⟩:=hg
  obtain⟨v1,r1,p1,_⟩:=I.tuple hq1
  obtain⟨v2,r2,p2,_⟩:=I.tuple hq2
  obtain⟨ux,hux,rux⟩:=r1.get hx
  obtain⟨uy,huy,ruy⟩:=r2.get hy
  refine xC D st (show s.heap.IsTuple t v1.toArray from p1) (show s.heap.IsTuple u v2.toArray from p2) (x:=ux) (y:=uy) (by simpa using hux) (by simpa using huy) fun g S1 hT hn kp=>⟨_,rfl,?_⟩
  refine wpAny_letOwnedTupleGo_zip S1.zip fun g2 z2 e2=>?_
  have kp2:∀ c o,c≠z→c≠b→c≠i→c≠j→s.heap.get? c=some o→g2.get? c=some o:=fun c o c1 c2 c3 c4 e=>(e2.2 c c1).trans (kp c o c1 c2 c3 c4 e)
  have nz:s.heap.objs.size≠z:=aQK (c8 st.zip)
  have hT2:IsPair g2 s.heap.objs.size ux uy:=(e2.2 _ nz).trans hT
  have hsub:∀ c∈[z,b,i,j],gI X pins H c:=fun c hc=>hf c (by
   simp only [c6,n9,or_false] at hc ⊢
   rcases hc with h | h | h | h <;> simp[h])
  have kpn:∀ c o,c ∉ [z,b,i,j]→s.heap.get? c=some o→g2.get? c=some o:=fun c o hn e=>kp2 c o (fun q=>hn (by simp[q])) (fun q=>hn (by simp[q])) (fun q=>hn (by simp[q])) (fun q=>hn (by simp[q])) e
  have hHn:H s.heap.objs.size=none:=I.hok.fresh (b9 _)
  refine⟨.ref s.heap.objs.size,upd H s.heap.objs.size (.tup [x,y]),?_,rfl,⟨_,x,y,rfl,hHn,rfl,fun xs' ys' h1 h2=>by rw[I.tuple_inj h1 hq1,I.tuple_inj h2 hq2];exact⟨hx,hy⟩⟩,?_,fun c hc=>?_⟩
  ·exact I.turnedN (t':=s.toks) (h':=g2) kpn hsub (b9 _) ⟨by show 2≤sizeLine;decide,[ux,uy],.cons rux (.cons ruy .nil),⟨_,hT2,rfl,0,rfl⟩,⟨_,hT2,rfl⟩⟩
  ·obtain⟨p,q,ho⟩:=S1.own
   obtain⟨o1,g1,d1⟩:=S1.one
   obtain⟨o2,gg2,d2⟩:=S1.two
   exact⟨z2,(e2.2 _ D.az).trans S1.its,⟨p,q,(e2.2 _ D.bz).trans ho⟩,⟨o1,(e2.2 _ D.iz).trans g1,d1⟩,⟨o2,(e2.2 _ D.jz).trans gg2,d2⟩⟩
  ·have hce:c≠s.heap.objs.size:=by
    obtain⟨p,q,ho⟩:=st.own
    obtain⟨o1,g1,_⟩:=st.one
    obtain⟨o2,g2',_⟩:=st.two
    simp only [c6,n9,or_false] at hc
    rcases hc with rfl | rfl | rfl | rfl | rfl
    ·exact g6 (c8 st.zip)
    ·exact g6 (c8 st.its)
    ·exact g6 (c8 ho)
    ·exact g6 (c8 g1)
    ·exact g6 (c8 g2')
   rw[aE hce]
   exact(hf c hc).1
 done:=by
  intro X hP hw hK hc k pins s σ H E I hf st hg
  subst hP hw hK
  obtain⟨xs,ys,hq1,hq2,hn⟩:=hg
  obtain⟨v1,r1,p1,_⟩:=I.tuple hq1
  obtain⟨v2,r2,p2,_⟩:=I.tuple hq2
  have l1:=r1.length
  have l2:=r2.length
  refine zP (I.ok.hd hc) D st (show s.heap.IsTuple t v1.toArray from p1) (show s.heap.IsTuple u v2.toArray from p2) (by
   rcases hn with h | h
   ·exact .inl (by simp;omega)
   ·exact .inr (by simp;omega)) fun g kp=>⟨rfl,?_⟩
  refine I.turnedM (t':=s.toks) (ch:=[z,b,i,j]) (fun c o hn e=>kp c o (fun q=>hn (by simp[q])) (fun q=>hn (by simp[q])) (fun q=>hn (by simp[q])) (fun q=>hn (by simp[q])) e) fun c hc=>hf c ?_
  simp only [c6,n9,or_false] at hc ⊢
  rcases hc with h | h | h | h <;> simp[h]
 self:=fun A k s Q E st h=>wpAny_pyIter_zip st.zip h
section
variable {X:Cx}
theorem Jd(n t u:Nat)(h1:t<n)(h2:u<n):ZApart (n+4) (n+2) (n+3) n (n+1) t u :=
 ⟨(by omega:(n+2:Nat)≠n+4),(by omega:(n+3:Nat)≠n+4),(by omega:(n:Nat)≠n+4),(by omega:(n+1:Nat)≠n+4),(by omega:(n+2:Nat)≠n+3),(by omega:(n+2:Nat)≠n),(by omega:(n+2:Nat)≠n+1),(by omega:(n+3:Nat)≠n),(by omega:(n+3:Nat)≠n+1),(by omega:(n:Nat)≠n+1),
  (by omega:(t:Nat)≠n+4),(by omega:(t:Nat)≠n+3),(by omega:(t:Nat)≠n),(by omega:(t:Nat)≠n+1),(by omega:(u:Nat)≠n+4),(by omega:(u:Nat)≠n+3),(by omega:(u:Nat)≠n),(by omega:(u:Nat)≠n+1)⟩
def Ik(K:b5)(ta:TA):TI:=fun σ H R=>ta σ H fun vs H1=>∃ t u,vs=[.ref t,.ref u]∧(∃ xs,SqT K H1 t xs)∧(∃ ys,SqT K H1 u ys)∧R (F_ K t u) H1
theorem Ax{pins:List (Addr×Obj)}{σ:St}{H:Hp}{s:Shared}{t u:Addr}{xs ys:Array Value}{Q:Value→Shared→Prop}{E:Value→Shared→Prop}(ht:s.heap.IsTuple t xs)(hu:s.heap.IsTuple u ys)
  (h:∀ g,ZSt g (s.heap.objs.size+4) (s.heap.objs.size+2) (s.heap.objs.size+3) s.heap.objs.size (s.heap.objs.size+1) t u 0 .none→(∀ c o,s.heap.get? c=some o→g.get? c=some o)→Q (.ref (s.heap.objs.size+4)) { s with heap:=g }) :
  wpAny (model X.prog X.w) X.A (call (.type "zip") [.ref t,.ref u]) Q E s:=by
 refine callType_new F.called_zip (by decide) (F.typeCall_zip_2 _ _) (F.newCall_zip_2 _ _) (fun obj=>F.args_object_init_3 obj _ _) F.entry_zip_new (xJ t u xs ys) ⟨ht,hu,?_⟩
 have n1:(HP s.heap t).objs.size=s.heap.objs.size+1:=x0 ..
 have n2:(HQ s.heap t u).objs.size=s.heap.objs.size+2:=by rw[x0,n1]
 have n3:(HS s.heap t u).objs.size=s.heap.objs.size+3:=by rw[x0,n2]
 have n4:(HW s.heap t u).objs.size=s.heap.objs.size+4:=by rw[x0,n3]
 have g5:(FS s.heap t u).get? (HW s.heap t u).objs.size=some _:=d3 _ rfl
 have g4:(FS s.heap t u).get? (HS s.heap t u).objs.size=some _:=b6 _ (d3 _ rfl)
 have g3:(FS s.heap t u).get? (HQ s.heap t u).objs.size=some _:=b6 _ (b6 _ (d3 _ rfl))
 have g2:(FS s.heap t u).get? (HP s.heap t).objs.size=some _:=b6 _ (b6 _ (b6 _ (d3 _ rfl)))
 have g1:(FS s.heap t u).get? s.heap.objs.size=some _:=b6 _ (b6 _ (b6 _ (b6 _ (d3 _ rfl))))
 show _∧_
 rw[n2,n3,n4] at g5
 rw[n1,n2] at g3
 rw[n3] at g4
 rw[n1] at g2
 rw[n4]
 exact⟨⟨_,g5,rfl⟩,h _ ⟨g5,g3,⟨_,_,g4⟩,⟨_,g1,rfl,rfl⟩,⟨_,g2,rfl,rfl⟩⟩ fun c o e=>b6 _ (b6 _ (b6 _ (b6 _ (b6 _ e))))⟩
theorem EG{es:List Expr}{x1}{tpos:Pos}{a b:Expr}{ta:TA}{p pos:Pos}{K:b5}(hK:X.K=K)(hg:Gl X "zip")(hm:X.mg "zip"=none)(ha:PA X [a,b] ta)(hs:starEach [a,b] X.env=[(false,eval a X.env),(false,eval b X.env)]:=by rfl)(hs2:starEach [b] X.env=[(false,eval b X.env)]:=by rfl) :
  PI X (.Tuple es x1 tpos) (.Call (.Name "zip" p) [a,b] [] pos) (Ik K ta):=by
 subst hK
 intro pins s σ H R I h
 refine Call_ (hU I hg hm boot_zip (r9 (bV (ha pos pins s σ H _ I h) fun us s1 ⟨vs,H1,I1,r1,q1⟩=>?_) (by rw[hs,hs2]) (by rw[hs2];rfl)))
 obtain⟨t,u,e,⟨xs,hx⟩,⟨ys,hy⟩,q⟩:=q1
 subst e
 obtain⟨v1,v2,rfl,rv1,rv2⟩:=HE r1
 cases rv1
 cases rv2
 obtain⟨w1,rw1,p1,_⟩:=I1.tuple hx
 obtain⟨w2,rw2,p2,_⟩:=I1.tuple hy
 have lt:t<s1.heap.objs.size:=by obtain⟨o,e,_⟩:=p1;exact c8 e
 have lu:u<s1.heap.objs.size:=by obtain⟨o,e,_⟩:=p2;exact c8 e
 refine Ax (pins:=pins) (σ:=σ) (H:=H1) (show s1.heap.IsTuple t w1.toArray from p1) (show s1.heap.IsTuple u w2.toArray from p2) fun g st kp=>?_
 have I2:Inv X pins σ H1 { s1 with heap:=g }:=I1.kept (t':=s1.toks) kp
 have D:ZApart (s1.heap.objs.size+4) (s1.heap.objs.size+2) (s1.heap.objs.size+3) s1.heap.objs.size (s1.heap.objs.size+1) t u:=by
  exact Jd _ t u lt lu
 refine wpAny_pyIter_zip st.zip ⟨s1.heap.objs.size+4,[s1.heap.objs.size+4,s1.heap.objs.size+2,s1.heap.objs.size+3,s1.heap.objs.size,s1.heap.objs.size+1],_,_,H1,rfl,I2,A2 _ _ _ _ _ t u D,st,fun c hc=>?_,q⟩
 have hle:s1.heap.objs.size≤c:=by
  simp only [c6,n9,or_false] at hc
  rcases hc with h | h | h | h | h <;> rw[h]
  ·exact aQN _ _
  ·exact aQN _ _
  ·exact aQN _ _
  ·exact b9 _
  ·exact aQN _ _
 exact I1.fpOk hle (I1.hok.fresh hle)
end
theorem CK{K:b5}{t u:Addr}{xs ys:List V}{g:TG}{tb:TS}{D:Ends}{σ:St}{H:Hp}(Pv:Nat→St→Hp→Prop)(h0:Pv 0 σ H)(hl:∀ i σ H,i≤min xs.length ys.length→Pv i σ H→SqT K H t xs∧SqT K H u ys)
  (hs:∀ i x y p σ H,xs[i]?=some x→ys[i]?=some y→H p=none→Pv i σ H→g (.ref p) σ (upd H p (.tup [x,y])) fun σ2 H2=>tb { D with nx:=Pv (i+1),ct:=Pv (i+1),bk:=D.nx } σ2 H2) (hd:∀ σ H,Pv (min xs.length ys.length) σ H→D.nx σ H) :
  ∃ W:Nat→Nat→St→Hp→Prop,(∃ m,W 0 m σ H)∧∀ i m σ H,W i m σ H →
   ((F_ K t u).stop i H∧D.nx σ H)∨((F_ K t u).go i H∧∃ N:St→Hp→Prop,(∀ σ' H',N σ' H'→∃ m',m' < m∧W (i+1) m' σ' H')∧∀ x H',(F_ K t u).yld i H x H'→g x σ H' fun σ2 H2=>tb { D with nx:=N,ct:=N,bk:=D.nx } σ2 H2):=by
 refine⟨fun i m σ H=>m=min xs.length ys.length - i∧i≤min xs.length ys.length∧Pv i σ H,⟨_,rfl,j9 _,h0⟩,?_⟩
 rintro i m σ H ⟨rfl,hi,p⟩
 obtain⟨q1,q2⟩:=hl i σ H hi p
 by_cases hlt:i<min xs.length ys.length
 ·have l1:i<xs.length:=by omega
  have l2:i<ys.length:=by omega
  refine .inr ⟨⟨xs,ys,xs[i],ys[i],q1,q2,by simp[l1],by simp[l2]⟩,Pv (i+1),fun σ' H' p'=>⟨min xs.length ys.length - (i+1),by omega,rfl,hlt,p'⟩,fun v H' hv=>?_⟩
  obtain⟨pp,x,y,rfl,hn,rfl,hxy⟩:=hv
  obtain⟨ex,ey⟩:=hxy xs ys q1 q2
  exact hs i x y pp σ H ex ey hn p
 ·have e:i=min xs.length ys.length:=by omega
  subst e
  refine .inl ⟨⟨xs,ys,q1,q2,?_⟩,hd σ H p⟩
  rcases Nat.le_total xs.length ys.length with h | h
  ·exact .inl (by omega)
  ·exact .inr (by omega)
section
variable {κ:Type}[DecidableEq κ]
def cY(kvs:List (κ×V))(k:κ):Option V:=(kvs.find? fun kv=>decide (kv.1=k)).map (·.2)
def cT(kvs:List (κ×V))(k:κ)(v:V):List (κ×V) :=
 if (kvs.any fun kv=>decide (kv.1=k))=true then kvs.map (fun kv=>if kv.1=k then (kv.1,v) else kv) else kvs++[(k,v)]
theorem dC{p:κ×V}{r:List (κ×V)}{k:κ}(e:p.1=k):cY (p::r) k=some p.2:=by simp[cY,aQS,e]
theorem cU{p:κ×V}{r:List (κ×V)}{k:κ}(e:¬ p.1=k):cY (p::r) k=cY r k:=by simp[cY,aQS,e]
theorem iT(k:κ):∀ kvs:List (κ×V),(kvs.any fun kv=>decide (kv.1=k))=(cY kvs k).isSome
 | []=>rfl
 | p::r=>by
  rw[aQk]
  by_cases e:p.1=k
  ·simp only [dC e,decide_eq_true e,Bool.true_or,Option.isSome_some]
  ·rw[cU e,decide_eq_false e,Bool.false_or];exact iT k r
theorem uN(k j:κ)(y:V):∀ kvs:List (κ×V),cY (kvs.map fun kv=>if kv.1=k then (kv.1,y) else kv) j=(cY kvs j).map fun x=>if j=k then y else x
 | []=>rfl
 | p::r=>by
  have ih:=uN k j y r
  rw[i6]
  by_cases h:p.1=k
  ·rw[if_pos h]
   by_cases e:p.1=j
   ·rw[dC (p:=(p.1,y)) e,dC e,u8,if_pos (e.symm.trans h)]
   ·rw[cU (p:=(p.1,y)) e,cU e,ih]
  ·rw[if_neg h]
   by_cases e:p.1=j
   ·rw[dC (p:=p) e,dC e,u8,if_neg (fun z=>h (e.trans z))]
   ·rw[cU (p:=p) e,cU e,ih]
theorem pT(k j:κ)(y:V):∀ kvs:List (κ×V),cY kvs k=none→cY (kvs++[(k,y)]) j=if j=k then some y else cY kvs j
 | [],_=>by
  by_cases e:k=j
  ·rw[if_pos e.symm];exact dC (p:=(k,y)) e
  ·rw[if_neg (fun z=>e z.symm)];exact cU (p:=(k,y)) e
 | p::r,hn=>by
  rw[List.cons_append]
  have hk:¬ p.1=k:=fun z=>by rw[dC z] at hn;cases hn
  rw[cU hk] at hn
  have ih:=pT k j y r hn
  by_cases e:p.1=j
  ·rw[dC e,dC e,if_neg (fun z=>hk (e.trans z))]
  ·rw[cU e,cU e,ih]
theorem tM(kvs:List (κ×V))(k j:κ)(y:V):cY (cT kvs k y) j=if j=k then some y else cY kvs j:=by
 unfold cT
 by_cases a:(kvs.any fun kv=>decide (kv.1=k))=true
 ·rw[if_pos a,uN]
  rw[iT] at a
  by_cases e:j=k
  ·obtain⟨x,hx⟩:=aQL.mp a
   rw[if_pos e,e,hx,u8,if_pos rfl]
  ·rw[if_neg e]
   cases cY kvs j with
   | none=>rfl
   | some x=>rw[u8,if_neg e]
 ·rw[if_neg a]
  refine pT k j y kvs ?_
  rw[iT] at a
  cases q:cY kvs k with
  | none=>rfl
  | some x=>rw[q] at a;exact(a rfl).elim
theorem dM(kvs:List (κ×V))(k:κ)(v:V):(cT kvs k v).length≤kvs.length+1:=by
 unfold cT
 split
 ·rw[b7];omega
 ·rw[b8,j1,aZ6];omega
theorem uE{kvs:List (κ×V)}{k:κ}(v:V)(h:cY kvs k=none):cT kvs k v=kvs++[(k,v)]:=by
 unfold cT
 rw[iT,h]
 exact if_neg (by decide)
theorem RelO.isSome_eq{o:Option V}{u:Option Value}(r:RelO o u):o.isSome=u.isSome:=by
 cases o with
 | none=>cases u with
  | none=>rfl
  | some _=>exact(show False from r).elim
 | some _=>cases u with
  | none=>exact(show False from r).elim
  | some _=>rfl
theorem RelO.getD{o:Option V}{u:Option Value}{d:V}{d':Value}(r:RelO o u)(rd:RelV d d'):RelV (o.getD d) (u.getD d'):=by
 cases o with
 | none=>cases u with
  | none=>exact rd
  | some _=>exact(show False from r).elim
 | some _=>cases u with
  | none=>exact(show False from r).elim
  | some _=>exact r
theorem KV.val{kvs:List (κ×V)}{vs:List (κ×Value)}(r:KV kvs vs)(k:κ):RelO (cY kvs k) (valueAt vs k):=by
 unfold KV at r
 induction r with
 | nil=>exact True.intro
 | @cons p q ps qs h t ih =>
  obtain⟨h1,h2⟩:=h
  by_cases e:p.1=k
  ·have e':q.1=k:=h1.symm.trans e
   have b:valueAt (q::qs) k=some q.2:=by simp[valueAt,aQS,e']
   rw[dC e,b];exact h2
  ·have e':¬ q.1=k:=fun z=>e (h1.trans z)
   have b:valueAt (q::qs) k=valueAt qs k:=by simp[valueAt,aQS,e']
   rw[cU e,b];exact ih
theorem KV.any{kvs:List (κ×V)}{vs:List (κ×Value)}(r:KV kvs vs)(k:κ):(kvs.any fun kv=>decide (kv.1=k))=vs.any fun kv=>decide (kv.1=k):=by
 unfold KV at r
 induction r with
 | nil=>rfl
 | cons h t ih=>rw[aQk,aQk,ih,h.1]
theorem KV.repl{kvs:List (κ×V)}{vs:List (κ×Value)}(r:KV kvs vs)(k:κ){y:V}{u:Value}(ry:RelV y u) :
  KV (kvs.map fun kv=>if kv.1=k then (kv.1,y) else kv) (vs.map fun kv=>if kv.1=k then (kv.1,u) else kv):=by
 unfold KV at r ⊢
 induction r with
 | nil=>exact .nil
 | @cons p q ps qs h t ih =>
  rw[i6,i6]
  refine .cons ?_ ih
  obtain⟨h1,h2⟩:=h
  by_cases e:p.1=k
  ·rw[if_pos e,if_pos (h1.symm.trans e)];exact⟨h1,ry⟩
  ·rw[if_neg e,if_neg (fun z=>e (h1.trans z))];exact⟨h1,h2⟩
theorem KV.put{kvs:List (κ×V)}{vs:List (κ×Value)}(r:KV kvs vs)(k:κ){y:V}{u:Value}(ry:RelV y u):KV (cT kvs k y) (stored vs k u):=by
 unfold cT stored
 rw[r.any k]
 by_cases e:(vs.any fun kv=>decide (kv.1=k))=true
 ·rw[if_pos e,if_pos e];exact r.repl k ry
 ·rw[if_neg e,if_neg e];exact aZQ r ⟨rfl,ry⟩
theorem KV.length{kvs:List (κ×V)}{vs:List (κ×Value)}(r:KV kvs vs):kvs.length=vs.length:=aQ7 r
end
theorem oW{P:Program}{w:World}{k:bX}{u:Value}(r:RelV (kV k) u):(bP P w).is k u=true:=by
 cases k with
 | inl i=>obtain⟨t,e⟩:=(show ∃ t,u=Value.int i t from r);subst e;exact uK P w i t
 | inr x=>obtain⟨t,e⟩:=(show ∃ t,u=Value.str x t from r);subst e;exact uQ P w x t
theorem rC{P:Program}{w:World}:∀ {ks:List bX} {us:List Value},Vals (ks.map kV) us→ItemsAre (bP P w) ks us
 | [],_,r=>by rw[aXX] at r;cases r;exact .nil
 | k::ks,_,r=>by
  rw[i6] at r
  cases r with
  | cons h t=>exact .cons (oW h) (rC t)
abbrev KT(H:Hp):List (List bX×V)→List (List bX×Addr×Value)→Prop:=Paired fun p q=>p.1=q.1∧H q.2.1=some (.tup (p.1.map kV))∧RelV p.2 q.2.2
theorem KT.val{H:Hp}{kvs:List (List bX×V)}{xs:List (List bX×Addr×Value)}(r:KT H kvs xs)(k:List bX):RelO (cY kvs k) ((atKey xs k).map (·.2)):=by
 induction r with
 | nil=>exact True.intro
 | @cons p q ps qs h t ih =>
  obtain⟨h1,_,h2⟩:=h
  by_cases e:p.1=k
  ·have e':q.1=k:=h1.symm.trans e
   have b:atKey (q::qs) k=some q.2:=by simp[atKey,aQS,e']
   rw[dC e,b];exact h2
  ·have e':¬ q.1=k:=fun z=>e (h1.trans z)
   have b:atKey (q::qs) k=atKey qs k:=by simp[atKey,aQS,e']
   rw[cU e,b];exact ih
theorem KT.repl{H:Hp}{kvs:List (List bX×V)}{xs:List (List bX×Addr×Value)}(r:KT H kvs xs)(k:List bX){y:V}{u:Value}(ry:RelV y u) :
  KT H (kvs.map fun kv=>if kv.1=k then (kv.1,y) else kv) (xs.map (putAt k u)):=by
 induction r with
 | nil=>exact .nil
 | @cons p q ps qs h t ih =>
  rw[i6,i6]
  refine .cons ?_ ih
  obtain⟨h1,h2,h3⟩:=h
  unfold putAt
  by_cases e:p.1=k
  ·rw[if_pos e,if_pos (h1.symm.trans e)];exact⟨h1,h2,ry⟩
  ·rw[if_neg e,if_neg (fun z=>e (h1.trans z))];exact⟨h1,h2,h3⟩
theorem KT.put{H:Hp}{kvs:List (List bX×V)}{xs:List (List bX×Addr×Value)}(r:KT H kvs xs)(k:List bX){b:Addr}{y:V}{u:Value}(hb:H b=some (.tup (k.map kV)))(ry:RelV y u) :
  KT H (cT kvs k y) (storedH xs k b u):=by
 have e:(kvs.any fun kv=>decide (kv.1=k))=(atKey xs k).isSome:=by
  rw[iT,(r.val k).isSome_eq,aZL]
 unfold cT storedH
 rw[e]
 by_cases q:(atKey xs k).isSome=true
 ·rw[if_pos q,if_pos q];exact r.repl k ry
 ·rw[if_neg q,if_neg q];exact aZQ r ⟨rfl,hb,ry⟩
theorem KT.keeps{H H':Hp}{kvs:List (List bX×V)}{xs:List (List bX×Addr×Value)}(r:KT H kvs xs)(ht:∀ b ys,H b=some (.tup ys)→H' b=some (.tup ys)):KT H' kvs xs :=
 Paired.mapP r fun _ _ z=>⟨z.1,ht _ _ z.2.1,z.2.2⟩
section
variable {P:Program}{w:World}{H:Hp}{h:Heap}{a:Addr}
theorem DV{u:HO}(ok:HOk P w H h)(e:Rd H a u):ObjOk P w H h a u:=e.ok ok
theorem qX{kvs:List (bX×V)}(ok:HOk P w H h)(e:Rd H a (.dK kvs)):kvs.length≤sizeLine∧(a == sysModules)=false∧∃ vs,KV kvs vs∧h.DictOf (bP P w) a vs :=
 show ObjOk P w H h a (.dK kvs) from DV ok e
theorem uV{kvs:List (bX×V)}(ok:HOk P w H h)(e:H a=some (.dK kvs)):kvs.length≤sizeLine∧(a == sysModules)=false∧∃ vs,KV kvs vs∧h.DictOf (bP P w) a vs:=qX ok (.inl e)
theorem oY{ks:List bX}(ok:HOk P w H h)(e:H a=some (.tup (ks.map kV))):(tupleKind (bP P w)).is h ks a:=by
 obtain⟨_,its,r,⟨o,h1,h2,n,h3⟩,_⟩:=(show ObjOk P w H h a (.tup (ks.map kV)) from ok a _ e)
 exact⟨o,its.toArray,n,h1,h2,h3,by simpa using rC r⟩
theorem pW{kvs:List (List bX×V)}(ok:HOk P w H h)(e:Rd H a (.dT kvs)):kvs.length≤sizeLine∧(a == sysModules)=false ∧
  ∃ xs,KT H kvs xs∧h.DictOfH (tupleKind (bP P w)) a xs:=by
 obtain⟨z,y,xs,r,o,es,ep,h1,h2,h3,h4,h5⟩:=(show ObjOk P w H h a (.dT kvs) from DV ok e)
 refine⟨z,y,xs,r,o,es,ep,h1,h2,h3,h4,fun x hx=>?_,h5⟩
 have all:∀ {l:List (List bX×V)} {m:List (List bX×Addr×Value)},KT H l m→∀ x∈m,(tupleKind (bP P w)).is h x.1 x.2.1:=by
  intro l m q
  induction q with
  | nil=>intro x hx;exact nomatch hx
  | @cons p q ps qs hq t ih =>
   intro x hx
   rcases c6.mp hx with e | hx
   ·subst e
    exact oY ok (by rw[← hq.1];exact hq.2.1)
   ·exact ih x hx
 exact all r x hx
theorem GS{kvs:List (List bX×V)}(ok:HOk P w H h)(e:H a=some (.dT kvs)):kvs.length≤sizeLine∧(a == sysModules)=false ∧
  ∃ xs,KT H kvs xs∧h.DictOfH (tupleKind (bP P w)) a xs:=pW ok (.inl e)
end
def DGet(H:Hp)(a:Addr)(y:V)(r:Option V):Prop :=
 (∃ kvs k,Rd H a (.dK kvs)∧y=kV k∧r=cY kvs k)∨∃ kvs k b,Rd H a (.dT kvs)∧y=.ref b∧H b=some (.tup (k.map kV))∧r=cY kvs k
def DPut(H:Hp)(a:Addr)(y v:V)(H':Hp):Prop :=
 (∃ kvs k,H a=some (.dK kvs)∧y=kV k∧kvs.length<sizeLine∧H'=upd H a (.dK (cT kvs k v))) ∨
 ∃ kvs k b,H a=some (.dT kvs)∧y=.ref b∧H b=some (.tup (k.map kV))∧kvs.length<sizeLine∧H'=upd H a (.dT (cT kvs k v))
theorem DGet.k{H:Hp}{a:Addr}{kvs:List (bX×V)}{k:bX}(e:H a=some (.dK kvs)):DGet H a (kV k) (cY kvs k):=.inl ⟨kvs,k,.inl e,rfl,rfl⟩
theorem DGet.t{H:Hp}{a b:Addr}{kvs:List (List bX×V)}{k:List bX}(e:H a=some (.dT kvs))(eb:H b=some (.tup (k.map kV))):DGet H a (.ref b) (cY kvs k):=.inr ⟨kvs,k,b,.inl e,rfl,eb,rfl⟩
theorem DPut.k{H:Hp}{a:Addr}{kvs:List (bX×V)}{k:bX}{v:V}(e:H a=some (.dK kvs))(hl:kvs.length<sizeLine):DPut H a (kV k) v (upd H a (.dK (cT kvs k v))):=.inl ⟨kvs,k,e,rfl,hl,rfl⟩
theorem DPut.t{H:Hp}{a b:Addr}{kvs:List (List bX×V)}{k:List bX}{v:V}(e:H a=some (.dT kvs))(eb:H b=some (.tup (k.map kV)))(hl:kvs.length<sizeLine) :
  DPut H a (.ref b) v (upd H a (.dT (cT kvs k v))):=.inr ⟨kvs,k,b,e,rfl,eb,hl,rfl⟩
section
variable {X:Cx}{pins:List (Addr×Obj)}{σ:St}{H:Hp}{s:Shared}{a:Addr}{y v:V}{u r:Value}{o:Option V}{A:Around}{E:Value→Shared→Prop}
theorem Inv.big(I:Inv X pins σ H s):sysModules<s.heap.objs.size:=by
 have h:mainGlobals<s.heap.objs.size:=(I.mod.glob.keeps I.bk).lt
 exact Nat.lt_trans (by decide) h
theorem zS{Q:Value→Shared→Prop}(hu:A.units+1<cLine)(I:Inv X pins σ H s)(g:DGet H a y (some v))(ry:RelV y u)(h:∀ w' s',Inv X pins σ H s'→RelV v w'→Q w' s') :
  wpAny (model X.prog X.w) A (getItem (.ref a) u) Q E s:=by
 rcases g with ⟨kvs,k,e,ey,l⟩ | ⟨kvs,k,b,e,ey,eb,l⟩
 ·subst ey
  obtain⟨z,hd,vs,rel,dd⟩:=qX I.hok e
  obtain⟨w',hw,rw'⟩:=RelO.some_of (v:=v) (o:=valueAt vs k) (by rw[l];exact rel.val k)
  exact wpAny_getItem_of (oW ry) dd.mapOf hw (h w' _ (I.tok _) rw')
 ·subst ey
  cases (show u=Value.ref b from ry)
  obtain⟨z,hd,xs,rel,dd⟩:=pW I.hok e
  obtain⟨w',hw,rw'⟩:=RelO.some_of (v:=v) (o:=(atKey xs k).map (·.2)) (by rw[l];exact rel.val k)
  obtain⟨p,hp,hp2⟩:=d8.mp hw
  refine wpAny_getItem_heap (tupleKind_room_in1 hu) (oY I.hok eb) dd hp ?_
  rw[hp2]
  exact h w' _ (I.tok _) rw'
theorem Dx{Q:Value→Shared→Prop}(hu:A.units+1<cLine)(I:Inv X pins σ H s)(g:DGet H a y o)(ry:RelV y u)(h:∀ s',Inv X pins σ H s'→Q (.bool (!o.isSome)) s') :
  wpAny (model X.prog X.w) A (compareOp .NotIn u (.ref a)) Q E s:=by
 rcases g with ⟨kvs,k,e,ey,l⟩ | ⟨kvs,k,b,e,ey,eb,l⟩
 ·subst ey
  obtain⟨z,hd,vs,rel,dd⟩:=qX I.hok e
  refine wpAny_notIn_of (oW ry) hd dd.mapOf ?_
  rw[← (rel.val k).isSome_eq,← l]
  exact h _ (I.tok _)
 ·subst ey
  cases (show u=Value.ref b from ry)
  obtain⟨z,hd,xs,rel,dd⟩:=pW I.hok e
  refine wpAny_notIn_heap (tupleKind_room_in1 hu) (oY I.hok eb) hd dd ?_
  have q:=(rel.val k).isSome_eq
  rw[aZL] at q
  rw[← q,← l]
  exact h _ (I.tok _)
theorem mZ{h':Heap}{t':Nat}{ob:HO}(I:Inv X pins σ H s)(mu:Gn (H a))(hs:Heap.SameBut a s.heap h')(he:∃ q,h'.get? a=some q)(new:ObjOk X.prog X.w (upd H a ob) h' a ob) :
  Inv X pins σ (upd H a ob) { s with heap:=h',toks:=t' } :=
 I.write (x:=a) (e:=a) mu (.inl rfl) (fun b q hb z=>(hs.2 b hb).trans z) he new
theorem wL{P:Program}{w:World}{H':Hp}{h':Heap}{kvs:List (bX×V)}{vs:List (bX×Value)}(z:kvs.length≤sizeLine)(hd:(a == sysModules)=false)(rel:KV kvs vs)(dd:h'.DictOf (bP P w) a vs) :
  ObjOk P w H' h' a (.dK kvs):=⟨z,hd,vs,rel,dd⟩
theorem AK{H':Hp}{Q:Unit→Shared→Prop}(hu:A.units+1<cLine)(I:Inv X pins σ H s)(g:DPut H a y v H')(ry:RelV y u)(rv:RelV v r)(h:∀ s',Inv X pins σ H' s'→Q () s') :
  wpAny (model X.prog X.w) A (setItem (.ref a) u r) Q E s:=by
 rcases g with ⟨kvs,k,e,ey,l,eH⟩ | ⟨kvs,k,b,e,ey,eb,l,eH⟩
 ·subst ey eH
  obtain⟨z,hd,vs,rel,dd⟩:=uV I.hok e
  have hz:vs.length≤sizeLine:=by rw[← rel.length];exact z
  have hl:(cT kvs k v).length≤sizeLine:=by have:=dM kvs k v;omega
  refine wpAny_setItem_pairs (hsz:=hz) (oW ry) dd fun h' dd' hs=>h _ ?_
  have he:∃ q,h'.get? a=some q:=let ⟨q,_,_,hq,_⟩:=dd';⟨q,hq⟩
  exact mZ I (by rw[e];exact True.intro) hs he (wL hl hd (rel.put k rv) dd')
 ·subst ey eH
  cases (show u=Value.ref b from ry)
  obtain⟨z,hd,xs,rel,dd⟩:=GS I.hok e
  have hz:xs.length≤sizeLine:=by rw[← aQ7 rel];exact z
  have hl:(cT kvs k v).length≤sizeLine:=by have:=dM kvs k v;omega
  refine wpAny_setItem_heap (hsz:=hz) (tupleKind_room_in1 hu) (oY I.hok eb) dd fun h' dd' hs=>h _ ?_
  obtain⟨q,es,ep,hq,h2,h3,h4,_,h5⟩:=dd'
  refine mZ I (by rw[e];exact True.intro) hs ⟨q,hq⟩ ⟨hl,hd,_,(rel.put k eb rv).keeps fun c ys ec=>?_,q,es,ep,hq,h2,h3,h4,h5⟩
  rw[aE (cC ec e (fun z=>nomatch z))]
  exact ec
end
def GR(i:Expr):Prop:=∀ ov iv,subscripted i false ov iv=operate [ov,iv] (getItem ov iv)
theorem Dp{prog:Program}{w:World}{A:Around}{E:Value→Shared→Prop}{s:Shared}{env:Env}{value slice:Expr}{pos:Pos}{T id:String}{Q:Value→Shared→Prop}
  (hl:typeLookup (.type T) "__getitem__"=pure (some (.builtin id))) (hs:GR slice)
  (h:wpAny (model prog w) A (eval value env) (fun o s₁=>wpAny (model prog w) A (eval slice env) (fun i s₂=>s₂.TypeIs o T∧wpAny (model prog w) A (getItem o i) Q E s₂) E s₁) E s) :
  wpAny (model prog w) A (eval (.Subscript value slice pos) env) Q E s:=by
 refine Subscript_ (wpAny_mono h (fun o s₁ h₁=>wpAny_mono h₁ (fun i s₂ h₂=>?_) fun _ _ x=>x) fun _ _ x=>x)
 obtain⟨hT,h₂⟩:=h₂
 unfold subscriptTail
 refine wpAny_bind ?_
 rw[getitemInPython_of_ne hT.not_modules]
 refine wpAny_bind (wpAny_specialOf hT hl ?_)
 have fin:wpAny (model prog w) A (subscripted slice false o i) (fun r s₃=>wpAny (model prog w) A (letTemporaryGo value o r >>= fun _=>pure r) Q E s₃) E s₂:=by
  rw[hs o i]
  exact wpAny_operating (wpAny_mono h₂ (fun r s₃ h₃=>wpAny_bind (wpAny_letTemporaryGo (wpAny_pure h₃))) fun _ _ x=>x)
 first
  | exact wpAny_pure (wpAny_bind fin)
  | exact wpAny_bind (wpAny_pure (wpAny_bind fin))
  | exact wpAny_bind fin
theorem vH{X:Cx}{pins:List (Addr×Obj)}{σ:St}{H:Hp}{s:Shared}{a:Addr}{y:V}{o:Option V}(I:Inv X pins σ H s)(g:DGet H a y o):s.TypeIs (.ref a) "dict":=by
 rcases g with ⟨kvs,k,e,_,_⟩ | ⟨kvs,k,b,e,_,_,_⟩
 ·obtain⟨_,_,vs,_,dd⟩:=qX I.hok e
  exact dd.typeIs
 ·obtain⟨_,_,xs,_,dd⟩:=pW I.hok e
  exact dd.typeIs
def Ga(td ty:TE):TE:=fun σ H Q=>td σ H fun x H1=>ty σ H1 fun y H2=>∃ a v,x=.ref a∧DGet H2 a y (some v)∧Q v H2
def rP(ty td:TE):TE:=fun σ H Q=>ty σ H fun y H1=>td σ H1 fun x H2=>∃ a o,x=.ref a∧DGet H2 a y o∧Q (.bl (!o.isSome)) H2
def Gh(td ty tv:TE):TS:=fun D σ H=>tv σ H fun v H1=>td σ H1 fun x H2=>ty σ H2 fun y H3=>∃ a H4,x=.ref a∧DPut H3 a y v H4∧D.nx σ H4
section
variable {X:Cx}{o i e value:Expr}{pos pos' tpos:Pos}{td ty tv:TE}
theorem nE(hu:X.A.units+1<cLine)(ho:PE X o td)(hi:PE X i ty)(hs:GR i):PE X (.Subscript o i pos) (Ga td ty):=by
 intro pins s σ H Q I h
 refine Dp PySem.F.slot_dict_getitem.lookup hs (bV (ho pins s σ H _ I h) fun u s1 ⟨x,H1,I1,rx,q1⟩=>bV (hi pins s1 σ H1 _ I1 q1) fun iv s2 ⟨y,H2,I2,ry,a,v,ex,g,q2⟩=>?_)
 subst ex
 obtain rfl:u=Value.ref a:=rx
 exact⟨vH I2 g,zS hu I2 g ry fun w' s3 I3 rw'=>⟨v,H2,I3,rw',q2⟩⟩
theorem qO(hu:X.A.units+1<cLine)(hi:PE X i ty)(ho:PE X o td):PC X .NotIn i o (rP ty td):=by
 intro pins s σ H Q I h
 refine bV (hi pins s σ H _ I h) fun iv s1 ⟨y,H1,I1,ry,q1⟩=>bV (ho pins s1 σ H1 _ I1 q1) fun u s2 ⟨x,H2,I2,rx,a,ov,ex,g,q2⟩=>?_
 subst ex
 obtain rfl:u=Value.ref a:=rx
 exact Dx hu I2 g ry fun s3 I3=>⟨.bl (!ov.isSome),H2,I3,rfl,q2⟩
theorem nF(hu:X.A.units+1<cLine)(ho:PE X o td)(hi:PE X i ty)(hv:PE X value tv)(hs:swapsWith value (some (.Subscript o i pos')) pos.line X.env=pure false) :
  PS X (.Assign [.Subscript o i pos'] value pos) (Gh td ty tv):=by
 intro pins s σ H D I h
 refine wpAny_Assign_Subscript (bV (hv pins s σ H _ I h) fun r s1 ⟨v,H1,I1,rv,q1⟩=>bV (ho pins s1 σ H1 _ I1 q1) fun u s2 ⟨x,H2,I2,rx,q2⟩=>bV (hi pins s2 σ H2 _ I2 q2) fun iv s3 ⟨y,H3,I3,ry,a,H4,ex,g,q3⟩=>?_) hs
 subst ex
 obtain rfl:u=Value.ref a:=rx
 exact AK hu I3 g ry rv fun s4 I4=>⟨σ,H4,I4,q3⟩
end
theorem tP{P:Program}{w:World}{H:Hp}(h:Heap)(hb:sysModules<h.objs.size):ObjOk P w H (h.push { cls:=.type "dict",data:=.dict #[] }) h.objs.size (.dK []) :=
 ⟨j9 _,beq_eq_false_iff_ne.mpr (y7 (g6 hb)),[],.nil,aJS h⟩
theorem B4{P:Program}{w:World}{H:Hp}(h:Heap)(hb:sysModules<h.objs.size):ObjOk P w H (h.push { cls:=.type "dict",data:=.dict #[] }) h.objs.size (.dT []) :=
 ⟨j9 _,beq_eq_false_iff_ne.mpr (y7 (g6 hb)),[],.nil,_,#[],0,d3 _ rfl,⟨rfl,rfl,rfl⟩,rfl,rfl,List.nodup_nil⟩
def Ec:TE:=fun _ H Q=>∀ p,H p=none→Q (.ref p) (upd H p (.dK []))
def FF:TE:=fun _ H Q=>∀ p,H p=none→Q (.ref p) (upd H p (.dT []))
section
variable {X:Cx}{pos:Pos}
theorem tJ:PE X (.Dict [] [] pos) Ec:=fun pins s σ H Q I h =>
 wpAny_Dict_empty ⟨.ref s.heap.objs.size,_,I.laid (a:=s.heap.objs.size) (o:=.dK []) (t':=s.toks) (fun _ _ q=>b6 _ q) (b9 _) (tP s.heap I.big),rfl,h _ (I.hok.fresh (b9 _))⟩
theorem BJ:PE X (.Dict [] [] pos) FF:=fun pins s σ H Q I h =>
 wpAny_Dict_empty ⟨.ref s.heap.objs.size,_,I.laid (a:=s.heap.objs.size) (o:=.dT []) (t':=s.toks) (fun _ _ q=>b6 _ q) (b9 _) (B4 s.heap I.big),rfl,h _ (I.hok.fresh (b9 _))⟩
end
def vN:List (TE×TE)→St→Hp→(List (V×V)→Hp→Prop)→Prop
 | [],_,H,Q=>Q [] H
 | (tk,tv)::r,σ,H,Q=>tk σ H fun x H1=>tv σ H1 fun y H2=>vN r σ H2 fun ps H3=>Q ((x,y)::ps) H3
abbrev VV:List (V×V)→List (Value×Value)→Prop:=Paired fun p q=>RelV p.1 q.1∧RelV p.2 q.2
def HY(X:Cx)(pos:Pos)(keys:List (Option Expr))(values:List Expr)(trs:List (TE×TE)):Prop :=
 ∀ (pins:List (Addr×Obj)) (s:Shared) (σ:St) (H:Hp) (Q:List (V×V)→Hp→Prop),Inv X pins σ H s→vN trs σ H Q →
  wpAny (model X.prog X.w) X.A (evalPairs (pairTrees keys values X.env pos)) (fun vs s'=>∃ ps H',Inv X pins σ H' s'∧VV ps vs∧Q ps H') X.xe s
theorem zJ{X:Cx}{pos:Pos}:HY X pos [] [] []:=fun pins s σ H Q I h=>pairTrees_nil_walk ⟨[],H,I,.nil,h⟩
theorem tF{X:Cx}{pos:Pos}{k v:Expr}{ks:List (Option Expr)}{vs:List Expr}{tk tv:TE}{trs:List (TE×TE)}(hk:PE X k tk)(hv:PE X v tv)(hr:HY X pos ks vs trs) :
  HY X pos (some k::ks) (v::vs) ((tk,tv)::trs):=fun pins s σ H Q I h =>
 pairTrees_cons_walk (bV (hk pins s σ H _ I h) fun u s1 ⟨x,H1,I1,rx,q1⟩=>bV (hv pins s1 σ H1 _ I1 q1) fun w2 s2 ⟨y,H2,I2,ry,q2⟩ =>
  bV (hr pins s2 σ H2 _ I2 q2) fun ws s3 ⟨ps,H3,I3,rel,q3⟩=>⟨(x,y)::ps,H3,I3,.cons ⟨rx,ry⟩ rel,q3⟩)
def oU(kvs more:List (bX×V)):List (bX×V):=more.foldl (fun acc kv=>cT acc kv.1 kv.2) kvs
theorem KV.merge:∀ {more:List (bX×V)} {rs:List (bX×Value)} {kvs:List (bX×V)} {vs:List (bX×Value)},KV more rs→KV kvs vs→KV (oU kvs more) (merged vs rs):=by
 intro more rs kvs vs r
 unfold KV at r
 induction r generalizing kvs vs with
 | nil=>intro q;exact q
 | @cons p q ps qs h t ih =>
  intro r0
  have e:KV (cT kvs p.1 p.2) (stored vs q.1 q.2):=by
   have:=r0.put p.1 h.2
   rw[← h.1];exact this
  exact ih e
theorem jO:∀ (more kvs:List (bX×V)),(oU kvs more).length≤kvs.length+more.length
 | [],kvs=>by show kvs.length≤kvs.length+0;omega
 | p::r,kvs=>by
  have h1:=jO r (cT kvs p.1 p.2)
  have h2:=dM kvs p.1 p.2
  show (oU (cT kvs p.1 p.2) r).length≤_
  rw[j1];omega
theorem nT{P:Program}{w:World}:∀ {kvs:List (bX×V)} {ws:List (Value×Value)},VV (kvs.map fun kv=>(kV kv.1,kv.2)) ws→∃ rs,Carries (bP P w) ws rs∧KV kvs rs
 | [],_,r=>by rw[aXX] at r;cases r;exact⟨[],True.intro,.nil⟩
 | p::kvs,_,r=>by
  rw[i6] at r
  cases r with
  | @cons a b as bs h t =>
   obtain⟨rs,c,q⟩:=nT (P:=P) (w:=w) t
   obtain⟨b1,b2⟩:=b
   exact⟨(p.1,b2)::rs,⟨oW h.1,rfl,c⟩,.cons ⟨rfl,h.2⟩ q⟩
def HL(trs:List (TE×TE)):TE:=fun σ H Q=>∀ p,H p=none→vN trs σ (upd H p (.dK [])) fun ps H2=>H2 p=some (.dK [])∧∃ kvs:List (bX×V),ps=kvs.map (fun kv=>(kV kv.1,kv.2))∧kvs.length≤15∧Q (.ref p) (upd H2 p (.dK (oU [] kvs)))
theorem xN{X:Cx}{pos:Pos}{keys:List (Option Expr)}{values:List Expr}{trs:List (TE×TE)}(h:HY X pos keys values trs)(hall:keys.all (·.isSome)=true)(hl:keys.length=values.length)(h0:keys≠[])
  (h15:keys.length≤15):PE X (.Dict keys values pos) (HL trs):=by
 intro pins s σ H Q I q
 have hn:=I.hok.fresh (b9 s.heap.objs.size)
 have I1:=I.laid (a:=s.heap.objs.size) (o:=.dK []) (h':=s.heap.push { cls:=.type "dict",data:=.dict #[] }) (t':=s.toks) (fun _ _ q=>b6 _ q) (b9 _) (tP s.heap I.big)
 refine wpAny_Dict_walk (knd:=bP X.prog X.w) hall hl h0 h15 (bV (h pins _ σ _ _ I1 (q _ hn)) fun ws s2 ⟨ps,H2,I2,rel,e,kvs,ep,lk,q2⟩=>?_)
 subst ep
 obtain⟨rs,c,rk⟩:=nT (P:=X.prog) (w:=X.w) rel
 obtain⟨z,hd,vs0,r0,dd⟩:=uV I2.hok e
 cases r0
 refine⟨rs,c,dd,fun h' dd' hs=>⟨.ref s.heap.objs.size,_,?_,rfl,q2⟩⟩
 have hz:(oU [] kvs).length≤sizeLine:=by
  have h1:=jO kvs []
  rw[aZ6] at h1
  rw[sizeLine_eq];omega
 have he:∃ q,h'.get? s.heap.objs.size=some q:=let ⟨q,_,_,hq,_⟩:=dd';⟨q,hq⟩
 exact mZ I2 (by rw[e];exact True.intro) hs he (wL hz hd (rk.merge .nil) dd')
structure M1(X:Cx)(o:Expr)(m:Str)(apos:Pos)(e:Expr)(cpos:Pos):Prop where
 base:attributeBase o m X.env (eval o X.env)=eval o X.env
 few:((backTo cpos (starEach [e] X.env)).all (fun x=>!x.1) && (backToKw cpos (keywordEach [] X.env)).all (fun x=>x.1.isSome)
  && decide (([e]:List Expr).length+([]:List Keyword).length+(if ([]:List Keyword).isEmpty then 0 else 1)<30))=true
 line:(apos.endLine == cpos.line)=true
 trees:backTo cpos (starEach [e] X.env)=[(false,eval e X.env)]
structure M2(X:Cx)(o:Expr)(m:Str)(apos:Pos)(e f:Expr)(cpos:Pos):Prop where
 base:attributeBase o m X.env (eval o X.env)=eval o X.env
 few:((backTo cpos (starEach [e,f] X.env)).all (fun x=>!x.1) && (backToKw cpos (keywordEach [] X.env)).all (fun x=>x.1.isSome)
  && decide (([e,f]:List Expr).length+([]:List Keyword).length+(if ([]:List Keyword).isEmpty then 0 else 1)<30))=true
 line:(apos.endLine == cpos.line)=true
 trees:backTo cpos (starEach [e,f] X.env)=[(false,eval e X.env),(false,eval f X.env)]
def ID(H:Hp)(a:Addr):Prop:=(∃ kvs,Rd H a (.dK kvs))∨∃ kvs,Rd H a (.dT kvs)
theorem Bk{X:Cx}{pins:List (Addr×Obj)}{σ:St}{H:Hp}{s:Shared}{a:Addr}(I:Inv X pins σ H s)(d:ID H a) :
  s.TypeIs (.ref a) "dict"∧(∀ b,Value.ref a=.ref b→∃ ob,s.heap.get? b=some ob∧ob.dict=none)∧(a == sysModules)=false:=by
 rcases d with ⟨kvs,e⟩ | ⟨kvs,e⟩
 ·obtain⟨_,hd,vs,_,dd⟩:=qX I.hok e
  refine⟨dd.typeIs,fun b q=>?_,hd⟩
  cases q
  obtain⟨ob,_,_,h1,h2,_⟩:=dd
  exact⟨ob,h1,h2.2.1⟩
 ·obtain⟨_,hd,xs,_,dd⟩:=pW I.hok e
  refine⟨dd.typeIs,fun b q=>?_,hd⟩
  cases q
  obtain⟨ob,_,_,h1,h2,_⟩:=dd
  exact⟨ob,h1,h2.2.1⟩
section
variable {X:Cx}{pins:List (Addr×Obj)}{σ:St}{H:Hp}{s:Shared}{a:Addr}{y d:V}{u r:Value}{o:Option V}{A:Around}{E:Value→Shared→Prop}
theorem FL{Q:Value→Shared→Prop}(hu:A.units+1<cLine)(I:Inv X pins σ H s)(g:DGet H a y o)(ry:RelV y u)(h:∀ w' s',Inv X pins σ H s'→RelV (o.getD .non) w'→Q w' s') :
  wpAny (model X.prog X.w) A (call (.builtin "dict.get") [.ref a,u]) Q E s:=by
 rcases g with ⟨kvs,k,e,ey,l⟩ | ⟨kvs,k,b,e,ey,eb,l⟩
 ·subst ey
  obtain⟨z,hd,vs,rel,dd⟩:=qX I.hok e
  refine call_meetsIn aQq dd.typeIs aXd (aX4 _ _) (meets_dict_get (bP X.prog X.w) a (oW ry) hd) ⟨_,dd.mapOf,h _ _ (I.tok _) ?_⟩
  rw[l]
  exact(rel.val k).getD rfl
 ·subst ey
  cases (show u=Value.ref b from ry)
  obtain⟨z,hd,xs,rel,dd⟩:=pW I.hok e
  refine call_meetsIn aQq dd.typeIs aXd (aX4 _ _) (meetsH_dict_get (tupleKind (bP X.prog X.w)) a b hd) ⟨tupleKind_room_in1 hu,k,xs,oY I.hok eb,dd,h _ _ (I.tok _) ?_⟩
  rw[l]
  exact(rel.val k).getD rfl
end
def Fg(td ty:TE):TE:=fun σ H Q=>td σ H fun x H1=>∃ a,x=.ref a∧ID H1 a∧ty σ H1 fun y H2=>∃ o,DGet H2 a y o∧Q (o.getD .non) H2
section
variable {X:Cx}{o e f:Expr}{apos cpos:Pos}{td ty tx:TE}
theorem tV(hu:X.A.units+1<cLine)(ho:PE X o td)(he:PE X e ty)(m:M1 X o "get" apos e cpos):PE X (.Call (.Attribute o "get" apos) [e] [] cpos) (Fg td ty):=by
 intro pins s σ H Q I h
 refine wpAny_Call_method m.base m.few m.line aQe aQq PySem.F.type_dict_get (bV (ho pins s σ H _ I h) fun u s1 ⟨x,H1,I1,rx,a,ex,d,q1⟩=>?_)
 subst ex
 obtain rfl:u=Value.ref a:=rx
 obtain⟨t1,t2,_⟩:=Bk I1 d
 refine⟨t1,t2,?_⟩
 rw[m.trees]
 refine aQC rfl (aQt (aQ9 (bV (he pins s1 σ H1 _ I1 q1) fun iv s2 ⟨y,H2,I2,ry,ov,g,q2⟩=>aXQ ?_)))
 exact FL hu I2 g ry fun w' s3 I3 rw'=>⟨_,H2,I3,rw',q2⟩
end
def qQ(xs:List V)(f:Nat→Nat)(l:List Nat):List V:=l.filterMap fun m=>xs[f m]?
theorem oN{xs:List V}{us:List Value}(r:Vals xs us)(f:Nat→Nat):∀ l:List Nat,Vals (qQ xs f l) (l.filterMap fun m=>us[f m]?)
 | []=>.nil
 | m::l=>by
  have ih:=oN r f l
  unfold qQ at *
  rw[aQO,aQO]
  cases hx:xs[f m]? with
  | none =>
   have:us[f m]?=none:=by
    have h1:=r.length
    have h2:=aXT.mp hx
    exact aQD (by omega)
   rw[this]
   exact ih
  | some x =>
   obtain⟨u,hu,ru⟩:=r.get hx
   rw[hu]
   exact .cons ru ih
theorem Az(xs:List V)(f:Nat→Nat)(l:List Nat):(qQ xs f l).length≤l.length:=aX1 _ _
section
variable {prog:Program}{w:World}{A:Around}{E:Value→Shared→Prop}{s:Shared}
theorem tZ{sl:Addr}{vu vk:Value}{j n:Nat}{Q:Int×Int×Nat→Shared→Prop}(hs:s.heap.IsSliceOf sl .none vu vk)(pu:IsPart vu (some (j:Int)))(pk:IsPart vk (some 2))(hj:j≤n)
  (h:Q (0,2,(j+1) / 2) s):wpAny (model prog w) A (Builtin.Slice.sliceApplied (.ref sl) (pure (n:Int))) Q E s:=by
 obtain⟨os,hos,hcs,hds⟩:=id hs
 unfold Builtin.Slice.sliceApplied Builtin.Slice.sliceFields
 refine wpAny_bind (wpAny_bind (wpAny_field hos hds (x:=.none) rfl (wpAny_bind (wpAny_field hos hds (x:=vu) rfl (wpAny_bind (wpAny_field hos hds (x:=vk) rfl (wpAny_pure ?_)))))))
 refine wpAny_bind (HT.slicePart_ pk ?_)
 show wpAny _ _ (if ((2:Int) == 0)=true then _ else _) _ _ s
 rw[if_neg (by decide)]
 refine wpAny_bind (HT.slicePart_ .none (wpAny_bind (HT.slicePart_ pu (wpAny_bind (wpAny_pure ?_)))))
 show wpAny _ _ (match Builtin.Slice.sliceAdjust none (some (j:Int)) 2 (n:Int) with | (lo,hi)=>pure (lo,(2:Int),Builtin.Slice.slicePlaces lo hi 2)) _ _ s
 have e1:Builtin.Slice.sliceAdjust none (some (j:Int)) 2 (n:Int)=(0,(j:Int)):=by
  unfold Builtin.Slice.sliceAdjust
  have h1:¬ ((2:Int)<0):=by omega
  have h2:¬ ((j:Int)<0):=by omega
  simp only [if_neg h1,if_neg h2]
  congr 1
  omega
 rw[e1]
 show wpAny _ _ (pure ((0:Int),(2:Int),Builtin.Slice.slicePlaces 0 (j:Int) 2)) _ _ s
 have e2:Builtin.Slice.slicePlaces 0 (j:Int) 2=(j+1) / 2:=by
  unfold Builtin.Slice.slicePlaces
  rw[if_pos (by omega)]
  split <;> omega
 rw[e2]
 exact wpAny_pure h
theorem BL{t sl:Addr}{items:Array Value}{vu vk:Value}{j:Nat}{Q:Value→Shared→Prop}(ht:IsTup s.heap t items)(hs:s.heap.IsSliceOf sl .none vu vk)(pu:IsPart vu (some (j:Int)))(pk:IsPart vk (some 2))(hj:j≤items.size)
  (h:Q (.ref s.heap.objs.size) { s with heap:=s.heap.push { cls:=.type "tuple",data:=.seq ((List.range ((j+1) / 2)).filterMap fun m=>items.toList[2 * m]?).toArray } })
  (hsz:items.size≤sizeLine):wpAny (model prog w) A (getItem (.ref t) (.ref sl)) Q E s:=by
 have htake:sizeOk (.seq ((List.range ((j+1) / 2)).filterMap fun m=>items.toList[2 * m]?).toArray):=by
  show ((List.range ((j+1) / 2)).filterMap fun m=>items.toList[2 * m]?).toArray.size≤sizeLine
  rw[c0]
  refine k8 (aX1 _ _) ?_
  rw[y9]
  omega
 obtain⟨os,hos,hcs,hds⟩:=id hs
 have hTs:s.TypeIs (.ref sl) "slice":=⟨os,hos,hcs⟩
 unfold getItem
 try with_reducible refine wpAny_holding ?_
 first | refine wpAny_bind (wpAny_pure ?_) | skip
 refine wpAny_bind (wpAny_sequenceKey ht.typeIs (by decide) ?_)
 refine wpAny_bind (wpAny_callSpecial?_slot (name:=Str.ofString "__getitem__") ht.typeIs m7
  (wpAny_call_entry m7 ht.typeIs entry_tuple_getitem ?_ (args_tuple_getitem _ _)))
 show wpAny _ _ (Builtin.Tuple.tupleItemsOf (.ref t) >>= _) _ _ s
 refine wpAny_bind (tupleItemsOf_ ht ?_)
 refine wpAny_bind (wpAny_typeOf hTs ?_)
 rw[if_pos (by decide)]
 refine wpAny_bind (tZ hs pu pk hj ?_)
 show wpAny _ _ (if ((0:Int) == 0 && (2:Int) == 1 && ((j+1) / 2) == items.size)=true then _ else _) _ _ s
 rw[if_neg (by simp)]
 have e:(fun (m:Nat)=>items[((0:Int)+(m:Int) * 2).toNat]?)=fun m=>items.toList[2 * m]?:=by
  funext m
  have:((0:Int)+(m:Int) * 2).toNat=2 * m:=by omega
  rw[this]
  simp
 rw[e]
 first
  | exact wpAny_bind (m:=Builtin.Tuple.tupleExact _) (wpAny_newObj_type (wpAny_pure ⟨_,rfl,wpAny_pure h⟩) htake)
  | exact wpAny_bind (m:=Builtin.Tuple.tupleExact _) (wpAny_newObj_type (wpAny_bind (wpAny_pure (wpAny_pure ⟨_,rfl,wpAny_pure h⟩))) htake)
  | exact wpAny_bind (wpAny_bind (m:=Builtin.Tuple.tupleExact _) (wpAny_newObj_type (wpAny_pure (wpAny_pure ⟨_,rfl,wpAny_pure h⟩)) htake))
  | exact wpAny_bind (wpAny_bind (m:=Builtin.Tuple.tupleExact _) (wpAny_newObj_type (wpAny_pure ⟨_,rfl,wpAny_pure h⟩) htake))
end
def Ir(K:b5):V→Option Int→Option Int→Option Int→Hp→VK→Prop:=fun x lo hi st H Q=>∃ (a:Addr) (xs:List V) (j:Nat),x=.ref a∧SqT K H a xs∧lo=none∧hi=some (j:Int)∧st=some 2∧j≤xs.length∧∀ p,H p=none→Q (.ref p) (upd H p (.tup (qQ xs (2 * ·) (List.range ((j+1) / 2)))))
theorem Cy{X:Cx}{K:b5}(hK:X.K=K):GK X (Ir K):=by
 subst hK
 intro pins s σ H x v vl vu vk lo hi st sl Q I rx hs pl pu pk h
 obtain⟨a,xs,j,rfl,hx,rfl,rfl,rfl,hj,q⟩:=h
 cases rx
 cases pl
 obtain⟨its,r,ht,hz⟩:=I.tuple hx
 have hlen:=r.length
 refine⟨"tuple",_,m7.lookup,ht.typeIs,?_⟩
 refine BL ht hs pu pk (by rw[c0];omega) ?_ (by rw[c0];omega)
 have rv:=oN r (2 * ·) (List.range ((j+1) / 2))
 have pl:=Az xs (2 * ·) (List.range ((j+1) / 2))
 rw[y9] at pl
 refine⟨.ref s.heap.objs.size,_,I.laid (t':=s.toks) (o:=.tup (qQ xs (2 * ·) (List.range ((j+1) / 2)))) (fun b ob q=>b6 _ q) (b9 _) ?_,rfl,q _ (I.hok.fresh (b9 _))⟩
 refine⟨by omega,_,rv,?_⟩
 exact⟨aXJ _ _,NoD.new _ _⟩
theorem oZ:∀ (n:Nat) (w:List Nat) (l:List Value),w.length=n→l.length=n→(∀ (j:Nat) (v:Value),l[j]?=some v→∃ (c:Nat) (u:Tok),w[j]?=some c∧v=Value.str ⟨#[c]⟩ u)→Vals (w.map fun c=>V.str (S [c])) l
 | 0,w,l,h1,h2,_=>by
  have e1:=p8.mp h1
  have e2:=p8.mp h2
  subst e1 e2
  exact .nil
 | n+1,[],l,h1,_,_=>by simp at h1
 | n+1,c::w,[],_,h2,_=>by simp at h2
 | n+1,c::w,v::l,h1,h2,h3=>by
  obtain⟨c',u,hc',rfl⟩:=h3 0 v rfl
  obtain rfl:c=c':=by simpa using hc'
  exact .cons ⟨u,rfl⟩ (oZ n w l (by simpa using h1) (by simpa using h2) fun j v hv=>by simpa using h3 (j+1) v (by simpa using hv))
theorem pI{X:Cx}(hc:X.calm=true):fC X (.type "tuple") (fun xs H Q=>∃ w:List Nat,xs=[.str (S w)]∧w.length≤1000∧∀ l,H l=none→Q (.ref l) (upd H l (.tup (w.map fun c=>V.str (S [c]))))):=by
 intro pins s σ H xs us Q I r h
 obtain⟨w,rfl,hz,q⟩:=h
 obtain⟨u,rfl,ru⟩:=r.one
 obtain⟨t,rfl⟩:=ru
 have hz2:w.length≤sizeLine:=aQX (aR hz)
 refine call_tuple_str (I.ok.hd hc) (S w) t (fun h' tk acc hk hit=>?_) (by simpa using hz2)
 have hn:acc.size=w.length:=by simpa using hit.1
 have hv:Vals (w.map fun c=>V.str (S [c])) acc.toList:=oZ w.length w acc.toList rfl (by simpa using hn) fun j v hv=>by
  obtain⟨c,u,hc,hv'⟩:=hit.2 j v (by simpa using hv)
  exact⟨c,u,by simpa using hc,hv'⟩
 have I1:Inv X pins σ H { s with heap:=h',toks:=tk }:=I.kept hk
 refine⟨.ref h'.objs.size,_,I1.laid (t':=tk) (o:=.tup (w.map fun c=>V.str (S [c]))) (fun b o e=>b6 _ e) (b9 _) ⟨by rw[b7];exact hz2,acc.toList,hv,?_⟩,rfl,q _ (I1.hok.fresh (b9 _))⟩
 have:=aXJ h' acc
 exact⟨by simpa using this,NoD.new _ _⟩
end L2
namespace Lw
open PySem PySem.Spec PyProof.Rows L2 Ma MaR
def bE(rs:List (List Nat)):List V:=rs.map fun x=>V.str (S x)
theorem aM(rs:List (List Nat)):(bE rs).length=rs.length:=by unfold bE;rw[b7]
theorem dP{rs:List (List Nat)}{i:Nat}{v:V}(h:(bE rs)[i]?=some v):∃ x,rs[i]?=some x∧v=.str (S x):=by
 unfold bE at h
 rw[c7] at h
 cases hq:rs[i]? with
 | none=>rw[hq] at h;cases h
 | some x=>rw[hq] at h;exact⟨x,rfl,(d6 h).symm⟩
theorem eU{rs:List (List Nat)}{i:Nat}{x:List Nat}(h:rs[i]?=some x):(bE rs)[i]?=some (.str (S x)):=by unfold bE;rw[c7,h];rfl
structure RT(rs:List (List Nat))(n M:Nat):Prop where
 len:rs.length=n
 all:∀ x∈rs,AllL x
 le:∀ x∈rs,x.length≤M
def eV(rs:List (List Nat))(c:Nat):List Nat:=if bO c=true then rs.getD (c - 97) [] else back (rs.getD (c - 65) [])
def dL(rs:List (List Nat))(w:List Nat):List Nat:=w.flatMap (eV rs)
def fK(rs:List (List Nat))(w:List Nat):List Nat:=lay (dL rs w)
theorem lD{rs:List (List Nat)}{P:List Nat→Prop}(h0:P [])(h:∀ x∈rs,P x)(i:Nat):P (rs.getD i []):=by
 rw[c9]
 cases hq:rs[i]? with
 | none=>exact h0
 | some x=>exact h x (b0 hq)
section
variable {rs:List (List Nat)}{n M:Nat}
theorem RT.getA(r:RT rs n M)(i:Nat):AllL (rs.getD i []):=lD AllL.nil r.all i
theorem RT.getL(r:RT rs n M)(i:Nat):(rs.getD i []).length≤M:=lD (P:=fun x=>x.length≤M) (j9 _) r.le i
theorem kC(r:RT rs n M)(c:Nat):AllL (eV rs c):=by
 unfold eV
 split
 ·exact r.getA _
 ·exact aO (r.getA _)
theorem uJ(r:RT rs n M)(c:Nat):(eV rs c).length≤M:=by
 unfold eV
 split
 ·exact r.getL _
 ·rw[bW];exact r.getL _
theorem uZ(r:RT rs n M){c:Nat}(h:cN c):eV rs (aU c)=back (eV rs c):=by
 have hc:(bO c=true∧bO (aU c)=false∧aU c - 65=c - 97)∨(bO c=false∧bO (aU c)=true∧aU c - 97=c - 65):=by
  rcases aW h with rfl | rfl | rfl | rfl | rfl | rfl | rfl | rfl <;> decide
 unfold eV
 rcases hc with ⟨h1,h2,h3⟩ | ⟨h1,h2,h3⟩
 ·rw[if_pos h1,if_neg (by rw[h2];decide),h3]
 ·rw[if_pos h2,if_neg (c:=bO c=true) (by rw[h1];decide),h3,cP (r.getA _)]
theorem iP(u v:List Nat):dL rs (u++v)=dL rs u++dL rs v:=by unfold dL;rw[aXw]
theorem dO(c:Nat)(w:List Nat):dL rs (c::w)=eV rs c++dL rs w:=by unfold dL;rw[z9]
theorem vD:dL rs []=[]:=rfl
theorem fT(r:RT rs n M)(w:List Nat):AllL (dL rs w):=by
 induction w with
 | nil=>exact AllL.nil
 | cons c w ih=>rw[dO];exact AllL.app.mpr ⟨kC r c,ih⟩
theorem nP(r:RT rs n M)(w:List Nat):(dL rs w).length≤w.length * M:=by
 induction w with
 | nil=>simp[dL]
 | cons c w ih =>
  rw[dO,b8,j1,aJF]
  have:=uJ r c
  omega
theorem B2(r:RT rs n M)(w:List Nat):AllL (fK rs w):=dI (fT r w)
theorem A7(r:RT rs n M)(w:List Nat):(fK rs w).length≤w.length * M:=k8 (eZ _) (nP r w)
theorem zU(r:RT rs n M){w:List Nat}(h:AllL w):dL rs (back w)=back (dL rs w):=by
 induction w with
 | nil=>rfl
 | cons c w ih =>
  obtain⟨hc,hw⟩:=AllL.cons.mp h
  have e:back (c::w)=back w++[aU c]:=by unfold back;simp
  rw[e,iP,ih hw,dO c w,dA,dO,vD,o6,uZ r hc]
theorem Cg(r:RT rs n M):∀ (k:Nat) (w:List Nat),w.length=k→AllL w→lay (dL rs (lay w))=lay (dL rs w):=by
 intro k
 induction k using Nat.strongRecOn with
 | ind k ih =>
  intro w hk hw
  by_cases hp:∀ j,¬ HF w j
  ·rw[fO (nS hp)]
  ·obtain⟨j,hj⟩:∃ j,HF w j:=Classical.byContradiction fun c=>hp fun j hj=>c ⟨j,hj⟩
   obtain⟨a,b,e,hab,hl⟩:=pV hj
   have e1:=CW hw hj
   generalize hu:w.take j=u at *
   generalize hv:w.drop (j+2)=v at *
   have hw':AllL (u++a::b::v):=by rw[← e];exact hw
   obtain⟨ha1,ha2⟩:=AllL.app.mp hw'
   obtain⟨_,ha3⟩:=AllL.cons.mp ha2
   obtain⟨hb,ha4⟩:=AllL.cons.mp ha3
   have huv:AllL (u++v):=AllL.app.mpr ⟨ha1,ha4⟩
   have hlen:(u++v).length<k:=by
    rw[← hk,e,b8,b8,j1,j1];omega
   have q:=ih _ hlen (u++v) rfl huv
   rw[← e1,q,e,iP,iP,dO,dO,hab,uZ r hb]
   have e9:dL rs u++(back (eV rs b)++(eV rs b++dL rs v))=dL rs u++(back (eV rs b)++eV rs b)++dL rs v:=by simp[l8]
   rw[e9,← yV _ _ _ (fT r u) (AllL.app.mpr ⟨aO (kC r b),kC r b⟩) (fT r v),iZ (kC r b),o6]
theorem tH(r:RT rs n M){w:List Nat}(hw:AllL w):fK rs (lay w)=fK rs w:=Cg r _ w rfl hw
theorem An(r:RT rs n M){w:List Nat}(hw:AllL w):fK rs (back w)=back (fK rs w):=by unfold fK;rw[zU r hw,iV (fT r w)]
end
def dD(n:Nat):List Nat:=[97,98,99,100].take n
def cM(n:Nat):List (List Nat):=(dD n).map fun c=>[c]
theorem Dl(n:Nat):bE (cM n)=bJ (dD n):=by unfold bE cM bJ;rw[y0];rfl
theorem CH{n:Nat}(h1:1≤n)(h4:n≤4):n=1∨n=2∨n=3∨n=4:=by omega
theorem mS{n:Nat}(h1:1≤n)(h4:n≤4):RT (cM n) n 1:=by
 refine⟨?_,?_,?_⟩
 ·rcases CH h1 h4 with rfl | rfl | rfl | rfl <;> rfl
 ·intro x hx
  obtain⟨c,hc,rfl⟩:=j2.mp hx
  intro d hd
  rw[c5.mp hd]
  have:c∈[97,98,99,100]:=p9 hc
  simp only [c6,n9,or_false] at this
  unfold cN
  omega
 ·intro x hx
  obtain⟨c,_,rfl⟩:=j2.mp hx
  exact b9 _
theorem zL{n:Nat}(h1:1≤n)(h4:n≤4){c:Nat}(h:c∈aJ n):eV (cM n) c=[c]:=by
 have hL:=aW (aV h)
 rcases CH h1 h4 with rfl | rfl | rfl | rfl <;> rcases hL with rfl | rfl | rfl | rfl | rfl | rfl | rfl | rfl <;> revert h <;> decide
theorem rD{n:Nat}(h1:1≤n)(h4:n≤4){w:List Nat}(h:OfN n w):dL (cM n) w=w:=by
 induction w with
 | nil=>rfl
 | cons c w ih=>rw[dO,zL h1 h4 (h c d9),ih fun d hd=>h d (d4 _ hd)];rfl
theorem zW{n:Nat}(h1:1≤n)(h4:n≤4){w:List Nat}(h:OfN n w)(hp:bF w):fK (cM n) w=w:=by unfold fK;rw[rD h1 h4 h,fO hp]
def bN(f s:List (List Nat)):List (List Nat):=f.map (fK s)
theorem qR(f s:List (List Nat))(i:Nat):(bN f s).getD i []=fK s (f.getD i []):=by
 unfold bN
 rw[c9,c9,c7]
 cases f[i]? <;> rfl
theorem zR{f s:List (List Nat)}{n m M L:Nat}(hf:RT f n M)(hs:RT s m L)(c:Nat):eV (bN f s) c=lay (dL s (eV f c)):=by
 unfold eV
 split
 ·rw[qR];rfl
 ·rw[qR,← An hs (hf.getA _)];rfl
theorem tU{g:Nat→List Nat}:∀ (w:List Nat),(∀ c,AllL (g c))→lay (w.flatMap fun c=>lay (g c))=lay (w.flatMap g)
 | [],_=>rfl
 | c::w,h=>by
  have ih:=tU w h
  have ha:∀ w:List Nat,AllL (w.flatMap g):=fun w d hd=>by
   obtain⟨c,_,hc⟩:=aX2.mp hd
   exact h c d hc
  have hb:∀ w:List Nat,AllL (w.flatMap fun c=>lay (g c)):=fun w d hd=>by
   obtain⟨c,_,hc⟩:=aX2.mp hd
   exact dI (h c) d hc
  rw[z9,z9,fR _ _ (h c),← eQ _ _ (h c) (hb w),ih,eQ _ _ (h c) (ha w)]
theorem zT(f s:List (List Nat))(w:List Nat):(w.flatMap fun c=>dL s (eV f c))=dL s (dL f w):=by
 induction w with
 | nil=>rfl
 | cons c w ih=>rw[z9,dO,iP,ih]
theorem AM{f s:List (List Nat)}{n m M L:Nat}(hf:RT f n M)(hs:RT s m L)(w:List Nat):fK (bN f s) w=fK s (fK f w):=by
 rw[show fK f w=lay (dL f w) from rfl,tH hs (fT hf w)]
 unfold fK
 rw[← zT,← tU w fun c=>fT hs _]
 congr 1
 unfold dL
 congr 1
 funext c
 exact zR hf hs c
theorem sR{f s:List (List Nat)}{n m M L:Nat}(hf:RT f n M)(hs:RT s m L):RT (bN f s) n (M * L):=by
 refine⟨by unfold bN;rw[b7];exact hf.len,fun x hx=>?_,fun x hx=>?_⟩
 ·obtain⟨y,_,rfl⟩:=j2.mp hx
  exact B2 hs y
 ·obtain⟨y,hy,rfl⟩:=j2.mp hx
  exact k8 (A7 hs y) (aQx _ (hf.le y hy))
theorem lV{f s t:List (List Nat)}{n m k M L J:Nat}(hf:RT f n M)(hs:RT s m L)(ht:RT t k J):bN (bN f s) t=bN f (bN s t):=by
 unfold bN
 rw[y0]
 refine t7 fun x hx=>?_
 exact(AM hs ht x).symm
theorem _root_.L2.SqT.same{K:b5}{H H':Hp}{a:Addr}{xs:List V}(s:Same H H')(h:SqT K H a xs):SqT K H' a xs:=by
 rcases h with (h | ⟨o,h⟩) | h
 ·exact .inl (.inl (s _ _ h))
 ·exact .inl (.inr ⟨o,s _ _ h⟩)
 ·exact .inr h
def kF:Sp:=fun vs H Q _=>∃ n:Nat,vs=[.int (n:Nat)]∧1≤n∧n≤4∧∀ (p:Addr) (H':Hp),H p=none→Same H H'→H' p=some (.tup (bE (cM n)))→Q (.ref p) H'
def sY(K:b5):Sp:=fun vs H Q _=>∃ (a:Addr) (rs:List (List Nat)) (n M:Nat) (w:List Nat),vs=[.ref a,.str (S w)]∧SqT K H a (bE rs)∧RT rs n M∧1≤n∧n≤4∧M≤1000∧OfN n w∧w.length≤60000∧w.length * M≤60000∧∀ H',Same H H'→Q (.str (S (fK rs w))) H'
def Be(K:b5):Sp:=fun vs H Q _=>∃ (a b:Addr) (f s:List (List Nat)) (n M L:Nat),vs=[.ref a,.ref b]∧SqT K H a (bE f)∧SqT K H b (bE s)∧RT f n M∧RT s n L∧(∀ x∈f,OfN n x)∧1≤n∧n≤4∧M≤1000∧L≤1000∧M * L≤9000∧∀ (p:Addr) (H':Hp),H p=none→Same H H'→H' p=some (.tup (bE (bN f s)))→Q (.ref p) H'
def letV:List V:=bJ lets
theorem tD:letV.length=8:=rfl
theorem Dy{xs:List V}{i:Array Value}(h:Vals xs i.toList)(hl:xs.length≤1000):i.size≤sizeLine:=by
 have h2:xs.length=i.toList.length:=h.length
 have h3:i.toList.length=i.size:=t5
 exact aK (by omega)
theorem Ar{n:Nat}(h1:1≤n)(h4:n≤4):qQ letV (2 * ·) (List.range ((2 * n+1) / 2))=bE (cM n):=by
 rcases CH h1 h4 with rfl | rfl | rfl | rfl <;> rfl
theorem yF{n i:Nat}(h4:n≤4){v:V}(h:(bE (cM n))[i]?=some v):v=.str (S [97+i])∧i<n:=by
 have hi:i<n:=by
  have:=(a8.mp h).1
  rw[aM] at this
  unfold cM dD at this
  rw[b7,i9] at this
  omega
 obtain⟨x,hx,rfl⟩:=dP h
 unfold cM dD at hx
 rw[c7,aQa hi] at hx
 have:i=0∨i=1∨i=2∨i=3:=by omega
 rcases this with rfl | rfl | rfl | rfl <;> (cases hx;exact⟨rfl,hi⟩)
theorem B_:(Str.ofString "abcd":Str)=S [97,98,99,100]:=by decide +kernel
theorem yN{c:Nat}(h:cN c):(Builtin.Str.occurrences (Str.ofString "abcd") (S [lo c]) 0 (Str.ofString "abcd").length 1).isEmpty=false∧Txt.find (Str.ofString "abcd") (S [lo c])=((lo c - 97:Nat):Int):=by
 rcases aW h with rfl | rfl | rfl | rfl | rfl | rfl | rfl | rfl <;> exact⟨by decide +kernel,by decide +kernel⟩
theorem Gv{n c:Nat}(h:c∈aJ n){l:Nat}(hl:l=n)(h1:1≤n)(h4:n≤4):lo c - 97<l:=by
 subst hl
 have hL:=aW (aV h)
 rcases CH h1 h4 with rfl | rfl | rfl | rfl <;> rcases hL with rfl | rfl | rfl | rfl | rfl | rfl | rfl | rfl <;> revert h <;> decide
theorem Bg{rs:List (List Nat)}{n:Nat}(h1:1≤n)(h4:n≤4)(h:∀ x∈rs,OfN n x)(c:Nat):OfN n (eV rs c):=by
 unfold eV
 split
 ·exact lD (P:=OfN n) OfN.nil h _
 ·exact(lD (P:=OfN n) OfN.nil h _).back (by omega) (by omega)
theorem BN{rs:List (List Nat)}{n:Nat}(h1:1≤n)(h4:n≤4)(h:∀ x∈rs,OfN n x)(w:List Nat):OfN n (fK rs w):=by
 refine OfN.lay ?_
 intro d hd
 obtain⟨c,_,hc⟩:=aX2.mp hd
 exact Bg h1 h4 h c d hc
theorem sZ{f s:List (List Nat)}{n:Nat}(h1:1≤n)(h4:n≤4)(h:∀ x∈s,OfN n x):∀ x∈bN f s,OfN n x:=by
 intro x hx
 obtain⟨y,_,rfl⟩:=j2.mp hx
 exact BN h1 h4 h y
theorem DH{n:Nat}(h1:1≤n)(h4:n≤4):∀ x∈cM n,OfN n x:=by
 intro x hx c hc
 obtain⟨d,hd,rfl⟩:=j2.mp hx
 rw[c5.mp hc]
 rcases CH h1 h4 with rfl | rfl | rfl | rfl <;> (unfold dD at hd;simp at hd;revert hd;first | (rintro rfl;decide) | (rintro(rfl | rfl) <;> decide) | (rintro(rfl | rfl | rfl) <;> decide) | (rintro(rfl | rfl | rfl | rfl) <;> decide))
theorem wE{fl sc p:Addr}{H H':Hp}{xs:List V}(f:IsFl H fl sc)(k:Kp fl H H')(h:H p=some (.tup xs)):H' p=some (.tup xs):=by
 obtain⟨ns,i,x,b,c,h1,_⟩:=f
 exact k _ _ h fun e=>by rw[e,h1] at h;cases h
end Lw
namespace PySem
end PySem
namespace L2
open PySem PySem.Spec PyProof.Rows
end L2
namespace L2
open PySem PySem.Spec PyProof.Rows PySem.Calls
end L2
namespace PySem
open Sem (wp)
end PySem
namespace L2
open PySem PySem.Spec PyProof.Rows
def El(x:Str):It :=
 ⟨fun i _=>i<x.cps.size,fun i H v H'=>∃ p c,v=.ref p∧H p=none∧H'=upd H p (.tup [.int (i:Nat),.str ⟨#[c]⟩])∧x.cps[i]?=some c,fun i _=>i=x.cps.size⟩
theorem qH{prog:Program}{w:World}{A:Around}(hh:A.handled=none)(it:Addr)(x:Str)(t:Tok)(T:String)(hT:T="str_ascii_iterator"∨T="str_iterator") :
  Draws prog w A it [it] x.cps.size (fun i v=>∃ c u,x.cps[i]?=some c∧v=.str ⟨#[c]⟩ u) (fun i h=>h.IsStrIter it T x t i):=by
 rcases hT with rfl | rfl
 ·exact Draws.strAscii hh it x t
 ·exact Draws.strWide hh it x t
theorem Ay{P:Program}{w:World}{K:b5}{es:List Expr}{x1}{pos:Pos}(x:Str)(t:Tok)(T:String)(e it:Addr)(hne:e≠it)(hT:T="str_ascii_iterator"∨T="str_iterator") :
  Turn P w K (.Tuple es x1 pos) (El x) [e,it] e (fun i h=>(∃ old,IsEnum h e it ((i:Nat):Int) old)∧h.IsStrIter it T x t i) where
 mem:=by simp
 obj:=fun i h st b hb=>by
  obtain⟨⟨old,he⟩,o,g,c,d⟩:=st
  simp only [c6,n9,or_false] at hb
  rcases hb with rfl | rfl
  ·exact⟨_,he,fun v z=>by cases z⟩
  ·exact⟨o,g,fun v z=>by rw[d] at z;cases z⟩
 keep:=fun i h h' st k=>by
  obtain⟨⟨old,he⟩,o,g,r⟩:=st
  exact⟨⟨old,k e (by simp) _ he⟩,o,k it (by simp) o g,r⟩
 item:=by
  intro X hP hw hK hc i pins s σ H E I hf st hg
  subst hP hw hK
  obtain⟨⟨old,he⟩,hs⟩:=st
  have hei:e ∉ [it]:=by simpa using hne
  have DD:=qH (prog:=X.prog) (w:=X.w) (A:=X.A.in1) (I.ok.hd hc) it x t T hT
  refine wpAny_pyNext_enum_itemD DD he hs hg hne hei fun v h1 tk hv ho hs1 hT1 hz1 kp=>⟨_,rfl,?_⟩
  obtain⟨c,u,hc',rfl⟩:=hv
  refine wpAny_letOwnedTupleGo_enum ho fun h2 he2 e2=>?_
  have ne:s.heap.objs.size≠e:=aQK (c8 he)
  have hT2:h2.get? s.heap.objs.size=some { cls:=.type "tuple",data:=.seq #[.int i tk,.str ⟨#[c]⟩ u] }:=(e2.2 _ ne).trans hT1
  have hHn:H s.heap.objs.size=none:=I.hok.fresh (b9 _)
  have kpn:∀ b o,b ∉ [e,it]→s.heap.get? b=some o→h2.get? b=some o:=fun b o hn q=>(e2.2 b fun z=>hn (by simp[z])).trans (kp b o (fun z=>hn (by simp[z])) (fun z=>hn (by simp[z])) q)
  refine⟨.ref s.heap.objs.size,upd H s.heap.objs.size (.tup [.int (i:Nat),.str ⟨#[c]⟩]),?_,rfl,⟨_,c,rfl,hHn,rfl,hc'⟩,⟨⟨_,by simpa using he2⟩,?_⟩,fun b hb=>?_⟩
  ·exact I.turnedN (t':=tk+1) (h':=h2) kpn hf (b9 _) ⟨by show 2≤sizeLine;decide,[.int i tk,.str ⟨#[c]⟩ u],.cons ⟨_,rfl⟩ (.cons ⟨_,rfl⟩ .nil),⟨_,hT2,rfl,0,rfl⟩,⟨_,hT2,rfl⟩⟩
  ·obtain⟨o,g,r⟩:=hs1
   exact⟨o,(e2.2 it hne.symm).trans g,r⟩
  ·have hce:b≠s.heap.objs.size:=by
    obtain⟨o1,g1,_⟩:=hs
    simp only [c6,n9,or_false] at hb
    rcases hb with rfl | rfl
    ·exact g6 (c8 he)
    ·exact g6 (c8 g1)
   rw[aE hce]
   exact(hf b hb).1
 done:=by
  intro X hP hw hK hc i pins s σ H E I hf st hg
  subst hP hw hK
  obtain⟨⟨old,he⟩,hs⟩:=st
  have hi:i=x.cps.size:=hg
  subst hi
  have DD:=qH (prog:=X.prog) (w:=X.w) (A:=X.A.in1) (I.ok.hd hc) it x t T hT
  refine wpAny_pyNext_enum_endD DD he hs fun h1 e1=>⟨rfl,?_⟩
  exact I.turnedM (t':=s.toks) (ch:=[e,it]) (fun b o hn q=>e1 b o (fun z=>hn (by simp[z])) q) hf
 self:=fun A i s Q E st h=>by
  obtain⟨⟨old,he⟩,_⟩:=st
  exact wpAny_pyIter_enum he h
section
variable {X:Cx}
def FX(ta:TA):TI:=fun σ H R=>ta σ H fun vs H1=>∃ z,vs=[.str z]∧R (El z) H1
theorem C7{es:List Expr}{x1}{tpos:Pos}{a:Expr}{ta:TA}{p pos:Pos}(hg:Gl X "enumerate")(hm:X.mg "enumerate"=none)(ha:PA X [a] ta)(hs:starEach [a] X.env=[(false,eval a X.env)]:=by rfl) :
  PI X (.Tuple es x1 tpos) (.Call (.Name "enumerate" p) [a] [] pos) (FX ta):=by
 intro pins s σ H R I h
 refine Call_ (hU I hg hm boot_enumerate (r9 (bV (ha pos pins s σ H _ I h) fun us s1 ⟨vs,H1,I1,r1,q1⟩=>?_) hs rfl))
 obtain⟨z,e,q⟩:=q1
 subst e
 obtain⟨u,rfl,ru⟩:=r1.one
 obtain⟨t,rfl⟩:=ru
 refine call_enumerate_str fun h' he hit hz kp=>?_
 have I2:Inv X pins σ H1 { s1 with heap:=h' }:=I1.kept (t':=s1.toks) kp
 have hne:s1.heap.objs.size+1≠s1.heap.objs.size:=by omega
 refine wpAny_pyIter_enum he ⟨s1.heap.objs.size+1,[s1.heap.objs.size+1,s1.heap.objs.size],_,_,H1,rfl,I2,Ay z t (strIterType z) _ _ hne (by unfold strIterType;split <;> simp),⟨⟨_,he⟩,hit⟩,fun b hb=>?_,q⟩
 have hle:s1.heap.objs.size≤b:=by
  simp only [c6,n9,or_false] at hb
  rcases hb with h | h <;> rw[h]
  ·exact aQN _ _
  ·exact b9 _
 exact I1.fpOk hle (I1.hok.fresh hle)
end
theorem BP{w:List Nat}{g:TG}{tb:TS}{D:Ends}{σ:St}{H:Hp}(Pv:Nat→St→Hp→Prop)(h0:Pv 0 σ H)
  (hs:∀ i c p σ H,w[i]?=some c→H p=none→Pv i σ H→g (.ref p) σ (upd H p (.tup [.int (i:Nat),.str (S [c])])) fun σ2 H2=>tb { D with nx:=Pv (i+1),ct:=Pv (i+1),bk:=D.nx } σ2 H2) (hd:∀ σ H,Pv w.length σ H→D.nx σ H) :
  ∃ W:Nat→Nat→St→Hp→Prop,(∃ m,W 0 m σ H)∧∀ i m σ H,W i m σ H →
   ((El (S w)).stop i H∧D.nx σ H)∨((El (S w)).go i H∧∃ N:St→Hp→Prop,(∀ σ' H',N σ' H'→∃ m',m' < m∧W (i+1) m' σ' H')∧∀ x H',(El (S w)).yld i H x H'→g x σ H' fun σ2 H2=>tb { D with nx:=N,ct:=N,bk:=D.nx } σ2 H2):=by
 refine⟨fun i m σ H=>m=w.length - i∧i≤w.length∧Pv i σ H,⟨w.length,by simp,j9 _,h0⟩,?_⟩
 rintro i m σ H ⟨rfl,hi,p⟩
 by_cases hlt:i<w.length
 ·refine .inr ⟨by simpa [El] using hlt,Pv (i+1),fun σ' H' p'=>⟨w.length - (i+1),by omega,rfl,hlt,p'⟩,fun x H' y=>?_⟩
  obtain⟨pp,c,rfl,hn,rfl,hc⟩:=y
  exact hs i c pp σ H (by simpa using hc) hn p
 ·have e:i=w.length:=by omega
  subst e
  exact .inl ⟨by simp[El],hd σ H p⟩
section
variable {prog:Program}{w:World}{A:Around}{E:Value→Shared→Prop}{s:Shared}
theorem wC{t sl:Addr}{items:Array Value}{vl vu:Value}{lo hi:Option Int}{Q:Value→Shared→Prop}(ht:IsTup s.heap t items)(hs:s.heap.IsSliceOf sl vl vu .none)(pl:IsPart vl lo)(pu:IsPart vu hi)
  (h1:HT.sIx items.size 0 lo=0) (h2:HT.sIx items.size items.size hi=items.size)
  (h:Q (.ref t) s):wpAny (model prog w) A (getItem (.ref t) (.ref sl)) Q E s:=by
 obtain⟨os,hos,hcs,hds⟩:=id hs
 have hTs:s.TypeIs (.ref sl) "slice":=⟨os,hos,hcs⟩
 unfold getItem
 try with_reducible refine wpAny_holding ?_
 first | refine wpAny_bind (wpAny_pure ?_) | skip
 refine wpAny_bind (wpAny_sequenceKey ht.typeIs (by decide) ?_)
 refine wpAny_bind (wpAny_callSpecial?_slot (name:=Str.ofString "__getitem__") ht.typeIs m7
  (wpAny_call_entry m7 ht.typeIs entry_tuple_getitem ?_ (args_tuple_getitem _ _)))
 show wpAny _ _ (Builtin.Tuple.tupleItemsOf (.ref t) >>= _) _ _ s
 refine wpAny_bind (tupleItemsOf_ ht ?_)
 refine wpAny_bind (wpAny_typeOf hTs ?_)
 rw[if_pos (by decide)]
 refine wpAny_bind (HT.sliceApplied_gen hs pl pu ?_)
 rw[h1,h2]
 show wpAny _ _ (if (((0:Nat):Int) == 0 && (1:Int) == 1 && (items.size - 0) == items.size)=true then _ else _) _ _ s
 rw[if_pos (by simp)]
 refine wpAny_bind ?_
 unfold Builtin.Tuple.tupleIsExact
 refine wpAny_bind (wpAny_typeOf ht.typeIs (wpAny_pure ?_))
 rw[if_pos (by decide)]
 exact wpAny_bind (wpAny_rule (wpAny_pure ⟨_,rfl,wpAny_pure h⟩))
end
def Ig(K:b5):V→Option Int→Option Int→Hp→VK→Prop:=fun x lo hi H Q=>∃ (a:Addr) (xs:List V) (j:Nat),x=.ref a∧SqT K H a xs∧lo=none∧hi=some (j:Int)∧j≤xs.length ∧
 (j<xs.length→∀ p,H p=none→Q (.ref p) (upd H p (.tup (xs.take j))))∧(j=xs.length→Q (.ref a) H)
theorem Dt{X:Cx}{K:b5}(hK:X.K=K):Hm X (Ig K):=by
 subst hK
 intro pins s σ H x v vl vu lo hi sl Q I rx hs pl pu h
 obtain⟨a,xs,j,rfl,hx,rfl,rfl,hj,q1,q2⟩:=h
 have e0:HT.sIx xs.length 0 none=0:=rfl
 have e1:HT.sIx xs.length xs.length (some (j:Int))=j:=by
  unfold HT.sIx
  simp only
  rw[if_neg (by omega)]
  simp
  omega
 rcases Nat.lt_or_ge j xs.length with hlt | hge
 ·refine ER pins s σ H _ v vl vu _ _ sl Q I rx hs pl pu ⟨a,xs,rfl,hx,fun z=>?_,?_⟩
  ·rw[e1] at z;omega
  ·have e:tS xs none (some (j:Int))=xs.take j:=by
    unfold tS
    rw[e1,e0]
    simp
   rw[e]
   exact q1 hlt
 ·have ej:j=xs.length:=by omega
  cases rx
  obtain⟨its,r,ht,hz⟩:=I.tuple hx
  have hlen:its.toArray.size=xs.length:=by rw[c0];exact r.length.symm
  refine⟨"tuple",_,m7.lookup,ht.typeIs,?_⟩
  exact wC ht hs pl pu (by rw[hlen];exact e0) (by rw[hlen,e1];exact ej) ⟨.ref a,H,I,rfl,q2 ej⟩
end L2
namespace L2
open PySem PySem.W PyProof.Rows
def KTr(lt:Nat→Nat→Bool)(n:Nat){α:Type}:KasT α→(α→Prop)→Prop
 | .ret a,Q=>Q a
 | .ask i j k,Q=>i<n∧j<n∧KTr lt n (k (lt i j)) Q
theorem KTr.bind{lt:Nat→Nat→Bool}{n:Nat}{α β:Type}{f:α→KasT β}{Q:β→Prop}:∀ {t:KasT α},KTr lt n t (fun a=>KTr lt n (f a) Q)→KTr lt n (t.bind f) Q
 | .ret a,h=>h
 | .ask i j k,h=>⟨h.1,h.2.1,KTr.bind h.2.2⟩
theorem KTr.wp{lt:Nat→Nat→Bool}{n:Nat}{α:Type}{cmp:Nat→Nat→(Bool→Shared→Prop)→Shared→Prop}{Ok:Shared→Prop}
  (hc:∀ i j C s,i<n→j<n→Ok s→(∀ s',Ok s'→C (lt i j) s')→cmp i j C s) {Q:α→Prop} {R:α→Shared→Prop} (hq:∀ a s,Q a→Ok s→R a s):∀ {t:KasT α} {s:Shared},KTr lt n t Q→Ok s→t.kasWp cmp R s
 | .ret a,s,h,o=>hq a s h o
 | .ask i j k,s,h,o=>hc i j _ s h.1 h.2.1 o fun s' o'=>KTr.wp hc hq h.2.2 o'
structure TotLt(lt:Nat→Nat→Bool):Prop where
 asym:∀ i j,lt i j=true→lt j i=false
 tr:∀ i j k,lt j i=false→lt k j=false→lt k i=false
section
variable {lt:Nat→Nat→Bool}{n:Nat}
theorem TotLt.irr(T:TotLt lt)(i:Nat):lt i i=false:=by
 cases h:lt i i with
 | false=>rfl
 | true=>have:=T.asym i i h;rw[h] at this;cases this
def PermN(n:Nat)(p:Array Nat):Prop:=p.Perm (List.toArray (List.range n))
theorem PermN.size{p:Array Nat}(h:PermN n p):p.size=n:=by
 have:=(aQH.mp h).length_eq
 simpa using this
theorem PermN.below{p:Array Nat}(h:PermN n p){i:Nat}(hi:i<n):p.getD i 0<n:=by
 have hs:=h.size
 have e:p.getD i 0=p[i]'(by omega):=by simp[Array.getD,show i<p.size by omega]
 rw[e]
 have hm:p[i]'(by omega)∈p:=Array.getElem_mem _
 have:p[i]'(by omega)∈(List.toArray (List.range n)):=h.mem_iff.mp hm
 simpa using this
theorem kH{p q:Array Nat}{i j:Nat}(h:p[i]?=q[j]?):p.getD i 0=q.getD j 0:=by
 rw[aXN,aXN,h]
theorem zK{p:Array Nat}{i j:Nat}(hj:j≤p.size)(k:Nat):(kas_rev p i j).getD k 0=if i≤k∧k<j then p.getD (i+j - 1 - k) 0 else p.getD k 0:=by
 have:=getElem?_mirror_all (i:=i) hj k
 unfold kas_rev
 split
 ·rename_i h;rw[if_pos h] at this;exact kH this
 ·rename_i h;rw[if_neg h] at this;exact kH this
theorem PermN.rev{p:Array Nat}(h:PermN n p)(i j:Nat):PermN n (kas_rev p i j):=(mirror_perm p i j _).trans h
theorem PermN.bub{p:Array Nat}(h:PermN n p)(k d:Nat):PermN n (bubble p k d):=(bubble_perm p k d).trans h
def iN(lt:Nat→Nat→Bool)(p:Array Nat)(m:Nat):Prop:=∀ i j,i≤j→j<m→lt (p.getD j 0) (p.getD i 0)=false
def jR(lt:Nat→Nat→Bool)(p:Array Nat)(m:Nat):Prop:=∀ i j,i≤j→j<m→lt (p.getD i 0) (p.getD j 0)=false
def HV(lt:Nat→Nat→Bool)(p:Array Nat)(m q:Nat):Prop:=∀ i j,m≤i+q+1→i<m→m≤j+q+1→j<m→lt (p.getD i 0) (p.getD j 0)=false
theorem wF(T:TotLt lt){p:Array Nat}(g:PermN n p){Q:Nat→Prop}:∀ (f m:Nat),1≤m→m+f=n→iN lt p m →
  (∀ m',m≤m'→m'≤n→iN lt p m'→(m'=n∨lt (p.getD m' 0) (p.getD (m' - 1) 0)=true)→Q m')→KTr lt n (kas_asc p f m) Q
 | 0,m,h1,h2,hs,hq=>hq m (b9 _) (by omega) hs (.inl (by omega))
 | f+1,m,h1,h2,hs,hq=>by
  refine⟨g.below (by omega),g.below (by omega),?_⟩
  cases hc:lt (p.getD m 0) (p.getD (m - 1) 0) with
  | true=>exact hq m (b9 _) (by omega) hs (.inr hc)
  | false =>
   refine wF T g f (m+1) (by omega) (by omega) (fun i j hij hj=>?_) fun m' hm=>hq m' (by omega)
   by_cases e:j=m
   ·subst e
    by_cases e2:i=j
    ·subst e2;exact T.irr _
    ·exact T.tr _ _ _ (hs i (j - 1) (by omega) (by omega)) hc
   ·exact hs i j hij (by omega)
theorem Ag(T:TotLt lt){p q:Array Nat}{m:Nat}(h:jR lt p m)(e1:∀ i,i<m→lt (q.getD i 0) (p.getD i 0)=false)(e2:∀ i,i<m→lt (p.getD i 0) (q.getD i 0)=false):jR lt q m:=fun i j hij hj =>
 T.tr _ _ _ (e2 j hj) (T.tr _ _ _ (h i j hij hj) (e1 i (by omega)))
theorem lM(T:TotLt lt){p:Array Nat}(g:PermN n p){m q k:Nat}(hm:m≤n)(hq:q+1≤m)(hmk:m≤k)(h:jR lt p k)(e:HV lt p m q):jR lt (kas_rev p (m - (q+1)) m) k:=by
 have hs:=g.size
 have rd:=zK (p:=p) (i:=m - (q+1)) (j:=m) (by omega)
 refine Ag T h (fun i hi=>?_) fun i hi=>?_
 ·rw[rd]
  split
  ·exact e _ _ (by omega) (by omega) (by omega) (by omega)
  ·exact T.irr _
 ·rw[rd]
  split
  ·exact e _ _ (by omega) (by omega) (by omega) (by omega)
  ·exact T.irr _
theorem nH(T:TotLt lt){Q:Array Nat×Nat×Nat→Prop}:∀ (f:Nat) (p:Array Nat) (m q:Nat),PermN n p→1≤m→q+1≤m→m+f=n→jR lt p m→HV lt p m q →
  (∀ p' m' q',PermN n p'→1≤m'→m'≤n→q' + 1≤m'→jR lt p' m'→HV lt p' m' q'→Q (p',m',q'))→KTr lt n (kas_desc f p m q) Q
 | 0,p,m,q,g,h1,hq,h2,hn,he,k=>k p m q g h1 (by omega) hq hn he
 | f+1,p,m,q,g,h1,hq,h2,hn,he,k=>by
  refine⟨g.below (by omega),g.below (by omega),?_⟩
  cases hc:lt (p.getD m 0) (p.getD (m - 1) 0) with
  | true =>
   have hn1:jR lt p (m+1):=fun i j hij hj=>by
    by_cases e:j=m
    ·subst e
     by_cases e2:i=j
     ·subst e2;exact T.irr _
     ·exact T.tr _ _ _ (T.asym _ _ hc) (hn i (j - 1) (by omega) (by omega))
    ·exact hn i j hij (by omega)
   have z0:∀ (p:Array Nat) (m:Nat),HV lt p (m+1) 0:=fun p m i j hi hi2 hj hj2=>by
    have e1:i=m:=by omega
    have e2:j=m:=by omega
    rw[e1,e2];exact T.irr _
   show KTr lt n (if q > 0 then _ else _) Q
   split
   ·exact nH T f _ (m+1) 0 (g.rev _ _) (by omega) (by omega) (by omega) (lM T g (by omega) hq (by omega) hn1 he) (z0 _ _) k
   ·exact nH T f p (m+1) 0 g (by omega) (by omega) (by omega) hn1 (z0 _ _) k
  | false =>
   refine⟨g.below (by omega),g.below (by omega),?_⟩
   cases hd:lt (p.getD (m - 1) 0) (p.getD m 0) with
   | true=>exact k p m q g h1 (by omega) hq hn he
   | false =>
    refine nH T f p (m+1) (q+1) g (by omega) (by omega) (by omega) (fun i j hij hj=>?_) (fun i j hi hi2 hj hj2=>?_) k
    ·by_cases e:j=m
     ·subst e
      by_cases e2:i=j
      ·subst e2;exact T.irr _
      ·exact T.tr _ _ _ hd (hn i (j - 1) (by omega) (by omega)) |> fun z=>by
        first | exact z | exact T.tr _ _ _ hc (hn i (j - 1) (by omega) (by omega))
     ·exact hn i j hij (by omega)
    ·by_cases e:i=m
     ·subst e
      by_cases e2:j=i
      ·subst e2;exact T.irr _
      ·exact T.tr _ _ _ (he j (i - 1) (by omega) (by omega) (by omega) (by omega) |> fun z=>he (i - 1) j (by omega) (by omega) (by omega) (by omega)) hc
     ·by_cases e2:j=m
      ·subst e2
       exact T.tr _ _ _ hd (he i (j - 1) (by omega) (by omega) (by omega) (by omega))
      ·exact he i j (by omega) (by omega) (by omega) (by omega)
theorem tQ(T:TotLt lt){p:Array Nat}(g:PermN n p){m:Nat}(h1:1≤m)(hm:m≤n)(hn:jR lt p m){Q:Nat×Array Nat→Prop}
  (k:∀ p' m',PermN n p'→1≤m'→m'≤n→iN lt p' m'→Q (m',p')):KTr lt n (kas_tail3 m n p) Q:=by
 unfold kas_tail3
 have hs:=g.size
 have rd:=zK (p:=p) (i:=0) (j:=m) (by omega)
 refine KTr.bind (wF T (g.rev 0 m) (n - m) m h1 (by omega) (fun i j hij hj=>?_) fun m' hm' hn' so _=>k _ m' (g.rev 0 m) (by omega) hn' so)
 rw[rd,rd,if_pos ⟨by omega,by omega⟩,if_pos ⟨by omega,by omega⟩]
 exact hn _ _ (by omega) (by omega)
theorem mD(T:TotLt lt){p:Array Nat}(g:PermN n p){m:Nat}(hm:m+1≤n)(hn:jR lt p (m+1)){Q:Nat×Array Nat→Prop}
  (k:∀ p' m',PermN n p'→1≤m'→m'≤n→iN lt p' m'→Q (m',p')):KTr lt n (kas_descPart m n p) Q:=by
 unfold kas_descPart
 refine KTr.bind (nH T (n - (m+1)) p (m+1) 0 g (by omega) (by omega) (by omega) hn (fun i j hi hi2 hj hj2=>?_) fun p' m' q' g' h1 h2 hq hn' he=>?_)
 ·have e1:i=m:=by omega
  have e2:j=m:=by omega
  rw[e1,e2];exact T.irr _
 ·show KTr lt n (if q' > 0 then _ else _) Q
  split
  ·exact tQ T (g'.rev _ _) h1 h2 (lM T g' h2 hq (b9 _) hn' he) k
  ·exact tQ T g' h1 h2 hn' k
theorem BB(T:TotLt lt){p:Array Nat}(g:PermN n p)(h1:1≤n){Q:Nat×Array Nat→Prop}
  (k:∀ p' m',PermN n p'→1≤m'→m'≤n→iN lt p' m'→Q (m',p')):KTr lt n (kas_count n p) Q:=by
 unfold kas_count
 have hs:=g.size
 refine KTr.bind (wF T g (n - 1) 1 (b9 _) (by omega) (fun i j hij hj=>?_) fun m hm hn so hor=>?_)
 ·have e1:i=j:=by omega
  rw[e1];exact T.irr _
 ·split
  ·exact k p m g hm hn so
  ·rename_i hne
   have hne':m≠n:=fun e=>hne (by rw[e];simp)
   have hlt:lt (p.getD m 0) (p.getD (m - 1) 0)=true:=by
    rcases hor with e | e
    ·exact absurd e hne'
    ·exact e
   split
   ·rename_i hm1
    refine⟨g.below (by omega),g.below (by omega),?_⟩
    cases hc:lt (p.getD 0 0) (p.getD (m - 1) 0) with
    | true=>exact k p m g hm hn so
    | false =>
     have all:∀ i j,i<m→j<m→lt (p.getD i 0) (p.getD j 0)=false:=fun i j hi hj =>
      T.tr _ _ _ (so j (m - 1) (by omega) (by omega)) (T.tr _ _ _ hc (so 0 i (by omega) hi))
     have hn1:jR lt p (m+1):=fun i j hij hj=>by
      by_cases e:j=m
      ·subst e
       by_cases e2:i=j
       ·subst e2;exact T.irr _
       ·exact T.tr _ _ _ (T.asym _ _ hlt) (all i (j - 1) (by omega) (by omega))
      ·exact all i j (by omega) (by omega)
     have hr:=lM T g (q:=m - 1) hn (by omega) (aQT m) hn1 (fun i j _ hi _ hj=>all i j hi hj)
     rw[show m - (m - 1+1)=0 by omega] at hr
     exact mD T (g.rev 0 m) (by omega) hr k
   ·rename_i hm1
    have e1:m=1:=by omega
    subst e1
    refine mD T g (by omega) (fun i j hij hj=>?_) k
    by_cases e:i=j
    ·subst e;exact T.irr _
    ·have e1:i=0:=by omega
     have e2:j=1:=by omega
     rw[e1,e2]
     exact T.asym _ _ hlt
theorem nZ(T:TotLt lt){p:Array Nat}(g:PermN n p){k:Nat}(hk:k<n)(so:iN lt p k){Q:Nat→Prop}:∀ (f l r:Nat),l≤r→r≤k→r - l≤f→(∀ i,i<l→lt (p.getD k 0) (p.getD i 0)=false)→(∀ i,r≤i→i<k→lt (p.getD k 0) (p.getD i 0)=true) →
  (∀ l',l'≤k→(∀ i,i<l'→lt (p.getD k 0) (p.getD i 0)=false)→(∀ i,l'≤i→i<k→lt (p.getD k 0) (p.getD i 0)=true)→Q l')→KTr lt n (kas_place p k f l r) Q
 | 0,l,r,h1,h2,h3,ha,hb,q=>q l (by omega) ha fun i hi=>hb i (by omega)
 | f+1,l,r,h1,h2,h3,ha,hb,q=>by
  show KTr lt n (if l ≥ r then _ else _) Q
  split
  ·exact q l (by omega) ha fun i hi=>hb i (by omega)
  ·refine⟨g.below hk,g.below (by omega),?_⟩
   cases hc:lt (p.getD k 0) (p.getD ((l+r) / 2) 0) with
   | true =>
    refine nZ T g hk so f l ((l+r) / 2) (by omega) (by omega) (by omega) ha (fun i hi hik=>?_) q
    cases hz:lt (p.getD k 0) (p.getD i 0) with
    | true=>rfl
    | false =>
     have:=T.tr _ _ _ (so ((l+r) / 2) i hi hik) hz
     rw[hc] at this;cases this
   | false =>
    refine nZ T g hk so f ((l+r) / 2+1) r (by omega) h2 (by omega) (fun i hi=>?_) hb q
    exact T.tr _ _ _ (so i ((l+r) / 2) (by omega) (by omega)) hc
theorem CZ{p:Array Nat}{k l:Nat}(hk:k<p.size)(hl:l≤k)(i:Nat):(bubble p k (k - l)).getD i 0=if i=l then p.getD k 0 else if l<i∧i≤k then p.getD (i - 1) 0 else p.getD i 0:=by
 have:=getElem?_bubble hk (k - l) (by omega) i
 rw[show k - (k - l)=l by omega] at this
 by_cases h:i=l
 ·rw[if_pos h] at this ⊢;exact kH this
 ·rw[if_neg h] at this ⊢
  by_cases h2:l<i∧i≤k
  ·rw[if_pos h2] at this ⊢;exact kH this
  ·rw[if_neg h2] at this ⊢;exact kH this
theorem B1(T:TotLt lt){Q:Array Nat→Prop}:∀ (f:Nat) (p:Array Nat) (k:Nat),PermN n p→k+f=n→iN lt p k→(∀ p',PermN n p'→iN lt p' n→Q p')→KTr lt n (kas_bin f p k) Q
 | 0,p,k,g,h,so,q=>q p g (by rw[← h];exact so)
 | f+1,p,k,g,h,so,q=>by
  have hs:=g.size
  refine KTr.bind (nZ T g (by omega) so k 0 k (by omega) (b9 _) (by omega) (fun i hi=>absurd hi (u5 _)) (fun i h1 h2=>absurd h2 (by omega)) fun l hl ha hb=>?_)
  refine B1 T f _ (k+1) (g.bub _ _) (by omega) (fun i j hij hj=>?_) q
  have rd:=CZ (p:=p) (k:=k) (l:=l) (by omega) hl
  rw[rd,rd]
  by_cases e1:i=j
  ·subst e1;exact T.irr _
  ·by_cases cj:j=l
   ·rw[if_pos cj,if_neg (by omega),if_neg (by omega)]
    exact ha i (by omega)
   ·rw[if_neg cj]
    by_cases ci:i=l
    ·rw[if_pos ci,if_pos (by omega)]
     exact T.asym _ _ (hb (j - 1) (by omega) (by omega))
    ·rw[if_neg ci]
     split <;> split
     ·exact so _ _ (by omega) (by omega)
     ·exact so _ _ (by omega) (by omega)
     ·exact so _ _ (by omega) (by omega)
     ·exact so _ _ (by omega) (by omega)
theorem CN(T:TotLt lt)(h1:1≤n):KTr lt n (kas_sort n) fun p=>PermN n p∧iN lt p n:=by
 unfold kas_sort
 refine KTr.bind (BB T (aZ7 _) h1 fun p m g h2 h3 so=>?_)
 show KTr lt n (if m<n then _ else _) _
 split
 ·rw[show max m 1=m by omega]
  exact B1 T (n - m) p m g (by omega) so fun p' g' so'=>⟨g',so'⟩
 ·rename_i h
  have e:m=n:=by omega
  subst e
  exact⟨g,so⟩
end
end L2
namespace L2
open PySem PySem.W PySem.Spec PyProof.Rows
def lL(x y:Int×List Int):Bool:=if x.1=y.1 then HT.lexLt x.2 y.2 else decide (x.1<y.1)
def nO(H:Hp)(v:V)(k:Int×List Int):Prop:=∃ (p a:Addr),v=.ref p∧H p=some (.tup [.int k.1,.ref a])∧H a=some (.lst (k.2.map V.int))
theorem C3{X:Cx}{pins:List (Addr×Obj)}{σ:St}{H:Hp}{s:Shared}(hu:X.A.units+8<cLine)(I:Inv X pins σ H s){v y:V}{u z:Value}{k m:Int×List Int}(hv:nO H v k)(hw:nO H y m)(ru:RelV v u)(rz:RelV y z)
  (hl:k.1=m.1→k.2.length=m.2.length) {Q:Bool→Shared→Prop} {E:Value→Shared→Prop} (h:Q (lL k m) s):wpAny (model X.prog X.w) X.A (keyLt' (tuples' true) u z) Q E s:=by
 obtain⟨L,ns⟩:=k
 obtain⟨M,ms⟩:=m
 obtain⟨p,a,rfl,hp,ha⟩:=hv
 obtain⟨q,c,rfl,hq,hc⟩:=hw
 cases ru
 cases rz
 obtain⟨_,ip,rp,⟨op,gp1,gp2,np,gp3⟩,_⟩:=I.hok p _ hp
 obtain⟨_,iq,rq,⟨oq,gq1,gq2,nq,gq3⟩,_⟩:=I.hok q _ hq
 obtain⟨u1,u2,rfl,r1,r2⟩:=rp.two
 obtain⟨w1,w2,rfl,r3,r4⟩:=rq.two
 obtain⟨t1,rfl⟩:=r1
 obtain⟨t3,rfl⟩:=r3
 cases r2
 cases r4
 obtain⟨_,us,n1,ru,gu⟩:=I.hok a _ ha
 obtain⟨_,vs,n2,rv,gv⟩:=I.hok c _ hc
 have lus:us.length=ns.length:=by rw[← ru.length,b7]
 have lvs:vs.length=ms.length:=by rw[← rv.length,b7]
 have hla:s.heap.IsList a us.toArray:=⟨_,gu,rfl,n1,rfl⟩
 have hlc:s.heap.IsList c vs.toArray:=⟨_,gv,rfl,n2,rfl⟩
 have fl:∀ zs:List Int,(zs.map V.int).all fW=true:=fun zs=>by rw[aJD];exact y1.mpr fun _ _=>rfl
 have hu1:X.A.in1.units<cLine:=by unfold Around.in1;show X.A.units+1<cLine;omega
 have hu0:X.A.units<cLine:=by omega
 have hiu:=pB ru
 have hiv:=pB rv
 refine kat_lt gp1 gp3 gq1 gq3 ?_
 refine kat_cons ((aXK L t1 M t3 (A:=X.A) (s:=s)) X.prog X.w _ _ ?_)
 show KatGo _ _ _ _ _ _ _ _ _ _ (L == M) s
 by_cases e:L=M
 ·subst e
  have hlen:ns.length=ms.length:=hl rfl
  have h':Q (HT.lexLt ns ms) s:=by
   have:lL (L,ns) (L,ms)=HT.lexLt ns ms:=by unfold lL;rw[if_pos rfl]
   rw[← this];exact h
  rw[show (L == L)=true from by simp]
  refine kat_yes ?_
  have heq:SeqAt.EqAt X.A s (.ref a) (.ref c) (decide (ns=ms)):=by
   by_cases hac:a=c
   ·subst hac
    rw[ha] at hc
    have e1:ns=ms:=by
     have:=HO.lst.inj (d6 hc)
     exact(aZE (fun x y h=>V.int.inj h)).mp this
    rw[decide_eq_true e1]
    exact aX9 _
   ·have z:=SeqAt.RcAt.lists (A:=X.A) hla hlc (by simp;omega) hu0 (oJ (A:=X.A.in1) (s:=s) ru rv (fl ns) (fl ms))
    rw[c0,← ru.length,gQ (by rw[b7,b7];exact hlen),oI] at z
    exact aZF hac z
  refine kat_cons (heq X.prog X.w _ _ ?_)
  show KatGo _ _ _ _ _ _ _ _ _ _ (decide (ns=ms)) s
  by_cases e2:ns=ms
  ·rw[decide_eq_true e2]
   refine kat_yes (kat_nil ?_)
   rw[e2,oE] at h'
   exact h'
  ·rw[decide_eq_false e2]
   refine kat_no (kat_one _ _ ?_)
   exact richCompare_meets_room (op:=.Lt) ⟨_,gu,rfl⟩ ⟨_,gv,rfl⟩ PySem.F.slot_list_lt PySem.F.entry_list_lt (PySem.F.args_list_lt_2 _ _) (LtL.list_lt a c us vs n1 n2 ns ms hiu hiv (by omega))
    ⟨gu,gv,show Value.bool (HT.lexLt ns ms)≠Value.notImplemented∧PySem.W.BoolBack Q (.bool (HT.lexLt ns ms)) s from ⟨(fun x=>nomatch x),h'⟩⟩ hu0
 ·have h':Q (decide (L<M)) s:=by
   have:lL (L,ns) (M,ms)=decide (L<M):=by unfold lL;rw[if_neg e]
   rw[← this];exact h
  rw[show (L == M)=false from by simpa using e]
  exact kat_no (oneLt_int h')
section
variable {X:Cx}{pins:List (Addr×Obj)}{σ:St}{H:Hp}{s:Shared}{h':Heap}
theorem Inv.adopt{t':Nat}{D:Addr}{xs:List V}(I:Inv X pins σ H s)(k:∀ b o,b≠D→s.heap.get? b=some o→h'.get? b=some o)(hf:gI X pins H D)
  (new:ObjOk X.prog X.w (upd H D (.lst xs)) h' D (.lst xs)):Inv X pins σ (upd H D (.lst xs)) { s with heap:=h',toks:=t' }:=by
 obtain⟨f0,f1,f2,f3,f4,f5⟩:=hf
 have un:∀ {b u},H b=some u→upd H D (.lst xs) b=some u:=fun e=>by rw[aE (aI e f0)];exact e
 have nch:∀ {b u},H b=some u→b≠D:=fun e=>aI e f0
 refine I.step (g':=s.gens) (d':=s.drawn) (ch:=[D]) (fun b hb=>?_) (fun b o _ _ hc e _=>k b o (by simpa using hc) e) (fun b o _ _ hc e _=>⟨o.slots,k b o (by simpa using hc) e⟩) (fun b o hc e n=>?_) (fun b o hc e=>⟨o,k b o (by simpa using hc) e⟩) (fun _ _ e=>un e) (fun _ _ _ e=>un e)
  (fun b ps e=>⟨#[],by rw[un e];simp⟩) (fun m hm=>?_) (fun b u e=>?_) I.bare
 ·have e:b=D:=by simpa using hb
  subst e
  exact⟨f3,f1,f4,f5⟩
 ·rw[aE (by simpa using hc)]
  exact n
 ·obtain⟨o,es,ep,ho,r⟩:=hm
  exact⟨o,es,ep,k _ o (fun z=>f1 z.symm) ho,r⟩
 ·by_cases hb:b=D
  ·subst hb
   rw[aB] at e
   cases e
   exact new
  ·rw[aE hb] at e
   refine(I.hok b u e).stay (fun c v hc q=>k c v ?_ q) (fun c q=>un q) fun c ys q=>un q
   rcases hc with z | z
   ·rw[z];exact hb
   ·exact nch z
end
def Fc(K:b5)(sp:Sp)(ta:TA):TE:=fun σ H Q=>ta σ H fun vs H1=>∃ (l:Addr) (xs:List V) (kz:List (Int×List Int)) (Pv:Addr→Nat→List V→Hp→Prop),vs=[.ref l]∧SqL K H1 l xs∧xs.length<64∧kz.length=xs.length ∧
 (∀ (i j:Nat) (a b:Int×List Int),kz[i]?=some a→kz[j]?=some b→a.1=b.1→a.2.length=b.2.length)∧TotLt (fun i j=>lL (kz.getD i (0,[])) (kz.getD j (0,[]))) ∧
 (∀ S,H1 S=none→Pv S 0 [] (upd H1 S (.lst []))) ∧
 (∀ S i ks H,Pv S i ks H→∀ y,xs[i]?=some y→sp [y] H (fun v H2=>H2 S=some (.lst ks)∧ks.length=i∧Pv S (i+1) (ks++[v]) (upd H2 S (.lst (ks++[v])))) E0) ∧
 (∀ S ks H,Pv S xs.length ks H→H S=some (.lst ks)∧ks.length=xs.length∧(∀ (i:Nat) (v:V) (k:Int×List Int),ks[i]?=some v→kz[i]?=some k→nO H v k) ∧
  ∀ p:Array Nat,PermN xs.length p→iN (fun i j=>lL (kz.getD i (0,[])) (kz.getD j (0,[]))) p xs.length→∀ D,upd H S (.lst []) D=none→Q (.ref D) (upd (upd H S (.lst [])) D (.lst (p.toList.map fun i=>xs.getD i .non))))
section
variable {X:Cx}{k:Nat}{f:Addr}{fd:FuncData}{ps:List Str}{sp:Sp}
theorem yK{pins:List (Addr×Obj)}{σ:St}{S:Addr}{xs:List V}{Pv:Nat→List V→Hp→Prop}{body:Value→PUnit→Sem (ForInStep PUnit)}{E:Value→Shared→Prop}
  (F:FnOk X.prog X.w X.K X.mg X.base yB k f fd ps sp) (hr:Room k X.one.one.A) (hb:Binds X.K fd ps []) (h64:xs.length<64)
  (hbody:∀ x (s:Shared) (R:ForInStep PUnit→Shared→Prop),wpAny (model X.prog X.w) X.one.one.A (call (.ref f) [x]) (fun kv s'=>wpAny (model X.prog X.w) X.one.one.A (Builtin.List.listUpdate (.ref S) (·.push kv)) (fun _ s''=>R (.yield ⟨⟩) s'') E s') (fun _ _=>False) s→wpAny (model X.prog X.w) X.one.one.A (body x ⟨⟩) R E s)
  (hst:∀ i ks H,Pv i ks H→∀ y,xs[i]?=some y→sp [y] H (fun v H2=>H2 S=some (.lst ks)∧ks.length=i∧Pv (i+1) (ks++[v]) (upd H2 S (.lst (ks++[v])))) E0) :
  ∀ (r:List V) (us:List Value) (i:Nat) (ks:List V) (s:Shared) (H:Hp),Vals r us→xs.drop i=r→i+r.length=xs.length→Inv X.one.one pins σ H s→Pv i ks H →
   wpAny (model X.prog X.w) X.one.one.A (forIn us PUnit.unit body) (fun _ s'=>∃ ks H',Inv X.one.one pins σ H' s'∧Pv xs.length ks H') E s
 | [],us,i,ks,s,H,rv,hd,hl,I,pv=>by
  cases rv
  rw[aXj]
  have:i=xs.length:=by simpa using hl
  subst this
  exact wpAny_pure ⟨ks,H,I,pv⟩
 | y::r,us,i,ks,s,H,rv,hd,hl,I,pv=>by
  cases rv with
  | cons ru rr =>
   rename_i u us
   have hy:xs[i]?=some y:=by
    have:=congrArg List.head? hd
    rw[List.head?_drop] at this
    exact this
   rw[aQu]
   refine wpAny_bind (hbody _ _ _ (wpAny_mono (rX (X:=X.one.one) F hr hb .nil fA I (.cons ru .nil) (hst i ks H pv y hy)) (fun kv s1 hq=>?_) fun _ _ e=>e))
   obtain⟨v,H1,I1,rk,eS,hkl,pv1⟩:=hq
   obtain⟨z,its,n,rks,hlk,eo⟩:=I1.lstM eS
   rw[j1] at hl
   have h64':its.length<64:=by omega
   refine listUpdate_at eo rfl ?_ (by rw[c0,sizeLine_eq];omega) (k8 (aZA (Array.size_push ..)) (by rw[c0,sizeLine_eq];omega))
   have I2:=I1.lset (t':=s1.toks) (its':=its++[kv]) (ys:=ks++[v]) (f:=(·.push kv)) eS eo (by simp) (rks.append (.cons rk .nil)) (by rw[b8,t9,sizeLine_eq];omega)
   exact yK F hr hb h64 hbody hst r us (i+1) (ks++[v]) _ _ rr (by rw[← List.drop_drop,hd];rfl) (by omega) I2 pv1
theorem wY{kz:List (Int×List Int)}{i:Nat}(h:i<kz.length):kz[i]?=some (kz.getD i (0,[])):=by
 rw[c9,a9 h];rfl
theorem oM{pins:List (Addr×Obj)}{σ:St}{H:Hp}{s:Shared}(I:Inv X pins σ H s):∀ (ks:List V) (us:List Value),Vals ks us→(∀ v∈ks,∃ q,nO H v q)→∃ fs,PySem.W.KatTups s.heap us fs∧fs.length=us.length∧∀ v∈fs,∃ i t,v=Value.int i t
 | [],us,r,_=>by
  cases r
  exact⟨[],.nil,rfl,fun v hv=>(nomatch hv)⟩
 | v::ks,us,r,h=>by
  cases r with
  | cons r1 r2 =>
   obtain⟨fs,t,hl,hi⟩:=oM I ks _ r2 fun y hy=>h y (d4 _ hy)
   obtain⟨q,p,a,rfl,hp,ha⟩:=h v (d9 ..)
   cases r1
   obtain⟨_,ip,rp,⟨op,gp1,gp2,np,gp3⟩,_⟩:=I.hok p _ hp
   obtain⟨u1,u2,rfl,r1,r2⟩:=rp.two
   obtain⟨t1,rfl⟩:=r1
   refine⟨Value.int q.1 t1::fs,.cons gp1 gp2 gp3 (by simp) t,by simp[hl],fun y hy=>?_⟩
   rcases c6.mp hy with rfl | hy
   ·exact⟨_,_,rfl⟩
   ·exact hi y hy
theorem sJ{xs:List V}{us:List Value}(r:Vals xs us)(i:Nat)(h:i<xs.length):RelV (xs.getD i .non) (us.getD i Value.none):=by
 obtain⟨u,hu,ru⟩:=r.get (a9 h)
 rw[c9,c9,hu,a9 h]
 exact ru
theorem pP{xs:List V}{us:List Value}(r:Vals xs us):∀ l:List Nat,(∀ i∈l,i<xs.length)→Vals (l.map fun i=>xs.getD i .non) (l.map fun i=>us.getD i Value.none)
 | [],_=>.nil
 | i::l,h=>.cons (sJ r i (h i (d9 ..))) (pP r l fun j hj=>h j (d4 _ hj))
theorem DR(us vs:List Value)(h:us.length=vs.length):(us.toArray.zip vs.toArray).map (·.2)=vs.toArray:=by
 apply aZW.mp
 rw[Array.toList_map,ksk_zip]
 simp only [aXF]
 rw[List.map_snd_zip (by omega)]
theorem wW(vs:List Value):List.toArray ((List.toArray (List.range vs.length)).toList.map fun i=>vs.getD i Value.none)=vs.toArray:=by
 congr 1
 refine aQg fun i=>?_
 by_cases h:i<vs.length
 ·simp[h]
 ·simp[h]
theorem Cv{pins:List (Addr×Obj)}{σ:St}{H:Hp}{s:Shared}{S D:Addr}{e1:Nat}{ks xs:List V}{vs:List Value}{kz:List (Int×List Int)}{P:PySem.Fin→Shared→Prop}{E:Value→Shared→Prop}(hu:X.one.one.A.units+8<cLine)
  (I:Inv X.one.one (pins++[(D,seqObj "list" #[] e1)]) σ H s) (hf:gI X.one.one pins H D) (eS:H S=some (.lst ks)) (rx:Vals xs vs) (hl:ks.length=xs.length) (h64:xs.length<64) (hkl:kz.length=xs.length)
  (hk:∀ (i:Nat) (v:V) (q:Int×List Int),ks[i]?=some v→kz[i]?=some q→nO H v q)
  (hlen:∀ (i j:Nat) (a b:Int×List Int),kz[i]?=some a→kz[j]?=some b→a.1=b.1→a.2.length=b.2.length) (T:TotLt (fun i j=>lL (kz.getD i (0,[])) (kz.getD j (0,[]))))
  (h:∀ (p:Array Nat) (s':Shared),PermN xs.length p→iN (fun i j=>lL (kz.getD i (0,[])) (kz.getD j (0,[]))) p xs.length→Inv X.one.one pins σ (upd (upd H S (.lst [])) D (.lst (p.toList.map fun i=>xs.getD i .non))) s'→P (.done (.ret .none)) s') :
  wpAny (model X.prog X.w) X.one.one.A (Builtin.List.listItems (.ref S) >>= fun keys=>ksk_end D false vs.toArray e1 (.ref S) keys) P E s:=by
 obtain⟨z,us,n,ru,hlu,eo⟩:=I.lstM eS
 have lx:=rx.length
 have hD:s.heap.get? D=some (seqObj "list" #[] e1):=(I.pin (D,seqObj "list" #[] e1) (i7 _ (i7 _ (aQP _)))).1
 refine wpAny_bind (listItems_at eo rfl ?_)
 -- the last steps: the keys' list is emptied,the sorted one is laid
 have tail:∀ (st:SortSt) (p:Array Nat) (s1:Shared),Inv X.one.one (pins++[(D,seqObj "list" #[] e1)]) σ H s1→(arrOf st).map (·.2)=List.toArray (p.toList.map fun i=>vs.getD i Value.none)→failedOf st=none→PermN xs.length p →
   iN (fun i j=>lL (kz.getD i (0,[])) (kz.getD j (0,[]))) p xs.length→wpAny (model X.prog X.w) X.one.one.A (ksk_tail D false e1 (.ref S) st) P E s1:=fun st p s1 I1 hout hfl hp hso=>by
  obtain⟨z1,us1,n1,ru1,hlu1,eo1⟩:=I1.lstM eS
  have I2:=I1.lset (t':=s1.toks) (its':=[]) (ys:=[]) (f:=fun _=>#[]) eS eo1 rfl .nil (j9 _)
  have hD1:s1.heap.get? D=some (seqObj "list" #[] e1):=(I1.pin (D,seqObj "list" #[] e1) (i7 _ (i7 _ (aQP _)))).1
  have hD2:(s1.heap.update S (Obj.mapSeq fun _=>(#[]:Array Value))).get? D=some (seqObj "list" #[] e1):=(I2.pin (D,seqObj "list" #[] e1) (i7 _ (i7 _ (aQP _)))).1
  have hps:p.toList.length=xs.length:=by rw[t5];exact hp.size
  have hpb:∀ i∈p.toList,i<xs.length:=fun i hi=>by
   have:=(aQH.mp hp).mem_iff.mp hi
   simpa using this
  unfold ksk_tail
  try dsimp only
  rw[hout]
  refine wpAny_bind (listUpdate_at eo1 rfl ?_ (by rw[c0,sizeLine_eq];omega) (j9 _))
  refine wpAny_bind (wpAny_letGo ?_)
  refine wpAny_bind (seqEpoch_at hD2 rfl ?_)
  simp only [aQR,if_false]
  refine wpAny_bind (listUpdate_at hD2 rfl ?_ (j9 _) (by show (List.toArray (p.toList.map fun i=>vs.getD i Value.none)).size≤_;rw[c0,b7,hps,sizeLine_eq];omega))
  rw[hfl]
  simp only [bne_self_eq_false,aQR,if_false]
  refine wpAny_pure (h p _ hp hso ?_)
  have rv:=pP rx p.toList hpb
  have I3:=I2.unpinned
  have f2:gI X.one.one pins (upd H S (.lst [])) D:=⟨by rw[aE (aI eS hf.1).symm];exact hf.1,hf.2⟩
  have sb:=u6 (s1.heap.update S (Obj.mapSeq fun _=>(#[]:Array Value))) D (Obj.mapSeq fun _=>List.toArray (p.toList.map fun i=>vs.getD i Value.none))
  refine I3.adopt (t':=s1.toks) (D:=D) (fun b o hb e=>(sb.2 b hb).trans e) f2 ⟨by rw[b7,hps,sizeLine_eq];omega,_,_,rv,get?_update_seq hD2 fun _=>List.toArray (p.toList.map fun i=>vs.getD i Value.none)⟩
 unfold ksk_end
 try dsimp only
 simp only [aQR,if_false]
 by_cases h2:xs.length<2
 ·have h2':vs.toArray.size<2:=by rw[c0];omega
  rw[if_pos h2',if_pos h2']
  refine wpAny_bind (wpAny_pure ?_)
  show wpAny _ _ (pure ((),SortSt.mk' general' (us.toArray.zip vs.toArray) #[] 7 none) >>= _) _ _ _
  refine wpAny_bind (wpAny_pure ?_)
  refine tail _ (List.toArray (List.range xs.length)) s I ?_ rfl (aZ7 _) (fun i j hij hj=>?_)
  ·show (us.toArray.zip vs.toArray).map (·.2)=_
   rw[DR us vs (by omega),lx,wW]
  ·have e:i=j:=by omega
   rw[e];exact T.irr _
 ·have h2':¬ vs.toArray.size<2:=by rw[c0];omega
  rw[if_neg h2',if_neg h2']
  have lu:us.length=vs.length:=by omega
  obtain⟨fs,ht,hfl,hfi⟩:=oM I ks us ru fun v hv=>by
   obtain⟨i,hi⟩:=l5 hv
   have hi':i<ks.length:=(a8.mp hi).1
   exact⟨_,hk i v _ hi (wY (by omega))⟩
  refine wpAny_bind (PySem.W.kat_kind (T:=.type "int") ht (by omega) (fun v hv=>?_) (by decide) ?_)
  ·obtain⟨i,t,rfl⟩:=hfi v hv
   exact .now
  ·have hsort:=KTr.wp (cmp:=PySem.W.kas_ask X.prog X.w X.one.one.A (tuples' true) us) (Ok:=Inv X.one.one (pins++[(D,seqObj "list" #[] e1)]) σ H) (fun i j C s' hi hj o k'=>?_) (R:=fun p s'=>(PermN xs.length p∧iN (fun i j=>lL (kz.getD i (0,[])) (kz.getD j (0,[]))) p xs.length)∧Inv X.one.one (pins++[(D,seqObj "list" #[] e1)]) σ H s') (fun a s' q o=>⟨q,o⟩) (CN T (n:=xs.length) (by omega)) I
   ·refine wpAny_bind (wpAny_mono (PySem.W.kat_run (Q:=fun st s'=>∃ p:Array Nat,arrOf st=p.map (PySem.W.kas_item (us.toArray.zip vs.toArray))∧failedOf st=none∧(PermN xs.length p∧iN (fun i j=>lL (kz.getD i (0,[])) (kz.getD j (0,[]))) p xs.length)∧Inv X.one.one (pins++[(D,seqObj "list" #[] e1)]) σ H s')
     lu (by omega) (by omega) (fun p st s' _ a2 a3 a4=>⟨p,a2,a3,a4⟩) (by rw[← lx];exact hsort)) ?_ fun _ _ x=>x)
    rintro⟨⟨⟩,st⟩ s1 ⟨p,har,hfl1,⟨hp,hso⟩,I1⟩
    exact tail st p s1 I1 (PySem.W.kat_snds lu har) hfl1 hp hso
   ·have e1':ks[i]?=some (ks.getD i .non):=by rw[c9,a9 (by omega)];rfl
    have e2':ks[j]?=some (ks.getD j .non):=by rw[c9,a9 (by omega)];rfl
    have z1:=wY (kz:=kz) (i:=i) (by omega)
    have z2:=wY (kz:=kz) (i:=j) (by omega)
    exact C3 hu o (hk i _ _ e1' z1) (hk j _ _ e2' z2) (sJ ru i (by omega)) (sJ ru j (by omega)) (hlen i j _ _ z1 z2) (k' s' o)
theorem AZ{pins:List (Addr×Obj)}{σ:St}{Q:VK}{l:Addr}{xs:List V}{kz:List (Int×List Int)}{Pv:Addr→Nat→List V→Hp→Prop}{s:Shared}{H:Hp}
  (F:FnOk X.prog X.w X.K X.mg X.base yB k f fd ps sp) (hr:Room (k+2) X.A) (hu:X.one.one.A.units+8<cLine) (hb:Binds X.K fd ps []) (I:Inv X pins σ H s) (hq:SqL X.K H l xs) (h64:xs.length<64) (hkl:kz.length=xs.length)
  (hlen:∀ (i j:Nat) (a b:Int×List Int),kz[i]?=some a→kz[j]?=some b→a.1=b.1→a.2.length=b.2.length) (T:TotLt (fun i j=>lL (kz.getD i (0,[])) (kz.getD j (0,[]))))
  (h0:∀ S,H S=none→Pv S 0 [] (upd H S (.lst [])))
  (hst:∀ S i ks H,Pv S i ks H→∀ y,xs[i]?=some y→sp [y] H (fun v H2=>H2 S=some (.lst ks)∧ks.length=i∧Pv S (i+1) (ks++[v]) (upd H2 S (.lst (ks++[v])))) E0)
  (hend:∀ S ks H,Pv S xs.length ks H→H S=some (.lst ks)∧ks.length=xs.length∧(∀ (i:Nat) (v:V) (k:Int×List Int),ks[i]?=some v→kz[i]?=some k→nO H v k) ∧
   ∀ p:Array Nat,PermN xs.length p→iN (fun i j=>lL (kz.getD i (0,[])) (kz.getD j (0,[]))) p xs.length→∀ D,upd H S (.lst []) D=none→Q (.ref D) (upd (upd H S (.lst [])) D (.lst (p.toList.map fun i=>xs.getD i .non)))) :
  wpAny (model X.prog X.w) X.A (call (.builtin "sorted") [.ref l] [(Str.ofString "key",.ref f)]) (EP X pins σ Q) X.xe s:=by
 obtain⟨vs,rx,pl,hz⟩:=I.list hq
 have lx:=rx.length
 refine call_function_entry_kw kind_sorted plain_sorted entry_sorted (ksk_s1 _ _) ?_
 unfold Builtin.«sorted»
 refine wpAny_bind (m:=checkCount "sorted" 1 1 _) (wpAny_pure ?_)
 refine wpAny_bind (collect_list pl.isList ?_ (by rw[sizeLine_eq];omega))
 refine wpAny_bind (wpAny_newList ?_ (by rw[sizeLine_eq];omega))
 have hsz:((s.heap.push (seqObj "list" #[] 0)).update s.heap.objs.size (Obj.mapSeq (·++vs.toArray))).objs.size=s.heap.objs.size+1:=by
  rw[Heap.size_update,size_push']
 have hoL:(((s.heap.push (seqObj "list" #[] 0)).update s.heap.objs.size (Obj.mapSeq (·++vs.toArray))).push (seqObj "list" vs.toArray 0)).get? (s.heap.objs.size+1)=some (seqObj "list" vs.toArray 0):=by
  rw[← hsz];exact d3 _ rfl
 have keep:∀ b o,s.heap.get? b=some o→(((s.heap.push (seqObj "list" #[] 0)).update s.heap.objs.size (Obj.mapSeq (·++vs.toArray))).push (seqObj "list" vs.toArray 0)).get? b=some o:=fun b o q=>by
  have hlt:b<s.heap.objs.size:=c8 q
  rw[aZM _ _ _ (by rw[hsz];exact g6 (Nat.lt_succ_of_lt hlt)),Heap.get?_update_ne _ _ _ _ (g6 hlt),aZM _ _ _ (g6 hlt)]
  exact q
 show wpAny _ _ _ _ _ { s with heap:=((s.heap.push (seqObj "list" #[] 0)).update s.heap.objs.size (Obj.mapSeq (·++vs.toArray))).push (seqObj "list" vs.toArray 0) }
 rw[hsz]
 have I0:Inv X.one.one pins σ H { s with heap:=((s.heap.push (seqObj "list" #[] 0)).update s.heap.objs.size (Obj.mapSeq (·++vs.toArray))).push (seqObj "list" vs.toArray 0) }:=I.one.one.kept (t':=s.toks) keep
 have fD:gI X.one.one pins H (s.heap.objs.size+1):=I.one.one.fpOk (aQT _) (I.hok.fresh (aQT _))
 generalize ((s.heap.push (seqObj "list" #[] 0)).update s.heap.objs.size (Obj.mapSeq (·++vs.toArray))).push (seqObj "list" vs.toArray 0)=hA at hoL keep I0
 generalize s.heap.objs.size+1=D at hoL fD
 refine wpAny_bind (wpAny_holding (wpAny_call_entry_kw slot_list_sort ⟨_,hoL,rfl⟩ entry_list_sort ?body (ksk_l1 _ _)))
 case body =>
  show wpAny (model X.prog X.w) X.A.in1.in1 (Builtin.«list.sort» ⟨[.ref D],[(Str.ofString "key",.ref f)]⟩) _ _ _
  rw[ksk_t1]
  obtain⟨f0,f1,f2,f3,f4,f5⟩:=id fD
  have s1:=u6 hA D (Obj.mapSeq fun _=>(#[]:Array Value))
  obtain⟨e1,ho1⟩:∃ e1,(hA.update D (Obj.mapSeq fun _=>(#[]:Array Value))).get? D=some (seqObj "list" #[] e1):=⟨_,get?_update_seq hoL fun _=>#[]⟩
  have I1:Inv X.one.one pins σ H { s with heap:=hA.update D (Obj.mapSeq fun _=>(#[]:Array Value)) }:=I0.turned (t':=s.toks) (fun b o hb e=>(s1.2 b hb).trans e) f0 f1 f3 f4 f5
  unfold ksk_tree
  refine wpAny_bind (listItems_at hoL rfl ?_)
  refine wpAny_bind (listUpdate_at hoL rfl ?_ (by rw[c0,sizeLine_eq];omega) (j9 _))
  refine wpAny_bind (seqEpoch_at ho1 rfl ?_)
  refine wpAny_bind (wpAny_newTuple ?_ (by show vs.length≤_;rw[sizeLine_eq];omega))
  refine wpAny_bind (wpAny_newList ?_ (j9 _))
  refine wpAny_holding ?_
  show wpAny (model X.prog X.w) X.one.one.A _ _ _ { s with heap:=((hA.update D (Obj.mapSeq fun _=>(#[]:Array Value))).push (seqObj "tuple" vs.toArray 0)).push (seqObj "list" #[] 0) }
  generalize hA.update D (Obj.mapSeq fun _=>(#[]:Array Value))=hB at ho1 I1
  have I2:Inv X.one.one pins σ H { s with heap:=hB.push (seqObj "tuple" vs.toArray 0) }:=I1.kept (t':=s.toks) fun b o e=>b6 _ e
  have ho2:(hB.push (seqObj "tuple" vs.toArray 0)).get? D=some (seqObj "list" #[] e1):=b6 _ ho1
  generalize hB.push (seqObj "tuple" vs.toArray 0)=hC at ho2 I2
  have fS:H hC.objs.size=none:=I2.hok.fresh (b9 _)
  have I3:Inv X.one.one pins σ (upd H hC.objs.size (.lst [])) { s with heap:=hC.push (seqObj "list" #[] 0) }:=I2.lnew (t':=s.toks) (its:=[]) (ys:=[]) .nil (j9 _)
  have ho3:(hC.push (seqObj "list" #[] 0)).get? D=some (seqObj "list" #[] e1):=b6 _ ho2
  have hDS:D≠hC.objs.size:=g6 (c8 ho2)
  have fD3:gI X.one.one pins (upd H hC.objs.size (.lst [])) D:=⟨by rw[aE hDS];exact f0,fD.2⟩
  have I4:=I3.pinned (fp:=[D]) (fun b hb=>by rw[c5.mp hb];exact fD3) (fun b hb=>by rw[c5.mp hb];exact⟨_,ho3,fun v z=>by cases z⟩)
  have epn:kA [D] (hC.push (seqObj "list" #[] 0))=[(D,seqObj "list" #[] e1)]:=by unfold kA;simp[ho3]
  have I5:Inv X.one.one (pins++[(D,seqObj "list" #[] e1)]) σ (upd H hC.objs.size (.lst [])) { s with heap:=hC.push (seqObj "list" #[] 0) }:=by rw[← epn];exact I4
  generalize hC.objs.size=S at fS I5 hDS
  unfold ksk_rest
  refine wpAny_bind (wpAny_rule ?_)
  first
   | rw[List.forIn_toArray]
   | (rw[← aZG];simp only [aXF])
   | rw[← aZG]
  refine wpAny_bind (wpAny_mono (yK (X:=X) (pins:=pins++[(D,seqObj "list" #[] e1)]) (S:=S) (Pv:=Pv S) F hr.in1.in1 hb h64 (fun x s' R hx=>?_) (hst S) xs vs 0 [] _ _ rx rfl (by simp) I5 (h0 S fS)) (fun _ s' hd=>?_) fun _ _ x=>x)
  ·refine wpAny_bind (wpAny_attempt (wpAny_mono hx (fun kv s'' hk=>?_) fun _ _ hF=>hF.elim))
   try dsimp only
   exact wpAny_bind (wpAny_mono hk (fun _ s3 h3=>wpAny_pure h3) fun _ _ x=>x)
  ·obtain⟨ks,H',I6,pv⟩:=hd
   obtain⟨eS,hkl2,hka,hfin⟩:=hend S ks H' pv
   have pD:=(I6.pin (D,seqObj "list" #[] e1) (i7 _ (i7 _ (aQP _)))).2.1
   refine Cv (X:=X) (pins:=pins) (D:=D) (kz:=kz) hu I6 ⟨pD,fD.2⟩ eS rx hkl2 h64 hkl hka hlen T fun p s4 hp hso I7=>?_
   exact⟨_,rfl,wpAny_pure ⟨_,rfl,⟨.ref D,_,(I7.unone I.ok.one).unone I.ok,rfl,hfin p hp hso D (by rw[aE (aI eS pD).symm];exact pD)⟩⟩⟩
theorem Ba{K:b5}{e:Expr}{ta:TA}{kn:Str}{p kp kpos pos:Pos}(hK:X.K=K)(F:FnOk X.prog X.w X.K X.mg X.base yB k f fd ps sp)(hr:Room (k+2) X.A)(hb:Binds X.K fd ps [])
  (hg:Gl X "sorted") (hm:X.mg "sorted"=none) (hgk:Gl X kn) (hmk:X.mg kn=some (.ref f)) (ha:PA X [e] ta) (hkd:(kn == ("__debug__":Str))=false:=by decide)
  (hall:(backToKw pos (keywordEach [⟨some (Str.ofString "key"),.Name kn kp,kpos⟩] X.env)).all (·.1.isSome)=true:=by rfl) (hks:(backToKw pos (keywordEach [⟨some (Str.ofString "key"),.Name kn kp,kpos⟩] X.env)).filterMap (·.1)=[Str.ofString "key"]:=by rfl)
  (hs:backTo pos (starEach [e] X.env)=[(false,eval e X.env)]:=by rfl) (hkw:(backToKw pos (keywordEach [⟨some (Str.ofString "key"),.Name kn kp,kpos⟩] X.env)).any (·.1.isNone)=false:=by rfl) :
  PE X (.Call (.Name "sorted" p) [e] [⟨some (Str.ofString "key"),.Name kn kp,kpos⟩] pos) (Fc K sp ta):=by
 subst hK
 intro pins s σ H Q I h
 refine wpAny_Call_Name_kw (hU I hg hm boot_sorted ?_ (by decide) (by decide))
 refine callWith_kw (bV (ha pos pins s σ H _ I h) fun us s1 ⟨vs,H1,I1,r1,q1⟩=>?_) (by rw[hs];rfl) (by rw[hs];rfl) hall hkw
 obtain⟨l,xs,kz,Pv,rfl,hq,h64,hkl,hlen,T,h0,hst,hend⟩:=q1
 have hpk:PK X [⟨some (Str.ofString "key"),.Name kn kp,kpos⟩] (BV (tC (.ref f)) Cq):=CY (nA (v:=.ref f) hgk hmk rfl hkd) Fe
 refine bV (hpk pos pins s1 σ H1 (fun zs H2=>zs=[.ref f]∧H2=H1) I1 ⟨rfl,rfl⟩) fun ks s2 ⟨zs,H2,I2,r2,e2,e3⟩=>?_
 subst e2 e3
 obtain⟨u,rfl,ru⟩:=kM r1
 obtain⟨kf,rfl,rk⟩:=kM r2
 cases ru
 cases rk
 rw[hks]
 have hu:X.one.one.A.units+8<cLine:=by
  have:=hr.units
  show X.A.units+1+1+8<cLine
  omega
 exact AZ F hr hu hb I2 hq h64 hkl hlen T h0 hst hend
end
end L2
namespace PySem
open Sem (wp)
end PySem
namespace L2
open PySem PySem.Spec PyProof.Rows
end L2
namespace Lw
open PySem PySem.Spec PyProof.Rows L2 Ma MaR
def lA(x:List Nat):Int×List Int:=((x.length:Nat),rks x)
theorem tI:∀ {a b:List Int},a.length=b.length→HT.lexLt a b=true→HT.lexLt b a=false
 | [],[],_,h=>by cases h
 | x::a,y::b,hl,h=>by
  rw[HT.lexLt_cons] at h ⊢
  by_cases e:x=y
  ·subst e
   rw[if_pos rfl] at h ⊢
   exact tI (by simpa using hl) h
  ·rw[if_neg e] at h
   rw[if_neg (fun z=>e z.symm)]
   have:=of_decide_eq_true h
   exact decide_eq_false (by omega)
theorem Bm:∀ {a b c:List Int},a.length=b.length→b.length=c.length→HT.lexLt b a=false→HT.lexLt c b=false→HT.lexLt c a=false
 | [],[],[],_,_,_,h=>h
 | x::a,y::b,z::c,h1,h2,h3,h4=>by
  rw[HT.lexLt_cons] at h3 h4 ⊢
  by_cases e:y=x
  ·subst e
   rw[if_pos rfl] at h3
   by_cases e2:z=y
   ·subst e2
    rw[if_pos rfl] at h4 ⊢
    exact Bm (by simpa using h1) (by simpa using h2) h3 h4
   ·rw[if_neg e2] at h4 ⊢
    exact h4
  ·rw[if_neg e] at h3
   have q1:=of_decide_eq_false h3
   by_cases e2:z=y
   ·subst e2
    rw[if_neg e]
    exact h3
   ·rw[if_neg e2] at h4
    have q2:=of_decide_eq_false h4
    rw[if_neg (by omega)]
    exact decide_eq_false (by omega)
def CJ(k:Int×List Int):Prop:=k.1=(k.2.length:Nat)
theorem Bl{a b:Int×List Int}(ha:CJ a)(hb:CJ b)(h:lL a b=true):lL b a=false:=by
 unfold lL at h ⊢
 unfold CJ at ha hb
 by_cases e:a.1=b.1
 ·rw[if_pos e] at h
  rw[if_pos e.symm]
  exact tI (by omega) h
 ·rw[if_neg e] at h
  rw[if_neg (fun z=>e z.symm)]
  have:=of_decide_eq_true h
  exact decide_eq_false (by omega)
theorem Ey{a b c:Int×List Int}(ha:CJ a)(hb:CJ b)(hc:CJ c)(h1:lL b a=false)(h2:lL c b=false):lL c a=false:=by
 unfold lL at h1 h2 ⊢
 unfold CJ at ha hb hc
 by_cases e:b.1=a.1
 ·rw[if_pos e] at h1
  by_cases e2:c.1=b.1
  ·rw[if_pos e2] at h2
   rw[if_pos (e2.trans e)]
   exact Bm (by omega) (by omega) h1 h2
  ·rw[if_neg e2] at h2
   rw[if_neg (by omega)]
   have:=of_decide_eq_false h2
   exact decide_eq_false (by omega)
 ·rw[if_neg e] at h1
  have q1:=of_decide_eq_false h1
  by_cases e2:c.1=b.1
  ·rw[if_neg (by omega)]
   exact decide_eq_false (by omega)
  ·rw[if_neg e2] at h2
   have q2:=of_decide_eq_false h2
   rw[if_neg (by omega)]
   exact decide_eq_false (by omega)
theorem gN(x:List Nat):CJ (lA x):=by
 unfold CJ lA
 rw[nC]
theorem lR(ws:List (List Nat))(i:Nat):(ws.map lA).getD i (0,[])=lA (ws.getD i []):=by
 rw[c9,c7,c9]
 cases ws[i]? with
 | none=>rfl
 | some x=>rfl
theorem Ce(ws:List (List Nat)):TotLt (fun i j=>lL ((ws.map lA).getD i (0,[])) ((ws.map lA).getD j (0,[]))):=by
 refine⟨fun i j h=>?_,fun i j k h1 h2=>?_⟩
 ·simp only [lR] at h ⊢
  exact Bl (gN _) (gN _) h
 ·simp only [lR] at h1 h2 ⊢
  exact Ey (gN _) (gN _) (gN _) h1 h2
def Bw(x y:List Nat):Prop:=lL (lA y) (lA x)=false
theorem vZ{ws:List (List Nat)}{p:Array Nat}(h:PermN ws.length p):(p.toList.map fun i=>ws.getD i []).Perm ws:=by
 have h1:=(aQH.mp h).map fun i=>ws.getD i []
 have e:(List.range ws.length).map (fun i=>ws.getD i [])=ws:=by
  refine aQg fun i=>?_
  by_cases hi:i<ws.length
  ·simp[hi]
  ·simp[hi]
 simp only [aXF] at h1
 rw[e] at h1
 exact h1
theorem rK{ws:List (List Nat)}{p:Array Nat}{n:Nat}(hn:ws.length=n)(h:PermN n p)(so:iN (fun i j=>lL ((ws.map lA).getD i (0,[])) ((ws.map lA).getD j (0,[]))) p n):(p.toList.map fun i=>ws.getD i []).Pairwise Bw:=by
 rw[List.pairwise_iff_getElem]
 intro i j hi hj hij
 have hs:=h.size
 rw[b7,t5] at hi hj
 have:=so i j (by omega) (by omega)
 simp only [lR] at this
 unfold Bw
 rw[aZY,aZY]
 have e1:p.getD i 0=p.toList[i]'(by rw[t5];exact hi):=by simp[Array.getD,hi]
 have e2:p.getD j 0=p.toList[j]'(by rw[t5];exact hj):=by simp[Array.getD,hj]
 rw[← e1,← e2]
 exact this
theorem B7(ws:List (List Nat))(l:List Nat)(h:∀ i∈l,i<ws.length):(l.map fun i=>(bE ws).getD i .non)=bE (l.map fun i=>ws.getD i []):=by
 unfold bE
 rw[y0]
 refine t7 fun i hi=>?_
 have:=h i hi
 simp[c9,this]
theorem _root_.L2.SqL_same{K:b5}{H H':Hp}{a:Addr}{xs:List V}(s:Same H H')(h:SqL K H a xs):SqL K H' a xs:=by
 rcases h with (h | ⟨o,h⟩) | h
 ·exact .inl (.inl (s _ _ h))
 ·exact .inl (.inr ⟨o,s _ _ h⟩)
 ·exact .inr h
theorem yW:∀ {x y:List Nat},AllL x→AllL y→rks x=rks y→x=y
 | [],[],_,_,_=>rfl
 | [],_::_,_,_,h=>by simp[rks] at h
 | _::_,[],_,_,h=>by simp[rks] at h
 | a::x,b::y,hx,hy,h=>by
  obtain⟨e1,e2⟩:=List.cons.inj (show ((rk a:Nat):Int)::rks x=((rk b:Nat):Int)::rks y from h)
  rw[EO (AllL.cons.mp hx).1 (AllL.cons.mp hy).1 (by omega),yW (AllL.cons.mp hx).2 (AllL.cons.mp hy).2 e2]
theorem Cm:∀ {a b:List Int},a.length=b.length→HT.lexLt a b=false→HT.lexLt b a=false→a=b
 | [],[],_,_,_=>rfl
 | x::a,y::b,hl,h1,h2=>by
  rw[HT.lexLt_cons] at h1 h2
  by_cases e:x=y
  ·subst e
   rw[if_pos rfl] at h1 h2
   rw[Cm (by simpa using hl) h1 h2]
  ·rw[if_neg e] at h1
   rw[if_neg (fun z=>e z.symm)] at h2
   have:=of_decide_eq_false h1
   have:=of_decide_eq_false h2
   omega
theorem Bs{x y:List Nat}(hx:AllL x)(hy:AllL y)(h1:Bw x y)(h2:Bw y x):x=y:=by
 unfold Bw lL lA at h1 h2
 dsimp only at h1 h2
 by_cases e:x.length=y.length
 ·rw[if_pos (by omega)] at h1 h2
  exact yW hx hy (Cm (by rw[nC,nC,e]) h2 h1)
 ·rw[if_neg (by omega)] at h1 h2
  have:=of_decide_eq_false h1
  have:=of_decide_eq_false h2
  omega
theorem qN:∀ {ps qs:List (List Nat)},(∀ x∈ps,AllL x)→ps.Perm qs→ps.Pairwise Bw→qs.Pairwise Bw→ps=qs
 | [],qs,_,h,_,_=>by rw[List.nil_perm.mp h]
 | x::ps,[],_,h,_,_=>by exact absurd h.length_eq (by simp)
 | x::ps,y::qs,ha,h,h1,h2=>by
  have hy:y∈x::ps:=h.mem_iff.mpr d9
  have hx:x∈y::qs:=h.mem_iff.mp d9
  obtain⟨p1,p2⟩:=aZH.mp h1
  obtain⟨q1,q2⟩:=aZH.mp h2
  have e:x=y:=by
   rcases c6.mp hy with e | m1
   ·exact e.symm
   ·rcases c6.mp hx with e | m2
    ·exact e
    ·exact Bs (ha x d9) (ha y hy) (p1 y m1) (q1 x m2)
  subst e
  rw[qN (fun z hz=>ha z (d4 _ hz)) (List.perm_cons _ |>.mp h) p2 q2]
theorem gR{c:Nat}(h:cN c):AllL [c]:=fun d hd=>by rw[c5.mp hd];exact h
theorem zC{n c:Nat}(h:c∈dD n):cN c:=by
 have:c∈[97,98,99,100]:=p9 h
 simp only [c6,n9,or_false] at this
 unfold cN
 omega
theorem iG{n:Nat}(h4:n≤4):(dD n).length=n:=by unfold dD;rw[i9];simp;omega
theorem BY{n c:Nat}(h1:1≤n)(h4:n≤4)(h:c∈aJ n):(bO c=true∧(dD n)[c - 97]?=some c)∨(bO c=false∧(dD n)[c - 65]?=some (aU c)):=by
 have hL:=aW (aV h)
 rcases CH h1 h4 with rfl | rfl | rfl | rfl <;> rcases hL with rfl | rfl | rfl | rfl | rfl | rfl | rfl | rfl <;> revert h <;> decide
theorem nU{f g:Nat→List Nat}:∀ {w:List Nat},(∀ c∈w,f c=g c)→w.flatMap f=w.flatMap g
 | [],_=>rfl
 | c::w,h=>by rw[z9,z9,h c d9,nU fun d hd=>h d (d4 _ hd)]
theorem kR{n c:Nat}(h1:1≤n)(h4:n≤4)(h:c∈dD n):c∈aJ n:=DH h1 h4 [c] (j2.mpr ⟨c,h,rfl⟩) c (c5.mpr rfl)
theorem Bz{n i:Nat}(hv:(bE (cM n))[i]?=some (.str (S [97+i]))):(dD n)[i]?=some (97+i):=by
 obtain⟨x,hx,ex⟩:=dP hv
 have ex':=Bb (V.str.inj ex)
 unfold cM at hx
 rw[c7] at hx
 cases hq:(dD n)[i]? with
 | none=>rw[hq] at hx;cases hx
 | some c=>rw[hq] at hx;cases hx;simpa using ex'.symm
def qU(c:Nat)(sd:List Nat)(d:Nat):List Nat:=if d=lo c then [d] else (if aU d∈sd then [aU c] else [])++[d]++(if d∈sd then [c] else [])
def iE(n c:Nat)(sd:List Nat):List (List Nat):=(dD n).map (qU c sd)
theorem BH(d:Nat)(sd:List Nat):FO (.str (S [d])) (bJ sd)=decide (d∈sd):=by
 unfold FO bJ
 rw[y4,aZZ,decide_eq_true_iff]
 constructor
 ·rintro⟨v,hv,he⟩
  obtain⟨e,hm,rfl⟩:=j2.mp hv
  have h2:decide (S [e]=S [d])=true:=he
  have:=Bb (of_decide_eq_true h2)
  have h3:e=d:=by simpa using this
  rw[← h3];exact hm
 ·intro h
  refine⟨_,j2.mpr ⟨d,h,rfl⟩,?_⟩
  show decide (S [d]=S [d])=true
  exact decide_eq_true rfl
theorem pL(sd:List Nat):(bJ sd).all fW=true:=by
 rw[y1]
 intro v hv
 obtain⟨x,_,rfl⟩:=j2.mp hv
 rfl
def IsChg(H:Hp)(p:Addr)(c:Nat)(sd:List Nat):Prop:=∃ q,H p=some (.tup [.str (S [c]),.ref q])∧H q=some (.tup (bJ sd))
theorem IsChg.same{H H':Hp}{p:Addr}{c:Nat}{sd:List Nat}(h:IsChg H p c sd)(s:Same H H'):IsChg H' p c sd:=by
 obtain⟨q,h1,h2⟩:=h
 exact⟨q,s _ _ h1,s _ _ h2⟩
theorem CS(c:Nat)(sd:List Nat)(d:Nat):(qU c sd d).length≤3:=by
 unfold qU
 split
 ·simp
 ·rw[b8,b8]
  split <;> split <;> simp
theorem CV{c d:Nat}{sd:List Nat}(hc:cN c)(hd:cN d):AllL (qU c sd d):=by
 unfold qU
 split
 ·exact gR hd
 ·refine AllL.app.mpr ⟨AllL.app.mpr ⟨?_,gR hd⟩,?_⟩
  ·split
   ·exact gR (cZ hc)
   ·exact AllL.nil
  ·split
   ·exact gR hc
   ·exact AllL.nil
theorem DO{n c d:Nat}{sd:List Nat}(h1:1≤n)(h4:n≤4)(hc:c∈aJ n)(hd:d∈aJ n):OfN n (qU c sd d):=by
 have one:∀ {e:Nat},e∈aJ n→OfN n [e]:=fun he z hz=>by rw[c5.mp hz];exact he
 unfold qU
 split
 ·exact one hd
 ·refine OfN.app (OfN.app ?_ (one hd)) ?_
  ·split
   ·exact one (dF (by omega) (by omega) hc)
   ·exact OfN.nil
  ·split
   ·exact one hc
   ·exact OfN.nil
theorem yP{n c:Nat}{sd:List Nat}(h4:n≤4)(hc:cN c):RT (iE n c sd) n 3:=by
 refine⟨by unfold iE;rw[b7,iG h4],fun x hx=>?_,fun x hx=>?_⟩
 ·obtain⟨d,hd,rfl⟩:=j2.mp hx
  exact CV hc (zC hd)
 ·obtain⟨d,hd,rfl⟩:=j2.mp hx
  exact CS c sd d
theorem vJ{n c:Nat}{sd:List Nat}(h1:1≤n)(h4:n≤4)(hc:c∈aJ n):∀ x∈iE n c sd,OfN n x:=fun x hx=>by
 obtain⟨d,hd,rfl⟩:=j2.mp hx
 exact DO h1 h4 hc (kR h1 h4 hd)
theorem yR{n d:Nat}(h:d∈dD n):bO d=true:=by
 have:d∈[97,98,99,100]:=p9 h
 simp only [c6,n9,or_false] at this
 unfold bO
 exact decide_eq_true (by omega)
theorem EZ{c d:Nat}:decide (V.str (S [d])=V.str (S [lo c]))=decide (d=lo c):=by
 rw[eO]
 by_cases h:d=lo c
 ·rw[h,decide_eq_true rfl,decide_eq_true rfl]
 ·rw[decide_eq_false h,decide_eq_false (by simpa using h)]
theorem D_(w:List Nat)(b:Bool):Txt.mul (S w) (if b=true then 1 else 0)=S (if b=true then w else []):=by
 cases b with
 | true =>
  show Txt.mul (S w) 1=S w
  unfold Txt.mul
  rw[if_neg (by decide),if_pos (by rfl)]
 | false =>
  show Txt.mul (S w) 0=S []
  unfold Txt.mul
  rw[if_pos (by decide)]
  rfl
theorem yX(c:Nat)(b:Bool):MulOk (S [c]) (if b=true then 1 else 0):=by
 cases b with
 | true=>exact EK [c] 1 (by decide) (by decide) (by simp)
 | false =>
  refine⟨by decide,fun h=>?_,fun h=>?_⟩
  ·exact absurd h (by decide)
  ·exact absurd h (by decide)
def tW:Sp:=fun vs H Q _=>∃ (n:Nat) (p:Addr) (c:Nat) (sd:List Nat),vs=[.int (n:Nat),.ref p]∧1≤n∧n≤4∧IsChg H p c sd∧cN c∧(∀ d∈sd,cN d)∧∀ (t:Addr) (H':Hp),H t=none→Same H H'→H' t=some (.tup (bE (iE n c sd)))→Q (.ref t) H'
end Lw
namespace L2
open PySem PySem.Spec PyProof.Rows
section
variable {prog:Program}{w:World}{A:Around}{E:Value→Shared→Prop}{s:Shared}
theorem Ae{it d:Addr}{i n ep:Nat}{o:Obj}{es:Array DictEntry}{e:DictEntry}{Q:Fin→Shared→Prop}(hit:s.heap.IsKeyIter it d i es.size ep)(hd:s.heap.get? d=some o)(dt:o.data=.dict es ep)(he:es[i]?=some e)
  (hQ:∀ g,g.IsKeyIter it d (i+1) es.size ep→Heap.SameBut it s.heap g→Q (.done (.ret e.key)) { s with heap:=g }) :
  wpAny (model prog w) A (Builtin.«dict_keyiterator.__next__» ⟨[.ref it],[]⟩) Q E s:=by
 obtain⟨oi,go,co,do'⟩:=id hit
 have hT:s.TypeIs (.ref it) "dict_keyiterator":=⟨_,go,co⟩
 show wpAny _ _ (Builtin.Dict_items.slot0 "__next__" ⟨[.ref it],[]⟩ >>= _) _ _ _
 rw[show Builtin.Dict_items.slot0 "__next__" ⟨[.ref it],[]⟩=pure (.ref it) from rfl]
 refine wpAny_bind (wpAny_pure (wpAny_bind ?_))
 show wpAny _ _ (_ >>= _) _ _ _
 refine wpAny_bind ?_
 refine wpAny_bind (wpAny_typeNameOfWhole_keyiter hT (wpAny_pure ?_))
 rw[show (if Builtin.Dict_items.ownsTuple "dict_keyiterator"=true then 2 else 0)=0 from rfl]
 refine wpAny_bind (wpAny_fieldsOf go do' ?_)
 show wpAny _ _ (if (Value.ref d == Value.none)=true then _ else _) _ _ _
 rw[if_neg (by intro c;cases c)]
 refine wpAny_bind (wpAny_pure (wpAny_bind (wpAny_dictEntries hd dt ?_)))
 dsimp only
 rw[if_neg (by simp)]
 refine wpAny_bind (wpAny_pure (wpAny_bind (wpAny_dictEpoch hd dt ?_)))
 rw[if_neg (by simp)]
 refine wpAny_pure ?_
 dsimp only
 rw[if_neg (by omega),aQI,he]
 dsimp only
 refine wpAny_bind (wpAny_bind (wpAny_typeNameOfWhole_keyiter hT (wpAny_pure ?_)))
 rw[show (if Builtin.Dict_items.ownsTuple "dict_keyiterator"=true then 2 else 0)=0 from rfl]
 refine wpAny_bind (wpAny_isOneOf_keyiter hT ?_)
 refine wpAny_bind (wpAny_setField go do' (by simp) ?_)
 have gu:(s.heap.update it (Obj.mapFields fun x=>x.setIfInBounds (0+1) (rawInt ((i:Int)+1)))).IsKeyIter it d (i+1) es.size ep:=by
  refine⟨_,y2 _ go (aQZ (u9 do' _)),(aXR ..).trans co,?_⟩
  rw[u9 do' _]
  rfl
 have sb:Heap.SameBut it s.heap (s.heap.update it (Obj.mapFields fun x=>x.setIfInBounds (0+1) (rawInt ((i:Int)+1)))):=u6 ..
 have hT2:Shared.TypeIs { s with heap:=s.heap.update it (Obj.mapFields fun x=>x.setIfInBounds (0+1) (rawInt ((i:Int)+1))) } (.ref it) "dict_keyiterator":=by
  obtain⟨o2,g2,c2,_⟩:=gu
  exact⟨_,g2,c2⟩
 refine wpAny_bind (wpAny_holding (wpAny_bind (wpAny_isOneOf_keyiter hT2 ?_)))
 refine wpAny_pure (wpAny_pure ?_)
 exact hQ _ gu sb
theorem BR{it d:Addr}{i n ep:Nat}{o:Obj}{es:Array DictEntry}{Q:Fin→Shared→Prop}(hh:A.handled=none)(hit:s.heap.IsKeyIter it d i es.size ep)(hd:s.heap.get? d=some o)(dt:o.data=.dict es ep)(he:es[i]?=none)
  (hE:∀ g e,Heap.ExtBut it s.heap g→(∃ o,g.get? e=some o∧o.cls=.type "StopIteration")→E (.ref e) { s with heap:=g }) :
  wpAny (model prog w) A (Builtin.«dict_keyiterator.__next__» ⟨[.ref it],[]⟩) Q E s:=by
 obtain⟨oi,go,co,do'⟩:=id hit
 have hT:s.TypeIs (.ref it) "dict_keyiterator":=⟨_,go,co⟩
 show wpAny _ _ (Builtin.Dict_items.slot0 "__next__" ⟨[.ref it],[]⟩ >>= _) _ _ _
 rw[show Builtin.Dict_items.slot0 "__next__" ⟨[.ref it],[]⟩=pure (.ref it) from rfl]
 refine wpAny_bind (wpAny_pure (wpAny_bind ?_))
 show wpAny _ _ (_ >>= _) _ _ _
 refine wpAny_bind ?_
 refine wpAny_bind (wpAny_typeNameOfWhole_keyiter hT (wpAny_pure ?_))
 rw[show (if Builtin.Dict_items.ownsTuple "dict_keyiterator"=true then 2 else 0)=0 from rfl]
 refine wpAny_bind (wpAny_fieldsOf go do' ?_)
 show wpAny _ _ (if (Value.ref d == Value.none)=true then _ else _) _ _ _
 rw[if_neg (by intro c;cases c)]
 refine wpAny_bind (wpAny_pure (wpAny_bind (wpAny_dictEntries hd dt ?_)))
 dsimp only
 rw[if_neg (by simp)]
 refine wpAny_bind (wpAny_pure (wpAny_bind (wpAny_dictEpoch hd dt ?_)))
 rw[if_neg (by simp)]
 refine wpAny_pure ?_
 dsimp only
 rw[if_neg (by omega),aQI,he]
 dsimp only
 refine wpAny_bind (wpAny_bind (wpAny_typeNameOfWhole_keyiter hT (wpAny_pure ?_)))
 rw[show (if Builtin.Dict_items.ownsTuple "dict_keyiterator"=true then 2 else 0)=0 from rfl]
 refine wpAny_bind (wpAny_setField go do' (by simp) ?_)
 refine wpAny_bind ?_
 simp only [newExc,newTuple]
 refine wpAny_bind (wpAny_newObj_type ?_ (by size_fits))
 refine wpAny_bind (m:=firstArgMember _ _) (wpAny_of_eq (a:=Value.none) (by first | rfl | (simp only [firstArgMember];rfl)) ?_)
 refine wpAny_newObj_type ?_ (by size_fits)
 simp only [raiseNew]
 refine wpAny_bind (wpAny_handled ?_)
 first | rw[show A.in1.handled=none from hh] | rw[hh]
 refine wpAny_bind (wpAny_pure (wpAny_throw ?_))
 exact hE _ _ (((u6 ..).extBut.push _).push _) ⟨_,d3 _ rfl,rfl⟩
theorem wD{it d:Addr}{i n ep:Nat}{o:Obj}{es:Array DictEntry}{e:DictEntry}{Q:Option Value→Shared→Prop}(hit:s.heap.IsKeyIter it d i es.size ep)(hd:s.heap.get? d=some o)(dt:o.data=.dict es ep)(he:es[i]?=some e)
  (hQ:∀ g,g.IsKeyIter it d (i+1) es.size ep→Heap.SameBut it s.heap g→Q (some e.key) { s with heap:=g }):wpAny (model prog w) A (pyNext (.ref it)) Q E s:=by
 have hT:s.TypeIs (.ref it) "dict_keyiterator":=let ⟨_,go,co,_⟩:=hit;⟨_,go,co⟩
 unfold pyNext
 exact wpAny_bind (wpAny_attempt (wpAny_callSpecial?_slot (name:=Str.ofString "__next__") hT x6 (wpAny_call_entry x6 hT aXC (Ae (n:=0) hit hd dt he fun g b1 b2=>⟨_,rfl,wpAny_pure (hQ g b1 b2)⟩) (aQy _))))
theorem Ab{it d:Addr}{i n ep:Nat}{o:Obj}{es:Array DictEntry}{Q:Option Value→Shared→Prop}(hh:A.handled=none)(hit:s.heap.IsKeyIter it d i es.size ep)(hd:s.heap.get? d=some o)(dt:o.data=.dict es ep)(he:es[i]?=none)
  (hQ:∀ g,Heap.ExtBut it s.heap g→Q none { s with heap:=g }):wpAny (model prog w) A (pyNext (.ref it)) Q E s:=by
 have hT:s.TypeIs (.ref it) "dict_keyiterator":=let ⟨_,go,co,_⟩:=hit;⟨_,go,co⟩
 unfold pyNext
 refine wpAny_bind (wpAny_attempt (wpAny_callSpecial?_slot (name:=Str.ofString "__next__") hT x6 (wpAny_call_entry x6 hT aXC (BR (n:=0) hh hit hd dt he fun g e kp hx=>?_) (aQy _))))
 obtain⟨o,go,co⟩:=hx
 exact wpAny_bind (wpAny_isInstance (T:="StopIteration") (b:=true) ⟨o,go,co⟩ isSubtype_stop (wpAny_pure (hQ _ kp)))
end
section
variable {X:Cx}{pins:List (Addr×Obj)}{σ:St}{H:Hp}{s:Shared}
theorem Inv.swap{d:Addr}{u u':HO}(I:Inv X pins σ H s)(e:H d=some u)(nt:∀ xs,u≠.tup xs)(nf:(∀ o v,u≠.frz o v)∨∀ o v,X.H₀ d≠some (.frz o v))(nb:∀ ps,u≠.tbl ps)(no:∀ x,u≠.own x)
  (new:ObjOk X.prog X.w (upd H d u') s.heap d u'):Inv X pins σ (upd H d u') s:=by
 have ne:∀ {b:Addr},H b=none→b≠d:=fun h z=>by rw[z,e] at h;cases h
 have tp:∀ b xs,H b=some (.tup xs)→upd H d u' b=some (.tup xs):=fun b xs h=>by
  rw[aE (fun z=>by rw[z,e] at h;exact nt xs (d6 h))];exact h
 refine⟨I.ok,I.os,I.bare,⟨I.base.keep,I.base.slot,fun b o h n hx=>?_,I.base.there,fun b xs h=>tp b xs (I.base.tups b xs h),fun b o v h=>?_,fun b ps h=>?_⟩,I.loc,I.cell,?_,fun x c h=>?_,fun p hp=>?_,fun b v h=>?_,I.len⟩
 ·have:=I.base.free b o h n hx
  rw[aE (ne this)];exact this
 ·have h1:=I.base.frzs b o v h
  rw[aE]
  ·exact h1
  ·intro z
   subst z
   rcases nf with nf | nf
   ·rw[e] at h1;exact nf o v (d6 h1)
   ·exact nf o v h
 ·obtain⟨more,h1⟩:=I.base.tbls b ps h
  refine⟨more,?_⟩
  rw[aE]
  ·exact h1
  ·intro z
   subst z
   rw[e] at h1
   exact nb _ (d6 h1)
 ·rw[aE (ne I.free)];exact I.free
 ·rw[aE (ne (I.freeC x c h))];exact I.freeC x c h
 ·obtain⟨h1,h2,h3⟩:=I.pin p hp
  exact⟨h1,by rw[aE (ne h2)];exact h2,h3⟩
 ·by_cases hb:b=d
  ·subst hb
   rw[aB] at h
   cases h
   exact new
  ·rw[aE hb] at h
   refine(I.hok b v h).stay (fun _ _ _ q=>q) (fun c q=>?_) tp
   rw[aE (fun z=>by rw[z,e] at q;exact no b (d6 q))];exact q
end
theorem BE{prog:Program}{w:World}{A:Around}{E:Value→Shared→Prop}{s:Shared}{d:Addr}{o:Obj}{es:Array DictEntry}{ep:Nat}{Q:Value→Shared→Prop}(hn:(d == sysModules)=false)(hd:s.heap.get? d=some o)(ho:o.ExactDict)(dt:o.data=.dict es ep)
  (h:Q (.ref s.heap.objs.size) { s with heap:=s.heap.push { cls:=.type "dict_keyiterator",data:=.fields #[.ref d,.int 0 0,.int es.size 0,.int ep 0] } }):wpAny (model prog w) A (pyIter (.ref d)) Q E s:=by
 have hT:s.TypeIs (.ref d) "dict":=⟨_,hd,ho.1⟩
 refine wpAny_pyIter_slot hT aZ0 (wpAny_call_entry aZ0 hT F.entry_dict_iter ?_ (F.args_dict_iter_1 _))
 unfold Builtin.«dict.__iter__» Builtin.Dict.dictSlotNone Builtin.Dict.notOrdered
 rw[if_pos (by decide)]
 refine wpAny_bind (wpAny_bind (wpAny_bind (wpAny_typeOf hT ?_)))
 rw[if_neg (by decide)]
 refine wpAny_pure ?_
 rw[show slotArgs "__iter__" 0 ⟨[.ref d],[]⟩=pure (.ref d,[]) from rfl]
 refine wpAny_bind (wpAny_pure (wpAny_pure (wpAny_bind (wpAny_pure (wpAny_bind ?_)))))
 unfold Builtin.Dict.showsAll
 rw[hn]
 refine wpAny_pure (wpAny_bind (wpAny_dictEntries hd dt (wpAny_bind (wpAny_dictEpoch hd dt (wpAny_bind ?_)))))
 unfold newFields
 refine wpAny_newObj_type (wpAny_pure ⟨_,rfl,"dict_keyiterator",_,⟨_,d3 _ rfl,rfl⟩,x6.lookup,?_⟩) (by size_fits)
 exact h
theorem mI(ns:List Int):∀ n,preSum (fun i=>(ns[i]?).getD 0) n=(ns.take n).sum
 | 0=>by simp[preSum]
 | n+1=>by
  show preSum (fun i=>(ns[i]?).getD 0) n+(ns[n]?).getD 0=_
  rw[mI ns n]
  by_cases h:n<ns.length
  ·rw[t8,a9 h,List.sum_append]
   simp
  ·rw[aQD (by omega),t4 (by omega),t4 (by omega)]
   simp
theorem rE:∀ {ns:List Int} {us:List Value},Vals (ns.map V.int) us→us.length=ns.length∧∀ (i:Nat) (v:Value),us[i]?=some v→∃ t,v=Value.int ((ns[i]?).getD 0) t
 | [],us,r=>by
  cases r
  exact⟨rfl,fun i v h=>by simp at h⟩
 | n::ns,us,r=>by
  rw[i6] at r
  cases r with
  | cons r1 r2 =>
   obtain⟨t,rfl⟩:=r1
   obtain⟨h1,h2⟩:=rE r2
   refine⟨by rw[j1,j1,h1],fun i v h=>?_⟩
   cases i with
   | zero=>exact⟨t,by simpa using h.symm⟩
   | succ i=>simpa using h2 i v (by simpa using h)
section
variable {X:Cx}{K:b5}
theorem qV(hK:X.K=K)(hc:X.calm=true):fC X (.builtin "sum") (fun xs H Q=>∃ (a:Addr) (ns:List Int),xs=[.ref a]∧SqL K H a (ns.map V.int)∧Q (.int ns.sum) H):=by
 subst hK
 intro pins s σ H xs us Q I r h
 obtain⟨a,ns,rfl,hq,q⟩:=h
 obtain⟨u,rfl,ru⟩:=r.one
 cases ru
 obtain⟨its,rv,pl,_⟩:=I.list hq
 have hl:=pl.isList
 obtain⟨hn,hi⟩:=rE rv
 have hlt:a<s.heap.objs.size:=by obtain⟨_,e,_⟩:=hl;exact c8 e
 refine call_sum_walkG (wpAny_pyIter_list hl ?_)
 refine⟨s.heap.objs.size,[s.heap.objs.size,a],[s.heap.objs.size],its.toArray.size,_,_,fun i=>(ns[i]?).getD 0,rfl,aJL (A:=X.A.in1) (I.ok.hd hc) _ a (g6 hlt) its.toArray,
  ⟨⟨_,d3 _ rfl,rfl,rfl⟩,hl.push _⟩,?_,fun i v hP=>hi i v (by simpa using hP),fun h' tk t' hk=>?_⟩
 ·intro b hb
  simp only [c6,n9,or_false] at hb
  rcases hb with rfl | rfl
  ·exact c8 (d3 _ rfl)
  ·exact l6 hlt (by show _≤(s.heap.push _).objs.size;rw[x0];exact aQT _)
 ·rw[mI,c0,hn,k0]
  exact⟨.int _,H,I.kept (t':=tk) (aZf hk),⟨_,rfl⟩,q⟩
end
end L2
namespace Lw
open PySem PySem.Spec PyProof.Rows L2 Ma MaR
abbrev Dw(K:b5)(sp:Sp)(vs:List V)(H1:Hp)(Q:VK):Prop:=∃ (l:Addr) (xs:List V) (kz:List (Int×List Int)) (Pv:Addr→Nat→List V→Hp→Prop),vs=[.ref l]∧SqL K H1 l xs∧xs.length<64∧kz.length=xs.length ∧
 (∀ (i j:Nat) (a b:Int×List Int),kz[i]?=some a→kz[j]?=some b→a.1=b.1→a.2.length=b.2.length)∧TotLt (fun i j=>lL (kz.getD i (0,[])) (kz.getD j (0,[]))) ∧
 (∀ S,H1 S=none→Pv S 0 [] (upd H1 S (.lst []))) ∧
 (∀ S i ks H,Pv S i ks H→∀ y,xs[i]?=some y→sp [y] H (fun v H2=>H2 S=some (.lst ks)∧ks.length=i∧Pv S (i+1) (ks++[v]) (upd H2 S (.lst (ks++[v])))) E0) ∧
 (∀ S ks H,Pv S xs.length ks H→H S=some (.lst ks)∧ks.length=xs.length∧(∀ (i:Nat) (v:V) (k:Int×List Int),ks[i]?=some v→kz[i]?=some k→nO H v k) ∧
  ∀ p:Array Nat,PermN xs.length p→iN (fun i j=>lL (kz.getD i (0,[])) (kz.getD j (0,[]))) p xs.length→∀ D,upd H S (.lst []) D=none→Q (.ref D) (upd (upd H S (.lst [])) D (.lst (p.toList.map fun i=>xs.getD i .non))))
theorem BS{K:b5}{H:Hp}{Q:VK}{l:Addr}{ws:List (List Nat)}(hq:SqL K H l (bE ws))(h64:ws.length<64)(hall:∀ x∈ws,AllL x∧x.length≤900)
  (k:∀ (D:Addr) (ws':List (List Nat)) (H':Hp),H D=none→Same H H'→H' D=some (.lst (bE ws'))→ws'.Perm ws→ws'.Pairwise Bw→Q (.ref D) H'):Dw K Ch [.ref l] H Q:=by
 refine⟨l,bE ws,ws.map lA,fun S i ks H1=>H S=none∧Same H H1∧H1 S=some (.lst ks)∧ks.length=i∧∀ (j:Nat) (v:V) (x:List Nat),ks[j]?=some v→ws[j]?=some x→∃ p a:Addr,v=.ref p∧a≠S∧H1 p=some (.tup [.int (lA x).1,.ref a])∧H1 a=some (.lst ((lA x).2.map V.int)),rfl,hq,by rw[aM];exact h64,by rw[aM,b7],fun i j a b ha hb e=>?_,Ce ws,fun S hS=>⟨hS,Same.new hS,aB,rfl,fun j v x hv=>by simp at hv⟩,?_,?_⟩
 ·rw[c7] at ha hb
  obtain⟨x,_,rfl⟩:=d8.mp ha
  obtain⟨y,_,rfl⟩:=d8.mp hb
  have h1:=gN x
  have h2:=gN y
  unfold CJ at h1 h2
  omega
 ·rintro S i ks H1 ⟨hS,s1,eS,hkl,hks⟩ y hy
  obtain⟨x,hx,rfl⟩:=dP hy
  obtain⟨hxa,hxl⟩:=hall x (b0 hx)
  refine⟨x,rfl,hxa,hxl,fun p a H2 hp ha s2 ep ea=>⟨s2 _ _ eS,hkl,hS,(s1.trans s2).upd hS,aB,by rw[b8,hkl];rfl,fun j v z hv hz=>?_⟩⟩
  have hpS:p≠S:=(aI eS hp).symm
  have haS:a≠S:=(aI eS ha).symm
  by_cases hj:j<ks.length
  ·rw[m9 hj] at hv
   obtain⟨p',a',e0,e1,e2,e3⟩:=hks j v z hv hz
   refine⟨p',a',e0,e1,?_,?_⟩
   ·rw[aE (cC e2 eS (by intro z;cases z))];exact s2 _ _ e2
   ·rw[aE e1];exact s2 _ _ e3
  ·have ej:j=ks.length:=by
    have:=(a8.mp hv).1
    rw[b8,t9] at this
    omega
   subst ej
   rw[hkl] at hz
   rw[hx] at hz
   cases hz
   have ev:v=.ref p:=by simpa using hv.symm
   subst ev
   exact⟨p,a,rfl,haS,by rw[aE hpS];exact ep,by rw[aE haS];exact ea⟩
 ·rintro S ks H1 ⟨hS,s1,eS,hkl,hks⟩
  refine⟨eS,hkl,fun i v q hv hq2=>?_,fun p hp so D hD=>?_⟩
  ·rw[c7] at hq2
   obtain⟨x,hx,rfl⟩:=d8.mp hq2
   obtain⟨p,a,e0,_,e2,e3⟩:=hks i v x hv hx
   exact⟨p,a,e0,e2,e3⟩
  ·rw[aM] at hp so
   have hb:∀ i∈p.toList,i<ws.length:=fun i hi=>by
    have:=(aQH.mp hp).mem_iff.mp hi
    simpa using this
   rw[B7 ws p.toList hb]
   have sS:Same H (upd H1 S (.lst [])):=s1.upd hS
   exact k D _ _ (sS.free hD) (sS.upd' hD) aB (vZ hp) (rK rfl hp so)
end Lw
namespace L2
open PySem PySem.Spec PyProof.Rows
section
variable {prog:Program}{w:World}{A:Around}{E:Value→Shared→Prop}{s:Shared}
theorem xE{d:Addr}{o:Obj}{Q:Value→Shared→Prop}(hn:(d == sysModules)=false)(hd:s.heap.get? d=some o)(ho:o.ExactDict)
  (h:Q (.ref s.heap.objs.size) { s with heap:=s.heap.push { cls:=.type "dict_items",data:=.fields #[.ref d] } }):wpAny (model prog w) A (call (.builtin "dict.items") [.ref d]) Q E s:=by
 have hT:s.TypeIs (.ref d) "dict":=⟨_,hd,ho.1⟩
 refine wpAny_call_entry F.slot_dict_items hT F.entry_dict_items ?_ (F.args_dict_items_1 _)
 unfold Builtin.«dict.items» Builtin.Dict.noArgs Builtin.Dict.notOrdered
 rw[if_pos (by decide)]
 refine wpAny_bind (wpAny_bind (wpAny_bind (wpAny_typeOf hT ?_)))
 rw[if_neg (by decide)]
 refine wpAny_pure (wpAny_bind ?_)
 rw[show Builtin.Dict.nameIsSure "items" ⟨[.ref d],[]⟩ (!(⟨[.ref d],[]⟩:Args).kw.isEmpty || (⟨[.ref d],[]⟩:Args).pos.length != 1)=pure () from rfl]
 refine wpAny_pure (wpAny_bind ?_)
 rw[show selfOnly (toString "dict."++toString "items") ⟨[.ref d],[]⟩=pure (.ref d) from rfl]
 refine wpAny_pure (wpAny_pure (wpAny_bind ?_))
 unfold Builtin.Dict.showsAll
 rw[hn]
 refine wpAny_pure (wpAny_bind ?_)
 unfold newFields
 exact wpAny_newObj_type (wpAny_pure ⟨_,rfl,h⟩) (by size_fits)
end
end L2
namespace Lw
open PySem PySem.Spec PyProof.Rows L2 Ma MaR
section
variable {c:Nat}{sd:List Nat}
theorem ES{c e:Nat}(hc:cN c)(he:cN e)(hl:bO e=true):e=lo c↔e=c∨e=aU c:=by
 rcases aW hc with rfl | rfl | rfl | rfl | rfl | rfl | rfl | rfl <;> rcases aW he with rfl | rfl | rfl | rfl | rfl | rfl | rfl | rfl <;> revert hl <;> decide
end
end Lw
namespace L2
open PySem PySem.Spec PyProof.Rows
end L2
namespace Lw
open PySem PySem.Spec PyProof.Rows L2 Ma MaR
theorem pZ{n:Nat}(h1:1≤n)(h4:n≤4):letV.take (2 * n)=bJ (aJ n):=by
 rcases CH h1 h4 with rfl | rfl | rfl | rfl <;> rfl
def Bt(K:b5):Sp:=fun vs H Q _=>∃ n:Nat,vs=[.int (n:Nat)]∧1≤n∧n≤4∧∀ (p:Addr) (H':Hp),Same H H'→SqT K H' p (bJ (aJ n))→Q (.ref p) H'
end Lw
namespace L2
open PySem PySem.Spec PyProof.Rows
end L2
namespace Lw
open PySem PySem.Spec PyProof.Rows L2
end Lw
namespace L2
open PySem PySem.Spec PyProof.Rows
end L2
namespace Lw
open PySem PySem.Spec PyProof.Rows L2 Ma MaR
end Lw
namespace L2
open PySem PySem.Spec PyProof.Rows
end L2
namespace Lw
open PySem PySem.Spec PyProof.Rows L2
end Lw
namespace L2
open PySem PySem.Spec PyProof.Rows
end L2
namespace Lw
open PySem PySem.Spec PyProof.Rows L2 Ma MaR
end Lw
namespace L2
open PySem PySem.Spec PyProof.Rows
end L2
namespace Lw
open PySem PySem.Spec PyProof.Rows L2 Ma MaR
end Lw
namespace L2
open PySem PySem.Spec PyProof.Rows
end L2
namespace LtL
open PySem PyProof.Rows HT
open PySem.SeqAt
open PySem.AutoSeq1 (wpAny_loadPart')
open PySem.MeetsSeq PySem.MeetsSeq2 PySem.MeetsSeq3
end LtL
namespace L2
open PySem PySem.Spec PyProof.Rows
end L2
namespace Lw
open PySem PySem.Spec PyProof.Rows L2 Ma MaR
end Lw
namespace L2
open PySem PySem.Spec PyProof.Rows
end L2
namespace Lw
open PySem PySem.Spec PyProof.Rows L2 Ma MaR
end Lw
namespace PySem
open Sem (wp)
end PySem
namespace L2
open PySem PySem.Spec PyProof.Rows
end L2
namespace Lw
open PySem PySem.Spec PyProof.Rows L2 Ma MaR
def mE(cs:List Nat):List (List Nat):=cs.map fun c=>[c]
theorem FN{d:Nat}(hd:cN d)(h:bO d=true):lo d=d:=((ES hd hd h).mpr (.inl rfl)).symm
end Lw
namespace L2
open PySem PySem.Spec PyProof.Rows
end L2
namespace Lw
open PySem PySem.Spec PyProof.Rows L2 Ma MaR
def IS(c:Nat):Nat:=if bO c=true then c - 97 else c - 65
theorem gU{d:Nat}(hd:cN d):lo (aU d)=lo d:=by
 rcases aW hd with rfl | rfl | rfl | rfl | rfl | rfl | rfl | rfl <;> decide
def lS(c:Nat)(sd:List Nat):List Nat:=sd.map fun d=>if d=c then aU c else d
structure GoodB(n c:Nat)(sd:List Nat):Prop where
 let':c∈aJ n
 side:∀ d∈sd,d∈aJ n
 ord:sd.Pairwise fun a b=>rk a<rk b
 has:c∈sd
 hasn:¬ aU c∈sd
theorem hJ{c d:Nat}{sd:List Nat}(h:c∈sd):d∈lS c sd↔d=aU c∨(d∈sd∧d≠c):=by
 unfold lS
 rw[j2]
 constructor
 ·rintro⟨a,ha,e⟩
  by_cases q:a=c
  ·rw[if_pos q] at e;exact .inl e.symm
  ·rw[if_neg q] at e;subst e;exact .inr ⟨ha,q⟩
 ·rintro(rfl | ⟨a,b⟩)
  ·exact⟨c,h,if_pos rfl⟩
  ·exact⟨d,a,if_neg b⟩
theorem Db{c:Nat}{sd:List Nat}(hc:cN c)(hn:¬ aU c∈sd):lS (aU c) (lS c sd)=sd:=by
 unfold lS
 rw[y0]
 refine(t7 fun d hd=>?_).trans (aZR sd)
 show (if (if d=c then aU c else d)=aU c then aU (aU c) else (if d=c then aU c else d))=d
 by_cases q:d=c
 ·rw[if_pos q,if_pos rfl,bK hc,q]
 ·have q2:¬ d=aU c:=fun z=>hn (z ▸ hd)
  rw[if_neg q,if_neg q2]
theorem yC{c d:Nat}(hc:cN c)(hd:cN d)(h1:d≠c)(h2:d≠aU c):(rk d<rk c↔rk d<rk (aU c))∧(rk c<rk d↔rk (aU c)<rk d):=by
 rcases aW hc with rfl | rfl | rfl | rfl | rfl | rfl | rfl | rfl <;> rcases aW hd with rfl | rfl | rfl | rfl | rfl | rfl | rfl | rfl <;> revert h1 h2 <;> decide
theorem GoodB.back{n c:Nat}{sd:List Nat}(h1:1≤n)(h4:n≤4)(g:GoodB n c sd):GoodB n (aU c) (lS c sd):=by
 have hc:=aV g.let'
 have hcn:aU c∈aJ n:=dF (by omega) (by omega) g.let'
 refine⟨hcn,fun d hd=>?_,?_,(hJ g.has).mpr (.inl rfl),fun z=>?_⟩
 ·rcases(hJ g.has).mp hd with rfl | ⟨h,_⟩
  ·exact hcn
  ·exact g.side d h
 ·unfold lS
  rw[aZN]
  refine aJG (fun {a b} ha hb hab=>?_) g.ord
  have na:a≠aU c:=fun z=>g.hasn (z ▸ ha)
  have nb:b≠aU c:=fun z=>g.hasn (z ▸ hb)
  by_cases qa:a=c
  ·by_cases qb:b=c
   ·subst qa;subst qb;exact absurd hab (aQE _)
   ·subst qa
    rw[if_pos rfl,if_neg qb]
    exact(yC hc (aV (g.side b hb)) qb nb).2.mp hab
  ·by_cases qb:b=c
   ·subst qb
    rw[if_neg qa,if_pos rfl]
    exact(yC hc (aV (g.side a ha)) qa na).1.mp hab
   ·rw[if_neg qa,if_neg qb];exact hab
 ·rw[bK hc] at z
  rcases(hJ g.has).mp z with z | ⟨_,z⟩
  ·exact A3 hc z.symm
  ·exact z rfl
theorem kT{n c:Nat}{sd:List Nat}(h1:1≤n)(h4:n≤4){d:Nat}(hd:d∈aJ n):eV (iE n c sd) d=if bO d=true then qU c sd d else back (qU c sd (aU d)):=by
 unfold eV iE
 rcases BY h1 h4 hd with ⟨a,b⟩ | ⟨a,b⟩
 ·rw[if_pos a,if_pos a,c9,c7,b];rfl
 ·rw[if_neg (by rw[a];decide),if_neg (by rw[a];decide),c9,c7,b];rfl
def vM(c d:Nat)(p q:Bool):List Nat:=if d=lo c then [d] else (if p=true then [aU c] else [])++[d]++(if q=true then [c] else [])
theorem DY(c:Nat)(sd:List Nat)(d:Nat):qU c sd d=vM c d (decide (aU d∈sd)) (decide (d∈sd)):=by
 unfold qU vM
 simp only [decide_eq_true_eq]
theorem rZ:∀ c∈lets,∀ d∈[97,98,99,100],∀ p q:Bool,lay ((vM c d p q).flatMap fun e=>if e=c∨e=aU c then [e] else if bO e=true then vM (aU c) e p q else back (vM (aU c) (aU e) p q))=[d]:=by decide +kernel
theorem Ft{c d e:Nat}{p q:Bool}(h:e∈vM c d p q):e=d∨e=c∨e=aU c:=by
 unfold vM at h
 split at h
 ·exact .inl (c5.mp h)
 ·rcases i8.mp h with h | h
  ·rcases i8.mp h with h | h
   ·split at h
    ·exact .inr (.inr (c5.mp h))
    ·cases h
   ·exact .inl (c5.mp h)
  ·split at h
   ·exact .inr (.inl (c5.mp h))
   ·cases h
theorem sF{c:Nat}(hc:cN c):(lo c=c∧bO c=true)∨(lo c=aU c∧bO c=false):=by
 rcases aW hc with rfl | rfl | rfl | rfl | rfl | rfl | rfl | rfl <;> decide
theorem lP(c:Nat)(sd:List Nat):qU c sd (lo c)=[lo c]:=by unfold qU;rw[if_pos rfl]
theorem qD{n c:Nat}{sd:List Nat}(h1:1≤n)(h4:n≤4)(g:GoodB n c sd):bN (iE n c sd) (iE n (aU c) (lS c sd))=cM n:=by
 have hc:=aV g.let'
 unfold bN iE cM
 rw[y0]
 refine t7 fun d hd=>?_
 show fK (iE n (aU c) (lS c sd)) (qU c sd d)=[d]
 have hdl:d∈aJ n:=kR h1 h4 hd
 have hdL:=aV hdl
 have hlow:bO d=true:=yR hd
 by_cases q:d=lo c
 ·-- the change's own letter
  subst q
  rw[lP]
  unfold fK dL
  rw[z9,List.flatMap_nil,o6,kT h1 h4 hdl,if_pos hlow,← gU hc,lP,gU hc]
  rcases aW hc with rfl | rfl | rfl | rfl | rfl | rfl | rfl | rfl <;> decide
 ·have n1:d≠c:=by
   intro z;subst z
   rcases sF hc with ⟨a,_⟩ | ⟨_,b⟩
   ·exact q a.symm
   ·rw[b] at hlow;cases hlow
  have n2:d≠aU c:=by
   intro z;subst z
   exact q (by rw[← gU hc,FN (cZ hc) hlow])
  have n3:aU d≠c:=fun z=>n2 (by rw[← z,bK hdL])
  have n4:aU d≠aU c:=fun z=>n1 (by rw[← bK hdL,z,bK hc])
  have e1:decide (d∈lS c sd)=decide (d∈sd):=decide_eq_decide.mpr ⟨fun z=>((hJ g.has).mp z).elim (fun z=>absurd z n2) (·.1),fun z=>(hJ g.has).mpr (.inr ⟨z,n1⟩)⟩
  have e2:decide (aU d∈lS c sd)=decide (aU d∈sd):=decide_eq_decide.mpr ⟨fun z=>((hJ g.has).mp z).elim (fun z=>absurd z n4) (·.1),fun z=>(hJ g.has).mpr (.inr ⟨z,n3⟩)⟩
  have key:=rZ c (Cj hc) d (by unfold dD at hd;exact p9 hd) (decide (aU d∈sd)) (decide (d∈sd))
  unfold fK dL
  rw[DY,← key]
  congr 1
  refine nU fun e he=>?_
  rcases Ft he with rfl | z | z
  ·rw[if_neg (fun z=>z.elim n1 n2),if_pos hlow,kT h1 h4 hdl,if_pos hlow,DY,e1,e2]
  ·subst z
   rw[if_pos (.inl rfl),kT h1 h4 g.let']
   rcases sF hc with ⟨a,b⟩ | ⟨a,b⟩
   ·rw[if_pos b]
    have:=lP (aU e) (lS e sd)
    rw[gU hc,a] at this
    exact this
   ·rw[if_neg (by rw[b];decide)]
    have:=lP (aU e) (lS e sd)
    rw[gU hc,a] at this
    rw[this]
    show [aU (aU e)]=[e]
    rw[bK hc]
  ·subst z
   rw[if_pos (.inr rfl),kT h1 h4 (dF (by omega) (by omega) g.let')]
   rcases sF hc with ⟨a,b⟩ | ⟨a,b⟩
   ·have b':bO (aU c)=false:=by rcases aW hc with rfl | rfl | rfl | rfl | rfl | rfl | rfl | rfl <;> revert b <;> decide
    rw[if_neg (by rw[b'];decide),bK hc]
    have:=lP (aU c) (lS c sd)
    rw[gU hc,a] at this
    rw[this]
    rfl
   ·have b':bO (aU c)=true:=by rcases aW hc with rfl | rfl | rfl | rfl | rfl | rfl | rfl | rfl <;> revert b <;> decide
    rw[if_pos b']
    have:=lP (aU c) (lS c sd)
    rw[gU hc,a] at this
    exact this
theorem uG{c:Nat}{sd:List Nat}(hs:sd.Nodup)(h:c∈sd):(lS c sd).Perm ((sd.filter fun d=>decide (d≠c))++[aU c]):=by
 induction sd with
 | nil=>cases h
 | cons a sd ih =>
  obtain⟨hn,hs'⟩:=l9.mp hs
  by_cases q:a=c
  ·subst q
   have e1:lS a (a::sd)=aU a::sd:=by
    show (if a=a then aU a else a)::(sd.map fun d=>if d=a then aU a else d)=_
    rw[if_pos rfl]
    congr 1
    refine(t7 fun d hd=>?_).trans (aZR sd)
    have q2:¬ d=a:=fun z=>hn (z ▸ hd)
    rw[if_neg q2];rfl
   have e2:((a::sd).filter fun d=>decide (d≠a))=sd:=by
    rw[aX5 (by simp)]
    exact List.filter_eq_self.mpr fun d hd=>decide_eq_true fun z=>hn (z ▸ hd)
   rw[e1,e2]
   exact List.perm_append_comm (l₁:=[aU a])
  ·have e1:lS c (a::sd)=a::lS c sd:=by
    show (if a=c then aU c else a)::_=_
    rw[if_neg q];rfl
   rw[e1,aX6 (by simpa using q)]
   exact(ih hs' ((c6.mp h).resolve_left fun z=>q z.symm)).cons a
theorem xU{n i:Nat}(h1:1≤n)(h4:n≤4)(h:i<n):97+i∈aJ n∧65+i∈aJ n∧bO (97+i)=true∧bO (65+i)=false∧IS (97+i)=i∧IS (65+i)=i∧97+i∈dD n∧lo (97+i)=97+i∧lo (65+i)=97+i:=by
 rcases CH h1 h4 with rfl | rfl | rfl | rfl <;> (have:i=0∨i=1∨i=2∨i=3:=by omega) <;> rcases this with rfl | rfl | rfl | rfl <;> first | omega | decide
structure IvS(n:Nat)(st bk:List (List Nat)):Prop where
 rt:RT st n 3∧∀ x∈st,OfN n x
 bt:RT bk n 3∧∀ x∈bk,OfN n x
 there:bN st bk=cM n
 back:bN bk st=cM n
theorem C8{n c:Nat}{sd:List Nat}(h1:1≤n)(h4:n≤4)(g:GoodB n c sd):IvS n (iE n c sd) (iE n (aU c) (lS c sd)):=by
 have hc:=aV g.let'
 have b:=g.back h1 h4
 refine⟨⟨yP h4 hc,vJ h1 h4 g.let'⟩,⟨yP h4 (cZ hc),vJ h1 h4 b.let'⟩,qD h1 h4 g,?_⟩
 have:=qD h1 h4 b
 rw[bK hc,Db hc g.hasn] at this
 exact this
theorem Bu{n:Nat}{f:List (List Nat)}(h1:1≤n)(h4:n≤4)(ho:∀ x∈f,OfN n x)(hp:∀ x∈f,bF x):bN f (cM n)=f:=by
 unfold bN
 exact(t7 fun x hx=>zW h1 h4 (ho x hx) (hp x hx)).trans (aZR f)
theorem nN(f s:List (List Nat)):∀ x∈bN f s,bF x:=fun x hx=>by
 obtain⟨y,_,rfl⟩:=j2.mp hx
 exact eC _
theorem nR(n:Nat):∀ x∈cM n,bF x:=fun x hx=>by
 obtain⟨c,_,rfl⟩:=j2.mp hx
 exact trivial
end Lw
namespace PySem
open Sem (wp)
section
variable {prog:Program}{w:World}{K:Type}[DecidableEq K]{knd:KeyKind prog w K}{A:Around}{E:Value→Shared→Prop}{s:Shared}
theorem As{d:Addr}{kvs:List (K×Value)}{k:K}{key dflt:Value}{Q:Value→Shared→Prop}(hkey:knd.is k key=true)(hm:s.heap.DictOf knd d kvs)(hsz:kvs.length≤sizeLine)
  (h1:∀ v,valueAt kvs k=some v→Q v { s with toks:=s.toks+1 })
  (h2:valueAt kvs k=none→∀ h',h'.DictOf knd d (stored kvs k dflt)→Heap.SameBut d s.heap h'→Q dflt { s with heap:=h',toks:=s.toks+1 }) :
  wpAny (model prog w) A (dictSetDefault d key dflt) Q E s:=by
 have hz:s.heap.DictLe d sizeLine:=by
  obtain⟨o,es,ep,ho,hc,hd,hk,hp,hn⟩:=hm
  intro o' es' ep' ho' hd'
  rw[ho] at ho'
  cases ho'
  rw[hd] at hd'
  cases hd'
  have e1:=hp.length
  have e2:es.toList.length=es.size:=by simp
  omega
 cases hv:valueAt kvs k with
 | some v=>exact wpAny_dictSetDefault_of (hz:=hz) hkey hm.mapOf (fun v' e'=>h1 v' e') fun hn=>by rw[hv] at hn;cases hn
 | none =>
  obtain⟨o,es,ep,ho,hc,hd,hk,hp,hn⟩:=id hm
  have hidx:(es.findIdx? fun e=>knd.is k e.key)=kvs.findIdx? fun kv=>decide (kv.1=k):=by
   rw[← hp.findIdx k];obtain⟨l⟩:=es;simp
  have hnot:k ∉ kvs.map (·.1):=by
   intro hk'
   obtain⟨kv,hkv,he⟩:=j2.mp hk'
   obtain⟨i,hi⟩:=l5 hkv
   have:valueAt kvs k=some kv.2:=valueAt_of_get hn (i:=i) (k:=k) (v:=kv.2) (by rw[hi,← he])
   rw[hv] at this
   cases this
  have hany:¬ (kvs.any fun kv=>decide (kv.1=k))=true:=by
   intro z
   obtain⟨kv,hkv,he⟩:=aZZ.mp z
   exact hnot (j2.mpr ⟨kv,hkv,of_decide_eq_true he⟩)
  have hi:(es.findIdx? fun e=>knd.is k e.key)=none:=by
   rw[hidx,List.findIdx?_eq_none_iff]
   intro kv hkv
   exact decide_eq_false fun z=>hnot (j2.mpr ⟨kv,hkv,z⟩)
  unfold dictSetDefault
  try with_reducible refine wpAny_holding ?_
  refine wpAny_bind (knd.pyHash hkey ?_)
  refine wpAny_bind (wpAny_dictFind_of (s:={ s with toks:=s.toks+1 }) hkey ho hd hk ?_)
  rw[hi]
  refine wpAny_bind (wpAny_rule (wpAny_bind (wpAny_updateDictKeys (hz:=hz _ _ _ ho hd) (s:={ s with toks:=s.toks+1 }) ho hd (wpAny_pure (h2 hv _ ⟨_,_,ep+1,y2 _ ho (Obj.isFreed_of_dict (aXn hd _)),
   hc.mapDictKeys _,aXn hd _,hk.push hkey _,?_,?_⟩ (u6 ..))))))
  ·rw[stored,if_neg hany]
   have:=hp.append hkey (knd.hash k) dflt
   obtain⟨l⟩:=es
   simpa using this
  ·rw[stored,if_neg hany,g9]
   refine aQJ.mpr ⟨hn,by simp,fun a ha b hb=>?_⟩
   have hb':b=k:=by simpa using hb
   subst hb'
   intro e
   exact hnot (e ▸ ha)
theorem meets_sdf{k:K}{key:Value}(d:Addr)(hkey:knd.is k key=true)(hd:(d == sysModules)=false)(dflt:Value) :
  MeetsIn prog w (Builtin.«dict.setdefault» ⟨[.ref d,key,dflt],[]⟩) (fun _ R s=>∃ kvs,s.heap.DictOf knd d kvs∧kvs.length≤sizeLine ∧
   (∀ v,valueAt kvs k=some v→R (.ok (.ret v)) { s with toks:=s.toks+1 }) ∧
   (valueAt kvs k=none→∀ h',h'.DictOf knd d (stored kvs k dflt)→Heap.SameBut d s.heap h'→R (.ok (.ret dflt)) { s with heap:=h',toks:=s.toks+1 })) :=
 .of_wp fun A R s ⟨kvs,hm,hz,h1,h2⟩=>by
  unfold Builtin.«dict.setdefault»
  refine wpAny_bind ?_
  unfold Builtin.Dict.keyAndDefault
  refine wpAny_bind (wpAny_notOrdered_dict hm.typeIs ?_)
  show wpAny _ _ (pure (d,key,some dflt)) _ _ s
  refine wpAny_pure ?_
  show wpAny _ _ (if (d == sysModules)=true then _ else (dictSetDefault d key dflt >>= _)) _ _ s
  rw[if_neg (by rw[hd];exact i3)]
  exact wpAny_bind (As hkey hm hz (fun v hv=>wpAny_pure ⟨v,rfl,h1 v hv⟩) fun hn h' hm' hs'=>wpAny_pure ⟨dflt,rfl,h2 hn h' hm' hs'⟩)
end
end PySem
namespace L2
open PySem PySem.Spec PyProof.Rows
section
variable {X:Cx}{pins:List (Addr×Obj)}{σ:St}{H:Hp}{s:Shared}{a:Addr}{kvs:List (bX×V)}{k:bX}{z:V}{u r:Value}{A:Around}{E:Value→Shared→Prop}
theorem Fa{Q:Value→Shared→Prop}(I:Inv X pins σ H s)(e:H a=some (.dK kvs))(hl:kvs.length<sizeLine)(ry:RelV (kV k) u)(rz:RelV z r)
  (h1:∀ v w' s',cY kvs k=some v→Inv X pins σ H s'→RelV v w'→Q w' s') (h2:cY kvs k=none→∀ s',Inv X pins σ (upd H a (.dK (cT kvs k z))) s'→Q r s') :
  wpAny (model X.prog X.w) A (call (.builtin "dict.setdefault") [.ref a,u,r]) Q E s:=by
 obtain⟨zl,hd,vs,rel,dd⟩:=uV I.hok e
 refine call_meetsIn aXH dd.typeIs PySem.F.entry_dict_setdefault (PySem.F.args_dict_setdefault_3 _ _ _) (PySem.meets_sdf (knd:=bP X.prog X.w) a (oW ry) hd r)
  ⟨vs,dd,by rw[← rel.length];exact zl,fun v hv=>?_,fun hn h' dd' hs=>?_⟩
 ·have rv:=rel.val k
  rw[hv] at rv
  cases l:cY kvs k with
  | none=>rw[l] at rv;exact absurd rv (fun z=>z)
  | some v0 =>
   rw[l] at rv
   exact h1 v0 v _ l (I.tok _) rv
 ·have l:cY kvs k=none:=by
   have rv:=rel.val k
   rw[hn] at rv
   cases l:cY kvs k with
   | none=>rfl
   | some v0=>rw[l] at rv;exact absurd rv (fun z=>z)
  have he:∃ q,h'.get? a=some q:=let ⟨q,_,_,hq,_⟩:=dd';⟨q,hq⟩
  refine h2 l _ (mZ I (by rw[e];exact True.intro) hs he (wL ?_ hd (rel.put k rz) dd'))
  have:=dM kvs k z
  omega
end
def EH(td ty tx:TE):TE:=fun σ H Q=>td σ H fun x H1=>∃ a,x=.ref a∧ID H1 a∧ty σ H1 fun y H2=>tx σ H2 fun z H3=>∃ kvs k,H3 a=some (.dK kvs)∧kvs.length<sizeLine∧y=kV k ∧
 (∀ v,cY kvs k=some v→Q v H3)∧(cY kvs k=none→Q z (upd H3 a (.dK (cT kvs k z))))
section
variable {X:Cx}{o e f:Expr}{apos cpos:Pos}{td ty tx:TE}
theorem BW(ho:PE X o td)(he:PE X e ty)(hf:PE X f tx)(m:M2 X o "setdefault" apos e f cpos):PE X (.Call (.Attribute o "setdefault" apos) [e,f] [] cpos) (EH td ty tx):=by
 intro pins s σ H Q I h
 refine wpAny_Call_method m.base m.few m.line aQe aXH PySem.F.type_dict_setdefault (bV (ho pins s σ H _ I h) fun u s1 ⟨x,H1,I1,rx,a,ex,d,q1⟩=>?_)
 subst ex
 obtain rfl:u=Value.ref a:=rx
 obtain⟨t1,t2,_⟩:=Bk I1 d
 refine⟨t1,t2,?_⟩
 rw[m.trees]
 refine aQC rfl (aQt (aQ9 (bV (he pins s1 σ H1 _ I1 q1) fun iv s2 ⟨y,H2,I2,ry,q2⟩ =>
  aQ9 (bV (hf pins s2 σ H2 _ I2 q2) fun fv s3 ⟨z,H3,I3,rz,kvs,k,ea,hl,ey,q3,q4⟩=>aXQ ?_))))
 subst ey
 exact Fa I3 ea hl ry rz (fun v w' s4 l I4 rw'=>⟨v,H3,I4,rw',q3 v l⟩) fun l s4 I4=>⟨z,_,I4,rz,q4 l⟩
end
def jS(s:Stmt)(j:Nat):Stmt:=match s with
 | .ClassDef _ _ _ b _ _ _ _ _ _ _=>b.getD j (.Pass ⟨0,0,0,0⟩)
 | _=>.Pass ⟨0,0,0,0⟩
section
variable {X:Cx}{K:b5}{o e value:Expr}{f:Str}{pos pos':Pos}{ta tv:TE}
theorem bU(hK:X.K=K)(he:PE X e ta)(hb:attributeBase e f X.env (eval e X.env)=eval e X.env):PE X (.Attribute e f pos) (Gs K ta f):=by subst hK;exact Fm he hb
theorem nG(hK:X.K=K)(ha:PE X o ta)(hv:PE X value tv)(hs:swapsWith value (some (.Attribute o f pos')) pos.line X.env=pure false):PS X (.Assign [.Attribute o f pos'] value pos) (GB K ta tv f):=by subst hK;exact Fv ha hv hs
end
end L2
namespace Lw
open PySem PySem.Spec PyProof.Rows L2
def mT(P:Program)(w:World)(K:b5)(mg:Str→Option Value)(base:Heap)(C:Addr)(m:Str)(ps:List Str)(n:Nat)(sp:Sp):Prop :=
 ∃ f fd,FnOk P w K mg base yB n f fd ps sp∧Meth K C m f∧Binds K fd ps []
structure DfM(K:b5)(C:Addr)(m q:Str)(st:Stmt)(ps:List Str)(f:Addr)(fd:FuncData):Prop where
 F:Fun K m q st f fd
 b:Binds K fd ps []
 m:Meth K C m f
theorem DfM.cl{P:Program}{w:World}{K:b5}{mg:Str→Option Value}{base:Heap}{C:Addr}{m q:Str}{st:Stmt}{ps:List Str}{f:Addr}{fd:FuncData}{n:Nat}{sp:Sp}(D:DfM K C m q st ps f fd)(h:FnOk P w K mg base yB n f fd ps sp):mT P w K mg base C m ps n sp :=
 ⟨f,fd,h,D.m,D.b⟩
structure Own(K:b5)(C:Addr):Prop where
 cl:Cls K C
 makes:PySem.W.makesIn K C=true
 kp:PySem.W.keepIn K (.ref C)=true
theorem Own.make{K:b5}{C f:Addr}(o:Own K C)(m:Meth K C "__init__" f):Mk K C f:=⟨o.makes,m.at_,m.fn,o.kp⟩
theorem Iy{K:b5}{C:Addr}{x q:Str}{st:Stmt}{ps:List Str}{f:Addr}{oc:Value}{od an:Option Addr}{osl:Array (Option Value)}{kV doc pm cdv ct:Value}(hf:PySem.W.findIn K (.ref C) x=some (some (.ref f)))(hi:PySem.W.isFn K (.ref f)=true)
  (l:K.lookup f=some ⟨oc,od,.func (PySem.W.fnOf x q (dX st) (dN st) (aH st) .none kV doc pm an cdv ct),osl⟩)
  (c:PySem.W.codeIn K cdv q=true) (k:PySem.W.keepIn K (.ref f)=true) (h:∀ (kV doc pm:Value) (an:Option Addr) (cdv ct:Value) (us:List Value),us.length=ps.length→bindArgs (PySem.W.fnOf x q (dX st) (dN st) (aH st) .none kV doc pm an cdv ct) ⟨us,[]⟩=pure (ps.zip us)) :
  DfM K C x q st ps f (PySem.W.fnOf x q (dX st) (dN st) (aH st) .none kV doc pm an cdv ct) :=
 ⟨lT l c k,(lT l c k).binds h,⟨hf,hi,k⟩⟩
end Lw
namespace Lw
open PySem PySem.Spec PyProof.Rows L2 Ma MaR
end Lw
namespace L2
open PySem PySem.Spec PyProof.Rows
section
variable {X:Cx}{pins:List (Addr×Obj)}{σ:St}{H:Hp}{s:Shared}
theorem Inv.freezeK{d:Addr}{kvs:List (bX×V)}(I:Inv X pins σ H s)(e:H d=some (.dK kvs)):∃ o,s.heap.get? d=some o∧Inv X pins σ (upd H d (.frz o (.dK kvs))) s:=by
 obtain⟨z,y,vs,r,o,es,ep,h1,h2⟩:=(show ObjOk X.prog X.w H s.heap d (.dK kvs) from I.hok d _ e)
 exact⟨o,h1,I.swap e (fun _ z=>by cases z) (.inl fun _ _ z=>by cases z) (fun _ z=>by cases z) (fun _ z=>by cases z) ⟨h1,z,y,vs,r,o,es,ep,h1,h2⟩⟩
theorem Inv.thawK{d:Addr}{o:Obj}{kvs:List (bX×V)}(I:Inv X pins σ H s)(e:H d=some (.frz o (.dK kvs)))(h0:∀ o v,X.H₀ d≠some (.frz o v)):Inv X pins σ (upd H d (.dK kvs)) s:=by
 obtain⟨_,z,y,r⟩:=(show ObjOk X.prog X.w H s.heap d (.frz o (.dK kvs)) from I.hok d _ e)
 exact I.swap e (fun _ z=>by cases z) (.inr h0) (fun _ z=>by cases z) (fun _ z=>by cases z) ⟨z,y,r⟩
def Ei(H0 H H':Hp):Prop:=H'=H∨∃ d o kvs,H d=some (.frz o (.dK kvs))∧(∀ o v,H0 d≠some (.frz o v))∧H'=upd H d (.dK kvs)
def Fs(H0:Hp)(t:TE):TE:=fun σ H Q=>t σ H fun v H'=>∃ H'',Ei H0 H' H''∧Q v H''
theorem Bo{e:Expr}{t:TE}{H0:Hp}(h0:X.H₀=H0)(h:PE X e t):PE X e (Fs H0 t):=by
 subst h0
 intro pins s σ H Q I q
 refine bV (h pins s σ H _ I q) fun u s1 ⟨v,H1,I1,rv,H2,th,q2⟩=>?_
 rcases th with rfl | ⟨d,o,kvs,e1,n0,rfl⟩
 ·exact⟨v,_,I1,rv,q2⟩
 ·exact⟨v,_,I1.thawK e1 n0,rv,q2⟩
end
def Ac(d:Addr)(o:Obj)(kvs:List (bX×V)):It :=
 ⟨fun i H=>H d=some (.frz o (.dK kvs))∧i<kvs.length,fun i H x H'=>H'=H∧∃ k v,kvs[i]?=some (k,v)∧x=kV k,fun i H=>H d=some (.frz o (.dK kvs))∧kvs.length≤i⟩
theorem rN{X:Cx}{pins:List (Addr×Obj)}{σ:St}{H:Hp}{s:Shared}{d:Addr}{o:Obj}{kvs:List (bX×V)}(I:Inv X pins σ H s)(e:H d=some (.frz o (.dK kvs))) :
  s.heap.get? d=some o∧(d == sysModules)=false∧∃ (vs:List (bX×Value)) (es:Array DictEntry) (ep:Nat),KV kvs vs∧o.ExactDict∧o.data=.dict es ep∧Pairs (bP X.prog X.w) es.toList vs:=by
 obtain⟨h0,z,y,vs,r,o',es,ep,h1,h2,h3,h4,h5,h6⟩:=(show ObjOk X.prog X.w H s.heap d (.frz o (.dK kvs)) from I.hok d _ e)
 rw[h0] at h1
 cases h1
 exact⟨h0,y,vs,es,ep,r,h2,h3,h5⟩
theorem D8{P:Program}{w:World}{k:bX}{u:Value}(h:(bP P w).is k u=true):RelV (kV k) u:=by
 rcases cH h with ⟨i,t,rfl,rfl⟩ | ⟨x,t,rfl,rfl⟩
 ·exact⟨t,rfl⟩
 ·exact⟨t,rfl⟩
theorem Cz{P:Program}{w:World}:∀ {es:List DictEntry} {vs:List (bX×Value)},Pairs (bP P w) es vs→∀ {kvs:List (bX×V)},KV kvs vs→∀ {i:Nat} {kv:bX×V},kvs[i]?=some kv→∃ e,es[i]?=some e∧RelV (kV kv.1) e.key:=by
 intro es vs hp
 induction hp with
 | nil =>
  intro kvs r i kv h
  cases r
  simp at h
 | @cons e p es vs h1 h2 hp ih =>
  intro kvs r i kv h
  cases r with
  | cons ra rb =>
   cases i with
   | zero =>
    simp at h
    subst h
    exact⟨e,rfl,by rw[ra.1];exact D8 h1⟩
   | succ i =>
    obtain⟨e',he,hr⟩:=ih rb (i:=i) (kv:=kv) (by simpa using h)
    exact⟨e',by simpa using he,hr⟩
theorem AC{P:Program}{w:World}{K:b5}{tg:Expr}(d it:Addr)(o:Obj)(es:Array DictEntry)(ep:Nat)(kvs:List (bX×V))(od:o.data=.dict es ep)(hl:es.size=kvs.length) :
  Turn P w K tg (Ac d o kvs) [it] it (fun i h=>h.IsKeyIter it d i es.size ep) where
 mem:=by simp
 obj:=fun i h st b hb=>by
  have e:b=it:=by simpa using hb
  subst e
  obtain⟨o,e,c,d⟩:=st
  exact⟨o,e,fun v z=>by rw[d] at z;cases z⟩
 keep:=fun i h h' st k=>st.at fun o e=>k it (by simp) o e
 item:=by
  intro X hP hw hK hc i pins s σ H E I hf st hg
  subst hP hw hK
  obtain⟨hd,hi⟩:=hg
  obtain⟨g0,_,vs,es',ep',r,_,od',hp⟩:=rN I hd
  rw[od] at od'
  cases od'
  obtain⟨kv,hkv⟩:∃ kv,kvs[i]?=some kv:=⟨_,a9 hi⟩
  obtain⟨en,hen,hr⟩:=Cz hp r hkv
  have hes:es[i]?=some en:=by rw[← aQo];exact hen
  obtain⟨f0,f1,f2,f3,f4,f5⟩:=hf it (by simp)
  refine wD (n:=0) st g0 od hes fun h' st' sb=>?_
  have I1:Inv X pins σ H { s with heap:=h' }:=I.turned (t':=s.toks) (fun b o hb e=>(sb.2 b hb).trans e) f0 f1 f3 f4 f5
  obtain⟨o2,e2,c2,d2⟩:=id st'
  exact⟨_,rfl,pU (s:={ s with heap:=h' }) e2 c2 d2 (by decide) ⟨kV kv.1,H,I1,hr,⟨rfl,kv.1,kv.2,hkv,rfl⟩,st',fun b hb=>(hf b hb).1⟩⟩
 done:=by
  intro X hP hw hK hc i pins s σ H E I hf st hg
  subst hP hw hK
  obtain⟨hd,hi⟩:=hg
  obtain⟨g0,_,vs,es',ep',r,_,od',hp⟩:=rN I hd
  rw[od] at od'
  cases od'
  obtain⟨f0,f1,f2,f3,f4,f5⟩:=hf it (by simp)
  exact Ab (n:=0) (I.ok.hd hc) st g0 od (by rw[Array.getElem?_eq_none_iff];omega) fun h' eb=>⟨rfl,I.turned (t':=s.toks) (fun b o hb e=>eb b o hb e) f0 f1 f3 f4 f5⟩
 self:=fun _ _ _ _ _ st h=>wpAny_pyIter_keyiter st h
section
variable {X:Cx}
def Eu(td:TE):TI:=fun σ H R=>td σ H fun x H1=>∃ d kvs,x=.ref d∧((H1 d=some (.dK kvs)∧∀ o,R (Ac d o kvs) (upd H1 d (.frz o (.dK kvs))))∨∃ o,H1 d=some (.frz o (.dK kvs))∧R (Ac d o kvs) H1)
theorem AV{tg e:Expr}{td:TE}(he:PE X e td):PI X tg e (Eu td):=by
 intro pins s σ H R I h
 refine bV (he pins s σ H _ I h) fun u s1 ⟨x,H1,I1,rx,d,kvs,ex,hq⟩=>?_
 subst ex
 cases (show u=Value.ref d from rx)
 obtain⟨o,H2,e2,I2,q2⟩:∃ o H2,H2 d=some (.frz o (.dK kvs))∧Inv X pins σ H2 s1∧R (Ac d o kvs) H2:=by
  rcases hq with ⟨e1,q⟩ | ⟨o,e1,q⟩
  ·obtain⟨o,_,I2⟩:=I1.freezeK e1
   exact⟨o,_,aB,I2,q o⟩
  ·exact⟨o,H1,e1,I1,q⟩
 obtain⟨g0,hn,vs,es,ep,r,xo,od,hp⟩:=rN I2 e2
 have hl:es.size=kvs.length:=by rw[← t5,hp.length,← KV.length r]
 refine BE hn g0 xo od ⟨s1.heap.objs.size,[s1.heap.objs.size],_,Ac d o kvs,H2,rfl,I2.kept (t':=s1.toks) (fun b u e=>b6 _ e),AC d _ o es ep kvs od hl,⟨_,d3 _ rfl,rfl,rfl⟩,fun b hb=>?_,q2⟩
 have e:b=s1.heap.objs.size:=by simpa using hb
 subst e
 exact I2.fpOk (b9 _) (I2.hok.fresh (b9 _))
end
theorem AG{d:Addr}{o:Obj}{kvs:List (bX×V)}{D:Addr}{Q:VK}{ti:TT}{te:TE}{c:St}{H0:Hp}(Pv:Nat→Hp→Prop)(h0:Pv 0 H0)(hl:∀ i H,i≤kvs.length→Pv i H→H d=some (.frz o (.dK kvs)))
  (hs:∀ i k v H,kvs[i]?=some (k,v)→Pv i H→ti (some (kV k)::c) H fun b H1=>if b=true then te (some (kV k)::c) H1 fun y H2=>∃ ys,H2 D=some (.lst ys)∧ys.length<sizeLine∧Pv (i+1) (upd H2 D (.lst (ys++[y]))) else Pv (i+1) H1)
  (hd:∀ H,Pv kvs.length H→Q (.ref D) H):gM (Ac d o kvs) D Q ti te c H0:=by
 refine⟨fun i m H'=>m=kvs.length - i∧i≤kvs.length∧Pv i H',⟨kvs.length,by simp,j9 _,h0⟩,?_⟩
 rintro i m H' ⟨rfl,hi,p⟩
 have q:=hl i H' hi p
 by_cases hlt:i<kvs.length
 ·refine .inr ⟨⟨q,hlt⟩,Pv (i+1),fun H'' p=>⟨kvs.length - (i+1),by omega,rfl,hlt,p⟩,fun v H2 y=>?_⟩
  obtain⟨e,k,v',hk,rfl⟩:=y
  subst e
  exact hs i k v' H2 hk p
 ·have e:i=kvs.length:=by omega
  subst e
  exact .inl ⟨⟨q,b9 _⟩,hd H' p⟩
theorem DGet.fk{H:Hp}{a:Addr}{o:Obj}{kvs:List (bX×V)}{k:bX}(e:H a=some (.frz o (.dK kvs))):DGet H a (kV k) (cY kvs k):=.inl ⟨kvs,k,.inr ⟨o,e⟩,rfl,rfl⟩
end L2
namespace PySem
open Sem (wp)
open Builtin
end PySem
namespace L2
open PySem PySem.Spec PyProof.Rows
end L2
namespace Lw
open PySem PySem.Spec PyProof.Rows L2 Ma MaR
def wf(hd tn wy al:Addr):List (Str×V):=fE "alike" (.ref al) (fE "ways" (.ref wy) (fE "turns" (.ref tn) (fE "heads" (.ref hd) [])))
theorem Jm:¬ (("heads":Str)="alike"):=by decide +kernel
theorem Jq:¬ (("heads":Str)="ways"):=by decide +kernel
theorem Jn:¬ (("heads":Str)="turns"):=by decide +kernel
theorem Jg:¬ (("turns":Str)="alike"):=by decide +kernel
theorem Jh:¬ (("turns":Str)="ways"):=by decide +kernel
theorem Js:¬ (("ways":Str)="alike"):=by decide +kernel
section
variable (hd tn wy al:Addr)
theorem fF:(wf hd tn wy al).lookup ("heads":Str)=some (.ref hd):=by unfold wf;rw[bC,if_neg Jm,bC,if_neg Jq,bC,if_neg Jn,bC,if_pos rfl]
theorem gH:(wf hd tn wy al).lookup ("turns":Str)=some (.ref tn):=by unfold wf;rw[bC,if_neg Jg,bC,if_neg Jh,bC,if_pos rfl]
theorem mW:(wf hd tn wy al).lookup ("ways":Str)=some (.ref wy):=by unfold wf;rw[bC,if_neg Js,bC,if_pos rfl]
theorem oH:(wf hd tn wy al).lookup ("alike":Str)=some (.ref al):=by unfold wf;rw[bC,if_pos rfl]
theorem fY{m:Str}(h1:¬ m="alike")(h2:¬ m="ways")(h3:¬ m="turns")(h4:¬ m="heads"):(wf hd tn wy al).lookup m=none:=by
 unfold wf
 rw[bC,if_neg h1,bC,if_neg h2,bC,if_neg h3,bC,if_neg h4]
 rfl
end
def HD:Sp:=fun _ _ _ _=>False
theorem mQ{H:Hp}{p q:Addr}{o:HO}(u o':HO)(hp:H p=some o)(hq:H q=none):upd (upd H q u) p o' p=some o'∧upd (upd H q u) p o' q=some u∧∀ b x,H b=some x→b≠p→upd (upd H q u) p o' b=some x:=by
 have n:q≠p:=(aI hp hq).symm
 refine⟨aB,by rw[aE n,aB],fun b x e hb=>?_⟩
 rw[aE hb,aE (aI e hq)]
 exact e
theorem gL{H:Hp}{p q:Addr}{o:HO}(u:HO)(hp:H p=some o)(hq:H q=none):upd H q u p=some o:=by rw[aE (aI hp hq)];exact hp
end Lw
namespace L2
open PySem PySem.Spec PyProof.Rows
def CO(H:Hp)(S:Addr)(as:List Addr)(kvs:List (bX×V)):Hp:=fun b=>if b=S then some (.lst (as.map V.ref)) else match (as.zip kvs).find? (fun q=>decide (q.1=b)) with
 | some q=>some (.tup [kV q.2.1,q.2.2])
 | none=>H b
theorem tT{b:Addr}:∀ {as:List Addr} {kvs:List (bX×V)} {q:Addr×bX×V},(as.zip kvs).find? (fun q=>decide (q.1=b))=some q→q.1=b∧∃ j:Nat,as[j]?=some q.1∧kvs[j]?=some q.2:=by
 intro as kvs q h
 have h1:=aZ8 h
 have h2:=aXU h
 obtain⟨j,hj⟩:=l5 h2
 rw[aXV] at hj
 exact⟨of_decide_eq_true h1,j,hj.1,hj.2⟩
section
variable {H:Hp}{S:Addr}{as:List Addr}{kvs:List (bX×V)}
theorem DS:CO H S as kvs S=some (.lst (as.map V.ref)):=by unfold CO;rw[if_pos rfl]
theorem mR{b:Addr}(h1:b≠S)(h2:b ∉ as):CO H S as kvs b=H b:=by
 unfold CO
 rw[if_neg h1]
 cases e:(as.zip kvs).find? (fun q=>decide (q.1=b)) with
 | none=>rfl
 | some q =>
  obtain⟨e1,j,e2,_⟩:=tT e
  rw[e1] at e2
  exact absurd (b0 e2) h2
theorem BM{j:Nat}{a:Addr}{kv:bX×V}(hS:a≠S)(nd:as.Nodup)(ha:as[j]?=some a)(hk:kvs[j]?=some kv):CO H S as kvs a=some (.tup [kV kv.1,kv.2]):=by
 unfold CO
 rw[if_neg hS]
 have hm:(a,kv)∈as.zip kvs:=b0 (i:=j) (by rw[aXV];exact⟨ha,hk⟩)
 cases e:(as.zip kvs).find? (fun q=>decide (q.1=a)) with
 | none =>
  have:=aZI.mp e (a,kv) hm
  simp at this
 | some q =>
  obtain⟨e1,i,e2,e3⟩:=tT e
  rw[e1] at e2
  have hij:i=j:=by
   obtain⟨l1,x1⟩:=a8.mp e2
   obtain⟨l2,x2⟩:=a8.mp ha
   exact(aQl nd).mp (x1.trans x2.symm)
  subst hij
  rw[hk] at e3
  cases e3
  rfl
end
theorem lX{α β:Type}{F:α→β→Prop}:∀ {l₁:List α} {l₂:List β},Paired F l₁ l₂→∀ {j:Nat} {y:β},l₂[j]?=some y→∃ x,l₁[j]?=some x∧F x y
 | _,_,.nil,j,y,h=>by simp at h
 | _,_,.cons (b:=b) f r,0,y,h=>by
  have e:b=y:=by simpa using h
  subst e
  exact⟨_,rfl,f⟩
 | _,_,.cons f r,j+1,y,h=>by
  obtain⟨x,hx,q⟩:=lX r (j:=j) (by simpa using h)
  exact⟨x,by simpa using hx,q⟩
section
variable {X:Cx}{pins:List (Addr×Obj)}{σ:St}{H:Hp}{s:Shared}
theorem Inv.laidItems{h':Heap}{t' c:Nat}{S:Addr}{as:List Addr}{kvs:List (bX×V)}{vs:List (bX×Value)}{acc:Array Value}(I:Inv X pins σ H s)(r:KV kvs vs)(hz:kvs.length≤sizeLine)(k:∀ b u,s.heap.get? b=some u→h'.get? b=some u)(hp:s.heap.objs.size≤S)
  (hS:h'.get? S=some { cls:=.type "list",dict:=none,data:=.seq acc c,slots:=#[] }) (hacc:acc.toList=as.map Value.ref) (hl:as.length=vs.length) (G:PySem.W.KdxG (bP X.prog X.w) vs S h' as) :
  Inv X pins σ (CO H S as kvs) { s with heap:=h',toks:=t' }:=by
 have hlen:=r.length
 have nd:as.Nodup:=G.rise.imp fun h=>g6 h
 have hnew:∀ b,b=S∨b∈as→s.heap.objs.size≤b:=fun b hb=>by
  rcases hb with rfl | hb
  ·exact hp
  ·exact aQX (l7 hp (G.above b hb))
 have hold:∀ b o,H b=some o→CO H S as kvs b=some o:=fun b o e=>by
  have hb:=(I.hok b o e).lt
  rw[mR (fun z=>absurd (hnew b (.inl z)) (aQm hb)) (fun z=>absurd (hnew b (.inr z)) (aQm hb))]
  exact e
 have hfree:∀ b o,s.heap.get? b=some o→CO H S as kvs b=H b:=fun b o e=>by
  have hb:=c8 e
  exact mR (fun z=>absurd (hnew b (.inl z)) (aQm hb)) (fun z=>absurd (hnew b (.inr z)) (aQm hb))
 refine I.un ⟨fun b u q _ _ _=>k b u q,fun b u q _ _ _=>⟨u.slots,k b u q⟩,fun b u q n _=>by rw[hfree b u q];exact n,fun b u q _=>⟨u,k b u q⟩,fun b xs q=>hold b _ q,fun b o u q=>hold b _ q,fun b ps q=>⟨#[],by rw[hold b _ q];simp⟩⟩ ?_
 intro b u e
 by_cases hbS:b=S
 ·subst hbS
  rw[DS] at e
  cases e
  refine⟨by rw[b7,hl,← hlen];exact hz,as.map Value.ref,c,?_,?_⟩
  ·clear hold hfree hnew nd G hl hacc
   induction as with
   | nil=>exact .nil
   | cons a as ih=>exact .cons rfl (ih)
  ·rw[hS,← hacc,Array.toArray_toList]
 ·by_cases hba:b∈as
  ·obtain⟨j,hj⟩:=l5 hba
   obtain⟨key,kk,x,hv,hk,hg⟩:=G.pairs j b hj
   obtain⟨kv,hkv,e1,e2⟩:∃ kv,kvs[j]?=some kv∧kv.1=kk∧RelV kv.2 x:=by
    obtain⟨kv,hkv,q1,q2⟩:=lX r hv
    exact⟨kv,hkv,q1,q2⟩
   rw[BM hbS nd hj hkv] at e
   cases e
   refine⟨by show 2≤sizeLine;decide,[key,x],.cons (by rw[e1];exact D8 hk) (.cons e2 .nil),⟨_,hg,rfl,_,rfl⟩,⟨_,hg,rfl⟩⟩
  ·rw[mR hbS hba] at e
   refine(I.hok b u e).stay (fun c v _ q=>k c v q) (fun c q=>hold _ _ q) fun c xs q=>hold _ _ q
def Io(td:TE):TE:=fun σ H Q=>td σ H fun x H1=>∃ d kvs,x=.ref d∧H1 d=some (.dK kvs)∧∀ v,H1 v=none→Q (.ref v) (upd H1 v (.ext fun h=>h.IsItemsView v d))
theorem Av{o:Expr}{apos cpos:Pos}{td:TE}(ho:PE X o td)(hb:attributeBase o "items" X.env (eval o X.env)=eval o X.env:=by rfl)(hline:(apos.endLine == cpos.line)=true:=by rfl):PE X (.Call (.Attribute o "items" apos) [] [] cpos) (Io td):=by
 intro pins s σ H Q I h
 refine wpAny_Call_method0_late hb hline (bV (ho pins s σ H _ I h) fun u s1 ⟨x,H1,I1,rx,d,kvs,ex,e1,q⟩=>?_)
 subst ex
 cases (show u=Value.ref d from rx)
 obtain⟨z,hd,vs,rel,dd⟩:=uV I1.hok e1
 obtain⟨o,es,ep,g0,xo,od⟩:=id dd
 refine⟨"dict","dict.items",aQe,PySem.F.slot_dict_items,PySem.F.type_dict_items,⟨_,g0,xo.1⟩,fun b q=>?_,?_⟩
 ·cases q
  exact⟨o,g0,xo.2.1⟩
 refine aQC rfl (aXt ?_)
 refine xE hd g0 xo ?_
 have hn:=I1.hok.fresh (b9 s1.heap.objs.size)
 have g1:(s1.heap.push { cls:=.type "dict_items",data:=.fields #[.ref d] }).get? s1.heap.objs.size=some { cls:=.type "dict_items",data:=.fields #[.ref d] }:=d3 _ rfl
 refine⟨.ref s1.heap.objs.size,_,I1.laid (t':=s1.toks) (fun b u e=>b6 _ e) (b9 _) ?_,rfl,q _ hn⟩
 exact⟨⟨_,g1,rfl,rfl⟩,⟨_,g1⟩,fun h1 h2 ⟨o,a,b,c⟩ k=>⟨o,k o a,b,c⟩⟩
theorem wT(hc:X.calm=true):fC X (.type "list") (fun xs H Q=>∃ v d kvs,xs=[.ref v]∧H v=some (.ext fun h=>h.IsItemsView v d)∧H d=some (.dK kvs) ∧
  ∀ (l:Addr) (as:List Addr) (H':Hp),H l=none→Same H H'→H' l=some (.lst (as.map V.ref))→as.length=kvs.length→(∀ (j:Nat) (a:Addr) (kv:bX×V),as[j]?=some a→kvs[j]?=some kv→H' a=some (.tup [kV kv.1,kv.2]))→Q (.ref l) H'):=by
 intro pins s σ H xs us Q I r h
 obtain⟨v,d,kvs,rfl,hv,he,q⟩:=h
 obtain⟨u,rfl,rx⟩:=kM r
 cases rx
 obtain⟨z,hd,vs,rel,dd⟩:=uV I.hok he
 obtain⟨ep,da⟩:=dd.dictAt
 obtain⟨iv,_,_⟩:=I.hok v _ hv
 refine PySem.W.kdx_call (knd:=bP X.prog X.w) (I.ok.hd hc) iv da (by rw[← rel.length];exact z) fun h' tk acc c as kp hS hl G hacc=>?_
 have nd:as.Nodup:=G.rise.imp fun h=>g6 h
 refine⟨.ref s.heap.objs.size,_,I.laidItems (t':=tk) rel z kp (b9 _) hS hacc hl G,rfl,q _ as _ (I.hok.fresh (b9 _)) (fun b o e=>?_) DS (by rw[hl,rel.length]) fun j a kv ha hk=>BM (aQK (G.above a (b0 ha))) nd ha hk⟩
 have hb:=(I.hok b o e).lt
 rw[mR (g6 hb) fun z=>absurd (G.above b z) (Nat.not_lt_of_ge (aQX hb))]
 exact e
end
end L2
namespace Lw
open PySem PySem.Spec PyProof.Rows L2 Ma MaR
theorem nD{u v:List Nat}(hu:AllL u)(hv:AllL v):lay (lay u++lay v)=lay (u++v):=by
 rw[fR u _ hu,eQ u v hu hv]
theorem fN{u v w:List Nat}(hu:AllL u)(hv:AllL v)(hw:AllL w):lay (u++(v++(back v++w)))=lay (u++w):=by
 have e:lay (u++(v++back v)++w)=lay (u++w):=by
  rw[← yV u (v++back v) w hu (AllL.app.mpr ⟨hv,aO hv⟩) hw,iX hv,o6]
 rw[← e]
 simp only [l8]
theorem AW{u v w:List Nat}(hu:AllL u)(hv:AllL v)(hw:AllL w):lay (u++(back v++(v++w)))=lay (u++w):=by
 have:=fN hu (aO hv) hw
 rwa [cP hv] at this
section
variable {a b c d x:List Nat}(ha:AllL a)(hb:AllL b)(hc:AllL c)(hd:AllL d)(hx:AllL x)
include ha hb hc
theorem IQ:lay (lay (back a++b)++lay (back b++c))=lay (back a++c):=by
 have q:=aO ha
 have q2:=aO hb
 rw[nD (AllL.app.mpr ⟨q,hb⟩) (AllL.app.mpr ⟨q2,hc⟩),l8]
 exact fN q hb hc
theorem C4:lay (lay (a++b)++lay (back b++c))=lay (a++c):=by
 have q2:=aO hb
 rw[nD (AllL.app.mpr ⟨ha,hb⟩) (AllL.app.mpr ⟨q2,hc⟩),l8]
 exact fN ha hb hc
omit hc in
theorem I_:back (lay (back a++b))=lay (back b++a):=by
 have q:=aO ha
 rw[← iV (AllL.app.mpr ⟨q,hb⟩),dA,cP ha]
include hx in
omit hc in
theorem IX:back (lay (back a++(x++b)))=lay (back b++(back x++a)):=by
 have q:=aO ha
 rw[← iV (AllL.app.mpr ⟨q,AllL.app.mpr ⟨hx,hb⟩⟩),dA,dA,cP ha,l8]
include hx in
theorem Jl:lay (back (lay (back a++(x++b)))++lay (back a++(x++c)))=lay (back b++c):=by
 have q:=aO ha
 have q2:=aO hb
 have q3:=aO hx
 rw[IX ha hb hx,nD (AllL.app.mpr ⟨q2,AllL.app.mpr ⟨q3,ha⟩⟩) (AllL.app.mpr ⟨q,AllL.app.mpr ⟨hx,hc⟩⟩)]
 have e1:back b++(back x++a)++(back a++(x++c))=(back b++back x)++(a++(back a++(x++c))):=by simp only [l8]
 rw[e1,fN (AllL.app.mpr ⟨q2,q3⟩) ha (AllL.app.mpr ⟨hx,hc⟩),l8]
 exact AW q2 hx hc
include hx in
theorem IJ:lay (back (lay (back a++b))++lay (back a++(x++c)))=lay (back b++(x++c)):=by
 have q:=aO ha
 have q2:=aO hb
 rw[I_ ha hb,nD (AllL.app.mpr ⟨q2,ha⟩) (AllL.app.mpr ⟨q,AllL.app.mpr ⟨hx,hc⟩⟩),l8]
 exact fN q2 ha (AllL.app.mpr ⟨hx,hc⟩)
include hx in
theorem Je:lay (lay (back a++(x++b))++lay (back b++c))=lay (back a++(x++c)):=by
 have q:=aO ha
 have:=C4 (a:=back a++x) (b:=b) (c:=c) (AllL.app.mpr ⟨q,hx⟩) hb hc
 simp only [l8] at this
 exact this
omit hc in
end
structure WvS where
 hs:List Nat
 ts:List (List Nat)
 ws:List (List (Nat×Nat×List Nat))
 al:List (Nat×List Nat×Nat)
structure WI(h:Nat→List Nat)(φ:Nat→List Nat)(ρ rk:Nat→Nat)(L:Nat)(S:WvS):Prop where
 lt:S.ts.length=S.hs.length
 lw:S.ws.length=S.hs.length
 hd:∀ (i a:Nat),S.hs[i]?=some a→a<S.hs.length∧(a=i∨rk a<rk i)∧ρ a=ρ i∧(a=i→ρ i=i)
 rt:∀ i:Nat,i<S.hs.length→ρ i<S.hs.length∧S.hs[ρ i]?=some (ρ i)
 tn:∀ (i a:Nat) (t:List Nat),S.hs[i]?=some a→S.ts[i]?=some t→t=lay (back (φ i)++φ a)
 wy:∀ (i:Nat) (es:List (Nat×Nat×List Nat)),S.ws[i]?=some es→(es.map (·.1)).Nodup∧∀ e∈es,cN e.1∧e.2.1<S.hs.length∧e.2.2=lay (back (φ i)++(h e.1++φ e.2.1))
 al:∀ e∈S.al,e.1<S.hs.length∧e.2.2<S.hs.length∧e.2.1=lay (back (φ e.1)++φ e.2.2)
 fa:∀ i,AllL (φ i)∧(φ i).length≤L
 ha:∀ c,cN c→AllL (h c)∧(h c).length≤L
section
variable {h:Nat→List Nat}{φ:Nat→List Nat}{ρ rk:Nat→Nat}{L:Nat}{S:WvS}
theorem eK{α:Type}{xs:List α}{i j:Nat}{v y:α}(h:(xs.set i v)[j]?=some y):(j=i∧y=v∧i<xs.length)∨(j≠i∧xs[j]?=some y):=by
 rw[List.getElem?_set] at h
 split at h
 ·rename_i e
  split at h
  ·cases h;exact .inl ⟨e.symm,rfl,by assumption⟩
  ·cases h
 ·rename_i e
  exact .inr ⟨fun z=>e z.symm,h⟩
theorem WI.comp(I:WI h φ ρ rk L S){i a b:Nat}{t u:List Nat}(hi:S.hs[i]?=some a)(hne:a≠i)(ha:S.hs[a]?=some b)(ht:S.ts[i]?=some t)(hu:S.ts[a]?=some u) :
  WI h φ ρ rk L { S with hs:=S.hs.set i b,ts:=S.ts.set i (lay (t++u)) }∧lay (t++u)=lay (back (φ i)++φ b)∧rk b<rk i∧ρ b=ρ i:=by
 obtain⟨a1,a2,a3,a4⟩:=I.hd i a hi
 obtain⟨b1,b2,b3,b4⟩:=I.hd a b ha
 have hlt:rk a<rk i:=a2.resolve_left hne
 have hrb:rk b<rk i:=by
  rcases b2 with e | e
  ·rw[e];exact hlt
  ·omega
 have hte:lay (t++u)=lay (back (φ i)++φ b):=by
  rw[I.tn i a t hi ht,I.tn a b u ha hu]
  exact IQ (I.fa i).1 (I.fa a).1 (I.fa b).1
 have hil:i<S.hs.length:=(a8.mp hi).1
 have hbi:b≠i:=fun z=>by rw[z] at hrb;omega
 refine⟨⟨?_,?_,?_,?_,?_,?_,?_,I.fa,I.ha⟩,hte,hrb,b3.trans a3⟩
 ·show (S.ts.set i _).length=(S.hs.set i b).length
  rw[j0,j0];exact I.lt
 ·show S.ws.length=(S.hs.set i b).length
  rw[j0];exact I.lw
 ·intro j c hj
  show c<(S.hs.set i b).length∧_
  rw[j0]
  rcases eK hj with ⟨rfl,rfl,_⟩ | ⟨hji,hj⟩
  ·exact⟨b1,.inr hrb,b3.trans a3,fun z=>absurd z hbi⟩
  ·exact I.hd j c hj
 ·intro j hj
  have hj':j<S.hs.length:=by
   have:j<(S.hs.set i b).length:=hj
   rwa [j0] at this
  show ρ j<(S.hs.set i b).length∧(S.hs.set i b)[ρ j]?=some (ρ j)
  rw[j0]
  obtain⟨r1,r2⟩:=I.rt j hj'
  refine⟨r1,?_⟩
  rw[p6]
  ·exact r2
  ·intro z
   rw[← z,hi] at r2
   exact hne (by simpa using r2)
 ·intro j c v hj hv
  rcases eK hj with ⟨rfl,rfl,_⟩ | ⟨hji,hj⟩
  ·rcases eK hv with ⟨_,rfl,_⟩ | ⟨z,_⟩
   ·exact hte
   ·exact absurd rfl z
  ·rcases eK hv with ⟨z,_,_⟩ | ⟨_,hv⟩
   ·exact absurd z hji
   ·exact I.tn j c v hj hv
 ·intro j es hj
  obtain⟨w1,w2⟩:=I.wy j es hj
  refine⟨w1,fun e he=>?_⟩
  show _∧e.2.1<(S.hs.set i b).length∧_
  rw[j0]
  exact w2 e he
 ·intro e he
  show e.1<(S.hs.set i b).length∧e.2.2<(S.hs.set i b).length∧_
  rw[j0]
  exact I.al e he
def cS(es:List (Nat×Nat×List Nat))(c:Nat):Option (Nat×List Nat):=(es.find? fun e=>decide (e.1=c)).map (·.2)
theorem dH{es:List (Nat×Nat×List Nat)}{c:Nat}{r:Nat×List Nat}(h:cS es c=some r):(c,r)∈es:=by
 unfold cS at h
 obtain⟨e,he,rfl⟩:=d8.mp h
 have h1:=aZ8 he
 have h2:=aXU he
 have:e.1=c:=of_decide_eq_true h1
 rw[← this]
 exact h2
theorem oF{es:List (Nat×Nat×List Nat)}{c:Nat}(h:cS es c=none):∀ e∈es,e.1≠c:=by
 unfold cS at h
 have:=aZI.mp (Option.map_eq_none_iff.mp h)
 intro e he z
 have:=this e he
 simp[z] at this
theorem lI{es:List (Nat×Nat×List Nat)}{c:Nat}{r:Nat×List Nat}(nd:(es.map (·.1)).Nodup)(h:(c,r)∈es):cS es c=some r:=by
 cases e:cS es c with
 | none=>exact absurd rfl (oF e _ h)
 | some r' =>
  have h2:=dH e
  congr 1
  induction es with
  | nil=>cases h
  | cons x es ih =>
   obtain⟨n1,n2⟩:=l9.mp nd
   rcases c6.mp h with z | z <;> rcases c6.mp h2 with y | y
   ·rw[← z] at y;exact(aZS y).2
   ·exact absurd (j2.mpr ⟨_,y,by rw[← z]⟩) n1
   ·exact absurd (j2.mpr ⟨_,z,by rw[← y]⟩) n1
   ·exact ih n2 z (by
     unfold cS at e ⊢
     rw[aXe] at e
     ·exact e
     ·simp only [decide_eq_true_eq]
      intro q
      exact n1 (j2.mpr ⟨_,z,q.symm⟩)) y
def aY(S:WvS)(i c g:Nat)(t:List Nat)(es:List (Nat×Nat×List Nat)):WvS:=match cS es c with
 | none=>{ S with ws:=S.ws.set i (es++[(c,g,t)]) }
 | some (g',t')=>if (g',t')=(g,t) then S else { S with al:=S.al++[(g,lay (back t++t'),g')] }
theorem gG(i c g:Nat)(t:List Nat)(es:List (Nat×Nat×List Nat)):(aY S i c g t es).hs=S.hs∧(aY S i c g t es).ts=S.ts:=by
 unfold aY
 split
 ·exact⟨rfl,rfl⟩
 ·split <;> exact⟨rfl,rfl⟩
theorem WI.lay(I:WI h φ ρ rk L S){i c g:Nat}{t:List Nat}{es:List (Nat×Nat×List Nat)}(hi:S.ws[i]?=some es)(hc:cN c)(hg:g<S.hs.length)(ht:t=lay (back (φ i)++(h c++φ g))):WI h φ ρ rk L (aY S i c g t es):=by
 obtain⟨w1,w2⟩:=I.wy i es hi
 unfold aY
 cases e:cS es c with
 | none =>
  have hn:=oF e
  refine⟨I.lt,by show (S.ws.set i _).length=_;rw[j0];exact I.lw,I.hd,I.rt,I.tn,?_,I.al,I.fa,I.ha⟩
  intro j es' hj
  rcases eK hj with ⟨rfl,rfl,_⟩ | ⟨_,hj⟩
  ·refine⟨?_,fun x hx=>?_⟩
   ·rw[g9,aQJ]
    refine⟨w1,by simp,fun a ha b hb=>?_⟩
    obtain⟨x,hx,rfl⟩:=j2.mp ha
    simp at hb
    rw[hb]
    exact hn x hx
   ·rcases i8.mp hx with z | z
    ·exact w2 x z
    ·rw[c5.mp z];exact⟨hc,hg,ht⟩
  ·exact I.wy j es' hj
 | some r =>
  obtain⟨g',t'⟩:=r
  dsimp only
  split
  ·exact I
  ·have hm:=w2 _ (dH e)
   refine⟨I.lt,I.lw,I.hd,I.rt,I.tn,I.wy,?_,I.fa,I.ha⟩
   intro x hx
   rcases i8.mp hx with z | z
   ·exact I.al x z
   ·rw[c5.mp z]
    refine⟨hg,hm.2.1,?_⟩
    have ht':t'=Ma.lay (back (φ i)++(h c++φ g')):=hm.2.2
    show Ma.lay (back t++t')=Ma.lay (back (φ g)++φ g')
    rw[ht,ht']
    exact Jl (I.fa i).1 (I.fa g).1 (I.fa g').1 (I.ha c hc).1
end
inductive Lnk(ρ:Nat→Nat)(al:List (Nat×List Nat×Nat)):Nat→Nat→Prop where
 | refl (x:Nat):Lnk ρ al x x
 | symm {x y:Nat} (h:Lnk ρ al x y):Lnk ρ al y x
 | trans {x y z:Nat} (h:Lnk ρ al x y) (g:Lnk ρ al y z):Lnk ρ al x z
 | root (x:Nat):Lnk ρ al x (ρ x)
 | pair {x y:Nat} {t:List Nat} (h:(x,t,y)∈al):Lnk ρ al x y
theorem Lnk.mono{ρ ρ':Nat→Nat}{al al':List (Nat×List Nat×Nat)}(hr:∀ x,Lnk ρ' al' x (ρ x))(ha:∀ x t y,(x,t,y)∈al→Lnk ρ' al' x y){x y:Nat}(h:Lnk ρ al x y):Lnk ρ' al' x y:=by
 induction h with
 | refl x=>exact .refl x
 | symm _ ih=>exact .symm ih
 | trans _ _ a b=>exact .trans a b
 | root x=>exact hr x
 | pair h=>exact ha _ _ _ h
theorem Lnk.nil{ρ:Nat→Nat}(hi:∀ x,ρ (ρ x)=ρ x){x y:Nat}(h:Lnk ρ [] x y):ρ x=ρ y:=by
 induction h with
 | refl x=>rfl
 | symm _ ih=>exact ih.symm
 | trans _ _ a b=>exact a.trans b
 | root x=>exact(hi x).symm
 | pair h=>cases h
structure EI(E:Nat→Nat→Nat→Prop)(ρ:Nat→Nat)(S:WvS):Prop where
 lt:∀ p c q,E p c q→p<S.hs.length∧q<S.hs.length
 on:∀ p c q,E p c q→∃ es g t,S.ws[ρ p]?=some es∧(c,g,t)∈es∧Lnk ρ S.al g q
 of:∀ (i:Nat) (es:List (Nat×Nat×List Nat)),S.ws[i]?=some es→∀ e∈es,∃ p q,E p e.1 q∧Lnk ρ S.al p i∧Lnk ρ S.al q e.2.1
section
variable {E:Nat→Nat→Nat→Prop}{ρ:Nat→Nat}{S:WvS}
theorem At{i c g:Nat}{t:List Nat}{es:List (Nat×Nat×List Nat)}{x:Nat×List Nat×Nat}(h:x∈S.al):x∈(aY S i c g t es).al:=by
 unfold aY
 split
 ·exact h
 ·split
  ·exact h
  ·exact l4 _ h
theorem cQ{i c g:Nat}{t:List Nat}{es:List (Nat×Nat×List Nat)}{x y:Nat}(h:Lnk ρ S.al x y):Lnk ρ (aY S i c g t es).al x y:=h.mono (fun x=>.root x) fun x t y hm=>.pair (At hm)
theorem pX{i c g:Nat}{t:List Nat}{es:List (Nat×Nat×List Nat)}(hi:S.ws[i]?=some es){j:Nat}{es':List (Nat×Nat×List Nat)}(hj:S.ws[j]?=some es'):∃ es'',(aY S i c g t es).ws[j]?=some es''∧(∀ e∈es',e∈es'')∧(j≠i→es''=es'):=by
 unfold aY
 split
 ·by_cases q:j=i
  ·subst q
   rw[hi] at hj
   cases hj
   refine⟨es++[(c,g,t)],?_,fun e he=>l4 _ he,fun z=>absurd rfl z⟩
   show (S.ws.set j _)[j]?=_
   rw[p5 (a8.mp hi).1]
  ·refine⟨es',?_,fun e he=>he,fun _=>rfl⟩
   show (S.ws.set i _)[j]?=_
   rw[p6 (fun z=>q z.symm)]
   exact hj
 ·split <;> exact⟨es',hj,fun e he=>he,fun _=>rfl⟩
theorem oS{i c g:Nat}{t:List Nat}{es:List (Nat×Nat×List Nat)}(hi:S.ws[i]?=some es):∃ es' g' t',(aY S i c g t es).ws[i]?=some es'∧(c,g',t')∈es'∧Lnk ρ (aY S i c g t es).al g' g:=by
 unfold aY
 cases e:cS es c with
 | none =>
  refine⟨es++[(c,g,t)],g,t,?_,by simp,.refl g⟩
  show (S.ws.set i _)[i]?=_
  rw[p5 (a8.mp hi).1]
 | some r =>
  obtain⟨g',t'⟩:=r
  dsimp only
  split
  ·rename_i q
   obtain⟨rfl,rfl⟩:=aZS q
   exact⟨es,g',t',hi,dH e,.refl g'⟩
  ·exact⟨es,g',t',hi,dH e,.symm (.pair (t:=lay (back t++t')) (by simp))⟩
theorem lJ{i c g:Nat}{t:List Nat}{es:List (Nat×Nat×List Nat)}(hi:S.ws[i]?=some es){j:Nat}{es':List (Nat×Nat×List Nat)}(hj:(aY S i c g t es).ws[j]?=some es'){e:Nat×Nat×List Nat}(he:e∈es'):(∃ es0,S.ws[j]?=some es0∧e∈es0)∨(j=i∧e=(c,g,t)):=by
 unfold aY at hj
 split at hj
 ·rcases eK hj with ⟨rfl,rfl,_⟩ | ⟨_,hj⟩
  ·rcases i8.mp he with z | z
   ·exact .inl ⟨es,hi,z⟩
   ·exact .inr ⟨rfl,c5.mp z⟩
  ·exact .inl ⟨es',hj,he⟩
 ·split at hj <;> exact .inl ⟨es',hj,he⟩
theorem EI.lay'(X:EI E ρ S){i c g:Nat}{t:List Nat}{es:List (Nat×Nat×List Nat)}(hi:S.ws[i]?=some es)(hr:ρ i=i)(h1:i<S.hs.length)(h2:g<S.hs.length):EI (fun p c' q=>E p c' q∨(p=i∧c'=c∧q=g)) ρ (aY S i c g t es):=by
 refine⟨fun p c' q hE=>?_,fun p c' q hE=>?_,fun j es' hj e he=>?_⟩
 ·rw[(gG (S:=S) i c g t es).1]
  rcases hE with hE | ⟨rfl,rfl,rfl⟩
  ·exact X.lt p c' q hE
  ·exact⟨h1,h2⟩
 ·rcases hE with hE | ⟨rfl,rfl,rfl⟩
  ·obtain⟨es0,g0,t0,a,b,d⟩:=X.on p c' q hE
   obtain⟨es1,a1,b1,_⟩:=pX (c:=c) (g:=g) (t:=t) hi a
   exact⟨es1,g0,t0,a1,b1 _ b,cQ d⟩
  ·rw[hr]
   exact oS hi
 ·rcases lJ hi hj he with ⟨es0,a,b⟩ | ⟨rfl,rfl⟩
  ·obtain⟨p,q,a1,a2,a3⟩:=X.of j es0 a e b
   exact⟨p,q,.inl a1,cQ a2,cQ a3⟩
  ·exact⟨j,g,.inr ⟨rfl,rfl,rfl⟩,.refl _,.refl _⟩
end
section
variable {h:Nat→List Nat}{φ:Nat→List Nat}{ρ rk:Nat→Nat}{L:Nat}{S:WvS}{E:Nat→Nat→Nat→Prop}
def ρU(ρ:Nat→Nat)(hd ab:Nat):Nat→Nat:=fun x=>if ρ x=hd then ab else ρ x
def HM(ρ rk:Nat→Nat)(hd ab:Nat):Nat→Nat:=fun x=>if ρ x=hd then rk x+(rk ab+1) else rk x
def dE(S:WvS)(hd ab:Nat)(t:List Nat):WvS:={ S with hs:=S.hs.set hd ab,ts:=S.ts.set hd t }
theorem WI.under(I:WI h φ ρ rk L S){hd ab:Nat}{t:List Nat}(h1:S.hs[hd]?=some hd)(h2:S.hs[ab]?=some ab)(hne:hd≠ab)(ht:t=Ma.lay (back (φ hd)++φ ab)):WI h φ (ρU ρ hd ab) (HM ρ rk hd ab) L (dE S hd ab t):=by
 have l1:hd<S.hs.length:=(a8.mp h1).1
 have l2:ab<S.hs.length:=(a8.mp h2).1
 have r1:ρ hd=hd:=(I.hd hd hd h1).2.2.2 rfl
 have r2:ρ ab=ab:=(I.hd ab ab h2).2.2.2 rfl
 have hlen:(S.hs.set hd ab).length=S.hs.length:=j0 ..
 refine⟨?_,?_,?_,?_,?_,?_,?_,I.fa,I.ha⟩
 ·show (S.ts.set hd t).length=(S.hs.set hd ab).length
  rw[j0,j0];exact I.lt
 ·show S.ws.length=(S.hs.set hd ab).length
  rw[hlen];exact I.lw
 ·intro i a hi
  show a<(S.hs.set hd ab).length∧_
  rw[hlen]
  rcases eK hi with ⟨rfl,rfl,_⟩ | ⟨hn,hi⟩
  ·refine⟨l2,.inr ?_,?_,fun z=>absurd z.symm hne⟩
   ·unfold HM
    rw[r2,r1,if_neg (fun z=>hne z.symm),if_pos rfl]
    omega
   ·unfold ρU
    rw[r1,r2,if_pos rfl,if_neg (fun z=>hne z.symm)]
  ·obtain⟨a1,a2,a3,a4⟩:=I.hd i a hi
   refine⟨a1,?_,?_,fun z=>?_⟩
   ·rcases a2 with z | z
    ·exact .inl z
    ·refine .inr ?_
     unfold HM
     rw[a3]
     split <;> omega
   ·unfold ρU;rw[a3]
   ·have:=a4 z
    unfold ρU
    rw[this,if_neg hn]
 ·intro i hi
  have hi':i<S.hs.length:=by have:i<(S.hs.set hd ab).length:=hi;rwa [hlen] at this
  obtain⟨a1,a2⟩:=I.rt i hi'
  show ρU ρ hd ab i<(S.hs.set hd ab).length∧(S.hs.set hd ab)[ρU ρ hd ab i]?=some (ρU ρ hd ab i)
  rw[hlen]
  unfold ρU
  split
  ·refine⟨l2,?_⟩
   rw[p6 hne]
   exact h2
  ·rename_i q
   refine⟨a1,?_⟩
   rw[p6 (fun z=>q z.symm)]
   exact a2
 ·intro i a v hi hv
  rcases eK hi with ⟨rfl,rfl,_⟩ | ⟨hn,hi⟩
  ·rcases eK hv with ⟨_,rfl,_⟩ | ⟨z,_⟩
   ·exact ht
   ·exact absurd rfl z
  ·rcases eK hv with ⟨z,_,_⟩ | ⟨_,hv⟩
   ·exact absurd z hn
   ·exact I.tn i a v hi hv
 ·intro i es hi
  obtain⟨w1,w2⟩:=I.wy i es hi
  refine⟨w1,fun e he=>?_⟩
  show _∧e.2.1<(S.hs.set hd ab).length∧_
  rw[hlen]
  exact w2 e he
 ·intro e he
  show e.1<(S.hs.set hd ab).length∧e.2.2<(S.hs.set hd ab).length∧_
  rw[hlen]
  exact I.al e he
def underW(ab:Nat)(t:List Nat)(T:WvS)(es:List (Nat×Nat×List Nat)):WvS:=es.foldl (fun T e=>aY T ab e.1 e.2.1 (lay (back t++e.2.2)) (T.ws.getD ab [])) T
theorem Lnk.under{al al':List (Nat×List Nat×Nat)}{hd ab:Nat}(hh:ρ hd=hd)(ha:∀ x t y,(x,t,y)∈al→Lnk (ρU ρ hd ab) al' x y){x y:Nat}(g:Lnk ρ al x y):Lnk (ρU ρ hd ab) al' x y:=by
 have e1:Lnk (ρU ρ hd ab) al' hd ab:=by
  have:=Lnk.root (ρ:=ρU ρ hd ab) (al:=al') hd
  unfold ρU at this ⊢
  rw[hh,if_pos rfl] at this
  exact this
 refine g.mono (fun x=>?_) ha
 by_cases q:ρ x=hd
 ·have:=Lnk.root (ρ:=ρU ρ hd ab) (al:=al') x
  have e2:ρU ρ hd ab x=ab:=by unfold ρU;rw[if_pos q]
  rw[e2] at this
  rw[q]
  exact this.trans e1.symm
 ·have:=Lnk.root (ρ:=ρU ρ hd ab) (al:=al') x
  have e2:ρU ρ hd ab x=ρ x:=by unfold ρU;rw[if_neg q]
  rw[e2] at this
  exact this
structure UI(E:Nat→Nat→Nat→Prop)(ρ:Nat→Nat)(hd ab N:Nat)(es:List (Nat×Nat×List Nat))(T:WvS):Prop where
 ln:T.hs.length=N
 lt:∀ p c q,E p c q→p<N∧q<N
 on:∀ p c q,E p c q→(∃ es g t,T.ws[ρU ρ hd ab p]?=some es∧(c,g,t)∈es∧Lnk (ρU ρ hd ab) T.al g q)∨(ρ p=hd∧∃ e∈es,e.1=c∧Lnk (ρU ρ hd ab) T.al e.2.1 q)
 of:∀ (i:Nat) (es:List (Nat×Nat×List Nat)),T.ws[i]?=some es→∀ e∈es,∃ p q,E p e.1 q∧Lnk (ρU ρ hd ab) T.al p i∧Lnk (ρU ρ hd ab) T.al q e.2.1
 me:∀ e∈es,∃ p q,E p e.1 q∧Lnk (ρU ρ hd ab) T.al p ab∧Lnk (ρU ρ hd ab) T.al q e.2.1
theorem pR{hd ab:Nat}{t:List Nat}{ρ1 rk1:Nat→Nat}(hρ:ρ1=ρU ρ hd ab)(ht:t=lay (back (φ hd)++φ ab)):∀ {es:List (Nat×Nat×List Nat)} {T:WvS},WI h φ ρ1 rk1 L T→ab<T.hs.length→(∀ e∈es,cN e.1∧e.2.1<T.hs.length∧e.2.2=lay (back (φ hd)++(h e.1++φ e.2.1)))→UI E ρ hd ab T.hs.length es T →
  WI h φ ρ1 rk1 L (underW ab t T es)∧EI E ρ1 (underW ab t T es)∧(underW ab t T es).hs=T.hs∧(underW ab t T es).ts=T.ts
 | [],T,I,hab,hes,U=>by
  subst hρ
  refine⟨I,⟨fun p c q hE=>U.lt p c q hE,fun p c q hE=>?_,U.of⟩,rfl,rfl⟩
  rcases U.on p c q hE with z | ⟨_,e,he,_⟩
  ·exact z
  ·cases he
 | e::es,T,I,hab,hes,U=>by
  subst hρ
  obtain⟨ea,hea⟩:∃ ea,T.ws[ab]?=some ea:=⟨_,a9 (by rw[I.lw];exact hab)⟩
  have hgd:T.ws.getD ab []=ea:=by rw[c9,hea];rfl
  obtain⟨e1,e2,e3⟩:=hes e d9
  have htd:lay (back t++e.2.2)=lay (back (φ ab)++(h e.1++φ e.2.1)):=by
   rw[ht,e3]
   exact IJ (I.fa hd).1 (I.fa ab).1 (I.fa e.2.1).1 (I.ha e.1 e1).1
  have I1:=I.lay hea e1 e2 htd
  obtain⟨hhs,hts⟩:=gG (S:=T) ab e.1 e.2.1 (lay (back t++e.2.2)) ea
  have key:underW ab t T (e::es)=underW ab t (aY T ab e.1 e.2.1 (lay (back t++e.2.2)) ea) es:=by
   unfold underW
   rw[aQv,hgd]
  have U1:UI E ρ hd ab (aY T ab e.1 e.2.1 (lay (back t++e.2.2)) ea).hs.length es (aY T ab e.1 e.2.1 (lay (back t++e.2.2)) ea):=by
   refine⟨rfl,fun p c q hE=>by rw[hhs];exact U.lt p c q hE,fun p c q hE=>?_,fun i es' hi x hx=>?_,fun x hx=>?_⟩
   ·rcases U.on p c q hE with ⟨es0,g0,t0,a,b,d⟩ | ⟨a,x,hx,b,d⟩
    ·obtain⟨es1,a1,b1,_⟩:=pX (c:=e.1) (g:=e.2.1) (t:=lay (back t++e.2.2)) hea a
     exact .inl ⟨es1,g0,t0,a1,b1 _ b,cQ d⟩
    ·rcases c6.mp hx with rfl | hx
     ·obtain⟨es',g',t',q1,q2,q3⟩:=oS (ρ:=ρU ρ hd ab) (c:=x.1) (g:=x.2.1) (t:=lay (back t++x.2.2)) hea
      refine .inl ⟨es',g',t',?_,by rw[← b];exact q2,q3.trans (cQ d)⟩
      have:ρU ρ hd ab p=ab:=by unfold ρU;rw[if_pos a]
      rw[this]
      exact q1
     ·exact .inr ⟨a,x,hx,b,cQ d⟩
   ·rcases lJ hea hi hx with ⟨es0,a,b⟩ | ⟨rfl,rfl⟩
    ·obtain⟨p,q,a1,a2,a3⟩:=U.of i es0 a x b
     exact⟨p,q,a1,cQ a2,cQ a3⟩
    ·obtain⟨p,q,a1,a2,a3⟩:=U.me e d9
     exact⟨p,q,a1,cQ a2,cQ a3⟩
   ·obtain⟨p,q,a1,a2,a3⟩:=U.me x (d4 _ hx)
    exact⟨p,q,a1,cQ a2,cQ a3⟩
  rw[key]
  obtain⟨o1,o2,o3,o4⟩:=pR (es:=es) rfl ht I1 (by rw[hhs];exact hab) (fun x hx=>by rw[hhs];exact hes x (d4 _ hx)) U1
  exact⟨o1,o2,o3.trans hhs,o4.trans hts⟩
theorem Ea(I:WI h φ ρ rk L S){a b:Nat}{tt:List Nat}(X:EI E ρ { S with al:=(a,tt,b)::S.al }){hd ab:Nat}{t:List Nat}(ha:a<S.hs.length)(hb:b<S.hs.length)(hra:ρ a=hd)(hrb:ρ b=ab)(hne:hd≠ab)(ht:t=lay (back (φ hd)++φ ab)){es:List (Nat×Nat×List Nat)}(hes:S.ws[hd]?=some es) :
  WI h φ (ρU ρ hd ab) (HM ρ rk hd ab) L (underW ab t (dE S hd ab t) es)∧EI E (ρU ρ hd ab) (underW ab t (dE S hd ab t) es)∧(underW ab t (dE S hd ab t) es).hs=S.hs.set hd ab:=by
 obtain⟨l1,h1⟩:=I.rt a ha
 obtain⟨l2,h2⟩:=I.rt b hb
 rw[hra] at l1 h1
 rw[hrb] at l2 h2
 have r1:ρ hd=hd:=(I.hd hd hd h1).2.2.2 rfl
 have r2:ρ ab=ab:=(I.hd ab ab h2).2.2.2 rfl
 have I1:=I.under h1 h2 hne ht
 have hlen:(S.hs.set hd ab).length=S.hs.length:=j0 ..
 have eab:Lnk (ρU ρ hd ab) S.al a b:=by
  have q1:=Lnk.root (ρ:=ρU ρ hd ab) (al:=S.al) a
  have q2:=Lnk.root (ρ:=ρU ρ hd ab) (al:=S.al) b
  have e1:ρU ρ hd ab a=ab:=by unfold ρU;rw[if_pos hra]
  have e2:ρU ρ hd ab b=ab:=by unfold ρU;rw[hrb,if_neg (fun z=>hne z.symm)]
  rw[e1] at q1
  rw[e2] at q2
  exact q1.trans q2.symm
 have mv:∀ {x y:Nat},Lnk ρ ((a,tt,b)::S.al) x y→Lnk (ρU ρ hd ab) S.al x y:=fun g=>Lnk.under r1 (fun x t y hm=>by
  rcases c6.mp hm with z | z
  ·obtain⟨rfl,rfl,rfl⟩:x=a∧t=tt∧y=b:=by simpa using z
   exact eab
  ·exact .pair z) g
 have hdab:Lnk (ρU ρ hd ab) S.al hd ab:=by
  have:=Lnk.root (ρ:=ρU ρ hd ab) (al:=S.al) hd
  have e1:ρU ρ hd ab hd=ab:=by unfold ρU;rw[r1,if_pos rfl]
  rwa [e1] at this
 have U:UI E ρ hd ab (dE S hd ab t).hs.length es (dE S hd ab t):=by
  refine⟨rfl,fun p c q hE=>by show p<(S.hs.set hd ab).length∧q<(S.hs.set hd ab).length;rw[hlen];exact X.lt p c q hE,fun p c q hE=>?_,fun i es' hi x hx=>?_,fun x hx=>?_⟩
  ·obtain⟨es0,g0,t0,a1,b1,d1⟩:=X.on p c q hE
   by_cases q0:ρ p=hd
   ·refine .inr ⟨q0,(c,g0,t0),?_,rfl,mv d1⟩
    have a1':S.ws[ρ p]?=some es0:=a1
    rw[q0,hes] at a1'
    cases a1'
    exact b1
   ·refine .inl ⟨es0,g0,t0,?_,b1,mv d1⟩
    have:ρU ρ hd ab p=ρ p:=by unfold ρU;rw[if_neg q0]
    rw[this]
    exact a1
  ·obtain⟨p,q,a1,a2,a3⟩:=X.of i es' hi x hx
   exact⟨p,q,a1,mv a2,mv a3⟩
  ·obtain⟨p,q,a1,a2,a3⟩:=X.of hd es hes x hx
   exact⟨p,q,a1,(mv a2).trans hdab,mv a3⟩
 obtain⟨o1,o2,o3,_⟩:=pR (es:=es) rfl ht I1 (by show ab<(S.hs.set hd ab).length;rw[hlen];exact l2) (fun e he=>by
  show _∧e.2.1<(S.hs.set hd ab).length∧_
  rw[hlen]
  exact(I.wy hd es hes).2 e he) U
 exact⟨o1,o2,o3⟩
theorem EI.pop{a b:Nat}{tt:List Nat}(X:EI E ρ { S with al:=(a,tt,b)::S.al })(hab:ρ a=ρ b):EI E ρ S:=by
 have mv:∀ {x y:Nat},Lnk ρ ((a,tt,b)::S.al) x y→Lnk ρ S.al x y:=fun g=>g.mono (fun x=>.root x) fun x t y hm=>by
  rcases c6.mp hm with z | z
  ·obtain⟨rfl,rfl,rfl⟩:x=a∧t=tt∧y=b:=by simpa using z
   have q1:=Lnk.root (ρ:=ρ) (al:=S.al) x
   have q2:=Lnk.root (ρ:=ρ) (al:=S.al) y
   rw[hab] at q1
   exact q1.trans q2.symm
  ·exact .pair z
 refine⟨X.lt,fun p c q hE=>?_,fun i es hi x hx=>?_⟩
 ·obtain⟨es0,g0,t0,a1,b1,d1⟩:=X.on p c q hE
  exact⟨es0,g0,t0,a1,b1,mv d1⟩
 ·obtain⟨p,q,a1,a2,a3⟩:=X.of i es hi x hx
  exact⟨p,q,a1,mv a2,mv a3⟩
end
section
variable {h:Nat→List Nat}{φ:Nat→List Nat}{ρ rk:Nat→Nat}{L:Nat}{S:WvS}{E:Nat→Nat→Nat→Prop}
def wB(ρ:Nat→Nat)(N:Nat):Nat:=(List.range N).countP fun i=>decide (ρ i=i)
theorem uB{p q:Nat→Bool}{a:Nat}(hp:p a=true)(hq:q a=false)(he:∀ x,x≠a→q x=p x):∀ {N:Nat},a<N→(List.range N).countP q+1=(List.range N).countP p
 | N+1,hN=>by
  rw[aZ9,aZJ,aZJ]
  by_cases e:a=N
  ·subst e
   have same:∀ M,M≤a→(List.range M).countP q=(List.range M).countP p:=fun M hM=>aZO fun x hx=>by
    rw[he x (by have:=aQW.mp hx;omega)]
   rw[same a (b9 _)]
   simp[hp,hq]
  ·have:=uB hp hq he (N:=N) (by omega)
   have e2:List.countP q [N]=List.countP p [N]:=aZO fun x hx=>by rw[he x (by rw[c5.mp hx];exact fun z=>e z.symm)]
   omega
theorem AD{hd ab N:Nat}(hl:hd<N)(h1:ρ hd=hd)(h2:ρ ab=ab)(hne:hd≠ab):wB (ρU ρ hd ab) N+1=wB ρ N:=by
 refine uB (a:=hd) (by rw[decide_eq_true_iff];exact h1) (decide_eq_false ?_) (fun x hx=>?_) hl
 ·unfold ρU;rw[if_pos h1];exact fun z=>hne z.symm
 ·unfold ρU
  split
  ·rename_i q
   rw[decide_eq_false (show ¬ ab=x from fun z=>hne (by rw[← q,← z,h2])),decide_eq_false (show ¬ ρ x=x from fun z=>hx (by rw[← z,q]))]
  ·rfl
theorem Ek(N:Nat):wB ρ N≤N:=by
 unfold wB
 have:=List.countP_le_length (p:=fun i=>decide (ρ i=i)) (l:=List.range N)
 rwa [y9] at this
theorem kI:∀ {l m:List Nat},l.Nodup→(∀ x∈l,x∈m)→l.length≤m.length
 | [],m,_,_=>j9 _
 | a::l,m,nd,sub=>by
  obtain⟨n1,n2⟩:=l9.mp nd
  have ha:=sub a d9
  have:=kI (l:=l) (m:=m.erase a) n2 fun x hx=>(List.mem_erase_of_ne (fun z=>n1 (by rw[← z];exact hx))).mpr (sub x (d4 _ hx))
  rw[List.length_erase_of_mem ha] at this
  have:0<m.length:=aQh ha
  rw[j1]
  omega
theorem rJ{es:List (Nat×Nat×List Nat)}(nd:(es.map (·.1)).Nodup)(hl:∀ e∈es,cN e.1):es.length≤8:=by
 have:=kI (m:=[97,98,99,100,65,66,67,68]) nd fun x hx=>by
  obtain⟨e,he,rfl⟩:=j2.mp hx
  have:=hl e he
  unfold cN at this
  simp
  omega
 rw[b7] at this
 exact this
theorem kB{i c g:Nat}{t:List Nat}{es:List (Nat×Nat×List Nat)}:(aY S i c g t es).al.length≤S.al.length+1:=by
 unfold aY
 split
 ·exact aQT _
 ·split
  ·exact aQT _
  ·show (S.al++_).length≤_;rw[b8];exact b9 _
theorem jY{ab:Nat}{t:List Nat}:∀ {es:List (Nat×Nat×List Nat)} {T:WvS},(underW ab t T es).al.length≤T.al.length+es.length
 | [],T=>b9 _
 | e::es,T=>by
  have:=jY (ab:=ab) (t:=t) (es:=es) (T:=aY T ab e.1 e.2.1 (lay (back t++e.2.2)) (T.ws.getD ab []))
  have h2:=kB (S:=T) (i:=ab) (c:=e.1) (g:=e.2.1) (t:=lay (back t++e.2.2)) (es:=T.ws.getD ab [])
  rw[j1]
  show (underW ab t (aY T ab e.1 e.2.1 (lay (back t++e.2.2)) (T.ws.getD ab [])) es).al.length≤_
  omega
def BQ(S:WvS):WvS:={ hs:=S.hs++[S.hs.length],ts:=S.ts++[[]],ws:=S.ws++[[]],al:=S.al }
def φN(φ:Nat→List Nat)(N:Nat)(v:List Nat):Nat→List Nat:=fun j=>if j=N then v else φ j
theorem dY{α:Type}{xs:List α}{v y:α}{j:Nat}(h:(xs++[v])[j]?=some y):(j<xs.length∧xs[j]?=some y)∨(j=xs.length∧y=v):=by
 rcases Nat.lt_trichotomy j xs.length with q | q | q
 ·rw[m9 q] at h;exact .inl ⟨q,h⟩
 ·subst q
  rw[aQF (b9 _)] at h
  simp at h
  exact .inr ⟨rfl,h.symm⟩
 ·rw[aQF (by omega)] at h
  have:j - xs.length=(j - xs.length - 1)+1:=by omega
  rw[this] at h
  simp at h
theorem WI.new(I:WI h φ (fun x=>x) rk L S){v:List Nat}(hv:AllL v)(hl:v.length≤L):WI h (φN φ S.hs.length v) (fun x=>x) rk L (BQ S):=by
 have hold:∀ {i:Nat},i<S.hs.length→φN φ S.hs.length v i=φ i:=fun {i} hi=>by unfold φN;rw[if_neg (by omega)]
 have hnew:φN φ S.hs.length v S.hs.length=v:=by unfold φN;rw[if_pos rfl]
 have ln:(S.hs++[S.hs.length]).length=S.hs.length+1:=by rw[b8];rfl
 refine⟨?_,?_,?_,?_,?_,?_,?_,?_,I.ha⟩
 ·show (S.ts++[[]]).length=(S.hs++[S.hs.length]).length
  rw[b8,ln,I.lt];rfl
 ·show (S.ws++[[]]).length=(S.hs++[S.hs.length]).length
  rw[b8,ln,I.lw];rfl
 ·intro i a hi
  show a<(S.hs++[S.hs.length]).length∧_
  rw[ln]
  rcases dY hi with ⟨q,hi⟩ | ⟨rfl,rfl⟩
  ·obtain⟨a1,a2,a3,a4⟩:=I.hd i a hi
   exact⟨by omega,a2,a3,a4⟩
  ·exact⟨by omega,.inl rfl,rfl,fun _=>rfl⟩
 ·intro i hi
  have hi':i<S.hs.length+1:=by rw[← ln];exact hi
  refine⟨hi,?_⟩
  show (S.hs++[S.hs.length])[i]?=some i
  by_cases q:i<S.hs.length
  ·rw[m9 q];exact(I.rt i q).2
  ·have:i=S.hs.length:=by omega
   subst this
   rw[aQF (b9 _)]
   simp
 ·intro i a t hi ht
  have ht':(S.ts++[[]])[i]?=some t:=ht
  rcases dY hi with ⟨q,hi⟩ | ⟨rfl,rfl⟩
  ·rcases dY ht' with ⟨_,ht⟩ | ⟨z,_⟩
   ·rw[hold q,hold (I.hd i a hi).1]
    exact I.tn i a t hi ht
   ·rw[I.lt] at z;omega
  ·rcases dY ht' with ⟨z,_⟩ | ⟨_,rfl⟩
   ·rw[I.lt] at z;omega
   ·rw[hnew];exact(iZ hv).symm
 ·intro i es hi
  rcases dY (show (S.ws++[[]])[i]?=some es from hi) with ⟨q,hi⟩ | ⟨_,rfl⟩
  ·obtain⟨w1,w2⟩:=I.wy i es hi
   refine⟨w1,fun e he=>?_⟩
   obtain⟨a,b,c⟩:=w2 e he
   refine⟨a,by show _<(S.hs++[S.hs.length]).length;rw[ln];omega,?_⟩
   rw[hold (by rw[I.lw] at q;exact q),hold b]
   exact c
  ·exact⟨by simp,fun e he=>by cases he⟩
 ·intro e he
  obtain⟨a,b,c⟩:=I.al e he
  refine⟨by show _<(S.hs++[S.hs.length]).length;rw[ln];omega,by show _<(S.hs++[S.hs.length]).length;rw[ln];omega,?_⟩
  rw[hold a,hold b]
  exact c
 ·intro i
  unfold φN
  split
  ·exact⟨hv,hl⟩
  ·exact I.fa i
theorem EI.new(X:EI E (fun x=>x) S)(hw:S.ws.length=S.hs.length):EI E (fun x=>x) (BQ S):=by
 refine⟨fun p c q hE=>?_,fun p c q hE=>?_,fun i es hi e he=>?_⟩
 ·obtain⟨a,b⟩:=X.lt p c q hE
  show p<(S.hs++[S.hs.length]).length∧q<(S.hs++[S.hs.length]).length
  rw[b8]
  simp
  omega
 ·obtain⟨es,g,t,a,b,d⟩:=X.on p c q hE
  refine⟨es,g,t,?_,b,d⟩
  show (S.ws++[[]])[p]?=_
  rw[m9 (a8.mp a).1]
  exact a
 ·rcases dY (show (S.ws++[[]])[i]?=some es from hi) with ⟨_,hi⟩ | ⟨_,rfl⟩
  ·exact X.of i es hi e he
  ·cases he
def Gi(E:Nat→Nat→Nat→Prop):Prop:=∀ p c q,E p c q→cN c∧E q (aU c) p
def Fw(E:Nat→Nat→Nat→Prop)(ρ:Nat→Nat)(z:Nat):List Nat→Nat→Prop
 | [],y=>z=y
 | c::w,y=>∃ p q,ρ p=z∧E p c q∧Fw E ρ (ρ q) w y
theorem Fw.app:∀ {w v:List Nat} {x y z:Nat},Fw E ρ x w y→Fw E ρ y v z→Fw E ρ x (w++v) z
 | [],v,x,y,z,a,b=>by cases a;exact b
 | c::w,v,x,y,z,⟨p,q,a1,a2,a3⟩,b=>⟨p,q,a1,a2,Fw.app a3 b⟩
theorem Fw.back(hs:Gi E):∀ {w:List Nat} {x y:Nat},Fw E ρ x w y→Fw E ρ y (Ma.back w) x
 | [],x,y,a=>by cases a;rfl
 | c::w,x,y,⟨p,q,a1,a2,a3⟩=>by
  have ih:=Fw.back hs a3
  have e:Ma.back (c::w)=Ma.back w++[aU c]:=by rw[show c::w=[c]++w from rfl,dA];rfl
  rw[e]
  exact ih.app ⟨q,p,rfl,(hs p c q a2).2,a1⟩
theorem Fw.mono{E':Nat→Nat→Nat→Prop}(hm:∀ p c q,E p c q→E' p c q):∀ {w:List Nat} {x y:Nat},Fw E ρ x w y→Fw E' ρ x w y
 | [],x,y,a=>a
 | c::w,x,y,⟨p,q,a1,a2,a3⟩=>⟨p,q,a1,hm _ _ _ a2,Fw.mono hm a3⟩
theorem EI.det(I:WI h φ ρ rk L S)(X:EI E ρ S)(h0:S.al=[])(hid:∀ x,ρ (ρ x)=ρ x):∀ p c q p' q',E p c q→E p' c q'→ρ p=ρ p'→ρ q=ρ q':=by
 intro p c q p' q' hE hE' e
 obtain⟨es,g,t,a1,a2,a3⟩:=X.on p c q hE
 obtain⟨es',g',t',b1,b2,b3⟩:=X.on p' c q' hE'
 rw[← e,a1] at b1
 cases b1
 rw[h0] at a3 b3
 have m1:=lI (I.wy _ es a1).1 a2
 have m2:=lI (I.wy _ es a1).1 b2
 rw[m1] at m2
 cases m2
 exact(Lnk.nil hid a3).symm.trans (Lnk.nil hid b3)
end
abbrev rW:=Nat×Nat×List Nat
def DcIs(H:Hp)(kvs:List (bX×V))(es:List rW):Prop:=Paired (fun (kv:bX×V) (e:rW)=>kv.1=.inr (S [e.1])∧∃ t,kv.2=.ref t∧H t=some (.tup [.int (e.2.1:Nat),.str (S e.2.2)])) kvs es
def cF(l:List Nat):List V:=l.map fun (i:Nat)=>V.int i
theorem cR(l:List Nat):(cF l).length=l.length:=by unfold cF;rw[b7]
theorem jE{l:List Nat}{i a:Nat}(h:l[i]?=some a):(cF l)[i]?=some (.int (a:Nat)):=by unfold cF;rw[c7,h];rfl
theorem lB(l:List Nat)(a:Nat):cF l++[.int (a:Nat)]=cF (l++[a]):=by unfold cF;rw[g9];rfl
theorem uH(l:List Nat)(i a:Nat):(cF l).set i (.int (a:Nat))=cF (l.set i a):=by unfold cF;rw[aJH]
theorem DcIs.mono{H H':Hp}{kvs:List (bX×V)}{es:List rW}(ht:∀ t xs,H t=some (.tup xs)→H' t=some (.tup xs))(h:DcIs H kvs es):DcIs H' kvs es :=
 Paired.mapP h fun kv e ⟨a,t,b,c⟩=>⟨a,t,b,ht _ _ c⟩
theorem zD{c d:Nat}(h:(Sum.inr (S [c]):bX)=Sum.inr (S [d])):c=d:=by
 have z2:=aJI h
 have:=congrArg (fun y:Str=>y.cps.toList) z2
 simpa [S] using this
theorem DcIs.val{H:Hp}{c:Nat}:∀ {kvs:List (bX×V)} {es:List rW},DcIs H kvs es→match cS es c with
  | none=>cY kvs (.inr (S [c]))=none
  | some r=>∃ t,cY kvs (.inr (S [c]))=some (.ref t)∧H t=some (.tup [.int (r.1:Nat),.str (S r.2)])
 | [],[],.nil=>rfl
 | kv::kvs,e::es,.cons ⟨a,t,b,d⟩ r=>by
  have ih:=DcIs.val (c:=c) (show DcIs H kvs es from r)
  by_cases q:e.1=c
  ·have:cS (e::es) c=some e.2:=by unfold cS;rw[List.find?_cons_of_pos (by simpa using q)];rfl
   rw[this]
   refine⟨t,?_,d⟩
   rw[dC (by rw[a,q]),b]
  ·have e1:cS (e::es) c=cS es c:=by unfold cS;rw[aXe (by simpa using q)]
   rw[e1,cU (show ¬ kv.1=Sum.inr (S [c]) from fun z=>q (zD (a.symm.trans z)))]
   exact ih
theorem DcIs.put{H:Hp}{kvs:List (bX×V)}{es:List rW}{c g:Nat}{w:List Nat}{t:Addr}(h:DcIs H kvs es)(hn:cS es c=none)(ht:H t=some (.tup [.int (g:Nat),.str (S w)])):DcIs H (cT kvs (.inr (S [c])) (.ref t)) (es++[(c,g,w)]):=by
 have hv:=h.val (c:=c)
 rw[hn] at hv
 have hv:cY kvs (.inr (S [c]))=none:=hv
 rw[uE _ hv]
 exact aZQ h ⟨rfl,t,rfl,ht⟩
structure WvC(C:Addr)(H:Hp)(p dx hd tn wy al:Addr)(ds as:List Addr)(Z:WvS):Prop where
 nd:(hd::tn::wy::al::ds).Nodup
 ob:H p=some (.ins C dx (wf hd tn wy al))
 hh:H hd=some (.lst (cF Z.hs))
 ht:H tn=some (.lst (bE Z.ts))
 hw:H wy=some (.lst (ds.map V.ref))
 ha:H al=some (.lst (as.map V.ref))
 ld:ds.length=Z.ws.length
 dc:∀ (i:Nat) (d:Addr) (es:List rW),ds[i]?=some d→Z.ws[i]?=some es→∃ kvs,H d=some (.dK kvs)∧DcIs H kvs es
 la:as.length=Z.al.length
 at':∀ (j:Nat) (a:Addr) (e:Nat×List Nat×Nat),as[j]?=some a→Z.al[j]?=some e→H a=some (.tup [.int (e.1:Nat),.str (S e.2.1),.int (e.2.2:Nat)])
def FrW(M:List Addr)(H H':Hp):Prop:=∀ b o,H b=some o→b ∉ M→H' b=some o
def MU(H:Hp)(M M':List Addr):Prop:=∀ x∈M',x∈M∨H x=none
theorem FrW.refl(M:List Addr)(H:Hp):FrW M H H:=fun _ _ h _=>h
theorem FrW.ofSame{M:List Addr}{H H':Hp}(s:Same H H'):FrW M H H':=fun b o h _=>s b o h
theorem FrW.trans{M M1:List Addr}{H H1 H2:Hp}(a:FrW M H H1)(u:MU H M M1)(b:FrW M1 H1 H2):FrW M H H2:=fun x o h n=>b x o (a x o h n) fun z=>(u x z).elim n fun q=>by rw[h] at q;cases q
theorem FrW.upd{M:List Addr}{H H':Hp}{x:Addr}{o:HO}(a:FrW M H H')(hx:x∈M):FrW M H (L2.upd H' x o):=fun b u h n=>by rw[aE (fun z=>n (by rw[z];exact hx))];exact a b u h n
theorem MU.refl(H:Hp)(M:List Addr):MU H M M:=fun _ h=>.inl h
section
variable {C:Addr}{H H':Hp}{p dx hd tn wy al:Addr}{ds as:List Addr}{Z:WvS}
theorem WvC.same(w:WvC C H p dx hd tn wy al ds as Z)(s:Same H H'):WvC C H' p dx hd tn wy al ds as Z :=
 ⟨w.nd,s _ _ w.ob,s _ _ w.hh,s _ _ w.ht,s _ _ w.hw,s _ _ w.ha,w.ld,fun i d es h1 h2=>let ⟨kvs,a,b⟩:=w.dc i d es h1 h2;⟨kvs,s _ _ a,b.mono fun t xs q=>s _ _ q⟩,w.la,fun j a e h1 h2=>s _ _ (w.at' j a e h1 h2)⟩
theorem WvC.out(w:WvC C H p dx hd tn wy al ds as Z){b:Addr}{o:HO}(e:H b=some o)(h1:∀ xs,o≠.lst xs)(h2:∀ kvs,o≠.dK kvs):b ∉ hd::tn::wy::al::ds:=fun z=>by
 have k:∀ {o':HO},H b=some o'→o=o':=fun q=>by rw[e] at q;exact d6 q
 rcases c6.mp z with rfl | z
 ·exact h1 _ (k w.hh)
 rcases c6.mp z with rfl | z
 ·exact h1 _ (k w.ht)
 rcases c6.mp z with rfl | z
 ·exact h1 _ (k w.hw)
 rcases c6.mp z with rfl | z
 ·exact h1 _ (k w.ha)
 ·obtain⟨i,hi⟩:=l5 z
  obtain⟨es,hes⟩:∃ es,Z.ws[i]?=some es:=⟨_,a9 (by rw[← w.ld];exact(a8.mp hi).1)⟩
  obtain⟨kvs,q,_⟩:=w.dc i b es hi hes
  exact h2 _ (k q)
theorem WvC.tup(w:WvC C H p dx hd tn wy al ds as Z)(f:FrW (hd::tn::wy::al::ds) H H'){t:Addr}{xs:List V}(e:H t=some (.tup xs)):H' t=some (.tup xs):=f t _ e (w.out e (by intro xs z;cases z) (by intro kvs z;cases z))
theorem WvC.self(w:WvC C H p dx hd tn wy al ds as Z)(f:FrW (hd::tn::wy::al::ds) H H'):H' p=some (.ins C dx (wf hd tn wy al)):=f p _ w.ob (w.out w.ob (by intro xs z;cases z) (by intro kvs z;cases z))
theorem WvC.put1{x:Addr}{o:HO}(hx:x∈hd::tn::wy::al::ds):FrW (hd::tn::wy::al::ds) H (L2.upd H x o):=(FrW.refl _ H).upd hx
theorem WvC.upHd(w:WvC C H p dx hd tn wy al ds as Z)(l:List Nat):WvC C (L2.upd H hd (.lst (cF l))) p dx hd tn wy al ds as { Z with hs:=l }:=by
 have f:FrW (hd::tn::wy::al::ds) H (L2.upd H hd (.lst (cF l))):=WvC.put1 d9
 obtain⟨n1,_⟩:=l9.mp w.nd
 have ne:∀ {b:Addr},b∈tn::wy::al::ds→b≠hd:=fun hb z=>n1 (z ▸ hb)
 refine⟨w.nd,w.self f,aB,by rw[aE (ne (by simp))];exact w.ht,by rw[aE (ne (by simp))];exact w.hw,by rw[aE (ne (by simp))];exact w.ha,w.ld,fun i d es h1 h2=>?_,w.la,fun j a e h1 h2=>w.tup f (w.at' j a e h1 h2)⟩
 obtain⟨kvs,a,b⟩:=w.dc i d es h1 h2
 exact⟨kvs,by rw[aE (ne (by simp[b0 h1]))];exact a,b.mono fun t xs q=>w.tup f q⟩
theorem WvC.upTn(w:WvC C H p dx hd tn wy al ds as Z)(l:List (List Nat)):WvC C (L2.upd H tn (.lst (bE l))) p dx hd tn wy al ds as { Z with ts:=l }:=by
 have f:FrW (hd::tn::wy::al::ds) H (L2.upd H tn (.lst (bE l))):=WvC.put1 (by simp)
 obtain⟨n1,n2⟩:=l9.mp w.nd
 obtain⟨n3,_⟩:=l9.mp n2
 have ne:∀ {b:Addr},b∈wy::al::ds→b≠tn:=fun hb z=>n3 (z ▸ hb)
 have nh:hd≠tn:=fun z=>n1 (z ▸ d9)
 refine⟨w.nd,w.self f,by rw[aE nh];exact w.hh,aB,by rw[aE (ne (by simp))];exact w.hw,by rw[aE (ne (by simp))];exact w.ha,w.ld,fun i d es h1 h2=>?_,w.la,fun j a e h1 h2=>w.tup f (w.at' j a e h1 h2)⟩
 obtain⟨kvs,a,b⟩:=w.dc i d es h1 h2
 exact⟨kvs,by rw[aE (ne (by simp[b0 h1]))];exact a,b.mono fun t xs q=>w.tup f q⟩
theorem WvC.upAl(w:WvC C H p dx hd tn wy al ds as Z)(as':List Addr)(l:List (Nat×List Nat×Nat))(hl:as'.length=l.length)(ha:∀ (j:Nat) (a:Addr) (e:Nat×List Nat×Nat),as'[j]?=some a→l[j]?=some e→H a=some (.tup [.int (e.1:Nat),.str (S e.2.1),.int (e.2.2:Nat)])) :
  WvC C (L2.upd H al (.lst (as'.map V.ref))) p dx hd tn wy al ds as' { Z with al:=l }:=by
 have f:FrW (hd::tn::wy::al::ds) H (L2.upd H al (.lst (as'.map V.ref))):=WvC.put1 (by simp)
 obtain⟨n1,n2⟩:=l9.mp w.nd
 obtain⟨n3,n4⟩:=l9.mp n2
 obtain⟨n5,n6⟩:=l9.mp n4
 obtain⟨n7,_⟩:=l9.mp n6
 have nh:hd≠al:=fun z=>n1 (z ▸ by simp)
 have nt:tn≠al:=fun z=>n3 (z ▸ by simp)
 have nw:wy≠al:=fun z=>n5 (z ▸ by simp)
 refine⟨w.nd,w.self f,by rw[aE nh];exact w.hh,by rw[aE nt];exact w.ht,by rw[aE nw];exact w.hw,aB,w.ld,fun i d es h1 h2=>?_,hl,fun j a e h1 h2=>w.tup f (ha j a e h1 h2)⟩
 obtain⟨kvs,a,b⟩:=w.dc i d es h1 h2
 exact⟨kvs,by rw[aE (fun z=>n7 (by rw[← z];exact b0 h1))];exact a,b.mono fun t xs q=>w.tup f q⟩
theorem WvC.upDc(w:WvC C H p dx hd tn wy al ds as Z){i:Nat}{d:Addr}(hi:ds[i]?=some d)(kvs:List (bX×V))(es:List rW)(hk:DcIs H kvs es):WvC C (L2.upd H d (.dK kvs)) p dx hd tn wy al ds as { Z with ws:=Z.ws.set i es }:=by
 have hm:=b0 hi
 have f:FrW (hd::tn::wy::al::ds) H (L2.upd H d (.dK kvs)):=WvC.put1 (by simp[hm])
 obtain⟨n1,n2⟩:=l9.mp w.nd
 obtain⟨n3,n4⟩:=l9.mp n2
 obtain⟨n5,n6⟩:=l9.mp n4
 obtain⟨n7,n8⟩:=l9.mp n6
 have nh:hd≠d:=fun z=>n1 (z ▸ by simp[hm])
 have nt:tn≠d:=fun z=>n3 (z ▸ by simp[hm])
 have nw:wy≠d:=fun z=>n5 (z ▸ by simp[hm])
 have na:al≠d:=fun z=>n7 (z ▸ hm)
 refine⟨w.nd,w.self f,by rw[aE nh];exact w.hh,by rw[aE nt];exact w.ht,by rw[aE nw];exact w.hw,by rw[aE na];exact w.ha,by show ds.length=(Z.ws.set i es).length;rw[j0];exact w.ld,fun j d' es' h1 h2=>?_,w.la,fun j a e h1 h2=>w.tup f (w.at' j a e h1 h2)⟩
 rcases eK h2 with ⟨rfl,rfl,_⟩ | ⟨hn,h2⟩
 ·rw[hi] at h1
  cases h1
  exact⟨kvs,aB,hk.mono fun t xs q=>w.tup f q⟩
 ·obtain⟨kvs',a,b⟩:=w.dc j d' es' h1 h2
  have nd:d'≠d:=fun z=>by
   subst z
   obtain⟨l1,e1⟩:=a8.mp h1
   obtain⟨l2,e2⟩:=a8.mp hi
   exact hn ((aQl n8).mp (e1.trans e2.symm))
  exact⟨kvs',by rw[aE nd];exact a,b.mono fun t xs q=>w.tup f q⟩
theorem WvC.upNew(w:WvC C H p dx hd tn wy al ds as Z){d:Addr}(hd0:H d=none):WvC C (L2.upd (L2.upd H d (.dK [])) wy (.lst ((ds++[d]).map V.ref))) p dx hd tn wy al (ds++[d]) as { Z with ws:=Z.ws++[[]] }:=by
 have w1:=w.same (Same.new (o:=.dK []) hd0)
 have e1:L2.upd H d (.dK []) d=some (.dK []):=aB
 have nin:d ∉ hd::tn::wy::al::ds:=fun z=>by
  rcases c6.mp z with rfl | z
  ·rw[w.hh] at hd0;cases hd0
  rcases c6.mp z with rfl | z
  ·rw[w.ht] at hd0;cases hd0
  rcases c6.mp z with rfl | z
  ·rw[w.hw] at hd0;cases hd0
  rcases c6.mp z with rfl | z
  ·rw[w.ha] at hd0;cases hd0
  ·obtain⟨i,hi⟩:=l5 z
   obtain⟨es,hes⟩:∃ es,Z.ws[i]?=some es:=⟨_,a9 (by rw[← w.ld];exact(a8.mp hi).1)⟩
   obtain⟨kvs,q,_⟩:=w.dc i d es hi hes
   rw[q] at hd0;cases hd0
 generalize L2.upd H d (.dK [])=G at w1 e1
 have f:FrW (hd::tn::wy::al::ds) G (L2.upd G wy (.lst ((ds++[d]).map V.ref))):=WvC.put1 (by simp)
 obtain⟨n1,n2⟩:=l9.mp w.nd
 obtain⟨n3,n4⟩:=l9.mp n2
 obtain⟨n5,n6⟩:=l9.mp n4
 have nh:hd≠wy:=fun z=>n1 (z ▸ by simp)
 have nt:tn≠wy:=fun z=>n3 (z ▸ by simp)
 have na:al≠wy:=fun z=>n5 (z ▸ by simp)
 have nd':(hd::tn::wy::al::(ds++[d])).Nodup:=by
  have:hd::tn::wy::al::(ds++[d])=(hd::tn::wy::al::ds)++[d]:=rfl
  rw[this,aQJ]
  exact⟨w.nd,by simp,fun a ha b hb z=>nin (by rw[← c5.mp hb,← z];exact ha)⟩
 have nwd:d≠wy:=fun z=>nin (z ▸ by simp)
 refine⟨nd',w1.self f,by rw[aE nh];exact w1.hh,by rw[aE nt];exact w1.ht,aB,by rw[aE na];exact w1.ha,by show (ds++[d]).length=(Z.ws++[[]]).length;rw[b8,b8,w.ld];rfl,fun i d' es h1 h2=>?_,w.la,fun j a e h1 h2=>w1.tup f (w1.at' j a e h1 h2)⟩
 rcases dY h2 with ⟨q,h2⟩ | ⟨q,rfl⟩
 ·rw[m9 (by rw[w.ld];exact q)] at h1
  obtain⟨kvs,a,b⟩:=w1.dc i d' es h1 h2
  exact⟨kvs,by rw[aE (fun z=>n5 (by rw[← z];exact d4 _ (b0 h1)))];exact a,b.mono fun t xs q=>w1.tup f q⟩
 ·rcases dY h1 with ⟨q',_⟩ | ⟨_,rfl⟩
  ·rw[w.ld] at q';omega
  ·exact⟨[],by rw[aE nwd];exact e1,.nil⟩
end
def Wat(C:Addr)(H:Hp)(p:Addr)(M:List Addr)(Z:WvS):Prop:=∃ dx hd tn wy al ds as,M=hd::tn::wy::al::ds∧WvC C H p dx hd tn wy al ds as Z
theorem Wat.same{C:Addr}{H H':Hp}{p:Addr}{M:List Addr}{Z:WvS}(w:Wat C H p M Z)(s:Same H H'):Wat C H' p M Z:=by
 obtain⟨dx,hd,tn,wy,al,ds,as,e,w⟩:=w;exact⟨dx,hd,tn,wy,al,ds,as,e,w.same s⟩
end Lw
namespace Lw
open PySem PySem.Spec PyProof.Rows L2 Ma
def Gq(N P:List Str)(sc:Scope):Bool:=decide (sc.kind=.function) && (decide (sc.isCoroutine=false) && (decide (sc.isGenerator=false) && (decide N.Nodup && (decide (N.take P.length=P) && (P.all (fun x=>decide (sc.names.lookup x=some .local∨sc.names.lookup x=some .cell)) && sc.names.all (fun y=>decide (y.2≠.free)))))))
theorem gE{N P:List Str}{sc:Scope}(h:Gq N P sc=true):FnScope N P sc:=by
 unfold Gq at h
 simp only [aQA,decide_eq_true_eq,y1] at h
 obtain⟨a,b,c,d,e,f,g⟩:=h
 exact⟨a,b,c,d,e,f,g⟩
theorem pC{X:Cx}{x:Str}{ps:List Str}{n m:Nat}{sp:Sp}{e:Expr}{es:List Expr}{t:TA}{p pos:Pos}(c:Cl X.prog X.w X.K X.mg X.base x ps n sp)(hr:Room m X.A)(ha:PA X (e::es) t)(hg:Gl X x:=by rfl)(hle:n≤m:=by first | decide | exact b9 _)
  (hdb:(x == ("__debug__":Str))=false:=by decide) (he:starEach (e::es) X.env=(false,eval e X.env)::starEach es X.env:=by rfl) (hpl:(backTo pos (starEach es X.env)).any (·.1)=false:=by rfl) :
  PE X (.Call (.Name x p) (e::es) [] pos) (DW sp [] E0 t):=by
 obtain⟨f,fd,F,hm,hk,hb⟩:=c
 exact Dc F (hr.mono hle) hg hm hk hb .nil fA ha hdb he hpl
abbrev DI(K:b5)(x:Str)(st:Stmt):Prop:=∃ (f:Addr) (oc kV dc pm cd ct:Value) (od an:Option Addr) (sl:Array (Option Value)),PySem.W.nsIn K mainGlobals x=some (some (.ref f))∧K.lookup f=some ⟨oc,od,.func (PySem.W.fnOf x x (dX st) (dN st) (aH st) .none kV dc pm an cd ct),sl⟩∧PySem.W.codeIn K cd x=true∧PySem.W.keepIn K (.ref f)=true
theorem jQ{K:b5}{h:Heap}{mg:Str→Option Value}{x:Str}{st:Stmt}{ps:List Str}(d:DI K x st)(X:K.In h)(G:h.Ns mainGlobals mg)(hb:∀ (kV doc pm:Value) (an:Option Addr) (cdv ct:Value) (us:List Value),us.length=ps.length→bindArgs (PySem.W.fnOf x x (dX st) (dN st) (aH st) .none kV doc pm an cdv ct) ⟨us,[]⟩=pure (ps.zip us)):∃ f fd,Df K mg x st ps f fd:=by
 obtain⟨f,oc,kV,dc,pm,cd,ct,od,an,sl,a,l,c,k⟩:=d
 exact⟨f,_,lT l c k,(lT l c k).binds hb,aQQ X G a⟩
abbrev DJ(K:b5)(C:Addr)(x q:Str)(st:Stmt):Prop:=∃ (f:Addr) (oc kV dc pm cd ct:Value) (od an:Option Addr) (sl:Array (Option Value)),PySem.W.findIn K (.ref C) x=some (some (.ref f))∧PySem.W.isFn K (.ref f)=true∧K.lookup f=some ⟨oc,od,.func (PySem.W.fnOf x q (dX st) (dN st) (aH st) .none kV dc pm an cd ct),sl⟩∧PySem.W.codeIn K cd q=true∧PySem.W.keepIn K (.ref f)=true
theorem CI{K:b5}{C:Addr}{x q:Str}{st:Stmt}{ps:List Str}(d:DJ K C x q st)(hb:∀ (kV doc pm:Value) (an:Option Addr) (cdv ct:Value) (us:List Value),us.length=ps.length→bindArgs (PySem.W.fnOf x q (dX st) (dN st) (aH st) .none kV doc pm an cdv ct) ⟨us,[]⟩=pure (ps.zip us)):∃ f fd,DfM K C x q st ps f fd:=by
 obtain⟨f,oc,kV,dc,pm,cd,ct,od,an,sl,a,i,l,c,k⟩:=d
 exact⟨f,_,Iy a i l c k hb⟩
end Lw
namespace L2
open PySem PySem.Spec PyProof.Rows
section
variable {X:Cx}{tg:Expr}
def Gu(ta:TA):TI:=fun σ H R=>ta σ H fun vs H1=>∃ z:Str,vs=[.str z]∧z.length≤60000∧R (FQ z) H1
theorem CT{a:Expr}{ta:TA}{p pos:Pos}(hg:Gl X "reversed")(hm:X.mg "reversed"=none)(ha:PA X [a] ta)(hs:starEach [a] X.env=[(false,eval a X.env)]:=by rfl):PI X tg (.Call (.Name "reversed" p) [a] [] pos) (Gu ta):=by
 intro pins s σ H R I h
 refine Call_ (hU I hg hm boot_reversed (r9 (bV (ha pos pins s σ H _ I h) fun us s1 ⟨vs,H1,I1,r1,q1⟩=>?_) hs rfl))
 obtain⟨z,e,hz,q⟩:=q1
 subst e
 obtain⟨u,rfl,ru⟩:=r1.one
 obtain⟨t,rfl⟩:=ru
 refine gA (by omega) fun tk=>?_
 have I2:Inv X pins σ H1 { s1 with heap:=s1.heap.push { cls:=.type "reversed",data:=.fields #[.str z t,rawInt ((z.length:Int) - 1)] },toks:=tk }:=I1.kept fun b o e=>b6 _ e
 have st:(s1.heap.push { cls:=.type "reversed",data:=.fields #[.str z t,rawInt ((z.length:Int) - 1)] }).IsRvd s1.heap.objs.size z t ((z.length:Int) - 1):=⟨_,d3 _ rfl,rfl,rfl⟩
 refine eP st ?_
 refine⟨s1.heap.objs.size,[s1.heap.objs.size],_,_,H1,rfl,I2,uY z t _ (by omega),⟨j9 _,?_⟩,fun b hb=>?_,q⟩
 ·have e0:(z.cps.size:Int) - 1 - ((0:Nat):Int)=(z.length:Int) - 1:=by show (z.cps.size:Int) - 1 - ((0:Nat):Int)=(z.cps.size:Int) - 1;omega
  rw[e0];exact st
 ·have e:b=s1.heap.objs.size:=by simpa using hb
  subst e
  exact I1.fpOk (b9 _) (I1.hok.fresh (b9 _))
end
end L2
namespace PySem
namespace SeqAt
end SeqAt
end PySem
namespace L2
open PySem PySem.Spec PyProof.Rows
end L2
namespace PySem
open Sem (wp)
open PyProof.Rows
namespace F
end F
end PySem
namespace L2
open PySem PySem.Spec PyProof.Rows
end L2
namespace Lw
open PySem PySem.Spec PyProof.Rows L2 Ma MaR
theorem qZ(cs:List Nat):bE (mE cs)=bJ cs:=by unfold bE mE bJ;rw[y0];rfl
def vC:Sp:=fun vs H Q _=>∃ (fl sc:Addr) (n:Nat),vs=[.ref fl,.int (n:Nat)]∧IsFl H fl sc∧1≤n∧n≤4∧∀ (p:Addr) (c:Nat) (sd:List Nat) (H':Hp),H p=none→GoodB n c sd→sd.length≤8→IsChg H' p c sd→IsFl H' fl sc→Kp fl H H'→Q (.ref p) H'
def Bq:Sp:=fun vs H Q _=>∃ (n:Nat) (p:Addr) (c:Nat) (sd:List Nat),vs=[.ref p]∧1≤n∧n≤4∧IsChg H p c sd∧GoodB n c sd∧sd.length≤8∧∀ (q:Addr) (H':Hp),Same H H'→IsChg H' q (aU c) (lS c sd)→Q (.ref q) H'
theorem Jr{a b:Nat}(h:¬ rk b<rk a):Bw [a] [b]:=by
 show (if ((1:Nat):Int)=((1:Nat):Int) then HT.lexLt [((rk b:Nat):Int)] [((rk a:Nat):Int)] else _)=false
 rw[if_pos rfl,HT.lexLt_cons]
 by_cases e:((rk b:Nat):Int)=((rk a:Nat):Int)
 ·rw[if_pos e];rfl
 ·rw[if_neg e];exact decide_eq_false (by omega)
theorem GoodB.nodup{n c:Nat}{sd:List Nat}(g:GoodB n c sd):sd.Nodup:=g.ord.imp fun {a b} h e=>by rw[e] at h;exact aQE _ h
theorem uS{n c:Nat}{sd:List Nat}(h1:1≤n)(h4:n≤4)(g:GoodB n c sd){ws:List (List Nat)}(hp:ws.Perm (mE ((sd.filter fun d=>decide (d≠c))++[aU c])))(ho:ws.Pairwise Bw):ws=mE (lS c sd):=by
 have b:=g.back h1 h4
 refine qN (fun x hx=>?_) (hp.trans ((uG g.nodup g.has).map _).symm) ho ?_
 ·obtain⟨d,hd,rfl⟩:=j2.mp (hp.mem_iff.mp hx)
  have:=(uG g.nodup g.has).mem_iff.mpr hd
  exact gR (aV (b.side d this))
 ·unfold mE
  rw[aZN]
  exact b.ord.imp fun h=>Jr (by omega)
theorem BX{n:Nat}(h1:1≤n)(h4:n≤4):(aJ (n:Nat)).Pairwise fun a b=>rk a<rk b:=by
 rcases CH h1 h4 with rfl | rfl | rfl | rfl <;> decide
theorem Dr{w:List Nat}{i:Nat}{v:V}(h:(bJ w)[i]?=some v):∃ c,w[i]?=some c∧v=.str (S [c]):=by
 unfold bJ at h
 rw[c7] at h
 cases hq:w[i]? with
 | none=>rw[hq] at h;cases h
 | some o=>rw[hq] at h;exact⟨o,rfl,(d6 h).symm⟩
end Lw
namespace PySem
open Sem (wp)
set_option maxHeartbeats 1000000 in
theorem iW(l:Addr)(items:Array Value) :
  Meets (Builtin.«enumerate.__new__» ⟨[.type "enumerate",.ref l],[]⟩) (fun _ R s=>s.heap.IsTuple l items ∧
   R (.ok (.ret (.ref (s.heap.push { cls:=.type "tuple_iterator",data:=.fields #[.ref l,.int 0 0] }).objs.size)))
    { s with heap:=(s.heap.push { cls:=.type "tuple_iterator",data:=.fields #[.ref l,.int 0 0] }).push { cls:=.type "enumerate",data:=.fields #[.none,.bool false,.ref s.heap.objs.size,rawInt 0,.none,.none] } }) :=
 .of_wp fun prog w A R s h=>by
  obtain⟨hp,g,d,tk,os⟩:=s
  obtain⟨hT,h⟩:=h
  have hsub:=sub_enumerate
  wp_walk
  refine wpAny_stack_any fun st=>wpAny_pure ?_
  split
  ·rename_i c _ _ _ _ _
   cases (c == Value.type "enumerate")
   ·wp_walk using wpAny_pyIter_tuple hT
    exact⟨_,rfl,h⟩
   ·wp_walk using wpAny_pyIter_tuple hT
    exact⟨_,rfl,h⟩
  ·wp_walk using wpAny_pyIter_tuple hT
   exact⟨_,rfl,h⟩
section
variable {prog:Program}{w:World}{A:Around}{E:Value→Shared→Prop}{s:Shared}
theorem jV{l:Addr}{items:Array Value}{Q:Value→Shared→Prop}(hL:s.heap.IsTuple l items)
  (h:∀ h',IsEnum h' (s.heap.objs.size+1) s.heap.objs.size 0 .none→h'.IsTupleIter s.heap.objs.size l 0→h'.objs.size=s.heap.objs.size+2 →
   (∀ b o,s.heap.get? b=some o→h'.get? b=some o)→Q (.ref (s.heap.objs.size+1)) { s with heap:=h' }) :
  wpAny (model prog w) A (call (.type "enumerate") [.ref l]) Q E s:=by
 refine callType_new F.called_enumerate (by decide) (F.typeCall_enumerate_1 _) (F.newCall_enumerate_1 _) (fun obj=>aXl obj _) F.entry_enumerate_new
  (iW l items) ⟨hL,?_⟩
 have hz:(s.heap.push { cls:=.type "tuple_iterator",data:=.fields #[.ref l,.int 0 0] }).objs.size=s.heap.objs.size+1:=x0 ..
 show _∧_
 rw[hz]
 have he:IsEnum ((s.heap.push { cls:=.type "tuple_iterator",data:=.fields #[.ref l,.int 0 0] }).push
   { cls:=.type "enumerate",data:=.fields #[.none,.bool false,.ref s.heap.objs.size,rawInt 0,.none,.none] }) (s.heap.objs.size+1) s.heap.objs.size 0 .none:=by
  have:=d3 (s.heap.push { cls:=.type "tuple_iterator",data:=.fields #[.ref l,.int 0 0] })
   (o:={ cls:=.type "enumerate",data:=.fields #[.none,.bool false,.ref s.heap.objs.size,rawInt 0,.none,.none] }) rfl
  rw[hz] at this;exact this
 refine⟨⟨_,he,rfl⟩,h _ he ⟨_,b6 _ (d3 _ rfl),rfl,rfl⟩ (by rw[x0,hz]) fun b o x=>b6 _ (b6 _ x)⟩
end
end PySem
namespace L2
open PySem PySem.Spec PyProof.Rows
theorem mG{prog:Program}{w:World}{A:Around}(hh:A.handled=none)(it l:Addr)(hne:l≠it)(items:Array Value) :
  Draws prog w A it [it,l] items.size (fun i v=>items[i]?=some v) (fun i h=>h.IsTupleIter it l i∧h.IsTuple l items) where
 live:=fun _ _ st=>let ⟨o,ho,_⟩:=st.1;⟨o,ho⟩
 frame:=fun _ _ _ st hk=>⟨st.1.at fun o e=>hk it (by simp) o e,by obtain⟨o,e,r⟩:=st.2;exact⟨o,hk l (by simp) o e,r⟩⟩
 item:=fun i s Q E hi st hQ=>by
  refine gS st.1 st.2 (x:=items[i]) (by simp[hi]) fun h' hit' hs'=>?_
  exact hQ _ h' s.toks (by simp[hi]) ⟨hit',st.2.extBut hs'.extBut hne⟩ hs'
 done:=fun s Q E st hE=>lN hh st.1 st.2 (by simp) hE
def Bf(K:b5)(a:Addr):It :=
 ⟨fun i H=>∃ xs x,SqT K H a xs∧xs[i]?=some x,fun i H v H'=>∃ p,v=.ref p∧H p=none∧∀ xs,SqT K H a xs→∃ x,xs[i]?=some x∧H'=upd H p (.tup [.int (i:Nat),x]),fun i H=>∃ xs,SqT K H a xs∧xs.length=i⟩
theorem wK{P:Program}{w:World}{K:b5}{es:List Expr}{x1}{pos:Pos}(a e it:Addr)(hne:e≠it) :
  Turn P w K (.Tuple es x1 pos) (Bf K a) [e,it] e (fun i h=>(∃ old,IsEnum h e it ((i:Nat):Int) old)∧h.IsTupleIter it a i) where
 mem:=by simp
 obj:=fun i h st b hb=>by
  obtain⟨⟨old,he⟩,o,g,c,d⟩:=st
  simp only [c6,n9,or_false] at hb
  rcases hb with rfl | rfl
  ·exact⟨_,he,fun v z=>by cases z⟩
  ·exact⟨o,g,fun v z=>by rw[d] at z;cases z⟩
 keep:=fun i h h' st k=>by
  obtain⟨⟨old,he⟩,o,g,r⟩:=st
  exact⟨⟨old,k e (by simp) _ he⟩,o,k it (by simp) o g,r⟩
 item:=by
  intro X hP hw hK hc i pins s σ H E I hf st hg
  subst hP hw hK
  obtain⟨⟨old,he⟩,hs⟩:=st
  obtain⟨xs,y,hq,hx⟩:=hg
  obtain⟨its,rv,p,hz⟩:=I.tuple hq
  obtain⟨u,hu,ru⟩:=rv.get hx
  have hl:=rv.length
  have hai:a≠it:=fun c=>by
   obtain⟨o,g,c1,_⟩:=hs
   obtain⟨o2,g2,c2,_⟩:=id p
   subst c
   rw[g2] at g
   cases g
   rw[c1] at c2
   exact absurd (aXk c2) (by decide)
  have hea:e≠a:=fun c=>by
   obtain⟨o2,g2,c2,_⟩:=id p
   subst c
   have he':s.heap.get? e=some _:=he
   rw[g2] at he'
   cases he'
   exact absurd (aXk c2) (by decide)
  have hei:e ∉ [it,a]:=by simp[hne,hea]
  have DD:=mG (prog:=X.prog) (w:=X.w) (A:=X.A.in1) (I.ok.hd hc) it a hai its.toArray
  have hil:i<xs.length:=(a8.mp hx).1
  refine wpAny_pyNext_enum_itemD DD he ⟨hs,(show s.heap.IsTuple a its.toArray from p)⟩ (by simp;omega) hne hei fun v h1 tk hv ho hs1 hT1 hz1 kp=>⟨_,rfl,?_⟩
  have ev:v=u:=by
   have h3:its[i]?=some v:=by simpa using hv
   rw[hu] at h3
   exact(d6 h3).symm
  subst ev
  refine wpAny_letOwnedTupleGo_enum ho fun h2 he2 e2=>?_
  have ne:s.heap.objs.size≠e:=aQK (c8 he)
  have hT2:h2.get? s.heap.objs.size=some { cls:=.type "tuple",data:=.seq #[.int i tk,v] }:=(e2.2 _ ne).trans hT1
  have hHn:H s.heap.objs.size=none:=I.hok.fresh (b9 _)
  have kpn:∀ b o,b ∉ [e,it]→s.heap.get? b=some o→h2.get? b=some o:=fun b o hn q=>(e2.2 b fun z=>hn (by simp[z])).trans (kp b o (fun z=>hn (by simp[z])) (fun z=>hn (by simp[z])) q)
  refine⟨.ref s.heap.objs.size,upd H s.heap.objs.size (.tup [.int (i:Nat),y]),?_,rfl,⟨_,rfl,hHn,fun ys hy=>⟨y,by rw[I.tuple_inj hy hq];exact hx,rfl⟩⟩,⟨⟨_,by simpa using he2⟩,?_⟩,fun b hb=>?_⟩
  ·exact I.turnedN (t':=tk+1) (h':=h2) kpn hf (b9 _) ⟨by show 2≤sizeLine;decide,[.int i tk,v],.cons ⟨_,rfl⟩ (.cons ru .nil),⟨_,hT2,rfl,0,rfl⟩,⟨_,hT2,rfl⟩⟩
  ·obtain⟨⟨o,g,r⟩,_⟩:=hs1
   exact⟨o,(e2.2 it hne.symm).trans g,r⟩
  ·have hce:b≠s.heap.objs.size:=by
    obtain⟨o1,g1,_⟩:=hs
    simp only [c6,n9,or_false] at hb
    rcases hb with rfl | rfl
    ·exact g6 (c8 he)
    ·exact g6 (c8 g1)
   rw[aE hce]
   exact(hf b hb).1
 done:=by
  intro X hP hw hK hc i pins s σ H E I hf st hg
  subst hP hw hK
  obtain⟨⟨old,he⟩,hs⟩:=st
  obtain⟨xs,hq,hx⟩:=hg
  obtain⟨its,rv,p,hz⟩:=I.tuple hq
  have hl:=rv.length
  have hai:a≠it:=fun c=>by
   obtain⟨o,g,c1,_⟩:=hs
   obtain⟨o2,g2,c2,_⟩:=id p
   subst c
   rw[g2] at g
   cases g
   rw[c1] at c2
   exact absurd (aXk c2) (by decide)
  have hi:i=its.toArray.size:=by simp;omega
  subst hi
  have DD:=mG (prog:=X.prog) (w:=X.w) (A:=X.A.in1) (I.ok.hd hc) it a hai its.toArray
  refine wpAny_pyNext_enum_endD DD he ⟨hs,(show s.heap.IsTuple a its.toArray from p)⟩ fun h1 e1=>⟨rfl,?_⟩
  exact I.turnedM (t':=s.toks) (ch:=[e,it]) (fun b o hn q=>e1 b o (fun z=>hn (by simp[z])) q) hf
 self:=fun A i s Q E st h=>by
  obtain⟨⟨old,he⟩,_⟩:=st
  exact wpAny_pyIter_enum he h
section
variable {X:Cx}
def EC(K:b5)(ta:TA):TI:=fun σ H R=>ta σ H fun vs H1=>∃ a,vs=[.ref a]∧(∃ xs,SqT K H1 a xs)∧R (Bf K a) H1
theorem BU{es:List Expr}{x1}{tpos:Pos}{a:Expr}{ta:TA}{p pos:Pos}{K:b5}(hK:X.K=K)(hg:Gl X "enumerate")(hm:X.mg "enumerate"=none)(ha:PA X [a] ta)(hs:starEach [a] X.env=[(false,eval a X.env)]:=by rfl) :
  PI X (.Tuple es x1 tpos) (.Call (.Name "enumerate" p) [a] [] pos) (EC K ta):=by
 subst hK
 intro pins s σ H R I h
 refine Call_ (hU I hg hm boot_enumerate (r9 (bV (ha pos pins s σ H _ I h) fun us s1 ⟨vs,H1,I1,r1,q1⟩=>?_) hs rfl))
 obtain⟨l,e,⟨xs,hq⟩,q⟩:=q1
 subst e
 obtain⟨u,rfl,ru⟩:=r1.one
 obtain rfl:u=.ref l:=ru
 obtain⟨its,rv,pl,hz⟩:=I1.tuple hq
 refine jV (show s1.heap.IsTuple l its.toArray from pl) fun h' he hit hz kp=>?_
 have I2:Inv X pins σ H1 { s1 with heap:=h' }:=I1.kept (t':=s1.toks) kp
 have hne:s1.heap.objs.size+1≠s1.heap.objs.size:=by omega
 refine wpAny_pyIter_enum he ⟨s1.heap.objs.size+1,[s1.heap.objs.size+1,s1.heap.objs.size],_,_,H1,rfl,I2,wK l _ _ hne,⟨⟨_,he⟩,hit⟩,fun b hb=>?_,q⟩
 have hle:s1.heap.objs.size≤b:=by
  simp only [c6,n9,or_false] at hb
  rcases hb with h | h <;> rw[h]
  ·exact aQN _ _
  ·exact b9 _
 exact I1.fpOk hle (I1.hok.fresh hle)
end
theorem Aw{K:b5}{a:Addr}{xs:List V}{g:TG}{tb:TS}{D:Ends}{σ:St}{H:Hp}(Pv:Nat→St→Hp→Prop)(h0:Pv 0 σ H)(hl:∀ i σ H,i≤xs.length→Pv i σ H→SqT K H a xs)
  (hs:∀ i x p σ H,xs[i]?=some x→H p=none→Pv i σ H→g (.ref p) σ (upd H p (.tup [.int (i:Nat),x])) fun σ2 H2=>tb { D with nx:=Pv (i+1),ct:=Pv (i+1),bk:=D.nx } σ2 H2) (hd:∀ σ H,Pv xs.length σ H→D.nx σ H) :
  ∃ W:Nat→Nat→St→Hp→Prop,(∃ m,W 0 m σ H)∧∀ i m σ H,W i m σ H →
   ((Bf K a).stop i H∧D.nx σ H)∨((Bf K a).go i H∧∃ N:St→Hp→Prop,(∀ σ' H',N σ' H'→∃ m',m' < m∧W (i+1) m' σ' H')∧∀ x H',(Bf K a).yld i H x H'→g x σ H' fun σ2 H2=>tb { D with nx:=N,ct:=N,bk:=D.nx } σ2 H2):=by
 refine⟨fun i m σ H=>m=xs.length - i∧i≤xs.length∧Pv i σ H,⟨xs.length,by simp,j9 _,h0⟩,?_⟩
 rintro i m σ H ⟨rfl,hi,p⟩
 have q:=hl i σ H hi p
 by_cases hlt:i<xs.length
 ·refine .inr ⟨⟨xs,_,q,a9 hlt⟩,Pv (i+1),fun σ' H' p'=>⟨xs.length - (i+1),by omega,rfl,hlt,p'⟩,fun x H' y=>?_⟩
  obtain⟨pp,rfl,hn,hy⟩:=y
  obtain⟨x,hx,rfl⟩:=hy xs q
  exact hs i x pp σ H hx hn p
 ·have e:i=xs.length:=by omega
  subst e
  exact .inl ⟨⟨xs,q,rfl⟩,hd σ H p⟩
end L2
namespace Lw
open PySem PySem.Spec PyProof.Rows L2 Ma MaR
theorem vE(a b:Nat)(u v:List Nat):fV [.int (a:Nat),.str (S u)] [.int (b:Nat),.str (S v)]=decide ((a,u)=(b,v)):=by
 have e1:fV [.int (a:Nat),.str (S u)] [.int (b:Nat),.str (S v)]=(decide (((a:Nat):Int)=((b:Nat):Int)) && decide (u=v)):=by
  have:=oI [((a:Nat):Int)] [((b:Nat):Int)]
  have e2:=vI [S u] [S v]
  show (nX (.int (a:Nat)) (.int (b:Nat)) && (nX (.str (S u)) (.str (S v)) && true))=_
  have q1:nX (.int (a:Nat)) (.int (b:Nat))=decide (((a:Nat):Int)=((b:Nat):Int)):=by
   have q:(nX (.int (a:Nat)) (.int (b:Nat)) && true)=decide ([((a:Nat):Int)]=[((b:Nat):Int)]):=this
   rw[aXr] at q
   rw[q]
   exact decide_eq_decide.mpr ⟨fun z=>by simpa using z,fun z=>by rw[z]⟩
  have q2:nX (.str (S u)) (.str (S v))=decide (u=v):=by
   have q:(nX (.str (S u)) (.str (S v)) && true)=decide ([S u]=[S v]):=e2
   rw[aXr] at q
   rw[q]
   refine decide_eq_decide.mpr ⟨fun z=>?_,fun z=>by rw[z]⟩
   have z':S u=S v:=by simpa using z
   have:=congrArg (fun y:Str=>y.cps.toList) z'
   simpa [S] using this
  rw[q1,q2,aXr]
 rw[e1]
 by_cases h1:a=b
 ·by_cases h2:u=v
  ·subst h1 h2;simp
  ·simp[h2]
 ·have:¬ ((a:Nat):Int)=((b:Nat):Int):=by omega
  simp[h1,this]
theorem pF{n:Nat}{i:Int}(h0:0≤i)(h1:i<(n:Nat)):AT n i=some i.toNat:=by
 unfold AT
 rw[if_pos h0,if_pos h1]
theorem iB(ws:List (List Nat))(j:Nat)(w:List Nat):(bE ws).set j (.str (S w))=bE (ws.set j w):=by
 unfold bE
 rw[aJH]
section
variable {h:Nat→List Nat}{φ:Nat→List Nat}{ρ rk:Nat→Nat}{L:Nat}{Z:WvS}
theorem hZ(I:WI h φ ρ rk L Z)(i j:Nat):AllL (lay (back (φ i)++φ j))∧(lay (back (φ i)++φ j)).length≤2 * L:=by
 obtain⟨a1,a2⟩:=I.fa i
 obtain⟨b1,b2⟩:=I.fa j
 refine⟨dI (AllL.app.mpr ⟨aO a1,b1⟩),?_⟩
 have:=eZ (back (φ i)++φ j)
 rw[b8,bW] at this
 omega
theorem nI(I:WI h φ ρ rk L Z){c:Nat}(hc:cN c)(i j:Nat):AllL (lay (back (φ i)++(h c++φ j)))∧(lay (back (φ i)++(h c++φ j))).length≤3 * L:=by
 obtain⟨a1,a2⟩:=I.fa i
 obtain⟨b1,b2⟩:=I.fa j
 obtain⟨c1,c2⟩:=I.ha c hc
 refine⟨dI (AllL.app.mpr ⟨aO a1,AllL.app.mpr ⟨c1,b1⟩⟩),?_⟩
 have:=eZ (back (φ i)++(h c++φ j))
 rw[b8,b8,bW] at this
 omega
theorem qG{hd ab:Nat}{t:List Nat}(ht:t=lay (back (φ hd)++φ ab)):∀ {es:List rW} {T:WvS},WI h φ ρ rk L T→ab<T.hs.length→(∀ e∈es,cN e.1∧e.2.1<T.hs.length∧e.2.2=lay (back (φ hd)++(h e.1++φ e.2.1)))→WI h φ ρ rk L (underW ab t T es)∧(underW ab t T es).hs=T.hs
 | [],T,I,_,_=>⟨I,rfl⟩
 | e::es,T,I,hab,hes=>by
  obtain⟨ea,hea⟩:∃ ea,T.ws[ab]?=some ea:=⟨_,a9 (by rw[I.lw];exact hab)⟩
  have hgd:T.ws.getD ab []=ea:=by rw[c9,hea];rfl
  obtain⟨e1,e2,e3⟩:=hes e d9
  have htd:lay (back t++e.2.2)=lay (back (φ ab)++(h e.1++φ e.2.1)):=by
   rw[ht,e3]
   exact IJ (I.fa hd).1 (I.fa ab).1 (I.fa e.2.1).1 (I.ha e.1 e1).1
  have I1:=I.lay hea e1 e2 htd
  obtain⟨hhs,_⟩:=gG (S:=T) ab e.1 e.2.1 (lay (back t++e.2.2)) ea
  have key:underW ab t T (e::es)=underW ab t (aY T ab e.1 e.2.1 (lay (back t++e.2.2)) ea) es:=by
   unfold underW
   rw[aQv,hgd]
  rw[key]
  obtain⟨o1,o2⟩:=qG ht (es:=es) I1 (by rw[hhs];exact hab) (fun x hx=>by rw[hhs];exact hes x (d4 _ hx))
  exact⟨o1,o2.trans hhs⟩
theorem uC{ab:Nat}{t:List Nat}{T:WvS}{es:List rW}{e:rW}:underW ab t T (es++[e])=aY (underW ab t T es) ab e.1 e.2.1 (lay (back t++e.2.2)) ((underW ab t T es).ws.getD ab []):=by
 unfold underW
 rw[aXS]
 rfl
end
theorem EI.move{E:Nat→Nat→Nat→Prop}{ρ:Nat→Nat}{Z Z':WvS}(X:EI E ρ Z)(hw:Z'.ws=Z.ws)(ha:Z'.al=Z.al)(hl:Z'.hs.length=Z.hs.length):EI E ρ Z' :=
 ⟨fun p c q h=>by rw[hl];exact X.lt p c q h,fun p c q h=>by rw[hw,ha];exact X.on p c q h,fun i es h e he=>by rw[ha];exact X.of i es (by rw[← hw];exact h) e he⟩
theorem WI.alDrop{h φ:Nat→List Nat}{ρ rk:Nat→Nat}{L:Nat}{Z:WvS}(I:WI h φ ρ rk L Z){l:List (Nat×List Nat×Nat)}(hl:∀ e∈l,e∈Z.al):WI h φ ρ rk L { Z with al:=l } :=
 ⟨I.lt,I.lw,I.hd,I.rt,I.tn,I.wy,fun e he=>I.al e (hl e he),I.fa,I.ha⟩
theorem AH{ρ:Nat→Nat}{hd ab:Nat}(hi:∀ x,ρ (ρ x)=ρ x)(hb:ρ ab=ab)(hne:hd≠ab):∀ x,ρU ρ hd ab (ρU ρ hd ab x)=ρU ρ hd ab x:=fun x=>by
 unfold ρU
 by_cases q:ρ x=hd
 ·rw[if_pos q,hb,if_neg (fun z=>hne z.symm)]
 ·rw[if_neg q,hi x,if_neg q]
def kJ:Sp:=fun vs H Q _=>∃ w:List Nat,vs=[.str (S w)]∧AllL w∧w.length≤60000∧∀ H',Same H H'→Q (.str (S (back w))) H'
def kP:Sp:=fun vs H Q _=>∃ u w:List Nat,vs=[.str (S u),.str (S w)]∧AllL u∧AllL w∧u.length+w.length≤60000∧∀ H',Same H H'→Q (.str (S (lay (u++w)))) H'
def GN:WvS:={ hs:=[0],ts:=[[]],ws:=[[]],al:=[] }
def tL(C:Addr):Sp:=fun vs H Q _=>∃ (p dx:Addr),vs=[.ref p]∧H p=some (.ins C dx [])∧∀ (M:List Addr) (H':Hp),(∀ x∈M,H x=none)→Wat C H' p M GN→(∀ b o,H b=some o→b≠p→H' b=some o)→Q .non H'
structure Kept(C:Addr)(h φ:Nat→List Nat)(ρ rk:Nat→Nat)(L:Nat)(p:Addr)(M:List Addr)(H H':Hp)(Z Z':WvS):Prop where
 at':Wat C H' p M Z'
 wi:WI h φ ρ rk L Z'
 ws:Z'.ws=Z.ws
 al:Z'.al=Z.al
 ln:Z'.hs.length=Z.hs.length
 fr:FrW M H H'
def vW(C:Addr):Sp:=fun vs H Q _=>∃ (h φ:Nat→List Nat) (ρ rk:Nat→Nat) (L:Nat) (p:Addr) (M:List Addr) (Z:WvS) (i:Nat) (x:List Nat),vs=[.ref p,.int (i:Nat),.str (S x)]∧Wat C H p M Z∧WI h φ ρ rk L Z∧L≤8000∧i<Z.hs.length∧AllL x∧lay x=x∧x.length≤3 * L ∧
 ∀ (t:Addr) (H':Hp) (Z':WvS),Kept C h φ ρ rk L p M H H' Z Z'→H' t=some (.tup [.int (ρ i:Nat),.str (S (lay (x++(back (φ i)++φ (ρ i)))))])→Q (.ref t) H'
def sC(C:Addr):Sp:=fun vs H Q _=>∃ (h φ:Nat→List Nat) (ρ rk:Nat→Nat) (L:Nat) (p:Addr) (M:List Addr) (Z:WvS) (i:Nat),vs=[.ref p,.int (i:Nat)]∧Wat C H p M Z∧WI h φ ρ rk L Z∧L≤8000∧i<Z.hs.length ∧
 ∀ (H':Hp) (Z':WvS),Kept C h φ ρ rk L p M H H' Z Z'→Q (.int (ρ i:Nat)) H'
def rL(C:Addr):Sp:=fun vs H Q _=>∃ (h φ:Nat→List Nat) (ρ rk:Nat→Nat) (L:Nat) (p:Addr) (M:List Addr) (Z:WvS) (i c:Nat) (es:List rW),vs=[.ref p,.int (i:Nat),.str (S [c])]∧Wat C H p M Z∧WI h φ ρ rk L Z∧L≤8000∧Z.ws[i]?=some es ∧
 ∀ (H':Hp) (Z':WvS),Kept C h φ ρ rk L p M H H' Z Z'→Q (match cS es c with | none=>.non | some r=>.int (ρ r.1:Nat)) H'
def CA(C:Addr):Sp:=fun vs H Q _=>∃ (p:Addr) (M:List Addr) (Z:WvS),vs=[.ref p]∧Wat C H p M Z∧Z.hs.length≤900∧Z.ts.length≤900∧Z.ws.length≤900 ∧
 ∀ (d:Addr) (H':Hp),Wat C H' p (M++[d]) (BQ Z)→H d=none→FrW M H H'→Q (.int (Z.hs.length:Nat)) H'
def xD(C:Addr):Sp:=fun vs H Q _=>∃ (h φ:Nat→List Nat) (ρ rk:Nat→Nat) (L:Nat) (p:Addr) (M:List Addr) (Z:WvS) (i c g:Nat) (t:List Nat) (es:List rW),vs=[.ref p,.int (i:Nat),.str (S [c]),.int (g:Nat),.str (S t)]∧Wat C H p M Z∧WI h φ ρ rk L Z∧L≤8000∧Z.ws[i]?=some es∧cN c∧g<Z.hs.length∧t=lay (back (φ i)++(h c++φ g))∧Z.al.length≤50000 ∧
 ∀ H',Wat C H' p M (aY Z i c g t es)→FrW M H H'→Q .non H'
def CD(C:Addr):Sp:=fun vs H Q _=>∃ (h φ:Nat→List Nat) (ρ rk ρ1 rk1:Nat→Nat) (L:Nat) (p:Addr) (M:List Addr) (Z:WvS) (hd ab:Nat) (t:List Nat) (es:List rW),vs=[.ref p,.int (hd:Nat),.int (ab:Nat),.str (S t)]∧Wat C H p M Z∧WI h φ ρ rk L Z∧WI h φ ρ1 rk1 L (dE Z hd ab t)∧L≤8000∧Z.ws[hd]?=some es∧hd<Z.hs.length∧ab<Z.hs.length∧hd≠ab∧t=lay (back (φ hd)++φ ab)∧Z.al.length≤40000 ∧
 ∀ H',Wat C H' p M (underW ab t (dE Z hd ab t) es)→FrW M H H'→Q .non H'
def Hw(h:Nat→List Nat)(w:List Nat):List Nat:=w.flatMap h
theorem wI{h:Nat→List Nat}(ha:∀ c,cN c→AllL (h c)):∀ {w:List Nat},AllL w→AllL (Hw h w)
 | [],_=>AllL.nil
 | c::w,hw=>by
  obtain⟨a,b⟩:=AllL.cons.mp hw
  show AllL (h c++Hw h w)
  exact AllL.app.mpr ⟨ha c a,wI ha b⟩
theorem yA{h:Nat→List Nat}(w:List Nat)(c:Nat):Hw h (w++[c])=Hw h w++h c:=by
 unfold Hw
 rw[aXw]
 simp
theorem xV{x:List Nat}(hx:AllL x):back (lay (back x))=lay x:=by
 rw[← iV (aO hx),cP hx]
theorem zQ{h:Nat→List Nat}{u:List Nat}{c:Nat}(hu:AllL (Hw h u))(hc:AllL (h c)):lay (back (lay (back (Hw h u)))++(h c++[]))=lay (Hw h (u++[c])):=by
 rw[xV hu,o6,fR _ _ hu,yA]
theorem Cp{h:Nat→List Nat}{u:List Nat}{c:Nat}(hu:AllL (Hw h u))(hc:AllL (h c)):lay (back (lay (back (Hw h u)))++(h c++lay (back (Hw h (u++[c])))))=[]:=by
 have q:=aO hu
 have q2:=aO hc
 rw[xV hu,fR _ _ hu,yA,dA,← l8,eQ _ _ (AllL.app.mpr ⟨hu,hc⟩) (AllL.app.mpr ⟨q2,q⟩)]
 have e1:Hw h u++h c++(back (h c)++back (Hw h u))=Hw h u++(h c++(back (h c)++back (Hw h u))):=by simp only [l8]
 rw[e1,fN hu hc q]
 exact iX hu
theorem Wat.dom{C:Addr}{H:Hp}{p:Addr}{M:List Addr}{Z:WvS}(w:Wat C H p M Z){x:Addr}(hx:x∈M):∃ o,H x=some o:=by
 obtain⟨dx,hd,tn,wy,al,ds,as,hM,w⟩:=w
 rw[hM] at hx
 rcases c6.mp hx with rfl | hx
 ·exact⟨_,w.hh⟩
 rcases c6.mp hx with rfl | hx
 ·exact⟨_,w.ht⟩
 rcases c6.mp hx with rfl | hx
 ·exact⟨_,w.hw⟩
 rcases c6.mp hx with rfl | hx
 ·exact⟨_,w.ha⟩
 ·obtain⟨i,hi⟩:=l5 hx
  obtain⟨es,hes⟩:∃ es,Z.ws[i]?=some es:=⟨_,a9 (by rw[← w.ld];exact(a8.mp hi).1)⟩
  obtain⟨kvs,q,_⟩:=w.dc i x es hi hes
  exact⟨_,q⟩
theorem Wat.new{C:Addr}{H:Hp}{p:Addr}{M:List Addr}{Z:WvS}(w:Wat C H p M Z){x:Addr}(hx:H x=none):x ∉ M:=fun z=>by
 obtain⟨o,e⟩:=w.dom z
 rw[hx] at e;cases e
theorem Wat.out{C:Addr}{H:Hp}{p:Addr}{M:List Addr}{Z:WvS}(w:Wat C H p M Z){b:Addr}{o:HO}(e:H b=some o)(h1:∀ xs,o≠.lst xs)(h2:∀ kvs,o≠.dK kvs):b ∉ M:=by
 obtain⟨dx,hd,tn,wy,al,ds,as,hM,w⟩:=w
 rw[hM]
 exact w.out e h1 h2
theorem Wat.self{C:Addr}{H:Hp}{p:Addr}{M:List Addr}{Z:WvS}(w:Wat C H p M Z):∃ dx hd tn wy al,H p=some (.ins C dx (wf hd tn wy al)):=by
 obtain⟨dx,hd,tn,wy,al,ds,as,hM,w⟩:=w
 exact⟨dx,hd,tn,wy,al,w.ob⟩
theorem Es{K:b5}{C:Addr}{H H':Hp}{p:Addr}{M:List Addr}{Z:WvS}(w:Wat C H p M Z)(f:FrW M H H'){t:Addr}{xs:List V}(h:SqT K H t xs):SqT K H' t xs:=by
 rcases h with (h | ⟨o,h⟩) | h
 ·exact .inl (.inl (f _ _ h (w.out h (by intro xs z;cases z) (by intro kvs z;cases z))))
 ·exact .inl (.inr ⟨o,f _ _ h (w.out h (by intro xs z;cases z) (by intro kvs z;cases z))⟩)
 ·exact .inr h
theorem EJ{K:b5}{H:Hp}{d:Addr}{ys:List V}{o:HO}(e:H d=some (.lst ys)){t:Addr}{xs:List V}(h:SqT K H t xs):SqT K (upd H d o) t xs:=by
 rcases h with (h | ⟨q,h⟩) | h
 ·exact .inl (.inl (by rw[aE (cC h e (by intro z;cases z))];exact h))
 ·exact .inl (.inr ⟨q,by rw[aE (cC h e (by intro z;cases z))];exact h⟩)
 ·exact .inr h
section
variable {C:Addr}{h φ:Nat→List Nat}{ρ rk:Nat→Nat}{L:Nat}{p:Addr}{M:List Addr}{H H1 H2:Hp}{Z Z1 Z2:WvS}
theorem Kept.refl(w:Wat C H p M Z)(I:WI h φ ρ rk L Z):Kept C h φ ρ rk L p M H H Z Z:=⟨w,I,rfl,rfl,rfl,FrW.refl _ _⟩
theorem Kept.trans(a:Kept C h φ ρ rk L p M H H1 Z Z1)(b:Kept C h φ ρ rk L p M H1 H2 Z1 Z2):Kept C h φ ρ rk L p M H H2 Z Z2:=⟨b.at',b.wi,b.ws.trans a.ws,b.al.trans a.al,b.ln.trans a.ln,fun x o e n=>b.fr _ _ (a.fr x o e n) n⟩
theorem Kept.same(a:Kept C h φ ρ rk L p M H H1 Z Z1)(s:Same H1 H2):Kept C h φ ρ rk L p M H H2 Z Z1:=⟨a.at'.same s,a.wi,a.ws,a.al,a.ln,fun x o e n=>s _ _ (a.fr x o e n)⟩
theorem Wat.set(w:Wat C H p M Z){d:Addr}{o:HO}(hd:d ∉ M)(hx:∃ xs,H d=some (.lst xs)):Wat C (L2.upd H d o) p M Z:=by
 obtain⟨xs,ex⟩:=hx
 obtain⟨dx,hd',tn,wy,al,ds,as,hM,w⟩:=w
 rw[hM] at hd
 have nt:∀ {t:Addr} {ys:List V},H t=some (.tup ys)→L2.upd H d o t=some (.tup ys):=fun q=>by rw[aE (cC q ex (by intro z;cases z))];exact q
 have nm:∀ {b:Addr} {u:HO},b∈hd'::tn::wy::al::ds→H b=some u→L2.upd H d o b=some u:=fun hb q=>by rw[aE (fun z=>hd (by rw[← z];exact hb))];exact q
 refine⟨dx,hd',tn,wy,al,ds,as,hM,w.nd,?_,nm (by simp) w.hh,nm (by simp) w.ht,nm (by simp) w.hw,nm (by simp) w.ha,w.ld,fun i d' es h1 h2=>?_,w.la,fun j a e h1 h2=>nt (w.at' j a e h1 h2)⟩
 ·rw[aE (cC w.ob ex (by intro z;cases z))];exact w.ob
 ·obtain⟨kvs,a,b⟩:=w.dc i d' es h1 h2
  exact⟨kvs,nm (by simp[b0 h1]) a,b.mono fun t xs q=>nt q⟩
theorem Wat.setD(w:Wat C H p M Z){d:Addr}{o:HO}(hd:d ∉ M)(hx:∃ xs,H d=some (.dK xs)):Wat C (L2.upd H d o) p M Z:=by
 obtain⟨xs,ex⟩:=hx
 obtain⟨dx,hd',tn,wy,al,ds,as,hM,w⟩:=w
 rw[hM] at hd
 have nt:∀ {t:Addr} {ys:List V},H t=some (.tup ys)→L2.upd H d o t=some (.tup ys):=fun q=>by rw[aE (cC q ex (by intro z;cases z))];exact q
 have nm:∀ {b:Addr} {u:HO},b∈hd'::tn::wy::al::ds→H b=some u→L2.upd H d o b=some u:=fun hb q=>by rw[aE (fun z=>hd (by rw[← z];exact hb))];exact q
 refine⟨dx,hd',tn,wy,al,ds,as,hM,w.nd,?_,nm (by simp) w.hh,nm (by simp) w.ht,nm (by simp) w.hw,nm (by simp) w.ha,w.ld,fun i d' es h1 h2=>?_,w.la,fun j a e h1 h2=>nt (w.at' j a e h1 h2)⟩
 ·rw[aE (cC w.ob ex (by intro z;cases z))];exact w.ob
 ·obtain⟨kvs,a,b⟩:=w.dc i d' es h1 h2
  exact⟨kvs,nm (by simp[b0 h1]) a,b.mono fun t xs q=>nt q⟩
theorem Kept.set(a:Kept C h φ ρ rk L p M H H1 Z Z1){d:Addr}{o:HO}{xs:List V}(hM:d ∉ M)(hd:H d=none)(hx:H1 d=some (.lst xs)):Kept C h φ ρ rk L p M H (L2.upd H1 d o) Z Z1 :=
 ⟨a.at'.set hM ⟨xs,hx⟩,a.wi,a.ws,a.al,a.ln,fun x u e n=>by rw[aE (aI e hd)];exact a.fr x u e n⟩
theorem Kept.setD(a:Kept C h φ ρ rk L p M H H1 Z Z1){d:Addr}{o:HO}{xs:List (bX×V)}(hM:d ∉ M)(hd:H d=none)(hx:H1 d=some (.dK xs)):Kept C h φ ρ rk L p M H (L2.upd H1 d o) Z Z1 :=
 ⟨a.at'.setD hM ⟨xs,hx⟩,a.wi,a.ws,a.al,a.ln,fun x u e n=>by rw[aE (aI e hd)];exact a.fr x u e n⟩
theorem Kept.free(a:Kept C h φ ρ rk L p M H H1 Z Z1){d:Addr}(hM:d ∉ M)(hd:H1 d=none):H d=none:=by
 cases e:H d with
 | none=>rfl
 | some o=>rw[a.fr d o e hM] at hd;cases hd
end
theorem WI.init{h:Nat→List Nat}{L:Nat}(hh:∀ c,cN c→AllL (h c)∧(h c).length≤L):WI h (fun _=>[]) (fun x=>x) (fun _=>0) L GN:=by
 have one:∀ {α:Type} {v y:α} {i:Nat},[v][i]?=some y→i=0∧y=v:=fun {α v y i} e=>by
  cases i with
  | zero=>exact⟨rfl,by simpa using e.symm⟩
  | succ i=>simp at e
 refine⟨rfl,rfl,fun i a e=>?_,fun i hi=>?_,fun i a t e1 e2=>?_,fun i es e=>?_,(fun e he=>by cases he),fun i=>⟨AllL.nil,j9 _⟩,hh⟩
 ·obtain⟨rfl,rfl⟩:=one e
  exact⟨by decide,.inl rfl,rfl,fun _=>rfl⟩
 ·have:i<1:=hi
  have:i=0:=by omega
  subst this
  exact⟨by decide,rfl⟩
 ·obtain⟨rfl,rfl⟩:=one e2
  rfl
 ·obtain⟨rfl,rfl⟩:=one e
  exact⟨by simp,fun e he=>by cases he⟩
theorem EI.init:EI (fun _ _ _=>False) (fun x=>x) GN:=by
 refine⟨fun _ _ _ z=>z.elim,fun _ _ _ z=>z.elim,fun i es e x hx=>?_⟩
 cases i with
 | zero =>
  have:es=[]:=by
   have e':some ([]:List rW)=some es:=e
   exact(d6 e').symm
  subst this
  cases hx
 | succ i=>cases e
structure IvG(n:Nat)(rs bk:List (List Nat))(A B:Nat):Prop where
 rt:RT rs n A
 ro:∀ x∈rs,OfN n x∧lay x=x
 bt:RT bk n B
 bo:∀ x∈bk,OfN n x∧lay x=x
 there:bN rs bk=cM n
 back:bN bk rs=cM n
end Lw
namespace L2
open PySem PySem.Spec PyProof.Rows
section
variable {X:Cx}{K:b5}
theorem Aq(hK:X.K=K)(hc:X.calm=true):fC X (.builtin "max") (fun xs H Q=>∃ (a:Addr) (ns:List Int),xs=[.ref a]∧SqL K H a (ns.map V.int)∧0<ns.length∧∀ m:Int,(∀ x∈ns,x≤m)→Q (.int m) H):=by
 subst hK
 intro pins s σ H xs us Q I r h
 obtain⟨a,ns,rfl,hq,hn0,q⟩:=h
 obtain⟨u,rfl,ru⟩:=r.one
 cases ru
 obtain⟨its,rv,pl,_⟩:=I.list hq
 have hl:=pl.isList
 obtain⟨hn,hi⟩:=rE rv
 obtain⟨ps,hps⟩:=AllInts.items (vs:=its.toArray) (fun v hv=>by
  obtain⟨i,hi',rfl⟩:=List.getElem_of_mem (List.mem_toArray.mp hv)
  obtain⟨t,e⟩:=hi i _ (a9 hi')
  exact⟨_,t,e⟩)
 rw[hps] at hl
 have hsz0:ps.size=ns.length:=by
  have:=congrArg Array.size hps
  simp[intItems] at this
  omega
 have hnum:∀ i,i<ns.length→numAt ps i=(ns[i]?).getD 0:=fun i hi'=>by
  obtain⟨v,hv⟩:∃ v,its[i]?=some v:=⟨_,a9 (by omega)⟩
  obtain⟨t,e⟩:=hi i v hv
  have h2:(intItems ps)[i]?=some v:=by rw[← hps];simpa using hv
  obtain⟨t2,e2⟩:=intItems_at h2
  rw[e] at e2
  exact(Value.int.inj e2).1.symm
 refine max_intList (I.ok.hd hc) hl (by omega) fun v h' tk hv hk=>?_
 obtain⟨t,rfl⟩:=intItems_at hv
 refine⟨.int _,H,I.kept (t':=tk) hk,⟨_,rfl⟩,q _ fun x hx=>?_⟩
 obtain⟨j,hj⟩:=l5 hx
 have hjl:j<ns.length:=(a8.mp hj).1
 have:=(argBest_gt (numAt ps) (ps.size - 1)).2 j (by omega)
 rw[hnum j hjl,hj] at this
 exact this
end
end L2
namespace Lw
open PySem PySem.Spec PyProof.Rows L2 Ma MaR
section
variable {n:Nat}(h1:1≤n)(h4:n≤4)
include h1 h4
theorem yH{f fb s sb:List (List Nat)}{A B C D:Nat}(hf:RT f n A∧∀ x∈f,OfN n x)(hfb:RT fb n B∧∀ x∈fb,OfN n x)(hs:RT s n C∧∀ x∈s,OfN n x)(hsb:RT sb n D∧∀ x∈sb,OfN n x)(e1:bN f fb=cM n)(e2:bN s sb=cM n):bN (bN f s) (bN sb fb)=cM n:=by
 rw[lV hf.1 hs.1 (sR hsb.1 hfb.1),← lV hs.1 hsb.1 hfb.1,e2]
 have:bN f (bN (cM n) fb)=bN (bN f (cM n)) fb:=(lV hf.1 (mS h1 h4) hfb.1).symm
 rw[this]
 refine Eq.trans ?_ e1
 unfold bN
 rw[y0]
 refine t7 fun x hx=>?_
 show fK fb (lay (dL (cM n) x))=fK fb x
 rw[rD h1 h4 (hf.2 x hx)]
 exact tH hfb.1 (hf.1.all x hx)
theorem IvG.comp{f fb s sb:List (List Nat)}{A B C D:Nat}(hf:IvG n f fb A B)(hs:RT s n C∧∀ x∈s,OfN n x)(hsb:RT sb n D∧∀ x∈sb,OfN n x)(e1:bN s sb=cM n)(e2:bN sb s=cM n):IvG n (bN f s) (bN sb fb) (A * C) (D * B):=by
 have a:RT f n A∧∀ x∈f,OfN n x:=⟨hf.rt,fun x hx=>(hf.ro x hx).1⟩
 have b:RT fb n B∧∀ x∈fb,OfN n x:=⟨hf.bt,fun x hx=>(hf.bo x hx).1⟩
 refine⟨sR hf.rt hs.1,fun x hx=>⟨sZ h1 h4 hs.2 x hx,fO (nN _ _ x hx)⟩,sR hsb.1 hf.bt,fun x hx=>⟨sZ h1 h4 b.2 x hx,fO (nN _ _ x hx)⟩,yH h1 h4 a b hs hsb hf.there e1,yH h1 h4 hsb hs b a e2 hf.back⟩
theorem IvG.low(A B:Nat)(hA:1≤A)(hB:1≤B):IvG n (cM n) (cM n) A B:=by
 have r:=mS h1 h4
 have o:∀ x∈cM n,OfN n x∧lay x=x:=fun x hx=>by
  refine⟨?_,fO (nR n x hx)⟩
  obtain⟨c,hc,rfl⟩:=j2.mp hx
  intro d hd
  rw[c5.mp hd]
  exact kR h1 h4 hc
 have e:bN (cM n) (cM n)=cM n:=Bu h1 h4 (fun x hx=>(o x hx).1) (nR n)
 exact⟨⟨r.len,r.all,fun x hx=>k8 (r.le x hx) hA⟩,o,⟨r.len,r.all,fun x hx=>k8 (r.le x hx) hB⟩,o,e,e⟩
omit h1 h4 in
theorem IvG.le{f fb:List (List Nat)}{A B C D:Nat}(hf:IvG n f fb A B)(h1:∀ x∈f,x.length≤C)(h2:∀ x∈fb,x.length≤D):IvG n f fb C D:=⟨⟨hf.rt.len,hf.rt.all,h1⟩,hf.ro,⟨hf.bt.len,hf.bt.all,h2⟩,hf.bo,hf.there,hf.back⟩
end
def AI(H:Hp)(a:Addr)(f:List (List Nat)):Prop:=H a=some (.tup (bE f))
def BG:Sp:=fun vs H Q _=>∃ (fl sc:Addr) (n mo:Nat) (st:Int),vs=[.ref fl,.int (n:Nat),.int st,.int (mo:Nat)]∧IsFl H fl sc∧1≤n∧n≤4∧1≤mo∧mo≤8∧0≤st∧st≤100 ∧
 ∀ (p a b:Addr) (f fb:List (List Nat)) (H':Hp),H' p=some (.tup [.ref a,.ref b])→AI H' a f→AI H' b fb→IvG n f fb mo mo→IsFl H' fl sc→Kp fl H H'→Q (.ref p) H'
theorem zB{H H':Hp}{fl sc a:Addr}{f:List (List Nat)}(i:IsFl H fl sc)(k:Kp fl H H')(h:AI H a f):AI H' a f:=wE i k h
theorem Fl{f fb:List (List Nat)}{m:Nat}{ns:List Int}{mx:Int}(hns:ns=(f++fb).map fun x=>((x.length:Nat):Int))(h:∀ x∈ns,x≤mx)(hm:mx≤(m:Nat)):(∀ x∈f,x.length≤m)∧∀ x∈fb,x.length≤m:=by
 have key:∀ x∈f++fb,x.length≤m:=fun x hx=>by
  have:=h ((x.length:Nat):Int) (by rw[hns];exact j2.mpr ⟨x,hx,rfl⟩)
  omega
 exact⟨fun x hx=>key x (l4 _ hx),fun x hx=>key x (i7 _ hx)⟩
inductive Rel(E:Nat→Nat→Nat→Prop):Nat→Nat→Prop where
 | refl (x:Nat):Rel E x x
 | symm {x y:Nat} (h:Rel E x y):Rel E y x
 | trans {x y z:Nat} (h:Rel E x y) (g:Rel E y z):Rel E x z
 | go {p p' c q q':Nat} (h:Rel E p p') (a:E p c q) (b:E p' c q'):Rel E q q'
theorem Rel.mono{E E':Nat→Nat→Nat→Prop}(hm:∀ p c q,E p c q→E' p c q){x y:Nat}(h:Rel E x y):Rel E' x y:=by
 induction h with
 | refl x=>exact .refl x
 | symm _ ih=>exact .symm ih
 | trans _ _ a b=>exact .trans a b
 | go _ a b ih=>exact .go ih (hm _ _ _ a) (hm _ _ _ b)
structure LI(E:Nat→Nat→Nat→Prop)(ρ:Nat→Nat)(Z:WvS):Prop where
 ro:∀ x,Rel E x (ρ x)
 al:∀ x t y,(x,t,y)∈Z.al→Rel E x y
section
variable {E:Nat→Nat→Nat→Prop}{ρ:Nat→Nat}{Z:WvS}
theorem LI.lnk(l:LI E ρ Z){x y:Nat}(h:Lnk ρ Z.al x y):Rel E x y:=by
 induction h with
 | refl x=>exact .refl x
 | symm _ ih=>exact .symm ih
 | trans _ _ a b=>exact .trans a b
 | root x=>exact l.ro x
 | pair h=>exact l.al _ _ _ h
theorem LI.move{Z':WvS}(l:LI E ρ Z)(ha:∀ e∈Z'.al,e∈Z.al):LI E ρ Z':=⟨l.ro,fun x t y h=>l.al x t y (ha _ h)⟩
theorem LI.mono{E':Nat→Nat→Nat→Prop}(l:LI E ρ Z)(hm:∀ p c q,E p c q→E' p c q):LI E' ρ Z:=⟨fun x=>(l.ro x).mono hm,fun x t y h=>(l.al x t y h).mono hm⟩
theorem LI.under{hd ab:Nat}(l:LI E ρ Z){a b:Nat}(hab:Rel E a b)(hra:ρ a=hd)(hrb:ρ b=ab)(t:List Nat):LI E (ρU ρ hd ab) (dE Z hd ab t):=by
 have h1:Rel E hd ab:=by
  have r1:=l.ro a
  have r2:=l.ro b
  rw[hra] at r1
  rw[hrb] at r2
  exact(r1.symm.trans hab).trans r2
 refine⟨fun x=>?_,l.al⟩
 unfold ρU
 split
 ·rename_i q
  have:=l.ro x
  rw[q] at this
  exact this.trans h1
 ·exact l.ro x
theorem LI.underW{hd ab:Nat}{t:List Nat}:∀ {es:List rW} {T:WvS},LI E (ρU ρ hd ab) T→(∀ (i:Nat) (fs:List rW),T.ws[i]?=some fs→∀ e∈fs,∃ p q,E p e.1 q∧Rel E p i∧Rel E q e.2.1)→(∀ e∈es,∃ p q,E p e.1 q∧Rel E p ab∧Rel E q e.2.1)→ab<T.ws.length→LI E (ρU ρ hd ab) (Lw.underW ab t T es)
 | [],T,l,_,_,_=>l
 | e::es,T,l,hof,hme,hl=>by
  obtain⟨ea,hea⟩:∃ ea,T.ws[ab]?=some ea:=⟨_,a9 hl⟩
  have hgd:T.ws.getD ab []=ea:=by rw[c9,hea];rfl
  have key:Lw.underW ab t T (e::es)=Lw.underW ab t (aY T ab e.1 e.2.1 (Ma.lay (back t++e.2.2)) ea) es:=by
   unfold Lw.underW
   rw[aQv,hgd]
  rw[key]
  obtain⟨p,q,a1,a2,a3⟩:=hme e d9
  have lal:LI E (ρU ρ hd ab) (aY T ab e.1 e.2.1 (Ma.lay (back t++e.2.2)) ea):=by
   refine⟨l.ro,fun x u y hm=>?_⟩
   unfold aY at hm
   cases ew:cS ea e.1 with
   | none=>rw[ew] at hm;exact l.al x u y hm
   | some r =>
    obtain⟨g',t'⟩:=r
    rw[ew] at hm
    dsimp only at hm
    split at hm
    ·exact l.al x u y hm
    ·rcases i8.mp hm with z | z
     ·exact l.al x u y z
     ·obtain⟨rfl,rfl,rfl⟩:x=e.2.1∧u=Ma.lay (back (Ma.lay (back t++e.2.2))++t')∧y=g':=by simpa using z
      obtain⟨p',q',b1,b2,b3⟩:=hof ab ea hea (e.1,y,t') (dH ew)
      exact(a3.symm.trans (.go (a2.trans b2.symm) a1 b1)).trans b3
  refine LI.underW lal (fun i fs hi x hx=>?_) (fun x hx=>hme x (d4 _ hx)) ?_
  ·rcases lJ hea hi hx with ⟨es0,u1,u2⟩ | ⟨rfl,rfl⟩
   ·exact hof i es0 u1 x u2
   ·exact⟨p,q,a1,a2,a3⟩
  ·unfold aY
   split
   ·show ab<(T.ws.set ab _).length;rw[j0];exact hl
   ·split <;> exact hl
theorem BT{h φ:Nat→List Nat}{rk:Nat→Nat}{L:Nat}(I:WI h φ ρ rk L Z)(X:EI E ρ Z)(l:LI E ρ Z)(h0:Z.al=[])(hid:∀ x,ρ (ρ x)=ρ x)(x y:Nat):ρ x=ρ y↔Rel E x y:=by
 constructor
 ·intro e
  have:=l.ro y
  rw[← e] at this
  exact(l.ro x).trans this.symm
 ·intro r
  induction r with
  | refl x=>rfl
  | symm _ ih=>exact ih.symm
  | trans _ _ a b=>exact a.trans b
  | go _ a b ih=>exact EI.det I X h0 hid _ _ _ _ _ a b ih
end
def bZ(δ:Nat→Option Nat)(ls:List Nat)(ord:List Nat):List Nat:=ls.foldl (fun o c=>match δ c with | some g=>if g∈o then o else o++[g] | none=>o) ord
def bY(δ:Nat→Nat→Option Nat)(ls:List Nat):Nat→Nat→List Nat→List Nat
 | 0,_,ord=>ord
 | f+1,at',ord=>match ord[at']? with
  | some s=>bY δ ls f (at' + 1) (bZ (δ s) ls ord)
  | none=>ord
def jK(δ:Nat→Nat→Option Nat)(ls:List Nat)(ord:List Nat)(s:Nat):List (Option Nat):=ls.map fun c=>(δ s c).map fun g=>ord.idxOf g
def fU(δ:Nat→Nat→Option Nat)(n s0 N:Nat):List (List (Option Nat)):=let ord:=bY δ (aJ (n:Nat)) N 0 [s0];ord.map (jK δ (dD n) ord)
section
variable {δ δ':Nat→Nat→Option Nat}{f:Nat→Nat}{P:Nat→Prop}
theorem qE(hf:∀ x y,P x→P y→f x=f y→x=y){s:Nat}(hd:∀ c,δ' (f s) c=(δ s c).map f)(hp:∀ c g,δ s c=some g→P g):∀ (ls:List Nat) (ord:List Nat),(∀ x∈ord,P x)→bZ (δ' (f s)) ls (ord.map f)=(bZ (δ s) ls ord).map f∧∀ x∈bZ (δ s) ls ord,P x
 | [],ord,ho=>⟨rfl,ho⟩
 | c::ls,ord,ho=>by
  have ih:=qE hf hd hp ls
  show bZ (δ' (f s)) ls (match δ' (f s) c with | some g=>if g∈ord.map f then ord.map f else ord.map f++[g] | none=>ord.map f)=(bZ (δ s) ls (match δ s c with | some g=>if g∈ord then ord else ord++[g] | none=>ord)).map f∧∀ x∈bZ (δ s) ls (match δ s c with | some g=>if g∈ord then ord else ord++[g] | none=>ord),P x
  rw[hd c]
  cases e:δ s c with
  | none=>exact ih ord ho
  | some g =>
   have hg:=hp c g e
   show bZ (δ' (f s)) ls (if f g∈ord.map f then ord.map f else ord.map f++[f g])=_∧_
   have hiff:f g∈ord.map f↔g∈ord:=by
    constructor
    ·intro h
     obtain⟨x,hx,e⟩:=j2.mp h
     rw[← hf x g (ho x hx) hg e]
     exact hx
    ·exact fun h=>j2.mpr ⟨g,h,rfl⟩
   by_cases q:g∈ord
   ·rw[if_pos (hiff.mpr q)]
    show _=(bZ (δ s) ls (if g∈ord then ord else ord++[g])).map f∧∀ x∈bZ (δ s) ls (if g∈ord then ord else ord++[g]),P x
    rw[if_pos q]
    exact ih ord ho
   ·rw[if_neg (fun z=>q (hiff.mp z))]
    show _=(bZ (δ s) ls (if g∈ord then ord else ord++[g])).map f∧∀ x∈bZ (δ s) ls (if g∈ord then ord else ord++[g]),P x
    rw[if_neg q]
    have:=ih (ord++[g]) (fun x hx=>(i8.mp hx).elim (ho x) fun z=>by rw[c5.mp z];exact hg)
    rw[g9] at this
    exact this
theorem lW(hf:∀ x y,P x→P y→f x=f y→x=y)(hd:∀ s,P s→∀ c,δ' (f s) c=(δ s c).map f)(hp:∀ s,P s→∀ c g,δ s c=some g→P g)(ls:List Nat):∀ (N at':Nat) (ord:List Nat),(∀ x∈ord,P x)→bY δ' ls N at' (ord.map f)=(bY δ ls N at' ord).map f∧∀ x∈bY δ ls N at' ord,P x
 | 0,at',ord,ho=>⟨rfl,ho⟩
 | N+1,at',ord,ho=>by
  unfold bY
  rw[c7]
  cases e:ord[at']? with
  | none=>exact⟨rfl,ho⟩
  | some s =>
   have hs:=ho s (b0 e)
   obtain⟨h1,h2⟩:=qE hf (hd s hs) (hp s hs) ls ord ho
   show bY δ' ls N (at' + 1) (bZ (δ' (f s)) ls (ord.map f))=_∧_
   rw[h1]
   exact lW hf hd hp ls N (at' + 1) _ h2
theorem yY(hf:∀ x y,P x→P y→f x=f y→x=y)(hd:∀ s,P s→∀ c,δ' (f s) c=(δ s c).map f)(hp:∀ s,P s→∀ c g,δ s c=some g→P g){n s0 N:Nat}(h0:P s0):fU δ' n (f s0) N=fU δ n s0 N:=by
 obtain⟨h1,h2⟩:=lW hf hd hp (aJ (n:Nat)) N 0 [s0] (fun x hx=>by rw[c5.mp hx];exact h0)
 unfold fU
 have h1':bY δ' (aJ (n:Nat)) N 0 [f s0]=(bY δ (aJ (n:Nat)) N 0 [s0]).map f:=h1
 dsimp only
 rw[h1',y0]
 refine t7 fun s hs=>?_
 show jK δ' (dD n) _ (f s)=jK δ (dD n) _ s
 unfold jK
 refine t7 fun c hc=>?_
 rw[hd s (h2 s hs) c]
 cases e:δ s c with
 | none=>rfl
 | some g =>
  show some _=some _
  congr 1
  dsimp only
  have hg:=hp s (h2 s hs) c g e
  generalize bY δ (aJ (n:Nat)) N 0 [s0]=ord at h2 hs
  clear hs h1 h1'
  induction ord with
  | nil=>rfl
  | cons x ord ih =>
   rw[i6,aQz,aQz]
   have hx:=h2 x d9
   by_cases q:x=g
   ·subst q;simp
   ·have q2:¬ f x=f g:=fun z=>q (hf x g hx hg z)
    have i1:(f x == f g)=false:=by simpa using q2
    have i2:(x == g)=false:=by simpa using q
    rw[i1,i2]
    simp only [cond_false]
    rw[ih fun y hy=>h2 y (d4 _ hy)]
end
end Lw
namespace L2
open PySem PySem.Spec PyProof.Rows
def IW(w1 w2:TI):TI:=fun σ H R=>w1 σ H R∨w2 σ H R
theorem GG{X:Cx}{tg l:Expr}{w1 w2:TI}(h1:PI X tg l w1)(h2:PI X tg l w2):PI X tg l (IW w1 w2):=fun pins s σ H R I h=>h.elim (h1 pins s σ H R I) (h2 pins s σ H R I)
def IZ(K:b5)(H:Hp)(a:Addr)(xs:List V):Prop:=SqT K H a xs∨SqL K H a xs
theorem Ef{K:b5}{a:Addr}{xs:List V}{j:Nat}{g:TG}{tb:TS}{D:Ends}{σ:St}{H H0:Hp}(Pv:Nat→St→Hp→Prop)(hv:∀ Q:VK,Q (.ref a) H→sQ j σ H Q)(hq:IZ K H0 a xs)(h0:Pv 0 σ H)(hl:∀ i σ H',i≤xs.length→Pv i σ H'→Same H0 H')
  (hs:∀ i x σ H,xs[i]?=some x→Pv i σ H→g x σ H fun σ2 H2=>tb { D with nx:=Pv (i+1),ct:=Pv (i+1),bk:=D.nx } σ2 H2) (hd:∀ σ H,Pv xs.length σ H→D.nx σ H):Gg (IW (Bp K (sQ j)) (Er K (sQ j))) g tb D σ H:=by
 have s0:=hl 0 σ H (j9 _) h0
 rcases hq with hq | hq
 ·exact .inr (hv _ ⟨a,rfl,⟨_,L2.SqT.same s0 hq⟩,yM (K:=K) (a:=a) (xs:=xs) Pv h0 (fun i σ H' hi p=>L2.SqT.same (hl i σ H' hi p) hq) hs hd⟩)
 ·exact .inl (hv _ ⟨a,rfl,⟨_,L2.SqL_same s0 hq⟩,iY (K:=K) (a:=a) (xs:=xs) Pv h0 (fun i σ H' hi p=>L2.SqL_same (hl i σ H' hi p) hq) hs hd⟩)
end L2
namespace Lw
open PySem PySem.Spec PyProof.Rows L2 Ma MaR
def OfE(E:Nat→Nat→Nat→Prop)(Z:WvS):Prop:=∀ (i:Nat) (fs:List rW),Z.ws[i]?=some fs→∀ e∈fs,∃ p q,E p e.1 q∧Rel E p i∧Rel E q e.2.1
theorem EI.ofE{E:Nat→Nat→Nat→Prop}{ρ:Nat→Nat}{Z:WvS}(X:EI E ρ Z)(l:LI E ρ Z):OfE E Z:=fun i fs hi e he=>by
 obtain⟨p,q,a,b,c⟩:=X.of i fs hi e he
 exact⟨p,q,a,l.lnk b,l.lnk c⟩
theorem OfE.mono{E E':Nat→Nat→Nat→Prop}{Z:WvS}(h:OfE E Z)(hm:∀ p c q,E p c q→E' p c q):OfE E' Z:=fun i fs hi e he=>by
 obtain⟨p,q,a,b,c⟩:=h i fs hi e he
 exact⟨p,q,hm _ _ _ a,b.mono hm,c.mono hm⟩
theorem LI.lay'{E:Nat→Nat→Nat→Prop}{ρ:Nat→Nat}{Z:WvS}(l:LI E ρ Z)(hof:OfE E Z){i c g:Nat}{t:List Nat}{es:List rW}(hi:Z.ws[i]?=some es)(hk:E i c g):LI E ρ (aY Z i c g t es):=by
 refine⟨l.ro,fun x u y hm=>?_⟩
 unfold aY at hm
 cases e:cS es c with
 | none=>rw[e] at hm;exact l.al x u y hm
 | some r =>
  obtain⟨g',t'⟩:=r
  rw[e] at hm
  dsimp only at hm
  split at hm
  ·exact l.al x u y hm
  ·rcases i8.mp hm with z | z
   ·exact l.al x u y z
   ·obtain⟨rfl,rfl,rfl⟩:x=g∧u=Ma.lay (back t++t')∧y=g':=by simpa using z
    obtain⟨p',q',b1,b2,b3⟩:=hof i es hi (c,y,t') (dH e)
    exact(Rel.go b2.symm hk b1).trans b3
def dU(N m j:Nat):Nat:=if j=0∨j=m then 0 else N+j - 1
def FlE(N:Nat)(w:List Nat)(i:Nat):Nat→Nat→Nat→Prop:=fun p c q=>∃ j,j<i∧∃ d,w[j]?=some d∧((c=d∧p=dU N w.length j∧q=dU N w.length (j+1))∨(c=aU d∧p=dU N w.length (j+1)∧q=dU N w.length j))
theorem FlE.succ{N i:Nat}{w:List Nat}{d:Nat}(hd:w[i]?=some d){p c q:Nat}:FlE N w (i+1) p c q↔FlE N w i p c q∨(c=d∧p=dU N w.length i∧q=dU N w.length (i+1))∨(c=aU d∧p=dU N w.length (i+1)∧q=dU N w.length i):=by
 constructor
 ·rintro⟨j,hj,e,he,h⟩
  by_cases q:j=i
  ·subst q
   rw[hd] at he
   cases he
   exact .inr h
  ·exact .inl ⟨j,by omega,e,he,h⟩
 ·rintro(⟨j,hj,h⟩ | h)
  ·exact⟨j,by omega,h⟩
  ·exact⟨i,by omega,d,hd,h⟩
def yI(C:Addr):Sp:=fun vs H Q _=>∃ (h φ:Nat→List Nat) (rk:Nat→Nat) (L:Nat) (p:Addr) (M:List Addr) (Z:WvS) (E:Nat→Nat→Nat→Prop) (w t:List Nat),vs=[.ref p,.str (S w),.str (S t)]∧Wat C H p M Z∧WI h φ (fun x=>x) rk L Z∧EI E (fun x=>x) Z∧LI E (fun x=>x) Z∧Gi E∧L≤8000∧φ 0=[]∧0<Z.hs.length∧Z.hs.length+w.length≤900∧Z.al.length+2 * w.length≤9000∧AllL w ∧
 (∀ c,cN c→h (aU c)=back (h c))∧(w≠[]→t=lay (Hw h w))∧(∀ i,i≤w.length→(lay (back (Hw h (w.take i)))).length≤L) ∧
 ∀ (M':List Addr) (H':Hp) (Z':WvS) (φ':Nat→List Nat) (E':Nat→Nat→Nat→Prop),Wat C H' p M' Z'→MU H M M'→FrW M H H'→WI h φ' (fun x=>x) rk L Z'→EI E' (fun x=>x) Z'→LI E' (fun x=>x) Z'→Gi E'→(∀ p c q,E' p c q↔E p c q∨FlE Z.hs.length w w.length p c q)→φ' 0=[]→Fw E' (fun x=>x) 0 w 0→Z'.hs.length=Z.hs.length+(w.length - 1)→Z'.al.length≤Z.al.length+2 * w.length→Q .non H'
def yQ(C:Addr):Sp:=fun vs H Q _=>∃ (h φ:Nat→List Nat) (rk:Nat→Nat) (L:Nat) (p:Addr) (M:List Addr) (Z:WvS) (E:Nat→Nat→Nat→Prop),vs=[.ref p]∧Wat C H p M Z∧WI h φ (fun x=>x) rk L Z∧EI E (fun x=>x) Z∧LI E (fun x=>x) Z∧L≤8000∧Z.hs.length≤900∧Z.al.length≤10000 ∧
 ∀ (ρ rk':Nat→Nat) (H':Hp) (Z':WvS),Wat C H' p M Z'→WI h φ ρ rk' L Z'→EI E ρ Z'→LI E ρ Z'→Z'.al=[]→(∀ x,ρ (ρ x)=ρ x)→Z'.hs.length=Z.hs.length→FrW M H H'→Q .non H'
def fI(ρ:Nat→Nat)(Z:WvS)(s c:Nat):Option Nat:=(cS (Z.ws.getD s []) c).map fun r=>ρ r.1
def eE(ord:List Nat):List (bX×V):=ord.zipIdx.map fun gk=>(.inl (gk.1:Nat),.int (gk.2:Nat))
theorem Aa(ord:List Nat)(g:Nat):eE (ord++[g])=eE ord++[(.inl (g:Nat),.int (ord.length:Nat))]:=by
 unfold eE
 rw[List.zipIdx_append,g9]
 simp
theorem uU(g:Nat):∀ (ord:List Nat) (k:Nat),cY ((ord.zipIdx k).map fun gk=>((.inl (gk.1:Nat):bX),V.int (gk.2:Nat))) (.inl (g:Nat))=if g∈ord then some (.int ((k+ord.idxOf g:Nat))) else none
 | [],k=>by rw[if_neg (by simp)];rfl
 | x::ord,k=>by
  rw[aX0,i6]
  by_cases q:x=g
  ·subst q
   rw[dC rfl,if_pos d9,List.idxOf_cons_self]
   rfl
  ·rw[cU (show ¬ (Sum.inl ((x:Nat):Int):bX)=Sum.inl ((g:Nat):Int) from fun z=>q (by have:=aXI z;omega)),uU g ord (k+1)]
   by_cases q2:g∈ord
   ·have e0:(x == g)=false:=by simpa using q
    have e:(x::ord).idxOf g=ord.idxOf g+1:=by rw[aQz,e0];rfl
    rw[if_pos q2,if_pos (d4 _ q2),e]
    congr 2
    omega
   ·rw[if_neg q2,if_neg (by simp[q2];exact fun z=>q z.symm)]
theorem sH(g:Nat)(ord:List Nat):cY (eE ord) (.inl (g:Nat))=if g∈ord then some (.int (ord.idxOf g:Nat)) else none:=by
 have:=uU g ord 0
 rw[Nat.zero_add] at this
 exact this
theorem tK(ord:List Nat):(eE ord).length=ord.length:=by unfold eE;rw[b7,List.length_zipIdx]
def xX(C:Addr):Sp:=fun vs H Q _=>∃ (h φ:Nat→List Nat) (ρ rk:Nat→Nat) (L:Nat) (n:Nat) (p:Addr) (M:List Addr) (Z:WvS),vs=[.int (n:Nat),.ref p]∧1≤n∧n≤4∧Wat C H p M Z∧WI h φ ρ rk L Z∧L≤8000∧0<Z.hs.length∧Z.hs.length≤900 ∧
 ∀ (t:Addr) (H':Hp) (Z':WvS),Kept C h φ ρ rk L p M H H' Z Z'→H t=none→H' t=some (.dK (eE (bY (fI ρ Z) (aJ (n:Nat)) 1000 0 [ρ 0])))→(bY (fI ρ Z) (aJ (n:Nat)) 1000 0 [ρ 0]).length≤900→(∀ x∈bY (fI ρ Z) (aJ (n:Nat)) 1000 0 [ρ 0],x<Z.hs.length)→Q (.ref t) H'
def Ju(H:Hp)(t:Addr)(ord:List Nat):Prop:=∃ o,H t=some (.frz o (.dK (eE ord)))
def fL:Option Nat→V
 | none=>.non
 | some k=>.int (k:Nat)
def uM(C:Addr):Sp:=fun vs H Q _=>∃ (h φ:Nat→List Nat) (ρ rk:Nat→Nat) (L:Nat) (n:Nat) (p:Addr) (M:List Addr) (Z:WvS) (t:Addr) (s:Nat) (ord:List Nat),vs=[.int (n:Nat),.ref p,.ref t,.int (s:Nat)]∧1≤n∧n≤4∧Wat C H p M Z∧WI h φ ρ rk L Z∧L≤8000∧s<Z.hs.length∧Ju H t ord∧(∀ c∈aJ (n:Nat),∀ g,fI ρ Z s c=some g→g∈ord) ∧
 ∀ (q:Addr) (H':Hp) (Z':WvS),Kept C h φ ρ rk L p M H H' Z Z'→H q=none→H' q=some (.tup ((jK (fI ρ Z) (dD n) ord s).map fL))→Q (.ref q) H'
theorem xH(δ:Nat→Option Nat)(ls:List Nat)(c:Nat)(ord:List Nat):bZ δ (ls++[c]) ord=match δ c with | some g=>if g∈bZ δ ls ord then bZ δ ls ord else bZ δ ls ord++[g] | none=>bZ δ ls ord:=by
 unfold bZ
 rw[aXS]
 rfl
theorem eY(δ:Nat→Option Nat):∀ (ls:List Nat) (ord:List Nat),∃ r,bZ δ ls ord=ord++r
 | [],ord=>⟨[],(o6 _).symm⟩
 | c::ls,ord=>by
  show ∃ r,bZ δ ls (match δ c with | some g=>if g∈ord then ord else ord++[g] | none=>ord)=ord++r
  cases δ c with
  | none=>exact eY δ ls ord
  | some g =>
   dsimp only
   split
   ·exact eY δ ls ord
   ·obtain⟨r,e⟩:=eY δ ls (ord++[g])
    exact⟨[g]++r,by rw[e,l8]⟩
def OrdOk(N:Nat)(ord:List Nat):Prop:=ord.Nodup∧∀ x∈ord,x<N
theorem OrdOk.len{N:Nat}{ord:List Nat}(h:OrdOk N ord):ord.length≤N:=by
 have:=kI (m:=List.range N) h.1 fun x hx=>aQW.mpr (h.2 x hx)
 rwa [y9] at this
theorem OrdOk.snoc{N g:Nat}{ord:List Nat}(h:OrdOk N ord)(hg:g<N)(hn:g ∉ ord):OrdOk N (ord++[g]):=by
 refine⟨?_,fun x hx=>(i8.mp hx).elim (h.2 x) fun z=>by rw[c5.mp z];exact hg⟩
 rw[aQJ]
 exact⟨h.1,by simp,fun a ha b hb z=>hn (by rw[← c5.mp hb,← z];exact ha)⟩
theorem pN(δ:Nat→Nat→Option Nat)(ls:List Nat)(f at':Nat)(ord:List Nat)(h:ord.length≤at'):bY δ ls f at' ord=ord:=by
 cases f with
 | zero=>rfl
 | succ f =>
  unfold bY
  rw[aQD h]
theorem nW(δ:Nat→Nat→Option Nat)(ls:List Nat)(f at':Nat)(ord:List Nat){s:Nat}(h:ord[at']?=some s):bY δ ls (f+1) at' ord=bY δ ls f (at' + 1) (bZ (δ s) ls ord):=by
 show (match ord[at']? with | some s=>bY δ ls f (at' + 1) (bZ (δ s) ls ord) | none=>ord)=_
 rw[h]
theorem Cs{ord:List Nat}{g:Nat}(h:g ∉ ord):cT (eE ord) (.inl (g:Nat)) (.int (ord.length:Nat))=eE (ord++[g]):=by
 rw[uE _ (by rw[sH,if_neg h]),Aa]
theorem uW{C:Addr}{h φ:Nat→List Nat}{ρ rk:Nat→Nat}{L:Nat}{p:Addr}{M:List Addr}{H H1:Hp}{Z Z1:WvS}(a:Kept C h φ ρ rk L p M H H1 Z Z1):fI ρ Z1=fI ρ Z:=by
 funext s c
 unfold fI
 rw[a.ws]
def Hx:Nat→List (List Nat)→Nat
 | N,[]=>N
 | N,w::r=>Hx (N+(w.length - 1)) r
def eN:Nat→List (List Nat)→Nat→Nat→Nat→Prop
 | _,[],_,_,_=>False
 | N,w::r,p,c,q=>FlE N w w.length p c q∨eN (N+(w.length - 1)) r p c q
theorem nQ(w:List Nat){p c q:Nat}:∀ (N:Nat) (rs:List (List Nat)),eN N (rs++[w]) p c q↔eN N rs p c q∨FlE (Hx N rs) w w.length p c q
 | N,[]=>by
  show (FlE N w w.length p c q∨False)↔(False∨FlE N w w.length p c q)
  rw[or_false,false_or]
 | N,x::rs=>by
  show (FlE N x x.length p c q∨eN (N+(x.length - 1)) (rs++[w]) p c q)↔_
  rw[nQ w (N+(x.length - 1)) rs,← or_assoc]
  rfl
theorem uL(w:List Nat):∀ (N:Nat) (rs:List (List Nat)),Hx N (rs++[w])=Hx N rs+(w.length - 1)
 | N,[]=>rfl
 | N,x::rs=>uL w (N+(x.length - 1)) rs
structure Aut(rs:List (List Nat))(ρ:Nat→Nat)(δ:Nat→Nat→Option Nat)(N:Nat):Prop where
 rel:∀ x y,ρ x=ρ y↔Rel (eN 1 rs) x y
 to:∀ p c q,eN 1 rs p c q→δ (ρ p) c=some (ρ q)
 of:∀ s c g,δ s c=some g→∃ p q,eN 1 rs p c q∧ρ p=s∧ρ q=g
theorem Fy{h φ:Nat→List Nat}{ρ rk:Nat→Nat}{L:Nat}{Z:WvS}{E:Nat→Nat→Nat→Prop}{rs:List (List Nat)}(I:WI h φ ρ rk L Z)(X:EI E ρ Z)(l:LI E ρ Z)(h0:Z.al=[])(hid:∀ x,ρ (ρ x)=ρ x)(hE:∀ p c q,E p c q↔eN 1 rs p c q)(N:Nat):Aut rs ρ (fun s c=>if ρ s=s then fI ρ Z s c else none) N:=by
 have m1:∀ p c q,E p c q→eN 1 rs p c q:=fun p c q=>(hE p c q).mp
 have m2:∀ p c q,eN 1 rs p c q→E p c q:=fun p c q=>(hE p c q).mpr
 refine⟨fun x y=>(BT I X l h0 hid x y).trans ⟨fun r=>r.mono m1,fun r=>r.mono m2⟩,fun p c q hf=>?_,fun s c g hs=>?_⟩
 ·obtain⟨es,g,t,b1,b2,b3⟩:=X.on p c q (m2 p c q hf)
  rw[h0] at b3
  rw[if_pos (hid p)]
  unfold fI
  rw[c9,b1]
  show (cS es c).map _=_
  rw[lI (I.wy _ es b1).1 b2,u8,Lnk.nil hid b3]
 ·split at hs
  ·rename_i hss
   unfold fI at hs
   obtain⟨r,hr,rfl⟩:=d8.mp hs
   rw[c9] at hr
   cases e:Z.ws[s]? with
   | none=>rw[e] at hr;cases hr
   | some es =>
    rw[e] at hr
    obtain⟨p,q,a1,a2,a3⟩:=X.of s es e _ (dH hr)
    rw[h0] at a2 a3
    exact⟨p,q,m1 _ _ _ a1,(Lnk.nil hid a2).trans hss,Lnk.nil hid a3⟩
  ·cases hs
theorem qL{δ:Nat→Option Nat}:∀ {ls:List Nat} {ord:List Nat} {c g:Nat},c∈ls→δ c=some g→g∈bZ δ ls ord
 | d::ls,ord,c,g,hc,hg=>by
  show g∈bZ δ ls (match δ d with | some g=>if g∈ord then ord else ord++[g] | none=>ord)
  rcases c6.mp hc with rfl | hc
  ·rw[hg]
   dsimp only
   have:g∈(if g∈ord then ord else ord++[g]):=by
    split
    ·assumption
    ·simp
   obtain⟨r,e⟩:=eY δ ls (if g∈ord then ord else ord++[g])
   rw[e]
   exact l4 _ this
  ·exact qL hc hg
theorem gY{δ:Nat→Nat→Option Nat}{ls:List Nat}:∀ (f at':Nat) (ord:List Nat),(∀ (i s:Nat),i<at'→ord[i]?=some s→∀ c∈ls,∀ g,δ s c=some g→g∈ord)→(bY δ ls f at' ord).length≤at' + f→∀ s∈bY δ ls f at' ord,∀ c∈ls,∀ g,δ s c=some g→g∈bY δ ls f at' ord
 | 0,at',ord,h,hl,s,hs,c,hc,g,hg=>by
  obtain⟨i,hi⟩:=l5 (show s∈ord from hs)
  have hl':ord.length≤at':=hl
  exact h i s (by have:=(a8.mp hi).1;omega) hi c hc g hg
 | f+1,at',ord,h,hl,s,hs,c,hc,g,hg=>by
  cases e:ord[at']? with
  | none =>
   have hge:ord.length≤at':=aXT.mp e
   rw[pN _ _ _ _ _ hge] at hs ⊢
   obtain⟨i,hi⟩:=l5 hs
   exact h i s (by have:=(a8.mp hi).1;omega) hi c hc g hg
  | some s0 =>
   rw[nW _ _ _ _ _ e] at hs hl ⊢
   obtain⟨r,er⟩:=eY (δ s0) ls ord
   refine gY f (at' + 1) _ (fun i x hi hx c' hc' g' hg'=>?_) (by omega) s hs c hc g hg
   have hil:i<ord.length:=by
    have:=(a8.mp e).1
    omega
   rw[er,m9 hil] at hx
   by_cases q:i=at'
   ·subst q
    rw[e] at hx
    cases hx
    exact qL hc' hg'
   ·rw[er]
    exact l4 _ (h i x (by omega) hx c' hc' g' hg')
def IsWebV(H:Hp)(r:Addr)(W:List (List (Option Nat))):Prop:=∃ qs:List Addr,H r=some (.tup (qs.map V.ref))∧qs.length=W.length∧∀ (i:Nat) (q:Addr) (row:List (Option Nat)),qs[i]?=some q→W[i]?=some row→H q=some (.tup (row.map fL))
def CC(K:b5):Sp:=fun vs H Q _=>∃ (n:Nat) (a:Addr) (rs:List (List Nat)),vs=[.int (n:Nat),.ref a]∧1≤n∧n≤4∧IZ K H a (bE rs)∧rs.length≤10∧(∀ x∈rs,AllL x∧x.length≤80) ∧
 ∀ (r:Addr) (H':Hp) (ρ:Nat→Nat) (δ:Nat→Nat→Option Nat),Same H H'→Aut rs ρ δ 0→(∀ x,ρ (ρ x)=ρ x)→IsWebV H' r (fU δ n (ρ 0) 1000)→(fU δ n (ρ 0) 1000).length≤900→Q (.ref r) H'
theorem B6{ρ:Nat→Nat}{Z:WvS}(hid:∀ x,ρ (ρ x)=ρ x){n:Nat}:fU (fI ρ Z) n (ρ 0) 1000=fU (fun s c=>if ρ s=s then fI ρ Z s c else none) n (ρ 0) 1000:=by
 refine yY (δ:=fun s c=>if ρ s=s then fI ρ Z s c else none) (δ':=fI ρ Z) (f:=id) (P:=fun x=>ρ x=x) (fun x y _ _ e=>e) (fun s hs c=>?_) (fun s hs c g e=>?_) (hid 0)
 ·show fI ρ Z s c=Option.map id (if ρ s=s then fI ρ Z s c else none)
  rw[if_pos hs,Option.map_id]
  rfl
 ·rw[if_pos hs] at e
  unfold fI at e
  obtain⟨r,_,rfl⟩:=d8.mp e
  exact hid _
end Lw
namespace PySem
end PySem
namespace L2
open PySem PySem.Spec PyProof.Rows
end L2
namespace PySem
end PySem
namespace L2
open PySem PySem.Spec PyProof.Rows
end L2
namespace Lw
open PySem PySem.Spec PyProof.Rows L2 Ma MaR
def iQ(p c:Nat):List bX:=[.inl (p:Nat),.inr (S [c])]
theorem BK{p c p' c':Nat}(h:iQ p c=iQ p' c'):p=p'∧c=c':=by
 unfold iQ at h
 injection h with h1 h2
 injection h2 with h2 _
 exact⟨by have:=aXI h1;omega,zD h2⟩
def TabW(kvs:List (List bX×V))(g:Nat→Nat→Option Nat):Prop:=∀ p c,cY kvs (iQ p c)=(g p c).map fun (q:Nat)=>V.int q
theorem TabW.nil:TabW [] fun _ _=>none:=fun _ _=>rfl
theorem TabW.put{kvs:List (List bX×V)}{g:Nat→Nat→Option Nat}(h:TabW kvs g)(p c q:Nat):TabW (cT kvs (iQ p c) (.int (q:Nat))) fun p' c'=>if p'=p∧c'=c then some q else g p' c':=fun p' c'=>by
 show _=((if p'=p∧c'=c then some q else g p' c').map fun (q:Nat)=>V.int q)
 rw[tM]
 by_cases z:p'=p∧c'=c
 ·obtain⟨rfl,rfl⟩:=z
  rw[if_pos rfl,if_pos ⟨rfl,rfl⟩]
  rfl
 ·rw[if_neg (fun e=>z (BK e)),if_neg z]
  exact h p' c'
end Lw
namespace L2
open PySem PySem.Spec PyProof.Rows
end L2
namespace Lw
open PySem PySem.Spec PyProof.Rows L2 Ma MaR
theorem lQ{g:Nat}:∀ {l:List Nat},g∈l→l[l.idxOf g]?=some g∧∀ m,m<l.idxOf g→l[m]?≠some g
 | x::l,h=>by
  rw[aQz]
  by_cases z:x=g
  ·have:(x == g)=true:=by simpa using z
   rw[this]
   simp[z]
  ·have e:(x == g)=false:=by simpa using z
   rw[e]
   simp only [cond_false]
   have hg:g∈l:=(c6.mp h).elim (fun e=>absurd e.symm z) id
   obtain⟨a,b⟩:=lQ hg
   refine⟨by rw[aX7];exact a,fun m hm=>?_⟩
   cases m with
   | zero=>rw[List.getElem?_cons_zero];exact fun e=>z (d6 e)
   | succ m=>rw[aX7];exact b m (by omega)
theorem uD:∀ {rs:List (List Nat)} {N:Nat},1≤N→∀ {p c q:Nat},eN N rs p c q→(p=0∨N≤p)∧(q=0∨N≤q)
 | [],N,hN,p,c,q,h=>h.elim
 | w::r,N,hN,p,c,q,h=>by
  rcases h with h | h
  ·obtain⟨j,hj,d,hd,⟨rfl,rfl,rfl⟩ | ⟨rfl,rfl,rfl⟩⟩:=h
   ·unfold dU;constructor <;> split <;> omega
   ·unfold dU;constructor <;> split <;> omega
  ·have:=uD (rs:=r) (by omega) h
   omega
theorem dR{b:Bool}{A B:Prop}(e:b=false)(h:B):if b=true then A else B:=by rw[e];exact eR h
theorem mJ{b:Bool}{A B:Prop}(e:b=true)(h:A):if b=true then A else B:=by rw[e];exact jJ h
def IU(rs:List (List Nat))(w:List Nat):Prop:=∃ us:List (List Nat),(∀ u∈us,∃ v∈rs,u=v∨u=back v)∧w=lay us.flatten
def AU:Sp:=fun vs H Q _=>∃ (fl sc a:Addr) (rs:List (List Nat)) (n m M:Nat),vs=[.ref fl,.ref a,.int (m:Nat)]∧IsFl H fl sc∧H a=some (.lst (bE rs))∧a≠fl∧1≤n∧n≤4∧rs.length≤100∧(∀ x∈rs,OfN n x∧x.length≤M)∧m≤5∧M≤100 ∧
 ∀ (w:List Nat) (H':Hp),OfN n w→bF w→w.length≤m * M→IU rs w→IsFl H' fl sc→Kp fl H H'→Q (.str (S w)) H'
structure SmW(n most lt:Nat)(rs:List (List Nat)):Prop where
 len:rs.length≤most
 sum:(rs.map List.length).sum≤lt
 ofn:∀ x∈rs,OfN n x∧bF x
def yD:Sp:=fun vs H Q _=>∃ (fl sc:Addr) (n most lt:Nat),vs=[.ref fl,.int (n:Nat),.int (most:Nat),.int (lt:Nat)]∧IsFl H fl sc∧1≤n∧n≤4 ∧
 ∀ (l:Addr) (rs:List (List Nat)) (H':Hp),H l=none→H' l=some (.lst (bE rs))→SmW n most lt rs→IsFl H' fl sc→Kp fl H H'→Q (.ref l) H'
theorem SmW.one{n most lt:Nat}{rs:List (List Nat)}(h:SmW n most lt rs){x:List Nat}(hx:x∈rs):x.length≤lt:=by
 have key:∀ {zs:List (List Nat)} {z:List Nat},z∈zs→z.length≤(zs.map List.length).sum:=fun {zs z} hz=>by
  induction zs with
  | nil=>cases hz
  | cons y zs ih =>
   rw[i6,aXP]
   rcases c6.mp hz with rfl | hz
   ·omega
   ·have:=ih hz;omega
 have:=key hx
 have:=h.sum
 omega
theorem qP:∀ (rs:List (List Nat)) (i:Nat),(bE rs).eraseIdx i=bE (rs.eraseIdx i)
 | [],_=>rfl
 | _::_,0=>rfl
 | c::w,i+1=>by
  show V.str (S c)::(bE w).eraseIdx i=V.str (S c)::bE (w.eraseIdx i)
  rw[qP w i]
theorem rQ{rs:List (List Nat)}{M:Nat}(h:∀ x∈rs,x.length≤M):∀ {us:List (List Nat)},(∀ u∈us,∃ v∈rs,u=v∨u=back v)→us.flatten.length≤us.length * M
 | [],_=>j9 _
 | u::us,hu=>by
  have h1:=rQ h (us:=us) fun x hx=>hu x (d4 _ hx)
  obtain⟨v,hv,e⟩:=hu u d9
  have h2:u.length≤M:=by
   have:=h v hv
   rcases e with rfl | rfl
   ·exact this
   ·rw[bW];exact this
  rw[aQV,b8,j1,aJF]
  omega
theorem Dk{n:Int}{rs:List (List Nat)}(h1:1≤n)(h4:n≤4)(h:∀ x∈rs,OfN n x){us:List (List Nat)}(hu:∀ u∈us,∃ v∈rs,u=v∨u=back v):OfN n us.flatten:=fun c hc=>by
 obtain⟨u,hm,hc⟩:=List.mem_flatten.mp hc
 obtain⟨v,hv,e⟩:=hu u hm
 rcases e with rfl | rfl
 ·exact h _ hv c hc
 ·exact(h v hv).back h1 h4 c hc
theorem jD(rs:List (List Nat))(x:List Nat):bE rs++[.str (S x)]=bE (rs++[x]):=by unfold bE;rw[g9];rfl
theorem oX:∀ fs:List (List Nat),(fs.map fun x=>((x.length:Nat):Int)).sum=(((fs.map List.length).sum:Nat):Int)
 | []=>rfl
 | x::fs=>by
  rw[i6,aXP,oX fs,i6,aXP]
  omega
theorem IsWebV.same{H H':Hp}{r:Addr}{W:List (List (Option Nat))}(h:IsWebV H r W)(s:Same H H'):IsWebV H' r W:=by
 obtain⟨qs,a,b,c⟩:=h
 exact⟨qs,s _ _ a,b,fun i q row h1 h2=>s _ _ (c i q row h1 h2)⟩
theorem IsWebV.kp{H H':Hp}{fl sc r:Addr}{W:List (List (Option Nat))}(h:IsWebV H r W)(f:IsFl H fl sc)(k:Kp fl H H'):IsWebV H' r W:=by
 obtain⟨qs,a,b,c⟩:=h
 exact⟨qs,wE f k a,b,fun i q row h1 h2=>wE f k (c i q row h1 h2)⟩
def dJ(g:Nat→Nat→Option Nat):Nat→List Nat→Option Nat
 | p,[]=>some p
 | p,c::w=>(g p c).bind fun q=>dJ g q w
theorem gC(g:Nat→Nat→Option Nat):∀ (u v:List Nat) (p:Nat),dJ g p (u++v)=(dJ g p u).bind fun q=>dJ g q v
 | [],v,p=>rfl
 | c::u,v,p=>by
  show (g p c).bind (fun q=>dJ g q (u++v))=((g p c).bind fun q=>dJ g q u).bind _
  cases e:g p c with
  | none=>rfl
  | some q=>exact gC g u v q
theorem yT(g:Nat→Nat→Option Nat)(p c:Nat):dJ g p [c]=g p c:=by
 show (g p c).bind (fun q=>some q)=_
 cases g p c <;> rfl
theorem fB(g:Nat→Nat→Option Nat)(u:List Nat)(c p:Nat):dJ g p (u++[c])=(dJ g p u).bind fun q=>g q c:=by
 rw[gC]
 congr 1
 funext q
 exact yT g q c
def SymG(g:Nat→Nat→Option Nat):Prop:=∀ p c q,cN c→g p c=some q→g q (aU c)=some p
theorem SymG.back{g:Nat→Nat→Option Nat}(h:SymG g):∀ {w:List Nat} {p q:Nat},AllL w→dJ g p w=some q→dJ g q (Ma.back w)=some p
 | [],p,q,_,e=>by
  have:p=q:=d6 e
  rw[this];rfl
 | c::w,p,q,hw,e=>by
  have e':(g p c).bind (fun q=>dJ g q w)=some q:=e
  obtain⟨m,h1,h2⟩:=o9.mp e'
  obtain⟨hc,hw'⟩:=AllL.cons.mp hw
  have e1:Ma.back (c::w)=Ma.back w++[aU c]:=by unfold Ma.back;simp
  rw[e1,fB,h.back hw' h2]
  exact h p c m hc h1
theorem SymG.act{g:Nat→Nat→Option Nat}(h:SymG g):∀ {w k:List Nat} {p m q:Nat},AllL w→AllL k→dJ g p k.reverse=some m→dJ g m w=some q→dJ g p (Ma.act k w).reverse=some q
 | [],k,p,m,q,_,_,e1,e2=>by
  have:m=q:=d6 e2
  rw[← this];exact e1
 | c::w,k,p,m,q,hw,hk,e1,e2=>by
  have e':(g m c).bind (fun q=>dJ g q w)=some q:=e2
  obtain⟨m',h1,h2⟩:=o9.mp e'
  obtain⟨hc,hw'⟩:=AllL.cons.mp hw
  rw[iM]
  refine h.act hw' (uF hk hc) ?_ h2
  have fresh:dJ g p (c::k).reverse=some m':=by
   rw[o8,fB,e1]
   exact h1
  cases k with
  | nil=>exact fresh
  | cons x r =>
   unfold push
   dsimp only
   split
   ·rename_i hx
    rw[o8,fB] at e1
    obtain⟨m0,a1,a2⟩:=o9.mp e1
    have a2':g m0 x=some m:=a2
    have:=h m0 x m (AllL.cons.mp hk).1 a2'
    rw[hx,bK hc,h1] at this
    rw[a1,← d6 this]
   ·exact fresh
theorem SymG.lay{g:Nat→Nat→Option Nat}(h:SymG g){w:List Nat}{p q:Nat}(hw:AllL w)(e:dJ g p w=some q):dJ g p (Ma.lay w)=some q:=h.act hw AllL.nil rfl e
structure WebOk(n:Nat)(W:List (List (Option Nat)))(g:Nat→Nat→Option Nat):Prop where
 len:∀ row∈W,row.length=n
 few:W.length≤900
 pos:0<W.length
 lo:∀ (p i:Nat) (row:List (Option Nat)) (o:Option Nat),W[p]?=some row→row[i]?=some o→g p (97+i)=o
 sy:SymG g
 bd:∀ p c q,g p c=some q→p<W.length∧q<W.length∧c∈aJ (n:Nat)
theorem C5{N:Nat}{w:List Nat}(hw:AllL w){p c q:Nat}(h:FlE N w w.length p c q):FlE N w w.length q (aU c) p:=by
 obtain⟨j,hj,d,hd,⟨rfl,h1,h2⟩ | ⟨rfl,h1,h2⟩⟩:=h
 ·exact⟨j,hj,c,hd,.inr ⟨rfl,h2,h1⟩⟩
 ·exact⟨j,hj,d,hd,.inl ⟨bK (hw _ (b0 hd)),h2,h1⟩⟩
theorem lE:∀ {rs:List (List Nat)} {N:Nat},(∀ x∈rs,AllL x)→∀ {p c q:Nat},eN N rs p c q→eN N rs q (aU c) p
 | [],N,_,p,c,q,h=>h.elim
 | w::r,N,ha,p,c,q,h=>by
  rcases h with h | h
  ·exact .inl (C5 (ha w d9) h)
  ·exact .inr (lE (fun x hx=>ha x (d4 _ hx)) h)
theorem oT:∀ {rs:List (List Nat)} {N:Nat} {x:List Nat},x∈rs→∃ M,∀ {p c q:Nat},FlE M x x.length p c q→eN N rs p c q
 | w::r,N,x,h=>by
  rcases c6.mp h with rfl | h
  ·exact⟨N,fun h=>.inl h⟩
  ·obtain⟨M,hM⟩:=oT (N:=N+(w.length - 1)) h
   exact⟨M,fun h=>.inr (hM h)⟩
theorem qK{n:Int}(h1:1≤n)(h4:n≤4):∀ {rs:List (List Nat)} {N:Nat},(∀ x∈rs,OfN n x)→∀ {p c q:Nat},eN N rs p c q→c∈aJ n
 | [],N,_,p,c,q,h=>h.elim
 | w::r,N,ha,p,c,q,h=>by
  rcases h with ⟨j,hj,d,hd,⟨rfl,_⟩ | ⟨rfl,_⟩⟩ | h
  ·exact ha w d9 _ (b0 hd)
  ·exact dF h1 h4 (ha w d9 _ (b0 hd))
  ·exact qK h1 h4 (fun x hx=>ha x (d4 _ hx)) h
theorem kK(δ:Nat→Option Nat):∀ (ls ord:List Nat),ord.Nodup→(bZ δ ls ord).Nodup
 | [],ord,h=>h
 | c::ls,ord,h=>by
  show (bZ δ ls (match δ c with | some g=>if g∈ord then ord else ord++[g] | none=>ord)).Nodup
  cases δ c with
  | none=>exact kK δ ls ord h
  | some g =>
   dsimp only
   split
   ·exact kK δ ls ord h
   ·rename_i hg
    refine kK δ ls _ ?_
    rw[aQJ]
    exact⟨h,by simp,fun a ha b hb z=>hg (by rw[← c5.mp hb,← z];exact ha)⟩
theorem tY(δ:Nat→Nat→Option Nat)(ls:List Nat):∀ (f a:Nat) (ord:List Nat),ord.Nodup→(bY δ ls f a ord).Nodup
 | 0,_,ord,h=>h
 | f+1,a,ord,h=>by
  unfold bY
  cases ord[a]? with
  | none=>exact h
  | some s=>exact tY δ ls f (a+1) _ (kK _ ls ord h)
theorem pM(δ:Nat→Nat→Option Nat)(ls:List Nat):∀ (f a:Nat) (ord:List Nat),∃ r,bY δ ls f a ord=ord++r
 | 0,_,ord=>⟨[],(o6 _).symm⟩
 | f+1,a,ord=>by
  unfold bY
  cases ord[a]? with
  | none=>exact⟨[],(o6 _).symm⟩
  | some s =>
   obtain⟨r,e⟩:=eY (δ s) ls ord
   obtain⟨r',e'⟩:=pM δ ls f (a+1) (bZ (δ s) ls ord)
   exact⟨r++r',by show bY δ ls f (a+1) (bZ (δ s) ls ord)=_;rw[e',e,l8]⟩
theorem xF{l:List Nat}(h:l.Nodup){i s:Nat}(e:l[i]?=some s):l.idxOf s=i:=by
 have hm:=b0 e
 obtain⟨a,b⟩:=lQ hm
 by_cases q:i<l.idxOf s
 ·exact absurd e (b i q)
 ·by_cases q2:l.idxOf s=i
  ·exact q2
  ·exfalso
   obtain⟨h1,e1⟩:=a8.mp a
   obtain⟨h2,e2⟩:=a8.mp e
   exact q2 ((aQl h).mp (e1.trans e2.symm))
theorem C2{n i:Nat}(h4:n≤4)(hi:i<n):(dD n)[i]?=some (97+i):=by
 unfold dD
 rw[aQa hi]
 have:i=0∨i=1∨i=2∨i=3:=by omega
 rcases this with rfl | rfl | rfl | rfl <;> rfl
theorem wH{rs:List (List Nat)}{ρ:Nat→Nat}{δ:Nat→Nat→Option Nat}{n:Nat}(n1:1≤n)(n4:n≤4)(a:Aut rs ρ δ 0)(ho:∀ x∈rs,OfN n x)(hl:(fU δ n (ρ 0) 1000).length≤900):∃ g,WebOk n (fU δ n (ρ 0) 1000) g∧(∀ x∈rs,dJ g 0 x=some 0)∧(∀ x,dJ g 0 x=some 0↔dJ δ (ρ 0) x=some (ρ 0))∧∀ p,p<(fU δ n (ρ 0) 1000).length→∃ w,dJ g 0 w=some p:=by
 have ha:∀ x∈rs,AllL x:=fun x hx=>(ho x hx).all
 have sy:∀ s c t,δ s c=some t→δ t (aU c)=some s:=fun s c t h=>by
  obtain⟨p,q,e1,e2,e3⟩:=a.of s c t h
  have:=a.to _ _ _ (lE ha e1)
  rw[e2,e3] at this
  exact this
 have lt:∀ s c t,δ s c=some t→c∈aJ (n:Nat):=fun s c t h=>by
  obtain⟨p,q,e1,e2,e3⟩:=a.of s c t h
  exact qK (by omega) (by omega) ho e1
 unfold fU at hl ⊢
 dsimp only at hl ⊢
 rw[b7] at hl
 have hcl:=gY (δ:=δ) (ls:=aJ (n:Nat)) 1000 0 [ρ 0] (fun i s hi=>absurd hi (u5 _)) (by omega)
 have hnd:=tY δ (aJ (n:Nat)) 1000 0 [ρ 0] (by simp)
 obtain⟨r,hr⟩:=pM δ (aJ (n:Nat)) 1000 0 [ρ 0]
 have hrc:=(lW (δ:=δ) (δ':=δ) (f:=fun x=>x) (P:=fun s=>∃ w,dJ δ (ρ 0) w=some s) (fun _ _ _ _ e=>e) (fun s _ c=>by simp) (fun s ⟨w,hw⟩ c t e=>⟨w++[c],by rw[fB,hw];exact e⟩) (aJ (n:Nat)) 1000 0 [ρ 0] (fun x hx=>by rw[c5.mp hx];exact⟨[],rfl⟩)).2
 generalize bY δ (aJ (n:Nat)) 1000 0 [ρ 0]=ord at hl hcl hnd hr hrc
 have h0:ord[0]?=some (ρ 0):=by rw[hr];rfl
 have i0:ord.idxOf (ρ 0)=0:=xF hnd h0
 have key:∀ (w:List Nat) (s:Nat),s∈ord→dJ (fun p c=>(ord[p]?).bind fun s=>(δ s c).map fun t=>ord.idxOf t) (ord.idxOf s) w=(dJ δ s w).map fun t=>ord.idxOf t:=fun w=>by
  induction w with
  | nil=>exact fun s hs=>rfl
  | cons c w ih =>
   intro s hs
   show ((ord[ord.idxOf s]?).bind fun s=>(δ s c).map fun t=>ord.idxOf t).bind _=((δ s c).bind fun q=>dJ δ q w).map _
   rw[(lQ hs).1]
   show ((δ s c).map fun t=>ord.idxOf t).bind _=_
   cases e:δ s c with
   | none=>rfl
   | some t=>exact ih t (hcl s hs c (lt s c t e) t e)
 refine⟨fun p c=>(ord[p]?).bind fun s=>(δ s c).map fun t=>ord.idxOf t,⟨fun row hr=>?_,?_,?_,fun p i row o h1 h2=>?_,fun p c q hc e=>?_,fun p c q e=>?_⟩,fun x hx=>?_,fun x=>?_,fun p hp=>?_⟩
 ·obtain⟨s,_,rfl⟩:=j2.mp hr
  unfold jK
  rw[b7,iG n4]
 ·rw[b7];exact hl
 ·rw[b7];exact(a8.mp h0).1
 ·rw[c7] at h1
  obtain⟨s,hs,rfl⟩:=d8.mp h1
  unfold jK at h2
  rw[c7] at h2
  obtain⟨c,hc,rfl⟩:=d8.mp h2
  have hi:i<n:=by have:=(a8.mp hc).1;rw[iG n4] at this;exact this
  rw[C2 n4 hi] at hc
  cases hc
  rw[hs]
  rfl
 ·obtain⟨s,hs,e⟩:=o9.mp e
  obtain⟨t,ht,rfl⟩:=d8.mp e
  have hm:=hcl s (b0 hs) c (lt s c t ht) t ht
  rw[(lQ hm).1]
  show (δ t (aU c)).map (fun t=>ord.idxOf t)=some p
  rw[sy s c t ht,u8,xF hnd hs]
 ·obtain⟨s,hs,e⟩:=o9.mp e
  obtain⟨t,ht,rfl⟩:=d8.mp e
  have hm:=hcl s (b0 hs) c (lt s c t ht) t ht
  rw[b7]
  exact⟨(a8.mp hs).1,(a8.mp (lQ hm).1).1,lt s c t ht⟩
 ·have pd:dJ δ (ρ 0) x=some (ρ 0):=by
   obtain⟨M,hM⟩:=oT (N:=1) hx
   have key:∀ k j,j+k=x.length→dJ δ (ρ (dU M x.length j)) (x.drop j)=some (ρ (dU M x.length x.length)):=fun k=>by
    induction k with
    | zero =>
     intro j hj
     have:j=x.length:=by omega
     subst this
     rw[aZ1]
     rfl
    | succ k ih =>
     intro j hj
     have hjl:j<x.length:=by omega
     rw[u7 hjl]
     have e:=a.to _ _ _ (hM ⟨j,hjl,x[j],a9 hjl,.inl ⟨rfl,rfl,rfl⟩⟩)
     show (δ (ρ (dU M x.length j)) x[j]).bind (fun q=>dJ δ q (x.drop (j+1)))=_
     rw[e]
     exact ih (j+1) (by omega)
   have:=key x.length 0 (by omega)
   have z1:dU M x.length 0=0:=by unfold dU;rw[if_pos (.inl rfl)]
   have z2:dU M x.length x.length=0:=by unfold dU;rw[if_pos (.inr rfl)]
   rw[z1,z2,aXi] at this
   exact this
  have:=key x (ρ 0) (b0 h0)
  rw[i0,pd,u8,i0] at this
  exact this
 ·have:=key x (ρ 0) (b0 h0)
  rw[i0] at this
  rw[this]
  constructor
  ·intro e
   obtain⟨t,ht,e⟩:=d8.mp e
   have hm:∀ (w:List Nat) (s t:Nat),s∈ord→dJ δ s w=some t→t∈ord:=fun w=>by
    induction w with
    | nil=>exact fun s t hs e=>by rw[← d6 e];exact hs
    | cons c w ih =>
     intro s t hs e
     obtain⟨m,h1,h2⟩:=o9.mp (show (δ s c).bind (fun q=>dJ δ q w)=some t from e)
     exact ih m t (hcl s hs c (lt s c m h1) m h1) h2
   have:=(lQ (hm x _ t (b0 h0) ht)).1
   rw[e,h0] at this
   rw[ht,← d6 this]
  ·intro e
   rw[e,u8,i0]
 ·rw[b7] at hp
  obtain⟨w,hw⟩:=hrc ord[p] (aQM hp)
  have:=key w (ρ 0) (b0 h0)
  rw[i0,hw,u8,xF hnd (a9 hp)] at this
  exact⟨w,this⟩
def G_(g g':Nat→Nat→Option Nat):Prop:=∀ p c q,g p c=some q→g' p c=some q
theorem lG{n c:Nat}(h1:1≤n)(h4:n≤4)(h:c∈aJ (n:Nat))(hl:bO c=true):∃ j,j<n∧c=97+j:=by
 rcases CH h1 h4 with rfl | rfl | rfl | rfl <;> rcases aW (aV h) with rfl | rfl | rfl | rfl | rfl | rfl | rfl | rfl <;> revert h hl <;> decide
theorem jB{c:Nat}(h:cN c):bO (aU c)=!bO c:=by
 rcases aW h with rfl | rfl | rfl | rfl | rfl | rfl | rfl | rfl <;> decide
def zH:Sp:=fun vs H Q _=>∃ (r:Addr) (n:Nat) (W:List (List (Option Nat))) (g:Nat→Nat→Option Nat),vs=[.ref r]∧1≤n∧n≤4∧IsWebV H r W∧WebOk n W g ∧
 ∀ (d:Addr) (kvs:List (List bX×V)) (H':Hp),H d=none→H' d=some (.dT kvs)→TabW kvs g→Same H H'→Q (.ref d) H'
def yJ:Sp:=fun vs H Q _=>∃ (r:Addr) (n:Nat) (W:List (List (Option Nat))) (g:Nat→Nat→Option Nat) (w:List Nat),vs=[.ref r,.str (S w)]∧1≤n∧n≤4∧IsWebV H r W∧WebOk n W g∧OfN n w∧w.length≤900 ∧
 ∀ (H':Hp),Same H H'→Q (.bl (decide (dJ g 0 w=some 0))) H'
theorem BC{g:Nat→Nat→Option Nat}{s t:Nat}{w:List Nat}(h:dJ g s w=some t)(j:Nat):∃ u,dJ g s (w.take j)=some u:=by
 rw[← aQ0 j w,gC] at h
 obtain⟨u,hu,_⟩:=o9.mp h
 exact⟨u,hu⟩
def sW(g:Nat→Nat→Option Nat)(s0:Nat):Nat→List (List Nat)→Nat→Nat
 | _,[],_=>s0
 | N,w::r,x=>if x<N+(w.length - 1) then (if N≤x then (dJ g s0 (w.take (x - N+1))).getD s0 else s0) else sW g s0 (N+(w.length - 1)) r x
section
variable {g:Nat→Nat→Option Nat}{s0:Nat}
theorem kQ:∀ (rs:List (List Nat)) (N:Nat),1≤N→sW g s0 N rs 0=s0
 | [],_,_=>rfl
 | w::r,N,hN=>by
  unfold sW
  rw[if_pos (by omega),if_neg (by omega)]
theorem yU{w:List Nat}{r:List (List Nat)}{N:Nat}(hN:1≤N)(hw:dJ g s0 w=some s0){j:Nat}(hj:j≤w.length):dJ g s0 (w.take j)=some (sW g s0 N (w::r) (dU N w.length j)):=by
 unfold dU
 by_cases q:j=0∨j=w.length
 ·rw[if_pos q,kQ _ _ hN]
  rcases q with rfl | rfl
  ·rfl
  ·rw[k0];exact hw
 ·rw[if_neg q]
  unfold sW
  rw[if_pos (by omega),if_pos (by omega),show N+j - 1 - N+1=j by omega]
  obtain⟨u,hu⟩:=BC hw j
  rw[hu]
  rfl
theorem rM(sy:SymG g):∀ {rs:List (List Nat)} {N:Nat},1≤N→(∀ x∈rs,AllL x∧dJ g s0 x=some s0)→∀ {p c q:Nat},eN N rs p c q→g (sW g s0 N rs p) c=some (sW g s0 N rs q)
 | [],_,_,_,_,_,_,h=>h.elim
 | w::r,N,hN,hr,p,c,q,h=>by
  obtain⟨hwA,hw⟩:=hr w d9
  rcases h with h | h
  ·obtain⟨j,hj,d,hd,h⟩:=h
   have e1:=yU (r:=r) hN hw (j:=j) (by omega)
   have e2:=yU (r:=r) hN hw (j:=j+1) (by omega)
   have st:g (sW g s0 N (w::r) (dU N w.length j)) d=some (sW g s0 N (w::r) (dU N w.length (j+1))):=by
    rw[bM hd,fB,e1] at e2
    exact e2
   rcases h with ⟨rfl,rfl,rfl⟩ | ⟨rfl,rfl,rfl⟩
   ·exact st
   ·exact sy _ _ _ (hwA d (b0 hd)) st
  ·have ih:=rM sy (rs:=r) (N:=N+(w.length - 1)) (by omega) (fun x hx=>hr x (d4 _ hx)) h
   obtain⟨a,b⟩:=uD (by omega) h
   have on:∀ y,(y=0∨N+(w.length - 1)≤y)→sW g s0 N (w::r) y=sW g s0 (N+(w.length - 1)) r y:=fun y hy=>by
    rcases hy with rfl | hy
    ·rw[kQ _ _ hN,kQ _ _ (by omega)]
    ·show (if y<N+(w.length - 1) then _ else sW g s0 (N+(w.length - 1)) r y)=_
     rw[if_neg (by omega)]
   rw[on p a,on q b]
   exact ih
theorem rR(sy:SymG g){rs:List (List Nat)}(hr:∀ x∈rs,AllL x∧dJ g s0 x=some s0){x y:Nat}(h:Rel (eN 1 rs) x y):sW g s0 1 rs x=sW g s0 1 rs y:=by
 induction h with
 | refl x=>rfl
 | symm _ ih=>exact ih.symm
 | trans _ _ a b=>exact a.trans b
 | go _ a b ih =>
  have e1:=rM (s0:=s0) sy (b9 1) hr a
  have e2:=rM (s0:=s0) sy (b9 1) hr b
  rw[ih,e2] at e1
  exact(d6 e1).symm
open Classical in
theorem BA{rs:List (List Nat)}{ρ:Nat→Nat}{δ:Nat→Nat→Option Nat}(a:Aut rs ρ δ 0)(sy:SymG g)(hr:∀ x∈rs,AllL x∧dJ g s0 x=some s0):∃ F:Nat→Nat,F (ρ 0)=s0∧∀ s c t,δ s c=some t→g (F s) c=some (F t):=by
 refine⟨fun s=>if h:∃ p,ρ p=s then sW g s0 1 rs (Classical.choose h) else s0,?_,fun s c t h=>?_⟩
 ·have h0:∃ p,ρ p=ρ 0:=⟨0,rfl⟩
  show (if h:∃ p,ρ p=ρ 0 then sW g s0 1 rs (Classical.choose h) else s0)=s0
  rw[dif_pos h0,rR sy hr ((a.rel _ _).mp (aQr h0)),kQ _ _ (b9 1)]
 ·obtain⟨p,q,e,rfl,rfl⟩:=a.of s c t h
  have hp:∃ p',ρ p'=ρ p:=⟨p,rfl⟩
  have hq:∃ p',ρ p'=ρ q:=⟨q,rfl⟩
  show g (if h:∃ p',ρ p'=ρ p then sW g s0 1 rs (Classical.choose h) else s0) c=some (if h:∃ p',ρ p'=ρ q then sW g s0 1 rs (Classical.choose h) else s0)
  rw[dif_pos hp,dif_pos hq,rR sy hr ((a.rel _ _).mp (aQr hp)),rR sy hr ((a.rel _ _).mp (aQr hq))]
  exact rM sy (b9 1) hr e
end
theorem kY{rs:List (List Nat)}{ρ:Nat→Nat}{δ:Nat→Nat→Option Nat}(a:Aut rs ρ δ 0)(ha:∀ x∈rs,AllL x):SymG δ:=fun s c t _ h=>by
 obtain⟨p,q,e1,e2,e3⟩:=a.of s c t h
 have:=a.to _ _ _ (lE ha e1)
 rw[e2,e3] at this
 exact this
theorem vQ{g g':Nat→Nat→Option Nat}{F:Nat→Nat}(hF:∀ s c t,g s c=some t→g' (F s) c=some (F t)):∀ {w:List Nat} {s t:Nat},dJ g s w=some t→dJ g' (F s) w=some (F t)
 | [],s,t,h=>by rw[d6 h];rfl
 | c::w,s,t,h=>by
  obtain⟨m,h1,h2⟩:=o9.mp (show (g s c).bind (fun q=>dJ g q w)=some t from h)
  show (g' (F s) c).bind (fun q=>dJ g' q w)=some (F t)
  rw[hF s c m h1]
  exact vQ hF h2
theorem rH{rs rs':List (List Nat)}{ρ ρ':Nat→Nat}{δ δ':Nat→Nat→Option Nat}(a:Aut rs ρ δ 0)(b:Aut rs' ρ' δ' 0)(h1:∀ x∈rs',AllL x∧dJ δ (ρ 0) x=some (ρ 0))(h2:∀ x∈rs,AllL x∧dJ δ' (ρ' 0) x=some (ρ' 0)){n:Nat}:fU δ' n (ρ' 0) 1000=fU δ n (ρ 0) 1000:=by
 have sy:=kY a fun x hx=>(h2 x hx).1
 have sy':=kY b fun x hx=>(h1 x hx).1
 obtain⟨F,F0,hF⟩:=BA a sy' h2
 obtain⟨G,G0,hG⟩:=BA b sy h1
 have back:∀ s,(∃ w,dJ δ (ρ 0) w=some s)→G (F s)=s:=fun s ⟨w,hw⟩=>by
  have e1:=vQ hF hw
  rw[F0] at e1
  have e2:=vQ hG e1
  rw[G0,hw] at e2
  exact(d6 e2).symm
 have:=yY (δ:=δ) (δ':=δ') (f:=F) (P:=fun s=>∃ w,dJ δ (ρ 0) w=some s) (n:=n) (s0:=ρ 0) (N:=1000) (fun x y hx hy e=>?_) (fun s hs c=>?_) (fun s hs c t e=>?_) ⟨[],rfl⟩
 ·rw[F0] at this
  exact this
 ·rw[← back x hx,← back y hy,e]
 ·cases e:δ s c with
  | none =>
   show δ' (F s) c=none
   cases e2:δ' (F s) c with
   | none=>rfl
   | some u =>
    have:=hG _ _ _ e2
    rw[back s hs,e] at this
    cases this
  | some t=>exact hF s c t e
 ·obtain⟨w,hw⟩:=hs
  exact⟨w++[c],by rw[fB,hw];exact e⟩
def Gen(rs:List (List Nat))(x:List Nat):Prop:=∀ (g:Nat→Nat→Option Nat) (s0:Nat),SymG g→(∀ y∈rs,dJ g s0 y=some s0)→dJ g s0 x=some s0
theorem Gen.mem{rs:List (List Nat)}{x:List Nat}(h:x∈rs):Gen rs x:=fun _ _ _ hr=>hr x h
theorem Gen.nil{rs:List (List Nat)}:Gen rs []:=fun _ _ _ _=>rfl
theorem Gen.back{rs:List (List Nat)}{x:List Nat}(hx:AllL x)(h:Gen rs x):Gen rs (Ma.back x):=fun g s0 sy hr=>sy.back hx (h g s0 sy hr)
theorem Gen.lay{rs:List (List Nat)}{x:List Nat}(hx:AllL x)(h:Gen rs x):Gen rs (Ma.lay x):=fun g s0 sy hr=>sy.lay hx (h g s0 sy hr)
theorem Gen.app{rs:List (List Nat)}{x y:List Nat}(h:Gen rs x)(k:Gen rs y):Gen rs (x++y):=fun g s0 sy hr=>by
 rw[gC,h g s0 sy hr]
 exact k g s0 sy hr
theorem Gen.trans{rs rs':List (List Nat)}{x:List Nat}(h:Gen rs x)(k:∀ y∈rs,Gen rs' y):Gen rs' x:=fun g s0 sy hr=>h g s0 sy fun y hy=>k y hy g s0 sy hr
theorem Gen.joi{rs:List (List Nat)}(ha:∀ x∈rs,AllL x){w:List Nat}(h:IU rs w):Gen rs w:=fun g s0 sy hr=>by
 obtain⟨us,hu,rfl⟩:=h
 have key:∀ us:List (List Nat),(∀ u∈us,∃ v∈rs,u=v∨u=Ma.back v)→dJ g s0 us.flatten=some s0∧AllL us.flatten:=fun us=>by
  induction us with
  | nil=>exact fun _=>⟨rfl,AllL.nil⟩
  | cons u us ih =>
   intro hu
   obtain⟨i1,i2⟩:=ih fun x hx=>hu x (d4 _ hx)
   obtain⟨v,hv,e⟩:=hu u d9
   rw[aQV,gC]
   rcases e with rfl | rfl
   ·rw[hr _ hv]
    exact⟨i1,AllL.app.mpr ⟨ha _ hv,i2⟩⟩
   ·rw[sy.back (ha v hv) (hr v hv)]
    exact⟨i1,AllL.app.mpr ⟨aO (ha v hv),i2⟩⟩
 obtain⟨k1,k2⟩:=key us hu
 exact sy.lay k2 k1
def Gn2(rs rs':List (List Nat)):Prop:=(∀ x∈rs',Gen rs x)∧∀ x∈rs,Gen rs' x
theorem Gn2.refl(rs:List (List Nat)):Gn2 rs rs:=⟨fun _ h=>.mem h,fun _ h=>.mem h⟩
theorem Gn2.trans{a b c:List (List Nat)}(h:Gn2 a b)(k:Gn2 b c):Gn2 a c:=⟨fun x hx=>(k.1 x hx).trans h.1,fun x hx=>(h.2 x hx).trans k.2⟩
theorem iU{rs:List (List Nat)}{ρ:Nat→Nat}{δ:Nat→Nat→Option Nat}(a:Aut rs ρ δ 0){x:List Nat}(hx:x∈rs):dJ δ (ρ 0) x=some (ρ 0):=by
 obtain⟨M,hM⟩:=oT (N:=1) hx
 have key:∀ k j,j+k=x.length→dJ δ (ρ (dU M x.length j)) (x.drop j)=some (ρ (dU M x.length x.length)):=fun k=>by
  induction k with
  | zero =>
   intro j hj
   have:j=x.length:=by omega
   subst this
   rw[aZ1]
   rfl
  | succ k ih =>
   intro j hj
   have hjl:j<x.length:=by omega
   rw[u7 hjl]
   have e:=a.to _ _ _ (hM ⟨j,hjl,x[j],a9 hjl,.inl ⟨rfl,rfl,rfl⟩⟩)
   show (δ (ρ (dU M x.length j)) x[j]).bind (fun q=>dJ δ q (x.drop (j+1)))=_
   rw[e]
   exact ih (j+1) (by omega)
 have:=key x.length 0 (by omega)
 have z1:dU M x.length 0=0:=by unfold dU;rw[if_pos (.inl rfl)]
 have z2:dU M x.length x.length=0:=by unfold dU;rw[if_pos (.inr rfl)]
 rw[z1,z2,aXi] at this
 exact this
theorem CU{rs rs':List (List Nat)}{ρ ρ':Nat→Nat}{δ δ':Nat→Nat→Option Nat}(a:Aut rs ρ δ 0)(b:Aut rs' ρ' δ' 0)(ha:∀ x∈rs,AllL x)(hb:∀ x∈rs',AllL x)(h:Gn2 rs rs'){n:Nat}:fU δ' n (ρ' 0) 1000=fU δ n (ρ 0) 1000 :=
 rH a b (fun x hx=>⟨hb x hx,h.1 x hx δ _ (kY a ha) fun y hy=>iU a hy⟩) (fun x hx=>⟨ha x hx,h.2 x hx δ' _ (kY b hb) fun y hy=>iU b hy⟩)
theorem sA{α:Type}[DecidableEq α]:∀ (xs ys:List α),((List.range (min xs.length ys.length)).all (fun i=>decide (xs[i]?=ys[i]?)) && xs.length == ys.length)=decide (xs=ys):=fun xs ys=>by
 rw[y4,aQA,y1,decide_eq_true_iff,beq_iff_eq]
 constructor
 ·rintro⟨h1,h2⟩
  refine aQg fun i=>?_
  by_cases hi:i<xs.length
  ·exact of_decide_eq_true (h1 i (aQW.mpr (by omega)))
  ·rw[aQD (by omega),aQD (by omega)]
 ·rintro rfl
  exact⟨fun i _=>decide_eq_true rfl,rfl⟩
section
variable {X:Cx}
theorem yE{A:Around}{s:Shared}{xs ys:List V}{us vs:List Value}(f:Nat→Bool)(rx:Vals xs us)(ry:Vals ys vs)(h:∀ (i:Nat) (x y:V),xs[i]?=some x→ys[i]?=some y→∀ u v,RelV x u→RelV y v→SeqAt.EqAt A s u v (f i)) :
  ∀ (j:Nat) (h1:j<us.toArray.size) (h2:j<vs.toArray.size),SeqAt.EqAt A s us.toArray[j] vs.toArray[j] (f j):=fun j h1 h2=>by
 have hx:j<xs.length:=by rw[rx.length];simpa using h1
 have hy:j<ys.length:=by rw[ry.length];simpa using h2
 obtain⟨u,hu,ru⟩:=rx.get (a9 hx)
 obtain⟨v,hv,rv⟩:=ry.get (a9 hy)
 have eu:us.toArray[j]=u:=by
  have:us[j]?=some us.toArray[j]:=by rw[a9 (by simpa using h1)];simp
  rw[hu] at this;exact(d6 this).symm
 have ev:vs.toArray[j]=v:=by
  have:vs[j]?=some vs.toArray[j]:=by rw[a9 (by simpa using h2)];simp
  rw[hv] at this;exact(d6 this).symm
 rw[eu,ev]
 exact h j _ _ (a9 hx) (a9 hy) u v ru rv
theorem DQ(o o':Option Nat):nX (fL o) (fL o')=decide (o=o'):=by
 cases o with
 | none=>cases o' <;> rfl
 | some a =>
  cases o' with
  | none=>rfl
  | some b =>
   show decide (((a:Nat):Int)=(b:Nat))=_
   by_cases z:a=b
   ·subst z;rw[decide_eq_true rfl,decide_eq_true rfl]
   ·rw[decide_eq_false (by omega),decide_eq_false (fun e=>z (d6 e))]
theorem By{pins:List (Addr×Obj)}{σ:L2.St}{H:Hp}{s:Shared}(I:Inv X pins σ H s){p q:Addr}{r r':List (Option Nat)}(h1:H p=some (.tup (r.map fL)))(h2:H q=some (.tup (r'.map fL)))(hne:p≠q)(A:Around)(hu:A.units+1<cLine):SeqAt.EqAt A s (.ref p) (.ref q) (decide (r=r')):=by
 obtain⟨us,r1,p1,_⟩:=I.tuple (SqT.of h1)
 obtain⟨vs,r2,p2,_⟩:=I.tuple (SqT.of h2)
 have z:=SeqAt.RcAt.tuples (A:=A) (show s.heap.IsTuple p us.toArray from p1) (show s.heap.IsTuple q vs.toArray from p2) (by omega) (yE (A:=A.in1) (s:=s) (fun i=>decide (r[i]?=r'[i]?)) r1 r2 fun i x y hx hy u v ru rv=>by
  rw[c7] at hx hy
  obtain⟨o,ho,rfl⟩:=d8.mp hx
  obtain⟨o',ho',rfl⟩:=d8.mp hy
  have:=vT (A:=A.in1) (s:=s) ru rv (by cases o <;> rfl) (by cases o' <;> rfl)
  rw[DQ] at this
  rw[ho,ho']
  have e:decide (some o=some o')=decide (o=o'):=by simp
  rw[e]
  exact this)
 have l1:us.toArray.size=r.length:=by rw[c0,← r1.length,b7]
 have l2:vs.toArray.size=r'.length:=by rw[c0,← r2.length,b7]
 rw[l1,l2,sA] at z
 exact aZF hne z
theorem CL{r r':List (Option Nat)}(h:r.map fL=r'.map fL):r=r':=by
 refine aZE (fun a b e=>?_) |>.mp h
 cases a <;> cases b <;> first | rfl | (cases e;rfl) | cases e | (congr 1;have:=V.int.inj e;omega)
theorem AE{pins:List (Addr×Obj)}{σ:L2.St}{H:Hp}{s:Shared}(I:Inv X pins σ H s){p q:Addr}{r r':List (Option Nat)}(h1:H p=some (.tup (r.map fL)))(h2:H q=some (.tup (r'.map fL)))(A:Around)(hu:A.units+1<cLine):SeqAt.EqAt A s (.ref p) (.ref q) (decide (r=r')):=by
 by_cases z:p=q
 ·subst z
  rw[h1] at h2
  have:r=r':=CL (by injection h2 with h2;injection h2)
  rw[decide_eq_true this]
  exact aX9 _
 ·exact By I h1 h2 z A hu
def Hh(neg:Bool):R2:=fun x y H Q=>∃ (a b:Addr) (W W':List (List (Option Nat))),x=.ref a∧y=.ref b∧IsWebV H a W∧IsWebV H b W'∧Q (.bl (if neg then !decide (W=W') else decide (W=W'))) H
theorem qC{pins:List (Addr×Obj)}{σ:L2.St}{H:Hp}{s:Shared}(I:Inv X pins σ H s){a b:Addr}{W W':List (List (Option Nat))}(h:IsWebV H a W)(h':IsWebV H b W')(hu:X.A.units+64<cLine):∃ us vs:List Value,s.heap.IsTuple a us.toArray∧s.heap.IsTuple b vs.toArray∧us.toArray.size=W.length∧vs.toArray.size=W'.length∧∀ (j:Nat) (h1:j<us.toArray.size) (h2:j<vs.toArray.size),SeqAt.EqAt X.A.in1 s us.toArray[j] vs.toArray[j] (decide (W[j]?=W'[j]?)):=by
 obtain⟨qs,ea,l1,ra⟩:=h
 obtain⟨ps,eb,l2,rb⟩:=h'
 obtain⟨us,r1,p1,_⟩:=I.tuple (SqT.of ea)
 obtain⟨vs,r2,p2,_⟩:=I.tuple (SqT.of eb)
 refine⟨us,vs,p1,p2,by rw[c0,← r1.length,b7,l1],by rw[c0,← r2.length,b7,l2],yE (A:=X.A.in1) (s:=s) (fun i=>decide (W[i]?=W'[i]?)) r1 r2 fun i x y hx hy u v ru rv=>?_⟩
 rw[c7] at hx hy
 obtain⟨q,hq,rfl⟩:=d8.mp hx
 obtain⟨p,hp,rfl⟩:=d8.mp hy
 cases ru
 cases rv
 obtain⟨row,hr⟩:∃ row,W[i]?=some row:=⟨_,a9 (by rw[← l1];exact(a8.mp hq).1)⟩
 obtain⟨row',hr'⟩:∃ row,W'[i]?=some row:=⟨_,a9 (by rw[← l2];exact(a8.mp hp).1)⟩
 have:=AE I (ra i q row hq hr) (rb i p row' hp hr') X.A.in1 (by show X.A.units+1+1<cLine;omega)
 rw[hr,hr']
 have e:decide (some row=some row')=decide (row=row'):=by simp
 rw[e]
 exact this
theorem Cr(hu:X.A.units+64<cLine):jZ X (compareOp .Eq) (Hh false):=by
 intro pins s σ H x y v u Q I rx ry h
 obtain⟨a,b,W,W',rfl,rfl,hw,hw',q⟩:=h
 cases rx
 cases ry
 obtain⟨us,vs,p1,p2,l1,l2,hp⟩:=qC I hw hw' hu
 refine SeqAt.eq_tupleAt p1 p2 (by omega) hp ?_
 rw[l1,l2,sA]
 exact⟨.bl _,H,I,rfl,q⟩
theorem FK(hu:X.A.units+64<cLine):jZ X (compareOp .NotEq) (Hh true):=by
 intro pins s σ H x y v u Q I rx ry h
 obtain⟨a,b,W,W',rfl,rfl,hw,hw',q⟩:=h
 cases rx
 cases ry
 obtain⟨us,vs,p1,p2,l1,l2,hp⟩:=qC I hw hw' hu
 refine aQf (aXu p1 p2 (by omega) hp) ?_
 rw[l1,l2,sA]
 exact⟨.bl _,H,I,rfl,q⟩
end
end Lw
namespace L2
open PySem PySem.Spec PyProof.Rows
section
variable {X:Cx}
def C6:V→List V→Hp→VK→Prop:=fun x vs H Q=>∃ (l:Addr) (xs:List V) (i:Nat) (y:V),x=.ref l∧vs=[.int (i:Nat),y]∧H l=some (.lst xs)∧i≤xs.length∧xs.length<50000∧Q .non (upd H l (.lst (xs.take i++y::xs.drop i)))
theorem Al:He X "list.insert" C6:=by
 intro pins s σ H x vs v us Q I rx rv h
 obtain⟨l,xs,i,y,rfl,rfl,hH,hi,hz,q⟩:=h
 cases rx
 obtain⟨u,w,rfl,ru,rw'⟩:=rv.two
 obtain⟨t,rfl⟩:=ru
 obtain⟨z,its,n,r,hl,e⟩:=I.lstM hH
 have hfi:¬ (!Builtin.List.listFitsIndex ((i:Nat):Int))=true:=by rw[fitsIndex_both (by omega) (by omega)];decide
 have hsz:its.toArray.size≤sizeLine:=by rw[c0,sizeLine_eq];omega
 refine call_meets (S:=fun _ R s=>s.heap.get? l=some { cls:=.type "list",dict:=none,data:=.seq its.toArray n,slots:=#[] }∧R (.ok (.ret Value.none)) { s with heap:=s.heap.update l (Obj.mapSeq fun xs=>have k:=if ((i:Nat):Int)<0 then (((i:Nat):Int)+(xs.size:Int)).toNat else min ((i:Nat):Int).toNat xs.size;(xs.extract 0 k).push w++xs.extract k),toks:=s.toks }) F.slot_list_insert ⟨_,e,rfl⟩ F.entry_list_insert (F.args_list_insert_3 _ _ _) (by with_reducible exact @AutoSeq1.list_insert_list_int_val_1 l its.toArray n ((i:Nat):Int) t w hfi hsz) ⟨e,?_⟩
 refine⟨.non,_,I.lset (its':=its.take i++w::its.drop i) hH e ?_ ((r.take i).append (.cons rw' (r.drop i))) ?_,rfl,q⟩
 ·have hk:(if ((i:Nat):Int)<0 then (((i:Nat):Int)+(its.toArray.size:Int)).toNat else min ((i:Nat):Int).toNat its.toArray.size)=i:=by
   rw[if_neg (by omega),aQI,c0,Nat.min_eq_left (by omega)]
  show (its.toArray.extract 0 (if ((i:Nat):Int)<0 then (((i:Nat):Int)+(its.toArray.size:Int)).toNat else min ((i:Nat):Int).toNat its.toArray.size)).push w++its.toArray.extract (if ((i:Nat):Int)<0 then (((i:Nat):Int)+(its.toArray.size:Int)).toNat else min ((i:Nat):Int).toNat its.toArray.size)=_
  rw[hk]
  simp
  exact t4 (by rw[aQ5];exact b9 _)
 ·rw[b8,j1,i9,aQ5,sizeLine_eq]
  omega
end
end L2
namespace Lw
open PySem PySem.Spec PyProof.Rows L2 Ma MaR
theorem vV{rs:List (List Nat)}{k:Nat}{u w:List Nat}(hk:rs[k]?=some u)(h1:Gen rs w)(h2:Gen (rs.set k w) u):Gn2 rs (rs.set k w):=by
 refine⟨fun x hx=>?_,fun x hx=>?_⟩
 ·rcases y3 hx with z | rfl
  ·exact .mem z
  ·exact h1
 ·obtain⟨i,hi⟩:=l5 hx
  by_cases z:k=i
  ·subst z
   rw[hk] at hi
   cases hi
   exact h2
  ·refine .mem (b0 (i:=i) ?_)
   rw[p6 z]
   exact hi
theorem yZ{rs:List (List Nat)}{k j:Nat}{u v y:List Nat}(hk:rs[k]?=some u)(hj:rs[j]?=some v)(hjk:j≠k)(hu:AllL u)(hv:AllL v)(hp:bF u)(hy:y=v∨y=back v):Gn2 rs (rs.set k (lay (u++y)))∧Gn2 rs (rs.set k (lay (y++u))):=by
 have hyA:AllL y:=by rcases hy with rfl | rfl;exact hv;exact aO hv
 have gy:∀ {qs:List (List Nat)},v∈qs→Gen qs y:=fun {qs} h=>by
  rcases hy with rfl | rfl
  ·exact .mem h
  ·exact .back hv (.mem h)
 have gv:∀ w,v∈rs.set k w:=fun w=>b0 (i:=j) (by rw[p6 (y7 hjk)];exact hj)
 have gk:∀ w,w∈rs.set k w:=fun w=>b0 (i:=k) (by rw[p5 (a8.mp hk).1])
 have hyu:Gen rs y:=gy (b0 hj)
 have hur:Gen rs u:=.mem (b0 hk)
 refine⟨vV hk (.lay (AllL.app.mpr ⟨hu,hyA⟩) (hur.app hyu)) ?_,vV hk (.lay (AllL.app.mpr ⟨hyA,hu⟩) (hyu.app hur)) ?_⟩
 ·have hb:=aO hyA
  have e:=C4 (a:=u) (b:=y) (c:=[]) hu hyA AllL.nil
  have g1:Gen (rs.set k (lay (u++y))) (lay (lay (u++y)++lay (back y++[]))):=by
   refine .lay (AllL.app.mpr ⟨dI (AllL.app.mpr ⟨hu,hyA⟩),dI (AllL.app.mpr ⟨hb,AllL.nil⟩)⟩) (.app (.mem (gk _)) (.lay (AllL.app.mpr ⟨hb,AllL.nil⟩) (.app (.back hyA (gy (gv _))) .nil)))
  rw[e,o6,fO hp] at g1
  exact g1
 ·have hb:=aO hyA
  have e:=C4 (a:=[]) (b:=back y) (c:=u) AllL.nil hb hu
  rw[cP hyA] at e
  have g1:Gen (rs.set k (lay (y++u))) (lay (lay ([]++back y)++lay (y++u))):=by
   refine .lay (AllL.app.mpr ⟨dI (AllL.app.mpr ⟨AllL.nil,hb⟩),dI (AllL.app.mpr ⟨hyA,hu⟩)⟩) (.app (.lay (AllL.app.mpr ⟨AllL.nil,hb⟩) (.app .nil (.back hyA (gy (gv _))))) (.mem (gk _)))
  rw[e,aXa,fO hp] at g1
  exact g1
theorem Dm{rs:List (List Nat)}{k:Nat}{u:List Nat}(hk:rs[k]?=some u)(hu:AllL u):Gn2 rs (rs.set k (back u)):=by
 refine vV hk (.back hu (.mem (b0 hk))) ?_
 have:Gen (rs.set k (back u)) (back (back u)):=.back (aO hu) (.mem (b0 (i:=k) (by rw[p5 (a8.mp hk).1])))
 rwa [cP hu] at this
theorem CQ{rs:List (List Nat)}{k j:Nat}{u v:List Nat}(hk:rs[k]?=some u)(hj:rs[j]?=some v):Gn2 rs ((rs.set k v).set j u):=by
 have lk:=(a8.mp hk).1
 have lj:=(a8.mp hj).1
 refine⟨fun x hx=>?_,fun x hx=>?_⟩
 ·rcases y3 hx with z | rfl
  ·rcases y3 z with z | rfl
   ·exact .mem z
   ·exact .mem (b0 hj)
  ·exact .mem (b0 hk)
 ·obtain⟨i,hi⟩:=l5 hx
  by_cases z:i=k
  ·subst z
   rw[hk] at hi
   cases hi
   exact .mem (b0 (i:=j) (by rw[p5 (by rw[j0];exact lj)]))
  ·by_cases z2:i=j
   ·subst z2
    rw[hj] at hi
    cases hi
    exact .mem (b0 (i:=k) (by rw[p6 z,p5 lk]))
   ·exact .mem (b0 (i:=i) (by rw[p6 (y7 z2),p6 (y7 z)];exact hi))
theorem Ff{rs:List (List Nat)}{k:Nat}{w:List Nat}(hw:Gen rs w):Gn2 rs (rs.take k++w::rs.drop k):=by
 refine⟨fun x hx=>?_,fun x hx=>?_⟩
 ·rcases i8.mp hx with z | z
  ·exact .mem (p9 z)
  ·rcases c6.mp z with rfl | z
   ·exact hw
   ·exact .mem (aXo z)
 ·refine .mem ?_
  rw[← aQ0 k rs] at hx
  rcases i8.mp hx with z | z
  ·exact l4 _ z
  ·exact i7 _ (d4 _ z)
theorem vB{n:Nat}{g:Nat→Nat→Option Nat}{cw:Nat→List Nat}{over:List (List Nat)}(h1:1≤n)(h4:n≤4)(sy:SymG g)(hc:∀ p,AllL (cw p))(hc0:cw 0=[])(ho:∀ p i q,i<n→g p (97+i)=some q→lay (cw p++([97+i]++back (cw q)))=[]∨lay (cw p++([97+i]++back (cw q)))∈over):∀ (w:List Nat) (p q:Nat),OfN n w→dJ g p w=some q→Gen over (lay (cw p++(w++back (cw q))))
 | [],p,q,_,h=>by
  rw[d6 h,aXa,iC _ _ rfl (hc q)]
  exact .nil
 | c::w,p,q,hw,h=>by
  obtain⟨m,e1,e2⟩:=o9.mp (show (g p c).bind (fun q=>dJ g q w)=some q from h)
  have hcn:=hw c d9
  have hcL:=aV hcn
  have hw':OfN n w:=fun d hd=>hw d (d4 _ hd)
  have ih:=vB h1 h4 sy hc hc0 ho w m q hw' e2
  have one:∀ {d:Nat},cN d→AllL [d]:=fun hd x hx=>by rw[c5.mp hx];exact hd
  have low:∀ {p m d:Nat},d∈aJ (n:Nat)→bO d=true→g p d=some m→Gen over (lay (cw p++([d]++back (cw m)))):=fun {p m d} hd hl e=>by
   obtain⟨i,hi,rfl⟩:=lG h1 h4 hd hl
   rcases ho p i m hi e with z | z
   ·rw[z];exact .nil
   ·exact .mem z
  have ed:Gen over (lay (cw p++([c]++back (cw m)))):=by
   by_cases lw:bO c=true
   ·exact low hcn lw e1
   ·have hcc:=dF (n:=(n:Nat)) (by omega) (by omega) hcn
    have g0:=low hcc (by rw[jB hcL];simpa using lw) (sy p c m hcL e1)
    have hA:AllL (cw m++([aU c]++back (cw p))):=AllL.app.mpr ⟨hc m,AllL.app.mpr ⟨one (cZ hcL),aO (hc p)⟩⟩
    have g1:=Gen.back (dI hA) g0
    rw[← iV hA,dA,dA,cP (hc p),l8] at g1
    have e3:back [aU c]=[c]:=by unfold back;simp[bK hcL]
    rw[e3] at g1
    exact g1
  have hx:=one hcL
  have e4:=Je (a:=back (cw p)) (x:=[c]) (b:=back (cw m)) (c:=w++back (cw q)) (aO (hc p)) (aO (hc m)) (AllL.app.mpr ⟨hw'.all,aO (hc q)⟩) hx
  rw[cP (hc p),cP (hc m)] at e4
  have g2:=Gen.lay (AllL.app.mpr ⟨dI (AllL.app.mpr ⟨hc p,AllL.app.mpr ⟨hx,aO (hc m)⟩⟩),dI (AllL.app.mpr ⟨hc m,AllL.app.mpr ⟨hw'.all,aO (hc q)⟩⟩)⟩) (ed.app ih)
  rw[e4] at g2
  exact g2
theorem qI{n:Nat}{W:List (List (Option Nat))}{g g':Nat→Nat→Option Nat}(h1:1≤n)(h4:n≤4)(a:WebOk n W g)(b:WebOk n W g'){p c q:Nat}(h:g p c=some q):g' p c=some q:=by
 obtain⟨b1,b2,b3⟩:=a.bd p c q h
 have hcL:=aV b3
 have low:∀ {p c q:Nat},p<W.length→c∈aJ (n:Nat)→bO c=true→g p c=some q→g' p c=some q:=fun {p c q} hp hc hl e=>by
  obtain⟨j,hj,rfl⟩:=lG h1 h4 hc hl
  have hr:W[p]?=some W[p]:=a9 hp
  have hrl:=a.len _ (aQM hp)
  have ho:W[p][j]?=some (W[p][j]'(by omega)):=a9 (by omega)
  rw[a.lo p j _ _ hr ho] at e
  rw[b.lo p j _ _ hr ho,e]
 by_cases lw:bO c=true
 ·exact low b1 b3 lw h
 ·have:=low b2 (dF (by omega) (by omega) b3) (by rw[jB hcL];simpa using lw) (a.sy p c q hcL h)
  have:=b.sy _ _ _ (cZ hcL) this
  rwa [bK hcL] at this
theorem Au{n:Nat}{W:List (List (Option Nat))}{g g':Nat→Nat→Option Nat}(h1:1≤n)(h4:n≤4)(a:WebOk n W g)(b:WebOk n W g'):g=g':=by
 funext p c
 cases e:g p c with
 | some q=>exact(qI h1 h4 a b e).symm
 | none =>
  cases e':g' p c with
  | none=>rfl
  | some q=>rw[qI h1 h4 b a e'] at e;cases e
theorem xY{j:Nat}(h:j<4):(Str.ofString "abcd").length≤sizeLine∧sX (Str.ofString "abcd").cps.toList ((j:Nat):Int)=some (97+j):=by
 have:j=0∨j=1∨j=2∨j=3:=by omega
 rcases this with rfl | rfl | rfl | rfl <;> exact⟨aK (by decide +kernel),by decide +kernel⟩
theorem DG{j:Nat}(h:j<4):(Str.ofString "ABCD").length≤sizeLine∧sX (Str.ofString "ABCD").cps.toList ((j:Nat):Int)=some (aU (97+j)):=by
 have:j=0∨j=1∨j=2∨j=3:=by omega
 rcases this with rfl | rfl | rfl | rfl <;> exact⟨aK (by decide +kernel),by decide +kernel⟩
structure CmI(n:Nat)(W:List (List (Option Nat)))(g:Nat→Nat→Option Nat)(ord:List Nat)(kvs:List (bX×V))(cw:Nat→List Nat):Prop where
 nd:ord.Nodup
 lt:∀ p∈ord,p<W.length
 z:0∈ord
 z0:cw 0=[]
 val:∀ p:Nat,cY kvs (.inl (p:Nat))=if p∈ord then some (.str (S (cw p))) else none
 ofn:∀ p,OfN n (cw p)
 pt:∀ p∈ord,dJ g 0 (cw p)=some p
 ln:∀ p∈ord,(cw p).length<ord.length
 kl:kvs.length≤ord.length
theorem CmI.len{n:Nat}{W:List (List (Option Nat))}{g:Nat→Nat→Option Nat}{ord:List Nat}{kvs:List (bX×V)}{cw:Nat→List Nat}(h:CmI n W g ord kvs cw):ord.length≤W.length:=by
 have:=kI (m:=List.range W.length) h.nd fun x hx=>aQW.mpr (h.lt x hx)
 rwa [y9] at this
theorem CmI.add{n:Nat}{W:List (List (Option Nat))}{g:Nat→Nat→Option Nat}{ord:List Nat}{kvs:List (bX×V)}{cw:Nat→List Nat}(h:CmI n W g ord kvs cw){p c t:Nat}(hp:p∈ord)(hc:c∈aJ (n:Nat))(hg:g p c=some t)(ht:t ∉ ord)(hlt:t<W.length):CmI n W g (ord++[t]) (cT kvs (.inl (t:Nat)) (.str (S (cw p++[c])))) fun q=>if q=t then cw p++[c] else cw q:=by
 have m:∀ {q},q∈ord++[t]↔q∈ord∨q=t:=fun {q}=>by simp
 refine⟨?_,fun q hq=>?_,m.mpr (.inl h.z),?_,fun q=>?_,fun q=>?_,fun q hq=>?_,fun q hq=>?_,?_⟩
 ·rw[aQJ]
  exact⟨h.nd,by simp,fun a ha b hb z=>ht (by rw[← c5.mp hb,← z];exact ha)⟩
 ·rcases m.mp hq with z | rfl
  ·exact h.lt q z
  ·exact hlt
 ·rw[if_neg (fun e=>ht (by rw[← e];exact h.z))]
  exact h.z0
 ·rw[tM]
  by_cases z:q=t
  ·subst z
   rw[if_pos rfl,if_pos (m.mpr (.inr rfl)),if_pos rfl]
  ·rw[if_neg (fun e=>z (by have:=aXI e;omega)),h.val q,if_neg z]
   by_cases w:q∈ord
   ·rw[if_pos w,if_pos (m.mpr (.inl w))]
   ·rw[if_neg w,if_neg (fun e=>(m.mp e).elim w z)]
 ·split
  ·refine(h.ofn p).app fun d hd=>?_
   rw[c5.mp hd];exact hc
  ·exact h.ofn q
 ·by_cases z:q=t
  ·subst z
   rw[if_pos rfl,fB,h.pt p hp]
   exact hg
  ·rw[if_neg z]
   exact h.pt q ((m.mp hq).elim id fun e=>absurd e z)
 ·rw[b8,t9]
  by_cases z:q=t
  ·subst z
   rw[if_pos rfl,b8,t9]
   have:=h.ln p hp
   omega
  ·rw[if_neg z]
   have:=h.ln q ((m.mp hq).elim id fun e=>absurd e z)
   omega
 ·have:=dM kvs (.inl ((t:Nat):Int)) (V.str (S (cw p++[c])))
  have:=h.kl
  rw[b8,t9]
  omega
theorem Cn{n:Nat}{W:List (List (Option Nat))}{g:Nat→Nat→Option Nat}{ord:List Nat}{kvs:List (bX×V)}{cw:Nat→List Nat}(sy:SymG g)(h:CmI n W g ord kvs cw){p c q:Nat}(h1:1≤n)(h4:n≤4)(hp:p∈ord)(hq:q∈ord)(hc:c∈aJ (n:Nat))(hg:g p c=some q):OfN n (cw p++([c]++back (cw q)))∧dJ g 0 (lay (cw p++([c]++back (cw q))))=some 0:=by
 have o:OfN n (cw p++([c]++back (cw q))):=(h.ofn p).app (OfN.app (fun d hd=>by rw[c5.mp hd];exact hc) ((h.ofn q).back (by omega) (by omega)))
 refine⟨o,sy.lay o.all ?_⟩
 rw[gC,h.pt p hp]
 show dJ g p ([c]++back (cw q))=some 0
 rw[gC,yT,hg]
 exact sy.back (h.ofn q).all (h.pt q hq)
def xQ:Sp:=fun vs H Q _=>∃ (fl sc a:Addr) (rs:List (List Nat)) (n:Nat),vs=[.ref fl,.ref a]∧IsFl H fl sc∧H a=some (.lst (bE rs))∧a≠fl∧a≠sc∧1≤n∧n≤4∧rs.length≤10∧(∀ x∈rs,OfN n x∧bF x∧x.length≤40) ∧
 ∀ (l:Addr) (rs':List (List Nat)) (H':Hp),H l=none→H' l=some (.lst (bE rs'))→Gn2 rs rs'→rs'.length≤11→(∀ x∈rs',OfN n x∧bF x∧x.length≤90)→IsFl H' fl sc→Kp fl H H'→Q (.ref l) H'
def AX:Sp:=fun vs H Q _=>∃ (a:Addr) (rs:List (List Nat)) (m:Nat),vs=[.ref a,.int (m:Nat)]∧H a=some (.lst (bE rs))∧rs.length≤50000∧(∀ x∈rs,x.length≤50000)∧∀ H',Same H H'→Q (.bl (decide (rs.length≤6∧(rs.map List.length).sum≤m))) H'
def D7:Sp:=fun vs H Q _=>∃ (r:Addr) (n:Nat) (W:List (List (Option Nat))) (g:Nat→Nat→Option Nat),vs=[.ref r]∧1≤n∧n≤4∧IsWebV H r W∧WebOk n W g∧(∀ p,p<W.length→∃ w,dJ g 0 w=some p) ∧
 ∀ (l:Addr) (rs:List (List Nat)) (H':Hp),H l=none→H' l=some (.lst (bE rs))→rs.length≤50000→(∀ x∈rs,OfN n x∧bF x∧x.length≤50000∧dJ g 0 x=some 0)→(∀ x,OfN n x→bF x→dJ g 0 x=some 0→Gen rs x)→Same H H'→Q (.ref l) H'
end Lw
namespace Lw
open PySem PySem.Spec PyProof.Rows L2 Ma
def gD(i:Nat):Stmt:=PySem.Challenge.pw_newletters_k16_whole_webs_are_of_what_is.main.body.getD i (.Pass ⟨0,0,0,0⟩)
abbrev Go(x:Str)(st:Stmt)(kV dc pm:Value)(an:Option Addr)(cd ct:Value):FuncData:=PySem.W.fnOf x x (dX st) (dN st) (aH st) .none kV dc pm an cd ct
theorem Jj{K:b5}{mg:Str→Option Value}{x:Str}{st:Stmt}{ps:List Str}{f:Addr}{oc:Value}{od an:Option Addr}{osl:Array (Option Value)}{kV doc pm cdv ct:Value}(l:K.lookup f=some ⟨oc,od,.func (Go x st kV doc pm an cdv ct),osl⟩)
  (c:PySem.W.codeIn K cdv x=true) (k:PySem.W.keepIn K (.ref f)=true) (m:mg x=some (.ref f)) (h:∀ (kV doc pm:Value) (an:Option Addr) (cdv ct:Value) (us:List Value),us.length=ps.length→bindArgs (Go x st kV doc pm an cdv ct) ⟨us,[]⟩=pure (ps.zip us)):Df K mg x st ps f (Go x st kV doc pm an cdv ct) :=
 ⟨lT l c k,(lT l c k).binds h,m⟩
abbrev Ca:Stmt:=gD 0
theorem EA:FnScope ["k"] ["k"] (aH Ca):=gE (by decide +kernel)
abbrev Et:Stmt:=gD 4
theorem Gx:FnScope ["n"] ["n"] (aH Et):=gE (by decide +kernel)
abbrev Fh:Stmt:=gD 5
theorem HJ:FnScope ["n"] ["n"] (aH Fh):=gE (by decide +kernel)
abbrev Fj:Stmt:=gD 6
theorem Hf:FnScope ["letter"] ["letter"] (aH Fj):=gE (by decide +kernel)
abbrev Ex:Stmt:=gD 8
theorem sc_z4:FnScope ["text","kept","letter"] ["text"] (aH Ex):=gE (by decide +kernel)
abbrev DE:Stmt:=gD 9
theorem GO:FnScope ["word"] ["word"] (aH DE):=gE (by decide +kernel)
abbrev A5:Stmt:=gD 10
theorem E8:FnScope ["one","other"] ["one","other"] (aH A5):=gE (by decide +kernel)
abbrev FG:Stmt:=jS (gD 12) 0
theorem FV:FnScope ["self"] ["self"] (aH FG):=gE (by decide +kernel)
abbrev EF:Stmt:=jS (gD 12) 1
theorem sc_zs:FnScope ["self","place","told","above"] ["self","place","told"] (aH EF):=gE (by decide +kernel)
abbrev Fp:Stmt:=jS (gD 12) 2
theorem Gf:FnScope ["self","place"] ["self","place"] (aH Fp):=gE (by decide +kernel)
abbrev Eh:Stmt:=jS (gD 12) 3
theorem sc_zm:FnScope ["self","head","letter","way"] ["self","head","letter"] (aH Eh):=gE (by decide +kernel)
abbrev FM:Stmt:=jS (gD 12) 4
theorem sc_zh:FnScope ["self","place"] ["self"] (aH FM):=gE (by decide +kernel)
abbrev E1:Stmt:=jS (gD 12) 5
theorem sc_zp:FnScope ["self","place","letter","goal","told","known"] ["self","place","letter","goal","told"] (aH E1):=gE (by decide +kernel)
abbrev Fq:Stmt:=jS (gD 12) 6
theorem sc_zl:FnScope ["self","word","told","here","number","letter","is_last","goal","part"] ["self","word","told"] (aH Fq):=gE (by decide +kernel)
abbrev Fd:Stmt:=jS (gD 12) 7
theorem sc_ze:FnScope ["self","head","above","turn","letter","way"] ["self","head","above","turn"] (aH Fd):=gE (by decide +kernel)
abbrev Em:Stmt:=jS (gD 12) 8
theorem sc_zy:FnScope ["self","pair","one","other"] ["self"] (aH Em):=gE (by decide +kernel)
abbrev Ej:Stmt:=jS (gD 12) 9
theorem FU:FnScope ["self","letter"] ["self","letter"] (aH Ej):=gE (by decide +kernel)
abbrev E5:Stmt:=gD 13
theorem sc_za:FnScope ["n","weave","heads","numbers","done","letter","goal"] ["n","weave"] (aH E5):=gE (by decide +kernel)
abbrev A4:Stmt:=gD 14
theorem sc_zw:FnScope ["n","weave","numbers","head","goals"] ["n","weave","numbers","head"] (aH A4):=gE (by decide +kernel)
abbrev xS:Stmt:=gD 15
theorem sc_ze1:FnScope ["n","words","weave","word","numbers"] ["n","words"] (aH xS):=gE (by decide +kernel)
abbrev EV:Stmt:=gD 16
theorem sc_zk:FnScope ["web","ways","place","goals","letter","goal"] ["web"] (aH EV):=gE (by decide +kernel)
abbrev A1:Stmt:=gD 17
theorem sc_zb1:FnScope ["web","word","ways","here","letter"] ["web","word"] (aH A1):=gE (by decide +kernel)
abbrev E_:Stmt:=gD 19
theorem GH:FnScope ["_law_script"] ["_law_script"] (aH E_):=gE (by decide +kernel)
abbrev Eb:Stmt:=gD 20
theorem sc_z8:FnScope ["_law_flow_here","_law_many","_law_cell","_law_digit"] ["_law_flow_here","_law_many"] (aH Eb):=gE (by decide +kernel)
abbrev Fi:Stmt:=gD 21
theorem HI:FnScope ["_law_n"] ["_law_n"] (aH Fi):=gE (by decide +kernel)
abbrev Fu:Stmt:=gD 22
theorem Gm:FnScope ["_law_letter"] ["_law_letter"] (aH Fu):=gE (by decide +kernel)
abbrev xR:Stmt:=gD 23
theorem Ez:FnScope ["_law_word_here"] ["_law_word_here"] (aH xR):=gE (by decide +kernel)
abbrev DL:Stmt:=gD 24
theorem GQ:FnScope ["_law_word_here"] ["_law_word_here"] (aH DL):=gE (by decide +kernel)
abbrev Ev:Stmt:=gD 25
theorem sc_z7:FnScope ["_law_text","_law_found","_law_letter"] ["_law_text"] (aH Ev):=gE (by decide +kernel)
abbrev Ds:Stmt:=gD 26
theorem sc_z5:FnScope ["_law_flow_here","_law_n","_law_most","_law_found","_law_letters_here","_law_k","_law_some"] ["_law_flow_here","_law_n","_law_most"] (aH Ds):=gE (by decide +kernel)
abbrev EX:Stmt:=gD 27
theorem sc_zz:FnScope ["_law_retelling","_law_word_here","_law_found","_law_letter","_law_told"] ["_law_retelling","_law_word_here"] (aH EX):=gE (by decide +kernel)
abbrev zI:Stmt:=gD 28
theorem Fk:FnScope ["_law_one","_law_other"] ["_law_one","_law_other"] (aH zI):=gE (by decide +kernel)
abbrev FD:Stmt:=gD 29
theorem Hy:FnScope ["_law_n"] ["_law_n"] (aH FD):=gE (by decide +kernel)
abbrev EE:Stmt:=gD 30
theorem sc_zb:FnScope ["_law_flow_here","_law_n","_law_letter","_law_side","_law_other"] ["_law_flow_here","_law_n"] (aH EE):=gE (by decide +kernel)
abbrev Fz:Stmt:=gD 31
theorem sc_zf:FnScope ["_law_n","_law_change","_law_letter","_law_side","_law_found","_law_other","_law_told"] ["_law_n","_law_change"] (aH Fz):=gE (by decide +kernel)
abbrev DF:Stmt:=gD 32
theorem sc_zg:FnScope ["_law_change","_law_letter","_law_side","_law_other"] ["_law_change"] (aH DF):=gE (by decide +kernel)
abbrev De:Stmt:=gD 33
theorem sc_zr:FnScope ["_law_flow_here","_law_n","_law_steps","_law_most","_law_found","_law_back_here","_law_k","_law_change","_law_further","_law_further_back"] ["_law_flow_here","_law_n","_law_steps","_law_most"] (aH De):=gE (by decide +kernel)
abbrev ED:Stmt:=gD 34
theorem sc_zd:FnScope ["_law_flow_here","_law_some","_law_many","_law_text","_law_k","_law_one"] ["_law_flow_here","_law_some","_law_many"] (aH ED):=gE (by decide +kernel)
abbrev Aj:Stmt:=gD 35
theorem sc_zi:FnScope ["_law_flow_here","_law_n","_law_most","_law_letters_here","_law_base","_law_found","_law_k","_law_g"] ["_law_flow_here","_law_n","_law_most","_law_letters_here"] (aH Aj):=gE (by decide +kernel)
abbrev FE:Stmt:=gD 36
theorem sc_z0:FnScope ["_law_flow_here","_law_some","_law_found","_law_k","_law_j","_law_form","_law_one"] ["_law_flow_here","_law_some"] (aH FE):=gE (by decide +kernel)
abbrev Ah:Stmt:=gD 37
theorem sc_zu:FnScope ["_law_web","_law_comes","_law_order","_law_over","_law_at","_law_here","_law_k","_law_back_here","_law_there","_law_letter"] ["_law_web"] (aH Ah):=gE (by decide +kernel)
abbrev C0:Stmt:=gD 38
theorem Hn:FnScope ["_law_some","_law_most"] ["_law_some","_law_most"] (aH C0):=gE (by decide +kernel)
abbrev oQ:Stmt:=gD 39
theorem sc_law:FnScope ["_law_script","_law_flow_here","_law_n","_law_some","_law_web","_law_moved_here","_law_k","_law_further","_law_word_here","_law_own"] ["_law_script"] (aH oQ):=gE (by decide +kernel)
structure Txt(P:Program)(w:World)(K:b5)(mg:Str→Option Value)(Jw:Addr)(Jx:Addr)(Jy:Addr):Prop where
 m_Weave:mg "Weave"=some (.ref Jy)
 o_Weave:Own K Jy
 n_Weave_heads:NoAttr K Jy "heads"
 n_Weave_turns:NoAttr K Jy "turns"
 n_Weave_ways:NoAttr K Jy "ways"
 n_Weave_alike:NoAttr K Jy "alike"
 b_all:mg "all"=none
 b_enumerate:mg "enumerate"=none
 b_int:mg "int"=none
 b_len:mg "len"=none
 b_list:mg "list"=none
 b_max:mg "max"=none
 b_range:mg "range"=none
 b_reversed:mg "reversed"=none
 b_sorted:mg "sorted"=none
 b_sum:mg "sum"=none
 b_tuple:mg "tuple"=none
 b_zip:mg "zip"=none
 m_CONTRARIES:mg "CONTRARIES"=some (.ref Jw)
 t_CONTRARIES:∀ h,K.In h→StrTab P w h Jw Cd
 m_LETTERS:mg "LETTERS"=some (.ref Jx)
 t_LETTERS:∀ H,SqT K H Jx letV
section
variable {P:Program}{w:World}{K:b5}{mg:Str→Option Value}{base:Heap}{Jw:Addr}{Jx:Addr}{Jy:Addr}
theorem Hz{f:Addr}{fd:FuncData}(D:Df K mg "_law_flow" E_ ["_law_script"] f fd)(T:Txt P w K mg Jw Jx Jy):Cl P w K mg base "_law_flow" ["_law_script"] 1 (Bx K):=by
 refine D.cl (D.F.ok GH (fun vs H Q E h=>?_) (fun cdv A outer s H vs Q E hr h=>?_))
 ·obtain⟨a,ns,rfl,_⟩:=h
  rfl
 ·obtain⟨a,ns,rfl,hs,hl,k⟩:=h
  refine⟨_,(aF (aX (dB (aA (bQ (iA (K:=K) rfl) (by rfl) T.b_list boot_list (aA (pv 0) aC)) (aA aG (aA aG (aA aG (aA aG aC)))))))),?_⟩
  refine⟨_,rfl,a,_,rfl,.inl hs,fun l hl0=>⟨aK (by simp),fun fl hf=>?_⟩⟩
  have ne:l≠fl:=(aI (aB (H:=H) (a:=l) (o:=HO.lst (ns.map V.int))) hf)
  have hH:H fl=none:=by rw[aE ne.symm] at hf;exact hf
  refine k fl l _ hH ((Same.new hl0).upd' hf) ⟨ns,0,0,1,0,aB,?_,hl,by decide,by decide,by decide⟩
  rw[aE ne,aB]
theorem GC{f:Addr}{fd:FuncData}(D:Df K mg "_law_pick" Eb ["_law_flow_here","_law_many"] f fd)(T:Txt P w K mg Jw Jx Jy):Cl P w K mg base "_law_pick" ["_law_flow_here","_law_many"] 1 iH:=by
 refine D.cl (D.F.ok sc_z8 (fun vs H Q E h=>?_) (fun cdv A outer s H vs Q E hr h=>?_))
 ·obtain⟨fl,sc,m,rfl,_⟩:=h
  rfl
 ·obtain⟨fl,sc,m,rfl,hf,h0,hm,k⟩:=h
  obtain⟨ns,i,a,b,c,h1,h2,hl,hi,ha,hb⟩:=id hf
  have hne:sc≠fl:=cC h2 h1 (by intro z;cases ns with | nil=>cases z | cons n ns=>cases z)
  refine⟨_,(gB (cV (pw_and (aP fH (aQ (aN (K:=K) rfl) (pv 0) aG (fun _ _=>rfl)) aG (aS _)) (pw_and1 (aP B8 (aQ (aN (K:=K) rfl) (pv 0) aG (fun _ _=>rfl)) (aT (bB (K:=K) rfl) (by rfl) T.b_len j8 (aA (aQ (aN (K:=K) rfl) (pv 0) aG (fun _ _=>rfl)) aC)) (aS _)))).pt (aD (aL (i:=2) sc_z8.nd rfl (Or.inl rfl) (aQ (aN (K:=K) rfl) (aQ (aN (K:=K) rfl) (pv 0) aG (fun _ _=>rfl)) (aQ (aN (K:=K) rfl) (pv 0) aG (fun _ _=>rfl)) (fun _ _=>rfl)))
   (aD (dS (aZ eT (aQ (aN (K:=K) rfl) (pv 0) aG (fun _ _=>rfl)) aG) (dZ (pv 0) aG cJ))
   (aF (cV (aP GJ (pv 2) (aZ E6 aG aG) (aS _)) (aF (dS (pv 2) (dZ (pv 0) aG cJ))) (aF (dS (aZ jU (aZ eT (aZ eT (aZ iK (aQ (aN (K:=K) rfl) (pv 0) aG (fun _ _=>rfl)) aG) (aZ jU (pv 2) aG)) aG) aG) (dZ (pv 0) aG cJ))))))) bS)
   (aD (cV (aP nV (aQ (aN (K:=K) rfl) (pv 0) aG (fun _ _=>rfl)) aG (aS _)) (aD (aL (i:=3) sc_z8.nd rfl (Or.inl rfl) (aZ jU (aQ (aN (K:=K) rfl) (pv 0) aG (fun _ _=>rfl)) (pv 1)))
   (aD (dS (aZ rY (aQ (aN (K:=K) rfl) (pv 0) aG (fun _ _=>rfl)) (pv 1)) (dZ (pv 0) aG cJ))
   (aF (aX (pv 3))))) bS)
   (aD (dS (aZ eT (aQ (aN (K:=K) rfl) (pv 0) aG (fun _ _=>rfl)) aG) (dZ (pv 0) aG cJ))
   (aD (dS (aZ jU (aZ eT (aZ eT (aZ iK (aQ (aN (K:=K) rfl) (pv 0) aG (fun _ _=>rfl)) aG) aG) (aQ (aN (K:=K) rfl) (pv 0) aG (fun _ _=>rfl))) aG) (dZ (pv 0) aG cJ))
   (aF (aX (aZ jU (aZ rY (aZ jU (aZ iK (aZ eT (aZ jU (aQ (aN (K:=K) rfl) (pv 0) aG (fun _ _=>rfl)) aG) aG) (aZ eT (aZ rY (aQ (aN (K:=K) rfl) (pv 0) aG (fun _ _=>rfl)) aG) aG)) aG) aG) (pv 1)))))))),?_⟩
  refine⟨fun σ H1=>(∃ v,σ=[some (.ref fl),some (.int m),v,none])∧IsFl H1 fl sc∧Kp fl H H1,?_,?_⟩
  ·refine⟨_,rfl,fl,_,2,_,rfl,rfl,SqL.of h1,rfl,rfl,_,rfl,eM (fun e=>?_) (fun _=>eR ⟨⟨none,rfl⟩,hf,Kp.refl _ _⟩)⟩
   refine⟨_,rfl,fl,_,1,_,rfl,rfl,SqL.of h1,rfl,_,rfl,fl,_,0,_,rfl,rfl,SqL.of h1,rfl,sc,_,rfl,.inl (SqL.of h2),_,_,rfl,rfl,_,rfl,eM (fun e2=>?_) (fun _=>⟨⟨none,rfl⟩,hf,Kp.refl _ _⟩)⟩
   have hlt:i<((ns.map V.int).length:Int):=of_decide_eq_true e2
   rw[b7] at hlt
   have hil:i.toNat<ns.length:=by omega
   have hat:sX (ns.map V.int) i=some (.int ns[i.toNat]):=by
    have q:(ns.map V.int)[i.toNat]?=some (.int ns[i.toNat]):=by rw[c7,a9 hil];rfl
    have q2:=bD q
    rwa [aXv hi] at q2
   refine⟨_,rfl,fl,_,0,_,rfl,rfl,SqL.of h1,rfl,_,rfl,fl,_,1,_,rfl,rfl,SqL.of h1,rfl,sc,_,i,_,rfl,rfl,SqL.of h2,hat,?_⟩
   refine⟨_,rfl,fl,_,1,_,rfl,rfl,SqL.of h1,rfl,_,_,rfl,rfl,_,rfl,fl,_,1,1,rfl,rfl,h1,rfl,?_⟩
   refine⟨_,rfl,_,_,rfl,rfl,⟨by decide,by decide,by decide⟩,_,_,rfl,rfl,_,rfl,eM (fun e3=>?_) (fun _=>?_)⟩
   ·have hc:(10:Int) ^ (18:Int).toNat≤ns[i.toNat]:=of_decide_eq_true e3
    have hp:(0:Int)≤10 ^ (18:Int).toNat:=by decide
    refine⟨_,rfl,_,rfl,fl,_,2,2,rfl,rfl,aB,rfl,⟨_,rfl⟩,⟨ns,i+1,ns[i.toNat],b,c,aB,?_,hl,by omega,by omega,hb⟩,((Kp.refl fl H).self).self⟩
    rw[aE hne,aE hne];exact h2
   ·refine⟨_,rfl,fl,_,3,_,rfl,rfl,SqL.of aB,rfl,_,_,rfl,rfl,.inr ⟨by decide,by decide⟩,_,rfl,_,_,rfl,rfl,(by show (0:Int)<1000003;decide),_,_,rfl,rfl,_,_,rfl,rfl,_,_,rfl,rfl,(by show (0:Int)<2147483647;decide),_,rfl,fl,_,3,3,rfl,rfl,aB,rfl,⟨_,rfl⟩,⟨ns,i+1,a,_,c,aB,?_,hl,by omega,ha,aQ8 _ (by decide)⟩,((Kp.refl fl H).self).self⟩
    rw[aE hne,aE hne];exact h2
  ·rintro _ H1 ⟨⟨v,rfl⟩,⟨ns,i,a,b,c,h1,h2,hl,hi,ha,hb⟩,kp⟩
   have hne:sc≠fl:=cC h2 h1 (by intro z;cases ns with | nil=>cases z | cons n ns=>cases z)
   refine⟨_,rfl,fl,_,2,_,rfl,rfl,SqL.of h1,rfl,_,_,rfl,rfl,_,rfl,eM (fun e=>?_) (fun _=>?_)⟩
   ·refine⟨_,rfl,fl,_,2,_,rfl,rfl,SqL.of h1,rfl,_,rfl,_,_,rfl,rfl,h0,?_⟩
    refine⟨_,rfl,fl,_,2,_,rfl,rfl,SqL.of h1,rfl,_,rfl,_,_,rfl,rfl,⟨h0,hm⟩,_,rfl,fl,_,2,2,rfl,rfl,h1,rfl,?_⟩
    refine⟨_,rfl,k _ _ (aQ8 _ (by omega)) (aQb _ h0) ⟨ns,i,a / m,b,c,aB,?_,hl,hi,Int.ediv_nonneg ha (by omega),hb⟩ kp.self⟩
    rw[aE hne];exact h2
   ·refine⟨_,rfl,fl,_,4,_,rfl,rfl,SqL.of h1,rfl,_,_,rfl,rfl,_,rfl,fl,_,4,4,rfl,rfl,h1,rfl,?_⟩
    refine⟨_,rfl,fl,_,3,_,rfl,rfl,SqL.of aB,rfl,_,_,rfl,rfl,.inr ⟨by decide,by decide⟩,_,_,rfl,rfl,_,rfl,fl,_,4,_,rfl,rfl,SqL.of aB,rfl,_,_,rfl,rfl,_,_,rfl,rfl,(by show (0:Int)<2147483647;decide),_,rfl,fl,_,3,3,rfl,rfl,aB,rfl,?_⟩
    have hb3:∀ x:Int,0≤x % 2147483647∧x % 2147483647<2147483647:=fun x=>⟨aQ8 _ (by decide),aQb _ (by decide)⟩
    refine⟨_,rfl,fl,_,3,_,rfl,rfl,SqL.of aB,rfl,_,_,rfl,rfl,(by show (0:Int)<65521;decide),_,_,rfl,rfl,_,rfl,fl,_,3,_,rfl,rfl,SqL.of aB,rfl,_,_,rfl,rfl,⟨by decide,by decide⟩,_,_,rfl,rfl,_,_,rfl,rfl,.inl ⟨?_,?_⟩,_,_,rfl,rfl,(by show (0:Int)<1000003;decide),_,_,rfl,rfl,⟨by decide,by decide⟩,_,rfl,_,_,rfl,rfl,h0,?_⟩
    ·have:=aQ8 ((b * 48271+12820163+(c+1)) % 2147483647) (show (65521:Int)≠0 by decide);omega
    ·have:=aQb ((b * 48271+12820163+(c+1)) % 2147483647) (show (0:Int)<65521 by decide);omega
    ·refine k _ _ (aQ8 _ (by omega)) (aQb _ h0) ⟨ns,i,a,_,c+1,aB,?_,hl,hi,ha,(hb3 _).1⟩ kp.self.self
     rw[aE hne,aE hne];exact h2
theorem F8{f:Addr}{fd:FuncData}(D:Df K mg "_law_contrary" Fu ["_law_letter"] f fd)(T:Txt P w K mg Jw Jx Jy):Cl P w K mg base "_law_contrary" ["_law_letter"] 1 iD:=by
 refine D.cl (D.F.ok Gm (fun vs H Q E h=>?_) (fun cdv A outer s H vs Q E hr h=>?_))
 ·obtain⟨c,rfl,_⟩:=h
  rfl
 ·obtain⟨c,rfl,hc,k⟩:=h
  refine⟨_,(aD (cV (iJ (fX (K:=K) rfl o0 PySem.F.slot_str_islower PySem.F.type_str_islower wM (pv 0))) (aF (aX (fX (K:=K) rfl o0 PySem.F.slot_str_upper PySem.F.type_str_upper CF (pv 0)))) bS)
   (aF (aX (fX (K:=K) rfl o0 aQi aQj oC (pv 0))))),?_⟩
  refine⟨_,rfl,rfl,_,rfl,rfl,_,rfl,?_⟩
  dsimp only
  rw[Af hc]
  refine eM (fun e=>?_) (fun e=>?_)
  ·refine⟨_,rfl,rfl,_,rfl,rfl,?_,?_⟩
   ·rw[xZ hc e];exact Bv _
   ·rw[xZ hc e];exact k H (Same.refl H)
  ·have e':bO c=false:=by simpa using e
   refine⟨_,rfl,rfl,_,rfl,rfl,?_,?_⟩
   ·rw[xM hc e'];exact Bv _
   ·rw[xM hc e'];exact k H (Same.refl H)
theorem GL{f:Addr}{fd:FuncData}(D:Df K mg "_law_letters" Fi ["_law_n"] f fd)(T:Txt P w K mg Jw Jx Jy):Cl P w K mg base "_law_letters" ["_law_n"] 1 mC:=by
 refine D.cl (D.F.ok HI (fun vs H Q E h=>?_) (fun cdv A outer s H vs Q E hr h=>?_))
 ·obtain⟨n,rfl,_⟩:=h
  rfl
 ·obtain⟨n,rfl,h1,h4,k⟩:=h
  refine⟨_,(aF (aX (bQ (sD rfl) (by rfl) T.b_list boot_list (aA (kN xK cA kW (jC (aZ iK aG (pv 0)))) aC)))),?_⟩
  have e:Txt.slice (Str.ofString "aAbBcCdD") none (some (2 * n))=S (aJ n):=by
   rw[show Str.ofString "aAbBcCdD"=S lets by decide +kernel,pE lets (by omega) (by show (2 * n)≤(8:Int);omega)]
   rfl
  refine⟨_,rfl,_,_,rfl,rfl,.inl ⟨by decide,by decide⟩,_,rfl,_,rfl,by decide +kernel,aJ n,by rw[e],?_,fun l hl=>k l _ hl (Same.new hl) aB⟩
  rw[jF h1 h4];omega
theorem GF{f:Addr}{fd:FuncData}(D:Df K mg "_law_laid" Ev ["_law_text"] f fd)(T:Txt P w K mg Jw Jx Jy)(c_zq:Cl P w K mg base "_law_contrary" ["_law_letter"] 1 iD):Cl P w K mg base "_law_laid" ["_law_text"] 2 mH:=by
 refine D.cl (D.F.ok sc_z7 (fun vs H Q E h=>?_) (fun cdv A outer s H vs Q E hr h=>?_))
 ·obtain⟨x,rfl,_⟩:=h
  rfl
 ·obtain⟨x,rfl,hx,hlen,k⟩:=h
  refine⟨_,(aD (aL (i:=1) sc_z7.nd rfl (Or.inl rfl) (dB aC))
   (aD (cW j7 rfl (lZ (pv 0)) (bA (i:=2) sc_z7.nd rfl (Or.inl rfl)) (aF (cV (pw_and (aP nV (aT (bB (K:=K) rfl) (by rfl) T.b_len j8 (aA (pv 1) aC)) aG (aS _)) (pw_and1 (aP fH (aQ (aN (K:=K) rfl) (pv 1) (Bh wR aG) (fun _ _=>rfl)) (pC c_zq hr (aA (pv 2) aC)) (aS _)))).pt (aF (bR (fX (K:=K) rfl j6 aQ1 aQ2 B0 (pv 1)))) (aF (bR (cX (K:=K) rfl j6 m4 m6 cI (pv 1) (aA (pv 2) aC)))))))
   (aF (aX (cX (K:=K) rfl o0 aQ3 aQ4 (kD (K:=K) rfl) cA (aA (pv 1) aC)))))),?_⟩
  refine⟨aK (by simp),fun l hl=>?_⟩
  refine⟨_,rfl,S x,rfl,kU (w:=x) (fun i σ H1=>(∃ v,σ=[some (.str (S x)),some (.ref l),v])∧Same H H1∧H1 l=some (.lst (bJ (act [] (x.take i)).reverse))) ⟨⟨none,rfl⟩,Same.new hl,aB⟩ ?_ ?_⟩
  ·rintro i c σ H1 hc ⟨⟨v,rfl⟩,s1,e1⟩
   have hi:i<x.length:=(a8.mp hc).1
   have hcL:cN c:=hx c (b0 hc)
   have hn:act [] (x.take (i+1))=push (act [] (x.take i)) c:=by rw[bM hc,fQ]
   have hsz:(act [] (x.take i)).length≤60000:=by
    have:=mY (x.take i) []
    rw[i9] at this
    simp at this
    omega
   refine⟨_,rfl,l,_,rfl,.inl (SqL.of e1),_,_,rfl,rfl,_,rfl,eM (fun e=>?_) (fun e=>?_)⟩
   ·have hne:0<(act [] (x.take i)).length:=by
     have e':=of_decide_eq_true e
     rw[bI,x9] at e'
     omega
    obtain⟨y,r,hk⟩:∃ y r,act [] (x.take i)=y::r:=by
     cases hq:act [] (x.take i) with
     | nil=>rw[hq] at hne;simp at hne
     | cons y r=>exact⟨y,r,rfl⟩
    rw[hk] at e1 hn hsz
    have e2:H1 l=some (.lst (bJ r.reverse++[.str (S [y])])):=by rw[e1,o8,cO]
    refine⟨_,rfl,_,rfl,l,_,_,_,rfl,rfl,SqL.of e2,oP _ _,_,rfl,c,rfl,hcL,fun H2 s2=>⟨rfl,_,rfl,eM (fun q=>?_) (fun q=>?_)⟩⟩
    ·rw[eO] at q
     have q':y=aU c:=by simpa using q
     have hp:push (y::r) c=r:=by unfold push;dsimp only;rw[if_pos q']
     rw[hp] at hn
     refine⟨_,rfl,.inl ⟨rfl,_,SqL.of (s2 _ _ e2)⟩,l,_,_,rfl,rfl,s2 _ _ e2,by simp;rfl,⟨_,rfl⟩,(s1.trans s2).upd hl,?_⟩
     rw[aB,hn]
     simp
    ·rw[eO] at q
     have q':¬ y=aU c:=by simpa using q
     have hp:push (y::r) c=c::y::r:=by unfold push;dsimp only;rw[if_neg q']
     rw[hp] at hn
     refine⟨_,rfl,.inl ⟨rfl,_,SqL.of (s2 _ _ e2)⟩,_,rfl,l,_,_,rfl,rfl,s2 _ _ e2,?_,⟨_,rfl⟩,(s1.trans s2).upd hl,?_⟩
     ·rw[b8,bI,x9]
      rw[j1] at hsz
      have h9:r.length+1≤100000:=by omega
      exact l7 h9 (by decide)
     ·rw[aB,hn,o8,o8,cO,cO]
   ·have hk:act [] (x.take i)=[]:=by
     cases hq:act [] (x.take i) with
     | nil=>rfl
     | cons y r =>
      exfalso
      apply e
      apply decide_eq_true
      rw[bI,x9,hq]
      simp
    rw[hk] at e1 hn
    refine eR ⟨_,rfl,.inl ⟨rfl,_,SqL.of e1⟩,_,rfl,l,_,_,rfl,rfl,e1,?_,⟨_,rfl⟩,s1.upd hl,?_⟩
    ·show (0:Nat)<sizeLine;decide
    ·rw[aB,hn]
     rfl
  ·rintro σ H1 ⟨⟨v,rfl⟩,s1,e1⟩
   rw[k0] at e1
   have e2:SqL K H1 l ((lay x).map (fun c=>S [c]) |>.map V.str):=by
    rw[← mU];exact SqL.of e1
   refine⟨rfl,_,rfl,_,l,_,rfl,rfl,e2,gZ _ (k8 (eZ x) (by omega)),?_⟩
   rw[jG]
   exact k H1 s1
theorem GV{f:Addr}{fd:FuncData}(D:Df K mg "_law_word" Ds ["_law_flow_here","_law_n","_law_most"] f fd)(T:Txt P w K mg Jw Jx Jy)(c_z8:Cl P w K mg base "_law_pick" ["_law_flow_here","_law_many"] 1 iH)(c_zt:Cl P w K mg base "_law_letters" ["_law_n"] 1 mC)(c_zq:Cl P w K mg base "_law_contrary" ["_law_letter"] 1 iD):Cl P w K mg base "_law_word" ["_law_flow_here","_law_n","_law_most"] 2 xB:=by
 refine D.cl (D.F.ok sc_z5 (fun vs H Q E h=>?_) (fun cdv A outer s H vs Q E hr h=>?_))
 ·obtain⟨fl,sc,n,most,rfl,_⟩:=h
  rfl
 ·obtain⟨fl,sc,n,most,rfl,hf,h1,h4,hm,hm2,k⟩:=h
  refine⟨_,(aD (aL (i:=3) sc_z5.nd rfl (Or.inr rfl) cA)
   (aD (aL (i:=4) sc_z5.nd rfl (Or.inl rfl) (pC c_zt hr (aA (pv 1) aC)))
   (aD (cW j7 rfl (dQ (by rfl) T.b_range (aA (pC c_z8 hr (aA (pv 0) (aA (aZ eT (pv 2) aG) aC))) aC)) (bA (i:=5) sc_z5.nd rfl (Or.inl rfl)) (aD (iR (i:=6) (sc0:=aH Ds) (N:=["_law_flow_here","_law_n","_law_most","_law_found","_law_letters_here","_law_k","_law_some"]) (ix:=[3]) sc_z5.nd rfl rfl (by decide +kernel) rfl rfl rfl (cK (K:=K) rfl (pv 4)) (fun _ _ _=>kZ (pw_or (aP fH (pv 1) cA (aS _)) (pw_or1 (aP jT (pv 0) (pC c_zq hr (aA (aQ sV (pv 1) (Bh wR aG) (fun _ _=>rfl)) aC)) (aS _)))).pt) (fun _ _ _=>(pv 0)))
   (aF (aL (i:=3) sc_z5.nd rfl (Or.inr rfl) (aZ bT (pv 3) (aQ (aN (K:=K) rfl) (pv 6) (pC c_z8 hr (aA (pv 0) (aA (aT (bB (K:=K) rfl) (by rfl) T.b_len j8 (aA (pv 6) aC)) aC))) (fun _ _=>rfl)))))))
   (aF (aX (pv 3)))))),?_⟩
  refine⟨_,rfl,n,rfl,h1,h4,fun l H1 hl s1 e1=>?_⟩
  have hlf:l≠fl:=hf.ne hl
  refine⟨_,rfl,_,rfl,_,_,rfl,rfl,fl,sc,most+1,rfl,hf.same s1,by omega,by omega,fun d H2 d0 d1 f2 k2=>⟨d,rfl,by omega,by omega,?_⟩⟩
  refine eX (lo:=0) (n:=d.toNat) (fun i σ H3=>∃ (x:List Nat) (v5 v6:Option V),σ=[some (.ref fl),some (.int n),some (.int most),some (.str (S x)),some (.ref l),v5,v6]∧OfN n x∧bF x∧x.length=i∧IsFl H3 fl sc∧Kp fl H H3∧H3 l=some (.lst (bJ (aJ n)))) ?_ ?_ ?_
  ·refine⟨[],none,none,?_,fun c hc=>(nomatch hc),trivial,rfl,f2,(s1.kp).trans k2,k2 _ _ e1 hlf⟩
   rw[← kS];rfl
  ·rintro i _ H3 hi ⟨x,v5,v6,rfl,ho,hp,hxl,f3,k3,e3⟩
   have hxd:(x.length:Int)<most+1:=by omega
   refine⟨_,rfl,l,rfl,⟨_,SqL.of e3⟩,fun Dd hD=>cG (xs:=bJ (aJ n)) (fun j H4=>Same H3 H4∧H4 Dd=some (.lst (bJ (((aJ n).take j).filter (mX x))))) ⟨Same.new hD,aB⟩ (fun j H4 _ p=>SqL.of (p.1 _ _ e3)) ?_ ?_⟩
   ·rintro j y H4 hy ⟨s4,e4⟩
    obtain⟨c,hc,rfl⟩:∃ c,(aJ n)[j]?=some c∧y=.str (S [c]):=by
     unfold bJ at hy
     rw[c7] at hy
     cases hq:(aJ n)[j]? with
     | none=>rw[hq] at hy;cases hy
     | some c=>rw[hq] at hy;exact⟨c,rfl,(d6 hy).symm⟩
    have hcL:cN c:=aV (b0 hc)
    have ht:((aJ n).take (j+1)).filter (mX x)=((aJ n).take j).filter (mX x)++(if mX x c then [c] else []):=take_succ_filter (mX x) (aJ n) j c hc
    have hsz:(((aJ n).take j).filter (mX x)).length≤100:=by
     have q1:=u0 (mX x) ((aJ n).take j)
     have q2:((aJ n).take j).length≤(aJ n).length:=by rw[i9];omega
     rw[jF h1 h4] at q2
     omega
    have app:mX x c=true→∀ H5,Same H4 H5→∃ ys,H5 Dd=some (.lst ys)∧ys.length<sizeLine∧Same H3 (upd H5 Dd (.lst (ys++[.str (S [c])])))∧upd H5 Dd (.lst (ys++[.str (S [c])])) Dd=some (.lst (bJ (((aJ n).take (j+1)).filter (mX x)))):=fun ok H5 s5=>by
     refine⟨_,s5 _ _ e4,?_,(s4.trans s5).upd hD,?_⟩
     ·rw[bI];exact aR (by omega)
     ·rw[aB,ht,ok]
      show some (HO.lst _)=some (HO.lst (bJ (_++[c])))
      rw[cO]
    refine⟨_,rfl,rfl,_,rfl,eM (fun e=>?_) (fun e=>?_)⟩
    ·rw[kS,eO] at e
     have e':x=[]:=by simpa using e
     refine jJ ⟨_,rfl,app (by rw[e'];rfl) H4 (Same.refl _)⟩
    ·rw[kS,eO] at e
     have e':x≠[]:=by simpa using e
     obtain⟨u,z,rfl⟩:∃ u z,x=u++[z]:=⟨x.dropLast,x.getLast e',(aQB e').symm⟩
     have hz:cN z:=aV (ho z (by simp))
     refine⟨_,rfl,_,rfl,_,rfl,_,_,z,rfl,rfl,by rw[bG];exact aK (by simp at hxd ⊢;omega),by rw[IH];exact oP u z,z,rfl,hz,fun H5 s5=>⟨rfl,_,rfl,?_⟩⟩
     rw[eO]
     have ok:mX (u++[z]) c=!decide ([c]=[aU z]):=by
      unfold mX
      simp
     rw[← ok]
     refine eM (fun q=>⟨_,rfl,app q H5 s5⟩) (fun q=>⟨s4.trans s5,?_⟩)
     have q':mX (u++[z]) c=false:=by simpa using q
     rw[s5 _ _ e4,ht,q']
     simp
   ·rintro H4 ⟨s4,e4⟩
    rw[bI,k0] at e4
    have hpos:=DN (x:=x) h1 h4
    have hsz:((aJ n).filter (mX x)).length≤8:=by
     have q1:=u0 (mX x) (aJ n)
     rw[jF h1 h4] at q1
     omega
    have hDf:Dd≠fl:=f3.ne hD
    refine⟨_,rfl,_,rfl,_,rfl,_,rfl,Dd,_,rfl,.inl (SqL.of e4),fl,sc,_,rfl,f3.same s4,?_,?_,fun g H5 g0 g1 f5 k5=>?_⟩
    ·rw[bI];omega
    ·rw[bI];omega
    rw[bI] at g1
    have hg:g.toNat<((aJ n).filter (mX x)).length:=by omega
    have hmem:=aQM hg
    have hat:sX (bJ ((aJ n).filter (mX x))) g=some (.str (S [((aJ n).filter (mX x))[g.toNat]])):=rV g0 (uT (a9 hg))
    generalize ((aJ n).filter (mX x))[g.toNat]=c at hat hmem
    obtain⟨hm1,hm2⟩:=x8.mp hmem
    refine⟨Dd,_,g,_,rfl,rfl,SqL.of (k5 _ _ e4 hDf),hat,_,_,rfl,rfl,?_,?_⟩
    ·rw[bG,bG];exact aK (by simp;omega)
    ·rw[fP]
     refine⟨x++[c],_,_,rfl,?_,AJ (OfN.all ho) (aV hm1) hp hm2,?_,f5,(k3.trans s4.kp).trans k5,k5 _ _ (s4 _ _ e3) hlf⟩
     ·intro c' hc'
      rcases i8.mp hc' with q | q
      ·exact ho c' q
      ·rw[c5.mp q];exact hm1
     ·rw[b8,hxl];rfl
  ·rintro _ H3 ⟨x,v5,v6,rfl,ho,hp,hxl,f3,k3,e3⟩
   exact⟨_,rfl,k x H3 ho hp (by omega) f3 k3⟩
theorem GZ{f:Addr}{fd:FuncData}(D:Df K mg "_law_back" DL ["_law_word_here"] f fd)(T:Txt P w K mg Jw Jx Jy)(c_zq:Cl P w K mg base "_law_contrary" ["_law_letter"] 1 iD):Cl P w K mg base "_law_back" ["_law_word_here"] 2 lF:=by
 refine D.cl (D.F.ok GQ (fun vs H Q E h=>?_) (fun cdv A outer s H vs Q E hr h=>?_))
 ·obtain⟨x,rfl,_⟩:=h
  rfl
 ·obtain⟨x,rfl,hx,hlen,k⟩:=h
  refine⟨_,(aF (aX (cX (K:=K) rfl o0 aQ3 aQ4 (kD (K:=K) rfl) cA (aA (cL (sc0:=aH DL) (N:=["_law_word_here"]) (ix:=[]) (by decide +kernel) rfl rfl rfl (E4 (by rfl) T.b_reversed (aA (pv 0) aC)) (fun _ _ _=>cB) (fun _ _ _=>(pC c_zq hr (aA (pv 0) aC)))) aC)))),?_⟩
  refine⟨rfl,_,rfl,S x,rfl,by rw[bG];exact hlen,fun Dd hD=>?_⟩
  refine oR (w:=x) (fun i H1=>Same H H1∧H1 Dd=some (.lst (bJ ((x.reverse.take i).map aU)))) ⟨Same.new hD,aB⟩ ?_ ?_
  ·rintro i c H1 hc ⟨s1,e1⟩
   have hcL:cN c:=hx c (aQ6.mp (b0 hc))
   have hi:i<x.length:=by have:=(a8.mp hc).1;simpa using this
   refine⟨_,rfl,c,rfl,hcL,fun H2 s2=>⟨_,s2 _ _ e1,?_,(s1.trans s2).upd hD,?_⟩⟩
   ·rw[bI,b7,i9];exact aR (by omega)
   ·rw[aB,bM hc,g9,← cO];rfl
  ·rintro H1 ⟨s1,e1⟩
   have eb:(x.reverse.take x.length).map aU=back x:=by
    rw[t4 (by simp)]
    unfold back
    rw[aXZ]
   rw[eb] at e1
   have e2:SqL K H1 Dd (((back x).map fun c=>S [c]).map V.str):=by rw[← mU];exact SqL.of e1
   refine⟨_,Dd,_,rfl,rfl,e2,gZ _ (by rw[bW];omega),?_⟩
   rw[jG]
   exact k H1 s1
theorem FY{f:Addr}{fd:FuncData}(D:Df K mg "contrary" Fj ["letter"] f fd)(T:Txt P w K mg Jw Jx Jy):Cl P w K mg base "contrary" ["letter"] 1 iD:=by
 refine D.cl (D.F.ok Hf (fun vs H Q E h=>?_) (fun cdv A outer s H vs Q E hr h=>?_))
 ·obtain⟨c,rfl,_⟩:=h
  rfl
 ·obtain⟨c,rfl,hc,k⟩:=h
  refine⟨_,(aF (aX (aQ (EQ T.t_CONTRARIES) (nA (v:=.ref Jw) (by rfl) T.m_CONTRARIES rfl) (pv 0) (fun _ _=>rfl)))),?_⟩
  exact⟨_,rfl,rfl,_,rfl,.inl ⟨_,uI hc,k H (Same.refl H)⟩⟩
theorem Hg{f:Addr}{fd:FuncData}(D:Df K mg "laid_out" Ex ["text"] f fd)(T:Txt P w K mg Jw Jx Jy)(c_z2:Cl P w K mg base "contrary" ["letter"] 1 iD):Cl P w K mg base "laid_out" ["text"] 2 mH:=by
 refine D.cl (D.F.ok sc_z4 (fun vs H Q E h=>?_) (fun cdv A outer s H vs Q E hr h=>?_))
 ·obtain⟨x,rfl,_⟩:=h
  rfl
 ·obtain⟨x,rfl,hx,hlen,k⟩:=h
  refine⟨_,(aD (aL (i:=1) sc_z4.nd rfl (Or.inl rfl) (dB aC))
   (aD (cW j7 rfl (lZ (pv 0)) (bA (i:=2) sc_z4.nd rfl (Or.inl rfl)) (aF (cV (pw_and (aP nV (aT (bB (K:=K) rfl) (by rfl) T.b_len j8 (aA (pv 1) aC)) aG (aS _)) (pw_and1 (aP fH (aQ (aN (K:=K) rfl) (pv 1) (Bh wR aG) (fun _ _=>rfl)) (pC c_z2 hr (aA (pv 2) aC)) (aS _)))).pt (aF (bR (fX (K:=K) rfl j6 aQ1 aQ2 B0 (pv 1)))) (aF (bR (cX (K:=K) rfl j6 m4 m6 cI (pv 1) (aA (pv 2) aC)))))))
   (aF (aX (cX (K:=K) rfl o0 aQ3 aQ4 (kD (K:=K) rfl) cA (aA (pv 1) aC)))))),?_⟩
  refine⟨aK (by simp),fun l hl=>?_⟩
  refine⟨_,rfl,S x,rfl,kU (w:=x) (fun i σ H1=>(∃ v,σ=[some (.str (S x)),some (.ref l),v])∧Same H H1∧H1 l=some (.lst (bJ (act [] (x.take i)).reverse))) ⟨⟨none,rfl⟩,Same.new hl,aB⟩ ?_ ?_⟩
  ·rintro i c σ H1 hc ⟨⟨v,rfl⟩,s1,e1⟩
   have hi:i<x.length:=(a8.mp hc).1
   have hcL:cN c:=hx c (b0 hc)
   have hn:act [] (x.take (i+1))=push (act [] (x.take i)) c:=by rw[bM hc,fQ]
   have hsz:(act [] (x.take i)).length≤60000:=by
    have:=mY (x.take i) []
    rw[i9] at this
    simp at this
    omega
   refine⟨_,rfl,l,_,rfl,.inl (SqL.of e1),_,_,rfl,rfl,_,rfl,eM (fun e=>?_) (fun e=>?_)⟩
   ·have hne:0<(act [] (x.take i)).length:=by
     have e':=of_decide_eq_true e
     rw[bI,x9] at e'
     omega
    obtain⟨y,r,hk⟩:∃ y r,act [] (x.take i)=y::r:=by
     cases hq:act [] (x.take i) with
     | nil=>rw[hq] at hne;simp at hne
     | cons y r=>exact⟨y,r,rfl⟩
    rw[hk] at e1 hn hsz
    have e2:H1 l=some (.lst (bJ r.reverse++[.str (S [y])])):=by rw[e1,o8,cO]
    refine⟨_,rfl,_,rfl,l,_,_,_,rfl,rfl,SqL.of e2,oP _ _,_,rfl,c,rfl,hcL,fun H2 s2=>⟨rfl,_,rfl,eM (fun q=>?_) (fun q=>?_)⟩⟩
    ·rw[eO] at q
     have q':y=aU c:=by simpa using q
     have hp:push (y::r) c=r:=by unfold push;dsimp only;rw[if_pos q']
     rw[hp] at hn
     refine⟨_,rfl,.inl ⟨rfl,_,SqL.of (s2 _ _ e2)⟩,l,_,_,rfl,rfl,s2 _ _ e2,by simp;rfl,⟨_,rfl⟩,(s1.trans s2).upd hl,?_⟩
     rw[aB,hn]
     simp
    ·rw[eO] at q
     have q':¬ y=aU c:=by simpa using q
     have hp:push (y::r) c=c::y::r:=by unfold push;dsimp only;rw[if_neg q']
     rw[hp] at hn
     refine⟨_,rfl,.inl ⟨rfl,_,SqL.of (s2 _ _ e2)⟩,_,rfl,l,_,_,rfl,rfl,s2 _ _ e2,?_,⟨_,rfl⟩,(s1.trans s2).upd hl,?_⟩
     ·rw[b8,bI,x9]
      rw[j1] at hsz
      have h9:r.length+1≤100000:=by omega
      exact l7 h9 (by decide)
     ·rw[aB,hn,o8,o8,cO,cO]
   ·have hk:act [] (x.take i)=[]:=by
     cases hq:act [] (x.take i) with
     | nil=>rfl
     | cons y r =>
      exfalso
      apply e
      apply decide_eq_true
      rw[bI,x9,hq]
      simp
    rw[hk] at e1 hn
    refine eR ⟨_,rfl,.inl ⟨rfl,_,SqL.of e1⟩,_,rfl,l,_,_,rfl,rfl,e1,?_,⟨_,rfl⟩,s1.upd hl,?_⟩
    ·show (0:Nat)<sizeLine;decide
    ·rw[aB,hn]
     rfl
  ·rintro σ H1 ⟨⟨v,rfl⟩,s1,e1⟩
   rw[k0] at e1
   have e2:SqL K H1 l ((lay x).map (fun c=>S [c]) |>.map V.str):=by
    rw[← mU];exact SqL.of e1
   refine⟨rfl,_,rfl,_,l,_,rfl,rfl,e2,gZ _ (k8 (eZ x) (by omega)),?_⟩
   rw[jG]
   exact k H1 s1
theorem FW{f:Addr}{fd:FuncData}(D:Df K mg "turned_back" DE ["word"] f fd)(T:Txt P w K mg Jw Jx Jy)(c_z2:Cl P w K mg base "contrary" ["letter"] 1 iD):Cl P w K mg base "turned_back" ["word"] 2 kJ:=by
 refine D.cl (D.F.ok GO (fun vs H Q E h=>?_) (fun cdv A outer s H vs Q E hr h=>?_))
 ·obtain⟨x,rfl,_⟩:=h
  rfl
 ·obtain⟨x,rfl,hx,hlen,k⟩:=h
  refine⟨_,(aF (aX (cX (K:=K) rfl o0 aQ3 aQ4 (kD (K:=K) rfl) cA (aA (cL (sc0:=aH DE) (N:=["word"]) (ix:=[]) (by decide +kernel) rfl rfl rfl (CT (by rfl) T.b_reversed (aA (pv 0) aC)) (fun _ _ _=>cB) (fun _ _ _=>(pC c_z2 hr (aA (pv 0) aC)))) aC)))),?_⟩
  refine⟨rfl,_,rfl,S x,rfl,by rw[bG];exact hlen,fun Dd hD=>?_⟩
  refine oR (w:=x) (fun i H1=>Same H H1∧H1 Dd=some (.lst (bJ ((x.reverse.take i).map aU)))) ⟨Same.new hD,aB⟩ ?_ ?_
  ·rintro i c H1 hc ⟨s1,e1⟩
   have hcL:cN c:=hx c (aQ6.mp (b0 hc))
   have hi:i<x.length:=by have:=(a8.mp hc).1;simpa using this
   refine⟨_,rfl,c,rfl,hcL,fun H2 s2=>⟨_,s2 _ _ e1,?_,(s1.trans s2).upd hD,?_⟩⟩
   ·rw[bI,b7,i9];exact l7 (show _≤60000 by omega) (by decide)
   ·rw[aB,bM hc,g9,← cO];rfl
  ·rintro H1 ⟨s1,e1⟩
   have eb:(x.reverse.take x.length).map aU=back x:=by
    rw[t4 (by simp)]
    unfold back
    rw[aXZ]
   rw[eb] at e1
   have e2:SqL K H1 Dd (((back x).map fun c=>S [c]).map V.str):=by rw[← mU];exact SqL.of e1
   refine⟨_,Dd,_,rfl,rfl,e2,gZ _ (by rw[bW];omega),?_⟩
   rw[jG]
   exact k H1 s1
theorem EN{f:Addr}{fd:FuncData}(D:Df K mg "joined" A5 ["one","other"] f fd)(T:Txt P w K mg Jw Jx Jy)(c_z4:Cl P w K mg base "laid_out" ["text"] 2 mH):Cl P w K mg base "joined" ["one","other"] 3 kP:=by
 refine D.cl (D.F.ok E8 (fun vs H Q E h=>?_) (fun cdv A outer s H vs Q E hr h=>?_))
 ·obtain⟨u,x,rfl,_⟩:=h
  rfl
 ·obtain⟨u,x,rfl,hu,hx,hlen,k⟩:=h
  refine⟨_,(aF (aX (pC c_z4 hr (aA (aZ bT (pv 0) (pv 1)) aC)))),?_⟩
  refine⟨_,rfl,_,rfl,_,_,rfl,rfl,by rw[bG,bG];exact aK (by omega),u++x,by rw[fP];rfl,AllL.app.mpr ⟨hu,hx⟩,by rw[b8];omega,k⟩
theorem Gw{f:Addr}{fd:FuncData}(D:Df K mg "letters_of" Et ["n"] f fd)(T:Txt P w K mg Jw Jx Jy):Cl P w K mg base "letters_of" ["n"] 1 (Bt K):=by
 refine D.cl (D.F.ok Gx (fun vs H Q E h=>?_) (fun cdv A outer s H vs Q E hr h=>?_))
 ·obtain⟨n,rfl,_⟩:=h
  rfl
 ·obtain⟨n,rfl,h1,h4,k⟩:=h
  refine⟨_,(aF (aX (kN (Dt (K:=K) rfl) (nA (v:=.ref Jx) (by rfl) T.m_LETTERS rfl) kW (jC (aZ iK aG (pv 0)))))),?_⟩
  refine⟨_,rfl,_,_,rfl,rfl,.inl ⟨by decide,by decide⟩,_,rfl,Jx,letV,2 * n,rfl,T.t_LETTERS _,rfl,?_,?_,fun _ p hp=>?_,fun e=>?_⟩
  ·show some (2 * ((n:Nat):Int))=_;congr 1
  ·rw[tD];omega
  ·exact k p _ (Same.new hp) (by rw[← pZ h1 h4];exact SqT.of aB)
  ·refine k _ _ (Same.refl H) ?_
   rw[← pZ h1 h4,t4 (by omega)]
   exact T.t_LETTERS _
theorem Ho{f:Addr}{fd:FuncData}(D:Df K mg "first_letters" Fh ["n"] f fd)(T:Txt P w K mg Jw Jx Jy):Cl P w K mg base "first_letters" ["n"] 1 kF:=by
 refine D.cl (D.F.ok HJ (fun vs H Q E h=>?_) (fun cdv A outer s H vs Q E hr h=>?_))
 ·obtain⟨n,rfl,_⟩:=h
  rfl
 ·obtain⟨n,rfl,h1,h4,k⟩:=h
  refine⟨_,(aF (aX (AA (Cy (K:=K) rfl) (nA (v:=.ref Jx) (by rfl) T.m_LETTERS rfl) kW (jC (aZ iK aG (pv 0))) (jC aG)))),?_⟩
  refine⟨_,rfl,_,_,rfl,rfl,.inl ⟨by decide,by decide⟩,_,rfl,_,rfl,Jx,letV,2 * n,rfl,T.t_LETTERS _,rfl,?_,rfl,?_,fun p hp=>?_⟩
  ·show some (2 * ((n:Nat):Int))=_;congr 1
  ·rw[tD];omega
  ·rw[Ar h1 h4]
   exact k p _ hp (Same.new hp) aB
theorem FI{f:Addr}{fd:FuncData}(D:Df K mg "_wall" Ca ["k"] f fd)(T:Txt P w K mg Jw Jx Jy):Cl P w K mg base "_wall" ["k"] 1 HD:=by
 refine D.cl (D.F.ok EA (fun vs H Q E h=>?_) (fun cdv A outer s H vs Q E hr h=>?_))
 ·exact h.elim
 ·exact h.elim
theorem GD{f:Addr}{fd:FuncData}(D:DfM K Jy "round_told" "Weave.round_told" Ej ["self","letter"] f fd)(T:Txt P w K mg Jw Jx Jy):mT P w K mg base Jy "round_told" ["self","letter"] 1 HD:=by
 refine D.cl (D.F.ok FU (fun vs H Q E h=>?_) (fun cdv A outer s H vs Q E hr h=>?_))
 ·exact h.elim
 ·exact h.elim
theorem FZ{f:Addr}{fd:FuncData}(D:DfM K Jy "__init__" "Weave.__init__" FG ["self"] f fd)(T:Txt P w K mg Jw Jx Jy):mT P w K mg base Jy "__init__" ["self"] 1 (tL Jy):=by
 refine D.cl (D.F.ok FV (fun vs H Q E h=>?_) (fun cdv A outer s H vs Q E hr h=>?_))
 ·obtain⟨p,dx,rfl,_⟩:=h
  rfl
 ·obtain⟨p,dx,rfl,hp,k⟩:=h
  refine⟨_,(aD (nG (K:=K) rfl (pv 0) (dB (aA aG aC)) rfl)
   (aD (nG (K:=K) rfl (pv 0) (dB (aA cA aC)) rfl)
   (aD (nG (K:=K) rfl (pv 0) (dB (aA tJ aC)) rfl)
   (aF (nG (K:=K) rfl (pv 0) (dB aC) rfl))))),?_⟩
  refine⟨by decide,fun q1 h1=>?_⟩
  have F1:=mQ (HO.lst [.int 0]) (.ins Jy dx (fE "heads" (.ref q1) [])) hp h1
  refine⟨_,rfl,p,Jy,dx,[],rfl,gL _ hp h1,T.o_Weave.cl,T.n_Weave_heads,(by show 0<1000;decide),?_⟩
  refine⟨by decide,fun q2 h2=>?_⟩
  have F2:=mQ (HO.lst [.str (S [])]) (.ins Jy dx (fE "turns" (.ref q2) (fE "heads" (.ref q1) []))) F1.1 h2
  refine⟨_,rfl,p,Jy,dx,_,rfl,gL _ F1.1 h2,T.o_Weave.cl,T.n_Weave_turns,(by show 1<1000;decide),?_⟩
  intro d hd
  have hpd:=gL (.dK []) F2.1 hd
  refine⟨(by show 1≤sizeLine;decide),fun q3 h3=>?_⟩
  have F3:=mQ (HO.lst [.ref d]) (.ins Jy dx (fE "ways" (.ref q3) (fE "turns" (.ref q2) (fE "heads" (.ref q1) [])))) hpd h3
  refine⟨_,rfl,p,Jy,dx,_,rfl,gL _ hpd h3,T.o_Weave.cl,T.n_Weave_ways,(by show 2<1000;decide),?_⟩
  refine⟨by decide,fun q4 h4=>?_⟩
  have F4:=mQ (HO.lst []) (.ins Jy dx (wf q1 q2 q3 q4)) F3.1 h4
  refine⟨_,rfl,p,Jy,dx,_,rfl,gL _ F3.1 h4,T.o_Weave.cl,T.n_Weave_alike,(by show 3<1000;decide),?_⟩
  have n1:q1≠p:=(aI hp h1).symm
  have n2:q2≠p:=(aI F1.1 h2).symm
  have n3:d≠p:=(aI F2.1 hd).symm
  have n4:q3≠p:=(aI hpd h3).symm
  have m1:∀ {x:Addr},x≠p→(∀ o,H x=some o→False)→H x=none:=fun {x} _ z=>by
   cases e:H x with
   | none=>rfl
   | some o=>exact(z o e).elim
  have z1:H q1=none:=h1
  have s1:∀ b o,H b=some o→b≠p→_:=fun b o e hb=>F1.2.2 b o e hb
  have s2:∀ b o,H b=some o→b≠p→_:=fun b o e hb=>F2.2.2 b o (s1 b o e hb) hb
  have s3:∀ b o,H b=some o→b≠p→_:=fun b o e hb=>gL (.dK []) (s2 b o e hb) hd
  have s4:∀ b o,H b=some o→b≠p→_:=fun b o e hb=>F3.2.2 b o (s3 b o e hb) hb
  have kp:∀ b o,H b=some o→b≠p→_:=fun b o e hb=>F4.2.2 b o (s4 b o e hb) hb
  have e1:=F4.2.2 _ _ (F3.2.2 _ _ (gL (.dK []) (F2.2.2 _ _ F1.2.1 n1) hd) n1) n1
  have e2:=F4.2.2 _ _ (F3.2.2 _ _ (gL (.dK []) F2.2.1 hd) n2) n2
  have e3:=F4.2.2 _ _ F3.2.1 n4
  have ed:=F4.2.2 _ _ (F3.2.2 _ _ aB n3) n3
  refine k [q1,q2,q3,q4,d] _ (fun x hx=>?_) ⟨dx,q1,q2,q3,q4,[d],[],rfl,⟨?_,F4.1,e1,e2,e3,F4.2.1,rfl,fun i d' es h1' h2'=>?_,rfl,fun j a' e h1' h2'=>(by simp at h1')⟩⟩ kp
  ·simp only [c6,n9,or_false] at hx
   rcases hx with rfl | rfl | rfl | rfl | rfl
   ·exact h1
   ·exact m1 n2 fun o e=>by have:=h2.symm.trans (s1 _ o e n2);cases this
   ·exact m1 n4 fun o e=>by have:=h3.symm.trans (s3 _ o e n4);cases this
   ·have n5:x≠p:=(aI F3.1 h4).symm
    exact m1 n5 fun o e=>by have:=h4.symm.trans (s4 _ o e n5);cases this
   ·exact m1 n3 fun o e=>by have:=hd.symm.trans (s2 _ o e n3);cases this
  ·have v1:(HO.lst [V.int 0])≠.lst [.str (S [])]:=by intro z;cases z
   have v2:(HO.lst [V.int 0])≠.lst [.ref d]:=by intro z;cases z
   have v3:(HO.lst [V.int 0])≠.lst []:=by intro z;cases z
   have v4:(HO.lst [V.str (S [])])≠.lst [.ref d]:=by intro z;cases z
   have v5:(HO.lst [V.str (S [])])≠.lst []:=by intro z;cases z
   have v6:(HO.lst [V.ref d])≠.lst []:=by intro z;cases z
   have w1:=cC e1 e2 v1
   have w2:=cC e1 e3 v2
   have w3:=cC e1 F4.2.1 v3
   have w4:=cC e1 ed (by intro z;cases z)
   have w5:=cC e2 e3 v4
   have w6:=cC e2 F4.2.1 v5
   have w7:=cC e2 ed (by intro z;cases z)
   have w8:=cC e3 F4.2.1 v6
   have w9:=cC e3 ed (by intro z;cases z)
   have w10:=cC F4.2.1 ed (by intro z;cases z)
   simp[w1,w2,w3,w4,w5,w6,w7,w8,w9,w10]
  ·cases i with
   | zero =>
    have q1':d=d':=by simpa using h1'
    have q2':([]:List rW)=es:=by simpa [GN] using h2'
    subst q1' q2'
    exact⟨[],ed,.nil⟩
   | succ i=>simp at h1'
theorem F6{f:Addr}{fd:FuncData}(D:DfM K Jy "end_of" "Weave.end_of" EF ["self","place","told"] f fd)(T:Txt P w K mg Jw Jx Jy)(c_zd1:Cl P w K mg base "joined" ["one","other"] 3 kP):mT P w K mg base Jy "end_of" ["self","place","told"] 4 (vW Jy):=by
 refine D.cl (D.F.ok sc_zs (fun vs H Q E h=>?_) (fun cdv A outer s H vs Q E hr h=>?_))
 ·obtain⟨_,_,_,_,_,p,M,Z,i,x,rfl,_⟩:=h
  rfl
 ·obtain⟨hf,φ,ρ,rk,L,p,M,Z,i,x,rfl,hW,I,hL,hi,hx,hxp,hxl,k⟩:=h
  refine⟨_,(aD (iO j7 (aP jT (aQ (aN (K:=K) rfl) (bU (K:=K) rfl (pv 0) rfl) (pv 1) (fun _ _=>rfl)) (pv 1) (aS _)) (aD (aL (i:=3) sc_zs.nd rfl (Or.inl rfl) (aQ (aN (K:=K) rfl) (bU (K:=K) rfl (pv 0) rfl) (pv 1) (fun _ _=>rfl)))
   (aD (dS (pC c_zd1 hr (aA (aQ (aN (K:=K) rfl) (bU (K:=K) rfl (pv 0) rfl) (pv 1) (fun _ _=>rfl)) (aA (aQ (aN (K:=K) rfl) (bU (K:=K) rfl (pv 0) rfl) (pv 3) (fun _ _=>rfl)) aC))) (dZ (bU (K:=K) rfl (pv 0) rfl) (pv 1) cJ))
   (aD (dS (aQ (aN (K:=K) rfl) (bU (K:=K) rfl (pv 0) rfl) (pv 3) (fun _ _=>rfl)) (dZ (bU (K:=K) rfl (pv 0) rfl) (pv 1) cJ))
   (aD (aL (i:=2) sc_zs.nd rfl (Or.inl rfl) (pC c_zd1 hr (aA (pv 2) (aA (aQ (aN (K:=K) rfl) (bU (K:=K) rfl (pv 0) rfl) (pv 1) (fun _ _=>rfl)) aC))))
   (aF (aL (i:=1) sc_zs.nd rfl (Or.inl rfl) (aQ (aN (K:=K) rfl) (bU (K:=K) rfl (pv 0) rfl) (pv 1) (fun _ _=>rfl)))))))))
   (aF (aX (eF (aA (pv 1) (aA (pv 2) aC)))))),?_⟩
  refine⟨fun m σ H'=>∃ (j:Nat) (Z':WvS) (y:List Nat) (v3:Option V),m=rk j∧σ=[some (.ref p),some (.int (j:Nat)),some (.str (S y)),v3]∧Kept Jy hf φ ρ rk L p M H H' Z Z'∧j<Z.hs.length∧ρ j=ρ i∧AllL y∧y=lay (x++(back (φ i)++φ j)),⟨rk i,i,Z,x,none,rfl,rfl,⟨hW,I,rfl,rfl,rfl,FrW.refl _ _⟩,hi,rfl,hx,?_⟩,?_⟩
  ·rw[← eQ x _ hx (AllL.app.mpr ⟨aO (I.fa i).1,(I.fa i).1⟩),iZ (I.fa i).1,o6,hxp]
  rintro m _ H1 ⟨j,Z1,y,v3,rfl,rfl,K1,hj,hρ,hy,hye⟩
  obtain⟨dx,hd,tn,wy,al,ds,as,hM,w1⟩:=id K1.at'
  have I1:=K1.wi
  have hj1:j<Z1.hs.length:=by rw[K1.ln];exact hj
  obtain⟨a,ha⟩:∃ a,Z1.hs[j]?=some a:=⟨_,a9 hj1⟩
  obtain⟨a1,a2,a3,a4⟩:=I1.hd j a ha
  refine⟨_,rfl,p,Jy,dx,_,_,rfl,w1.ob,T.o_Weave.cl,T.n_Weave_heads,fF _ _ _ _,_,rfl,hd,_,_,_,rfl,rfl,SqL.of w1.hh,bD (jE ha),_,rfl,rfl,_,rfl,?_⟩
  by_cases hja:a=j
  ·subst hja
   rw[show decide (V.int ((a:Nat):Int)=V.int ((a:Nat):Int))=true from decide_eq_true rfl]
   refine eR ?_
   have hr:ρ i=a:=by rw[← hρ];exact a4 rfl
   refine⟨_,rfl,_,rfl,(by show 2≤sizeLine;decide),fun t ht=>?_⟩
   have s2:=Same.new (o:=HO.tup [.int ((a:Nat):Int),.str (S y)]) ht
   refine k t _ Z1 ⟨K1.at'.same s2,I1,K1.ws,K1.al,K1.ln,fun b o e n=>s2 _ _ (K1.fr b o e n)⟩ ?_
   rw[aB,hr,← hye]
  ·rw[show decide (V.int ((a:Nat):Int)=V.int ((j:Nat):Int))=false from decide_eq_false (fun z=>hja (by have:=V.int.inj z;omega))]
   refine jJ ?_
   refine⟨fun σ' H'=>∃ (j':Nat) (Z':WvS) (y':List Nat) (v3:Option V),rk j' < rk j∧σ'=[some (.ref p),some (.int (j':Nat)),some (.str (S y')),v3]∧Kept Jy hf φ ρ rk L p M H H' Z Z'∧j' < Z.hs.length∧ρ j'=ρ i∧AllL y'∧y'=lay (x++(back (φ i)++φ j')),fun σ' H' ⟨j',Z',y',v3,q0,q1⟩=>⟨rk j',q0,j',Z',y',v3,rfl,q1⟩,?_⟩
   have ha1:a<Z1.hs.length:=a1
   obtain⟨b,hb⟩:∃ b,Z1.hs[a]?=some b:=⟨_,a9 ha1⟩
   obtain⟨t,ht⟩:∃ t,Z1.ts[j]?=some t:=⟨_,a9 (by rw[I1.lt];exact hj1)⟩
   obtain⟨u,hu⟩:∃ u,Z1.ts[a]?=some u:=⟨_,a9 (by rw[I1.lt];exact ha1)⟩
   obtain⟨I2,et,hrb,hρb⟩:=I1.comp ha hja hb ht hu
   obtain⟨tA,tl⟩:AllL t∧t.length≤2 * L:=by rw[I1.tn j a t ha ht];exact hZ I1 j a
   obtain⟨uA,ul⟩:AllL u∧u.length≤2 * L:=by rw[I1.tn a b u hb hu];exact hZ I1 a b
   refine⟨_,rfl,p,Jy,dx,_,_,rfl,w1.ob,T.o_Weave.cl,T.n_Weave_heads,fF _ _ _ _,_,rfl,hd,_,_,_,rfl,rfl,SqL.of w1.hh,bD (jE ha),?_⟩
   refine⟨_,rfl,p,Jy,dx,_,_,rfl,w1.ob,T.o_Weave.cl,T.n_Weave_turns,gH _ _ _ _,_,rfl,tn,_,_,_,rfl,rfl,SqL.of w1.ht,bD (eU ht),?_⟩
   refine⟨_,rfl,p,Jy,dx,_,_,rfl,w1.ob,T.o_Weave.cl,T.n_Weave_turns,gH _ _ _ _,_,rfl,tn,_,_,_,rfl,rfl,SqL.of w1.ht,bD (eU hu),?_⟩
   refine⟨t,u,rfl,tA,uA,by omega,fun H2 s2=>?_⟩
   have w2:=w1.same s2
   refine⟨_,rfl,p,Jy,dx,_,_,rfl,w2.ob,T.o_Weave.cl,T.n_Weave_turns,gH _ _ _ _,_,rfl,tn,_,_,j,rfl,rfl,w2.ht,pF (by omega) (by rw[aM,I1.lt];omega),?_⟩
   rw[iB]
   have w3:=w2.upTn (Z1.ts.set j (lay (t++u)))
   have f3:FrW M H2 (upd H2 tn (.lst (bE (Z1.ts.set j (lay (t++u)))))):=by rw[hM];exact WvC.put1 (by simp)
   generalize upd H2 tn (.lst (bE (Z1.ts.set j (lay (t++u)))))=H3 at w3 f3
   refine⟨_,rfl,p,Jy,dx,_,_,rfl,w3.ob,T.o_Weave.cl,T.n_Weave_heads,fF _ _ _ _,_,rfl,hd,_,_,_,rfl,rfl,SqL.of w3.hh,bD (jE hb),?_⟩
   refine⟨_,rfl,p,Jy,dx,_,_,rfl,w3.ob,T.o_Weave.cl,T.n_Weave_heads,fF _ _ _ _,_,rfl,hd,_,_,j,rfl,rfl,w3.hh,pF (by omega) (by rw[cR];show ((j:Nat):Int)<((Z1.hs.length:Nat):Int);omega),?_⟩
   rw[uH]
   have w4:=w3.upHd (Z1.hs.set j b)
   have f4:FrW M H3 (upd H3 hd (.lst (cF (Z1.hs.set j b)))):=by rw[hM];exact WvC.put1 (by simp)
   show mO _ _ _ _ (upd H3 hd (.lst (cF (Z1.hs.set j b))))
   generalize upd H3 hd (.lst (cF (Z1.hs.set j b)))=H4 at w4 f4
   have hjt:(Z1.ts.set j (lay (t++u)))[j]?=some (lay (t++u)):=p5 (by rw[I1.lt];exact hj1)
   have hjh:(Z1.hs.set j b)[j]?=some b:=p5 hj1
   refine⟨_,rfl,_,rfl,p,Jy,dx,_,_,rfl,w4.ob,T.o_Weave.cl,T.n_Weave_turns,gH _ _ _ _,_,rfl,tn,_,_,_,rfl,rfl,SqL.of w4.ht,bD (eU hjt),?_⟩
   have yl:y.length≤5 * L:=by
    rw[hye]
    have:=eZ (x++(back (φ i)++φ j))
    rw[b8,b8,bW] at this
    have:=(I.fa i).2
    have:=(I.fa j).2
    omega
   obtain⟨vA,vl⟩:AllL (lay (t++u))∧(lay (t++u)).length≤2 * L:=by rw[et];exact hZ I1 j b
   refine⟨y,lay (t++u),rfl,hy,vA,by omega,fun H5 s5=>?_⟩
   have w5:=w4.same s5
   refine⟨_,rfl,p,Jy,dx,_,_,rfl,w5.ob,T.o_Weave.cl,T.n_Weave_heads,fF _ _ _ _,_,rfl,hd,_,_,_,rfl,rfl,SqL.of w5.hh,bD (jE hjh),?_⟩
   have f5:FrW M H H5:=fun b o e n=>s5 _ _ (f4 _ _ (f3 _ _ (s2 _ _ (K1.fr b o e n)) n) n)
   refine⟨b,_,lay (y++lay (t++u)),_,hrb,rfl,⟨⟨dx,hd,tn,wy,al,ds,as,hM,w5⟩,I2,K1.ws,K1.al,by show (Z1.hs.set j b).length=_;rw[j0];exact K1.ln,f5⟩,by rw[← K1.ln];exact(I1.hd a b hb).1,hρb.trans hρ,dI (AllL.app.mpr ⟨hy,vA⟩),?_⟩
   rw[et,hye]
   have:=C4 (a:=x++back (φ i)) (b:=φ j) (c:=φ b) (AllL.app.mpr ⟨hx,aO (I.fa i).1⟩) (I.fa j).1 (I.fa b).1
   simp only [l8] at this
   exact this
theorem F7{f:Addr}{fd:FuncData}(D:DfM K Jy "head_of" "Weave.head_of" Fp ["self","place"] f fd)(T:Txt P w K mg Jw Jx Jy)(c_zs:mT P w K mg base Jy "end_of" ["self","place","told"] 4 (vW Jy)):mT P w K mg base Jy "head_of" ["self","place"] 5 (sC Jy):=by
 obtain⟨f_zs,fd_zs,G_zs,m_zs,b_zs⟩:=c_zs
 refine D.cl (D.F.ok Gf (fun vs H Q E h=>?_) (fun cdv A outer s H vs Q E hr h=>?_))
 ·obtain⟨_,_,_,_,_,p,M,Z,i,rfl,_⟩:=h
  rfl
 ·obtain⟨hf,φ,ρ,rk,L,p,M,Z,i,rfl,hW,I,hL,hi,k⟩:=h
  refine⟨_,(aF (aX (aQ (bL (K:=K) rfl) (dW (pv 0) T.o_Weave.cl m_zs G_zs (hr.mono (by decide)) b_zs .nil fA (aA (pv 1) (aA cA aC))) aG (fun _ _=>rfl)))),?_⟩
  obtain⟨dx,hd,tn,wy,al,ds,as,hM,w1⟩:=id hW
  refine⟨_,rfl,p,dx,_,rfl,w1.ob,fY _ _ _ _ (by decide +kernel) (by decide +kernel) (by decide +kernel) (by decide +kernel),_,rfl,hf,φ,ρ,rk,L,p,M,Z,i,[],rfl,hW,I,hL,hi,AllL.nil,rfl,by simp,fun t H1 Z1 K1 et=>?_⟩
  exact⟨t,_,0,.int (ρ i:Nat),rfl,rfl,SqT.of et,rfl,k H1 Z1 K1⟩
theorem Ha{f:Addr}{fd:FuncData}(D:DfM K Jy "goal_of" "Weave.goal_of" Eh ["self","head","letter"] f fd)(T:Txt P w K mg Jw Jx Jy)(c_zo:mT P w K mg base Jy "head_of" ["self","place"] 5 (sC Jy)):mT P w K mg base Jy "goal_of" ["self","head","letter"] 6 (rL Jy):=by
 obtain⟨f_zo,fd_zo,G_zo,m_zo,b_zo⟩:=c_zo
 refine D.cl (D.F.ok sc_zm (fun vs H Q E h=>?_) (fun cdv A outer s H vs Q E hr h=>?_))
 ·obtain⟨_,_,_,_,_,p,M,Z,i,c,es,rfl,_⟩:=h
  rfl
 ·obtain⟨hf,φ,ρ,rk,L,p,M,Z,i,c,es,rfl,hW,I,hL,hes,k⟩:=h
  refine⟨_,(aD (aL (i:=3) sc_zm.nd rfl (Or.inl rfl) (tV (l7 (p0 (by decide:1≤64) _) hr.units) (aQ (aN (K:=K) rfl) (bU (K:=K) rfl (pv 0) rfl) (pv 1) (fun _ _=>rfl)) (pv 2) ⟨rfl,rfl,rfl,rfl⟩))
   (aF (aX (kL (aP vS (pv 3) hV (aS _)) hV (dW (pv 0) T.o_Weave.cl m_zo G_zo (hr.mono (by decide)) b_zo .nil fA (aA (aQ (bL (K:=K) rfl) (pv 3) aG (fun _ _=>rfl)) aC)))))),?_⟩
  obtain⟨dx,hd,tn,wy,al,ds,as,hM,w1⟩:=id hW
  obtain⟨d,hd'⟩:∃ d,ds[i]?=some d:=⟨_,a9 (by rw[w1.ld];exact(a8.mp hes).1)⟩
  obtain⟨kvs,a6,hk⟩:=w1.dc i d es hd' hes
  refine⟨_,rfl,p,Jy,dx,_,_,rfl,w1.ob,T.o_Weave.cl,T.n_Weave_ways,mW _ _ _ _,_,rfl,wy,_,_,.ref d,rfl,rfl,SqL.of w1.hw,bD (by rw[c7,hd'];rfl),d,rfl,.inl ⟨kvs,.inl a6⟩,_,rfl,_,DGet.k (k:=.inr (S [c])) a6,?_⟩
  have hv:=hk.val (c:=c)
  refine⟨_,rfl,rfl,_,rfl,?_⟩
  cases e:cS es c with
  | none =>
   rw[e] at hv
   have hv:cY kvs (Sum.inr (S [c]))=none:=hv
   rw[hv]
   show Q .non H
   have:=k H Z ⟨hW,I,rfl,rfl,rfl,FrW.refl _ _⟩
   rw[e] at this
   exact this
  | some r =>
   rw[e] at hv
   obtain⟨t,hv,ht⟩:=(show ∃ t,cY kvs (Sum.inr (S [c]))=some (V.ref t)∧H t=some (HO.tup [V.int (r.1:Nat),V.str (S r.2)]) from hv)
   rw[hv]
   rw[e] at k
   have hg:=((I.wy i es hes).2 _ (dH e)).2.1
   refine⟨_,rfl,p,dx,_,rfl,w1.ob,fY _ _ _ _ (by decide +kernel) (by decide +kernel) (by decide +kernel) (by decide +kernel),_,rfl,t,_,0,.int (r.1:Nat),rfl,rfl,SqT.of ht,rfl,hf,φ,ρ,rk,L,p,M,Z,r.1,rfl,hW,I,hL,hg,fun H1 Z1 K1=>k H1 Z1 K1⟩
theorem GU{f:Addr}{fd:FuncData}(D:DfM K Jy "new_place" "Weave.new_place" FM ["self"] f fd)(T:Txt P w K mg Jw Jx Jy):mT P w K mg base Jy "new_place" ["self"] 1 (CA Jy):=by
 refine D.cl (D.F.ok sc_zh (fun vs H Q E h=>?_) (fun cdv A outer s H vs Q E hr h=>?_))
 ·obtain⟨p,M,Z,rfl,_⟩:=h
  rfl
 ·obtain⟨p,M,Z,rfl,hW,l1,l2,l3,k⟩:=h
  refine⟨_,(aD (aL (i:=1) sc_zh.nd rfl (Or.inl rfl) (aT (bB (K:=K) rfl) (by rfl) T.b_len j8 (aA (bU (K:=K) rfl (pv 0) rfl) aC)))
   (aD (bR (cX (K:=K) rfl j6 m4 m6 cI (bU (K:=K) rfl (pv 0) rfl) (aA (pv 1) aC)))
   (aD (bR (cX (K:=K) rfl j6 m4 m6 cI (bU (K:=K) rfl (pv 0) rfl) (aA cA aC)))
   (aD (bR (cX (K:=K) rfl j6 m4 m6 cI (bU (K:=K) rfl (pv 0) rfl) (aA tJ aC)))
   (aF (aX (pv 1))))))),?_⟩
  obtain⟨dx,hd,tn,wy,al,ds,as,hM,w1⟩:=id hW
  refine⟨_,rfl,p,Jy,dx,_,_,rfl,w1.ob,T.o_Weave.cl,T.n_Weave_heads,fF _ _ _ _,hd,_,rfl,.inl (SqL.of w1.hh),?_⟩
  have hlen:(V.int (((cF Z.hs).length:Nat):Int))=V.int ((Z.hs.length:Nat):Int):=by rw[cR]
  rw[hlen]
  refine⟨_,rfl,p,Jy,dx,_,_,rfl,w1.ob,T.o_Weave.cl,T.n_Weave_heads,fF _ _ _ _,.inl ⟨rfl,_,SqL.of w1.hh⟩,_,rfl,hd,_,_,rfl,rfl,w1.hh,by rw[cR];exact aR (by omega),?_⟩
  rw[lB]
  have w2:=w1.upHd (Z.hs++[Z.hs.length])
  have f2:FrW M H (upd H hd (.lst (cF (Z.hs++[Z.hs.length])))):=by rw[hM];exact WvC.put1 (by simp)
  show mO _ _ _ _ (upd H hd (.lst (cF (Z.hs++[Z.hs.length]))))
  generalize upd H hd (.lst (cF (Z.hs++[Z.hs.length])))=H2 at w2 f2
  refine⟨_,rfl,p,Jy,dx,_,_,rfl,w2.ob,T.o_Weave.cl,T.n_Weave_turns,gH _ _ _ _,.inl ⟨rfl,_,SqL.of w2.ht⟩,tn,_,_,rfl,rfl,w2.ht,by rw[aM];exact aR (by show Z.ts.length≤_;omega),?_⟩
  have et:bE Z.ts++[.str (Str.ofString "")]=bE (Z.ts++[[]]):=by unfold bE;rw[g9];rfl
  show mO _ _ _ _ (upd H2 tn (.lst (bE Z.ts++[.str (Str.ofString "")])))
  rw[et]
  have w3:=w2.upTn (Z.ts++[[]])
  have f3:FrW M H2 (upd H2 tn (.lst (bE (Z.ts++[[]])))):=by rw[hM];exact WvC.put1 (by simp)
  generalize upd H2 tn (.lst (bE (Z.ts++[[]])))=H3 at w3 f3
  refine⟨_,rfl,p,Jy,dx,_,_,rfl,w3.ob,T.o_Weave.cl,T.n_Weave_ways,mW _ _ _ _,.inl ⟨rfl,_,SqL.of w3.hw⟩,fun d hd0=>?_⟩
  have hw3:upd H3 d (.dK []) wy=some (.lst (ds.map V.ref)):=gL _ w3.hw hd0
  refine⟨wy,_,_,rfl,rfl,hw3,by rw[b7,w3.ld];exact aR (by show Z.ws.length≤_;omega),?_⟩
  have w4:=w3.upNew hd0
  have ed:ds.map V.ref++[V.ref d]=(ds++[d]).map V.ref:=by rw[g9];rfl
  refine⟨_,rfl,?_⟩
  show Q _ (upd (upd H3 d (.dK [])) wy (.lst (ds.map V.ref++[V.ref d])))
  rw[ed]
  have hdH:H d=none:=by
   cases e:H d with
   | none=>rfl
   | some o =>
    by_cases q:d∈M
    ·exfalso
     have:d∈hd::tn::wy::al::ds:=by rw[← hM];exact q
     rcases c6.mp this with rfl | this
     ·rw[w3.hh] at hd0;cases hd0
     rcases c6.mp this with rfl | this
     ·rw[w3.ht] at hd0;cases hd0
     rcases c6.mp this with rfl | this
     ·rw[w3.hw] at hd0;cases hd0
     rcases c6.mp this with rfl | this
     ·rw[w3.ha] at hd0;cases hd0
     ·obtain⟨i,hi⟩:=l5 this
      obtain⟨es,hes⟩:∃ es,Z.ws[i]?=some es:=⟨_,a9 (by rw[← w1.ld];exact(a8.mp hi).1)⟩
      obtain⟨kvs,z,_⟩:=w3.dc i d es hi hes
      rw[z] at hd0;cases hd0
    ·rw[f3 _ _ (f2 _ _ e q) q] at hd0;cases hd0
  refine k d _ ⟨dx,hd,tn,wy,al,ds++[d],as,by rw[hM];rfl,w4⟩ hdH fun b o e n=>?_
  have n1:b≠wy:=fun z=>n (by rw[z,hM];simp)
  rw[aE n1,aE (aI (f3 _ _ (f2 _ _ e n) n) hd0)]
  exact f3 _ _ (f2 _ _ e n) n
theorem Hl{f:Addr}{fd:FuncData}(D:DfM K Jy "lay_way" "Weave.lay_way" E1 ["self","place","letter","goal","told"] f fd)(T:Txt P w K mg Jw Jx Jy)(c_zv:Cl P w K mg base "turned_back" ["word"] 2 kJ)(c_zd1:Cl P w K mg base "joined" ["one","other"] 3 kP):mT P w K mg base Jy "lay_way" ["self","place","letter","goal","told"] 4 (xD Jy):=by
 refine D.cl (D.F.ok sc_zp (fun vs H Q E h=>?_) (fun cdv A outer s H vs Q E hr h=>?_))
 ·obtain⟨_,_,_,_,_,p,M,Z,i,c,g,t,es,rfl,_⟩:=h
  rfl
 ·obtain⟨hf,φ,ρ,rk,L,p,M,Z,i,c,g,t,es,rfl,hW,I,hL,hes,hc,hg,ht,hal,k⟩:=h
  refine⟨_,(aD (aL (i:=5) sc_zp.nd rfl (Or.inl rfl) (BW (aQ (aN (K:=K) rfl) (bU (K:=K) rfl (pv 0) rfl) (pv 1) (fun _ _=>rfl)) (pv 2) (eF (aA (pv 3) (aA (pv 4) aC))) ⟨rfl,rfl,rfl,rfl⟩))
   (aF (cV (aP (Dz (K:=K) rfl hr.units0) (pv 5) (eF (aA (pv 3) (aA (pv 4) aC))) (aS _)) (aF (bR (cX (K:=K) rfl j6 m4 m6 cI (bU (K:=K) rfl (pv 0) rfl) (aA (eF (aA (pv 3) (aA (pC c_zd1 hr (aA (pC c_zv hr (aA (pv 4) aC)) (aA (aQ (bL (K:=K) rfl) (pv 5) aG (fun _ _=>rfl)) aC))) (aA (aQ (bL (K:=K) rfl) (pv 5) aG (fun _ _=>rfl)) aC)))) aC)))) bS))),?_⟩
  obtain⟨dx,hd,tn,wy,al,ds,as,hM,w1⟩:=id hW
  obtain⟨d,hd'⟩:∃ d,ds[i]?=some d:=⟨_,a9 (by rw[w1.ld];exact(a8.mp hes).1)⟩
  obtain⟨kvs,a6,hk⟩:=w1.dc i d es hd' hes
  have el:es.length≤8:=rJ (I.wy i es hes).1 fun e he=>((I.wy i es hes).2 e he).1
  have kl:kvs.length≤8:=by rw[aQ7 hk];exact el
  refine⟨_,rfl,p,Jy,dx,_,_,rfl,w1.ob,T.o_Weave.cl,T.n_Weave_ways,mW _ _ _ _,_,rfl,wy,_,_,.ref d,rfl,rfl,SqL.of w1.hw,bD (by rw[c7,hd'];rfl),d,rfl,.inl ⟨kvs,.inl a6⟩,_,rfl,_,rfl,_,rfl,(by show 2≤sizeLine;decide),fun q hq=>?_⟩
  have s1:=Same.new (o:=HO.tup [.int ((g:Nat):Int),.str (S t)]) hq
  have e1:upd H q (.tup [.int ((g:Nat):Int),.str (S t)]) q=some (.tup [.int ((g:Nat):Int),.str (S t)]):=aB
  generalize upd H q (.tup [.int ((g:Nat):Int),.str (S t)])=H1 at s1 e1
  have w2:=w1.same s1
  have hk1:DcIs H1 kvs es:=hk.mono fun t xs z=>s1 _ _ z
  have hv:=hk1.val (c:=c)
  refine⟨kvs,.inr (S [c]),s1 _ _ a6,(by rw[sizeLine_eq];omega),rfl,?_,?_⟩
  ·intro v e
   cases ew:cS es c with
   | none =>
    rw[ew] at hv
    rw[show cY kvs (Sum.inr (S [c]))=none from hv] at e
    cases e
   | some r =>
    rw[ew] at hv
    obtain⟨q2,hv2,ht2⟩:=(show ∃ t,cY kvs (Sum.inr (S [c]))=some (V.ref t)∧H1 t=some (HO.tup [V.int (r.1:Nat),V.str (S r.2)]) from hv)
    rw[hv2] at e
    cases e
    have hr:=(I.wy i es hes).2 _ (dH ew)
    refine⟨_,rfl,_,rfl,_,rfl,(by show 2≤sizeLine;decide),fun q3 hq3=>?_⟩
    have s3:=Same.new (o:=HO.tup [.int ((g:Nat):Int),.str (S t)]) hq3
    have e3:upd H1 q3 (.tup [.int ((g:Nat):Int),.str (S t)]) q3=some (.tup [.int ((g:Nat):Int),.str (S t)]):=aB
    generalize upd H1 q3 (.tup [.int ((g:Nat):Int),.str (S t)])=H3 at s3 e3
    refine⟨q2,q3,_,_,rfl,rfl,.inr ⟨SqT.of (s3 _ _ ht2),SqT.of e3⟩,rfl,rfl,_,rfl,?_⟩
    have w3:=w2.same s3
    have s13:=s1.trans s3
    show (if (!fV [.int ((r.1:Nat):Int),.str (S r.2)] [.int ((g:Nat):Int),.str (S t)])=true then _ else _)
    rw[vE]
    by_cases hsame:(r.1,r.2)=(g,t)
    ·rw[decide_eq_true hsame]
     refine eR ?_
     have hl:aY Z i c g t es=Z:=by unfold aY;rw[ew];exact if_pos hsame
     have:=k H3 (by rw[hl];exact(hW.same s1).same s3) (FrW.ofSame s13)
     exact this
    ·rw[decide_eq_false hsame]
     refine jJ ?_
     obtain⟨tA,tl⟩:AllL t∧t.length≤3 * L:=by rw[ht];exact nI I hc i g
     obtain⟨rA,rl⟩:AllL r.2∧r.2.length≤3 * L:=by rw[show r.2=_ from hr.2.2];exact nI I hc i r.1
     refine⟨_,rfl,p,Jy,dx,_,_,rfl,w3.ob,T.o_Weave.cl,T.n_Weave_alike,oH _ _ _ _,.inl ⟨rfl,_,SqL.of w3.ha⟩,_,rfl,_,rfl,t,rfl,tA,by omega,fun H4 s4=>?_⟩
     have ht4:=s4 _ _ (s3 _ _ ht2)
     refine⟨_,rfl,q2,_,1,.str (S r.2),rfl,rfl,SqT.of ht4,rfl,back t,r.2,rfl,aO tA,rA,by rw[bW];omega,fun H5 s5=>?_⟩
     refine⟨_,rfl,q2,_,0,.int (r.1:Nat),rfl,rfl,SqT.of (s5 _ _ ht4),rfl,(by show 3≤sizeLine;decide),fun q4 hq4=>?_⟩
     have s6:=Same.new (o:=HO.tup [.int ((g:Nat):Int),.str (S (lay (back t++r.2))),.int ((r.1:Nat):Int)]) hq4
     have e6:upd H5 q4 (.tup [.int ((g:Nat):Int),.str (S (lay (back t++r.2))),.int ((r.1:Nat):Int)]) q4=some (.tup [.int ((g:Nat):Int),.str (S (lay (back t++r.2))),.int ((r.1:Nat):Int)]):=aB
     generalize upd H5 q4 (.tup [.int ((g:Nat):Int),.str (S (lay (back t++r.2))),.int ((r.1:Nat):Int)])=H6 at s6 e6
     have w6:=((w3.same s4).same s5).same s6
     refine⟨al,_,_,rfl,rfl,w6.ha,by rw[b7,w6.la];exact l7 hal (by decide),?_⟩
     have w7:=w6.upAl (as++[q4]) (Z.al++[(g,lay (back t++r.2),r.1)]) (by rw[b8,b8,w6.la];rfl) (fun j b e h1 h2=>by
      rcases dY h2 with ⟨z,h2⟩ | ⟨z,rfl⟩
      ·rw[m9 (by rw[w6.la];exact z)] at h1
       exact w6.at' j b e h1 h2
      ·rcases dY h1 with ⟨z',_⟩ | ⟨_,rfl⟩
       ·rw[w6.la] at z';omega
       ·exact e6)
     have ea:as.map V.ref++[V.ref q4]=(as++[q4]).map V.ref:=by rw[g9];rfl
     show DU _ _ (upd H6 al (.lst (as.map V.ref++[V.ref q4])))
     rw[ea]
     have hl:aY Z i c g t es={ Z with al:=Z.al++[(g,lay (back t++r.2),r.1)] }:=by unfold aY;rw[ew];exact if_neg hsame
     refine k _ (by rw[hl];exact⟨dx,hd,tn,wy,al,ds,as++[q4],hM,w7⟩) fun b o e n=>?_
     rw[aE (fun z=>n (by rw[z,hM];simp))]
     exact s6 _ _ (s5 _ _ (s4 _ _ (s13 _ _ e)))
  ·intro e
   cases ew:cS es c with
   | some r =>
    rw[ew] at hv
    obtain⟨q2,hv2,ht2⟩:=(show ∃ t,cY kvs (Sum.inr (S [c]))=some (V.ref t)∧H1 t=some (HO.tup [V.int (r.1:Nat),V.str (S r.2)]) from hv)
    rw[hv2] at e
    cases e
   | none =>
    have w3:=w2.upDc hd' (cT kvs (.inr (S [c])) (.ref q)) (es++[(c,g,t)]) (hk1.put ew e1)
    have f3:FrW M H1 (upd H1 d (.dK (cT kvs (.inr (S [c])) (.ref q)))):=by rw[hM];exact WvC.put1 (by simp[b0 hd'])
    have e2:upd H1 d (.dK (cT kvs (.inr (S [c])) (.ref q))) q=some (.tup [.int ((g:Nat):Int),.str (S t)]):=by rw[aE (cC e1 (s1 _ _ a6) (by intro z;cases z))];exact e1
    generalize upd H1 d (.dK (cT kvs (.inr (S [c])) (.ref q)))=H2 at w3 f3 e2
    refine⟨_,rfl,_,rfl,_,rfl,(by show 2≤sizeLine;decide),fun q3 hq3=>?_⟩
    have s3:=Same.new (o:=HO.tup [.int ((g:Nat):Int),.str (S t)]) hq3
    have e3:upd H2 q3 (.tup [.int ((g:Nat):Int),.str (S t)]) q3=some (.tup [.int ((g:Nat):Int),.str (S t)]):=aB
    generalize upd H2 q3 (.tup [.int ((g:Nat):Int),.str (S t)])=H3 at s3 e3
    refine⟨q,q3,_,_,rfl,rfl,.inr ⟨SqT.of (s3 _ _ e2),SqT.of e3⟩,rfl,rfl,_,rfl,?_⟩
    show (if (!fV [.int ((g:Nat):Int),.str (S t)] [.int ((g:Nat):Int),.str (S t)])=true then _ else _)
    rw[vE,decide_eq_true rfl]
    refine eR ?_
    have hl:aY Z i c g t es={ Z with ws:=Z.ws.set i (es++[(c,g,t)]) }:=by unfold aY;rw[ew]
    refine k H3 (by rw[hl];exact⟨dx,hd,tn,wy,al,ds,as,hM,w3.same s3⟩) fun b o e n=>s3 _ _ (f3 _ _ (s1 _ _ e) n)
theorem Gy{f:Addr}{fd:FuncData}(D:DfM K Jy "put_under" "Weave.put_under" Fd ["self","head","above","turn"] f fd)(T:Txt P w K mg Jw Jx Jy)(c_zv:Cl P w K mg base "turned_back" ["word"] 2 kJ)(c_zd1:Cl P w K mg base "joined" ["one","other"] 3 kP)(c_zp:mT P w K mg base Jy "lay_way" ["self","place","letter","goal","told"] 4 (xD Jy)):mT P w K mg base Jy "put_under" ["self","head","above","turn"] 5 (CD Jy):=by
 obtain⟨f_zp,fd_zp,G_zp,m_zp,b_zp⟩:=c_zp
 refine D.cl (D.F.ok sc_ze (fun vs H Q E h=>?_) (fun cdv A outer s H vs Q E hr h=>?_))
 ·obtain⟨_,_,_,_,_,_,_,p,M,Z,hd,ab,t,es,rfl,_⟩:=h
  rfl
 ·obtain⟨hf,φ,ρ,rk,ρ1,rk1,L,p,M,Z,ho,ab,t,es,rfl,hW,I,I1,hL,hes,hho,hab,hne,ht,hal,k⟩:=h
  refine⟨_,(aD (dS (pv 2) (dZ (bU (K:=K) rfl (pv 0) rfl) (pv 1) cJ))
   (aD (dS (pv 3) (dZ (bU (K:=K) rfl (pv 0) rfl) (pv 1) cJ))
   (aF (cW j7 rfl (cK (K:=K) rfl (bQ (wT rfl) (by rfl) T.b_list boot_list (aA (Av (aQ (aN (K:=K) rfl) (bU (K:=K) rfl (pv 0) rfl) (pv 1) (fun _ _=>rfl))) aC))) (iS (K:=K) rfl rfl (cD (bA (i:=4) sc_ze.nd rfl (Or.inl rfl)) (cD (bA (i:=5) sc_ze.nd rfl (Or.inl rfl)) fZ))) (aF (bR (dW (pv 0) T.o_Weave.cl m_zp G_zp (hr.mono (by decide)) b_zp .nil fA (aA (pv 2) (aA (pv 4) (aA (aQ (bL (K:=K) rfl) (pv 5) aG (fun _ _=>rfl)) (aA (pC c_zd1 hr (aA (pC c_zv hr (aA (pv 3) aC)) (aA (aQ (bL (K:=K) rfl) (pv 5) aG (fun _ _=>rfl)) aC))) aC))))))))))),?_⟩
  obtain⟨dx,hd,tn,wy,al,ds,as,hM,w1⟩:=id hW
  obtain⟨tA,tl⟩:AllL t∧t.length≤2 * L:=by rw[ht];exact hZ I ho ab
  have el:es.length≤8:=rJ (I.wy ho es hes).1 fun e he=>((I.wy ho es hes).2 e he).1
  refine⟨_,rfl,_,rfl,p,Jy,dx,_,_,rfl,w1.ob,T.o_Weave.cl,T.n_Weave_heads,fF _ _ _ _,_,rfl,hd,_,_,ho,rfl,rfl,w1.hh,pF (by omega) (by rw[cR];omega),?_⟩
  rw[uH]
  have w2:=w1.upHd (Z.hs.set ho ab)
  have f2:FrW M H (upd H hd (.lst (cF (Z.hs.set ho ab)))):=by rw[hM];exact WvC.put1 (by simp)
  show mO _ _ _ _ (upd H hd (.lst (cF (Z.hs.set ho ab))))
  generalize upd H hd (.lst (cF (Z.hs.set ho ab)))=H2 at w2 f2
  refine⟨_,rfl,_,rfl,p,Jy,dx,_,_,rfl,w2.ob,T.o_Weave.cl,T.n_Weave_turns,gH _ _ _ _,_,rfl,tn,_,_,ho,rfl,rfl,w2.ht,pF (by omega) (by rw[aM];show ((ho:Nat):Int)<((Z.ts.length:Nat):Int);rw[I.lt];omega),?_⟩
  rw[iB]
  have w3:=w2.upTn (Z.ts.set ho t)
  have f3:FrW M H2 (upd H2 tn (.lst (bE (Z.ts.set ho t)))):=by rw[hM];exact WvC.put1 (by simp)
  dsimp only
  generalize upd H2 tn (.lst (bE (Z.ts.set ho t)))=H3 at w3 f3
  have w3:WvC Jy H3 p dx hd tn wy al ds as (dE Z ho ab t):=w3
  have f13:FrW M H H3:=fun b o e n=>f3 _ _ (f2 _ _ e n) n
  obtain⟨d,hd'⟩:∃ d,ds[ho]?=some d:=⟨_,a9 (by rw[w1.ld];exact(a8.mp hes).1)⟩
  obtain⟨kvs,a6,hk⟩:=w3.dc ho d es hd' hes
  refine⟨_,rfl,p,Jy,dx,_,_,rfl,w3.ob,T.o_Weave.cl,T.n_Weave_ways,mW _ _ _ _,_,rfl,wy,_,_,.ref d,rfl,rfl,SqL.of w3.hw,bD (by rw[c7,hd'];rfl),d,kvs,rfl,a6,fun v hv=>?_⟩
  have s4:=Same.new (o:=HO.ext fun h=>h.IsItemsView v d) hv
  refine⟨v,d,kvs,rfl,aB,s4 _ _ a6,fun l ps H5 hl s5 e5 hlen hat=>?_⟩
  have s35:=s4.trans s5
  have w5:=w3.same s35
  have hlM:l ∉ M:=fun z=>by
   rw[hM] at z
   have no:∀ {o:HO},H3 l=some o→False:=fun q=>by rw[s4 _ _ q] at hl;cases hl
   rcases c6.mp z with rfl | z
   ·exact no w3.hh
   rcases c6.mp z with rfl | z
   ·exact no w3.ht
   rcases c6.mp z with rfl | z
   ·exact no w3.hw
   rcases c6.mp z with rfl | z
   ·exact no w3.ha
   ·obtain⟨i,hi⟩:=l5 z
    obtain⟨es',hes'⟩:∃ es,Z.ws[i]?=some es:=⟨_,a9 (by rw[← w1.ld];exact(a8.mp hi).1)⟩
    obtain⟨kvs',q,_⟩:=w3.dc i l es' hi hes'
    exact no q
  refine⟨l,rfl,⟨_,SqL.of e5⟩,iY (K:=K) (a:=l) (xs:=ps.map V.ref) (fun i σ H6=>∃ v4 v5:Option V,σ=[some (.ref p),some (.int (ho:Nat)),some (.int (ab:Nat)),some (.str (S t)),v4,v5]∧Wat Jy H6 p M (underW ab t (dE Z ho ab t) (es.take i))∧FrW M H5 H6) ⟨none,none,rfl,⟨dx,hd,tn,wy,al,ds,as,hM,w5⟩,FrW.refl _ _⟩ (fun i σ H6 _ ⟨_,_,_,_,f⟩=>SqL.of (f _ _ e5 hlM)) ?_ ?_⟩
  ·rintro i x _ H6 hx ⟨v4,v5,rfl,W6,f6⟩
   rw[c7] at hx
   obtain⟨q,hq,rfl⟩:=d8.mp hx
   have hi:i<es.length:=by
    have:=(a8.mp hq).1
    rw[hlen,aQ7 hk] at this
    exact this
   obtain⟨e,he⟩:∃ e,es[i]?=some e:=⟨_,a9 hi⟩
   obtain⟨kv,hkv,ek,wt,ew,ewt⟩:=lX hk he
   have hem:=b0 he
   obtain⟨c1,c2,c3⟩:=(I.wy ho es hes).2 e hem
   have ea:=hat i q kv hq hkv
   rw[ek,ew] at ea
   have ea:H5 q=some (.tup [.str (S [e.1]),.ref wt]):=ea
   have qM:∀ {b:Addr} {xs:List V},H5 b=some (.tup xs)→b ∉ M:=fun {b xs} z=>by rw[hM];exact w5.out z (by intro xs z;cases z) (by intro kvs z;cases z)
   have ea6:=f6 _ _ ea (qM ea)
   have ewt5:=s35 _ _ ewt
   have ewt6:=f6 _ _ ewt5 (qM ewt5)
   refine⟨q,_,rfl,.inr (SqT.of ea6),rfl,_,_,rfl,_,_,rfl,rfl,?_⟩
   obtain⟨dx',hd6,tn6,wy6,al6,ds6,as6,hM6,w6⟩:=id W6
   have hes':∀ x∈es.take i,cN x.1∧x.2.1<(dE Z ho ab t).hs.length∧x.2.2=lay (back (φ ho)++(hf x.1++φ x.2.1)):=fun x hx=>by
    obtain⟨z1,z2,z3⟩:=(I.wy ho es hes).2 x (p9 hx)
    refine⟨z1,?_,z3⟩
    show x.2.1<(Z.hs.set ho ab).length
    rw[j0];exact z2
   have lu:(dE Z ho ab t).hs.length=Z.hs.length:=by show (Z.hs.set ho ab).length=_;rw[j0]
   obtain⟨I6,h6⟩:=qG ht I1 (by rw[lu];exact hab) hes'
   obtain⟨ea',hea'⟩:∃ ea,(underW ab t (dE Z ho ab t) (es.take i)).ws[ab]?=some ea:=⟨_,a9 (by rw[I6.lw,h6,lu];exact hab)⟩
   have hgd:(underW ab t (dE Z ho ab t) (es.take i)).ws.getD ab []=ea':=by rw[c9,hea'];rfl
   obtain⟨eA,e3l⟩:AllL e.2.2∧e.2.2.length≤3 * L:=by rw[c3];exact nI I c1 ho e.2.1
   have hal6:=jY (ab:=ab) (t:=t) (es:=es.take i) (T:=dE Z ho ab t)
   have htl:(es.take i).length≤8:=by rw[i9];omega
   have hal7:(dE Z ho ab t).al.length=Z.al.length:=rfl
   refine⟨_,rfl,p,dx',_,rfl,w6.ob,fY _ _ _ _ (by decide +kernel) (by decide +kernel) (by decide +kernel) (by decide +kernel),_,rfl,_,rfl,_,rfl,wt,_,0,.int (e.2.1:Nat),rfl,rfl,SqT.of ewt6,rfl,_,rfl,t,rfl,tA,by omega,fun H7 s7=>?_⟩
   refine⟨_,rfl,wt,_,1,.str (S e.2.2),rfl,rfl,SqT.of (s7 _ _ ewt6),rfl,back t,e.2.2,rfl,aO tA,eA,by rw[bW];omega,fun H8 s8=>?_⟩
   refine⟨hf,φ,ρ1,rk1,L,p,M,_,ab,e.1,e.2.1,lay (back t++e.2.2),ea',rfl,(W6.same s7).same s8,I6,hL,hea',c1,by rw[h6,lu];exact c2,?_,by omega,fun H9 W9 f9=>?_⟩
   ·rw[ht,c3]
    exact IJ (I.fa ho).1 (I.fa ab).1 (I.fa e.2.1).1 (I.ha e.1 c1).1
   ·have tk:es.take (i+1)=es.take i++[e]:=by rw[t8,he];rfl
    refine⟨_,_,rfl,?_,fun b o z n=>f9 _ _ (s8 _ _ (s7 _ _ (f6 b o z n))) n⟩
    rw[tk,uC,hgd]
    exact W9
  ·rintro _ H6 ⟨v4,v5,rfl,W6,f6⟩
   rw[b7,hlen,aQ7 hk,k0] at W6
   exact k H6 W6 fun b o z n=>f6 _ _ (s35 _ _ (f13 b o z n)) n
theorem Gj{f:Addr}{fd:FuncData}(D:DfM K Jy "fold" "Weave.fold" Em ["self"] f fd)(T:Txt P w K mg Jw Jx Jy)(c_zv:Cl P w K mg base "turned_back" ["word"] 2 kJ)(c_zd1:Cl P w K mg base "joined" ["one","other"] 3 kP)(c_zs:mT P w K mg base Jy "end_of" ["self","place","told"] 4 (vW Jy))(c_ze:mT P w K mg base Jy "put_under" ["self","head","above","turn"] 5 (CD Jy)):mT P w K mg base Jy "fold" ["self"] 6 (yQ Jy):=by
 obtain⟨f_zs,fd_zs,G_zs,m_zs,b_zs⟩:=c_zs
 obtain⟨f_ze,fd_ze,G_ze,m_ze,b_ze⟩:=c_ze
 refine D.cl (D.F.ok sc_zy (fun vs H Q E h=>?_) (fun cdv A outer s H vs Q E hr h=>?_))
 ·obtain⟨_,_,_,_,p,M,Z,E',rfl,_⟩:=h
  rfl
 ·obtain⟨hf,φ,rk,L,p,M,Z,E',rfl,hW,I,X,LI0,hL,hN,hal,k⟩:=h
  refine⟨_,(aF (iO j7 (aP nV (aT (bB (K:=K) rfl) (by rfl) T.b_len j8 (aA (bU (K:=K) rfl (pv 0) rfl) aC)) aG (aS _)) (aD (aL (i:=1) sc_zy.nd rfl (Or.inl rfl) (cX (K:=K) rfl j6 aQ1 aQ2 vK (bU (K:=K) rfl (pv 0) rfl) (aA aG aC)))
   (aD (aL (i:=2) sc_zy.nd rfl (Or.inl rfl) (dW (pv 0) T.o_Weave.cl m_zs G_zs (hr.mono (by decide)) b_zs .nil fA (aA (aQ (bL (K:=K) rfl) (pv 1) aG (fun _ _=>rfl)) (aA cA aC))))
   (aD (aL (i:=3) sc_zy.nd rfl (Or.inl rfl) (dW (pv 0) T.o_Weave.cl m_zs G_zs (hr.mono (by decide)) b_zs .nil fA (aA (aQ (bL (K:=K) rfl) (pv 1) aG (fun _ _=>rfl)) (aA (aQ (bL (K:=K) rfl) (pv 1) aG (fun _ _=>rfl)) aC))))
   (aF (cV (aP jT (aQ (bL (K:=K) rfl) (pv 2) aG (fun _ _=>rfl)) (aQ (bL (K:=K) rfl) (pv 3) aG (fun _ _=>rfl)) (aS _)) (aF (bR (dW (pv 0) T.o_Weave.cl m_ze G_ze (hr.mono (by decide)) b_ze .nil fA (aA (aQ (bL (K:=K) rfl) (pv 2) aG (fun _ _=>rfl)) (aA (aQ (bL (K:=K) rfl) (pv 3) aG (fun _ _=>rfl)) (aA (pC c_zd1 hr (aA (pC c_zv hr (aA (aQ (bL (K:=K) rfl) (pv 2) aG (fun _ _=>rfl)) aC)) (aA (aQ (bL (K:=K) rfl) (pv 3) aG (fun _ _=>rfl)) aC))) aC)))))) bS))))))),?_⟩
  refine⟨fun m σ H'=>∃ (ρ rk':Nat→Nat) (Z':WvS) (v1 v2 v3:Option V),m=9 * wB ρ Z.hs.length+Z'.al.length∧m≤18100∧σ=[some (.ref p),v1,v2,v3]∧Wat Jy H' p M Z'∧WI hf φ ρ rk' L Z'∧EI E' ρ Z'∧LI E' ρ Z'∧(∀ x,ρ (ρ x)=ρ x)∧Z'.hs.length=Z.hs.length∧FrW M H H',⟨_,(fun x=>x),rk,Z,none,none,none,rfl,?_,rfl,hW,I,X,LI0,(fun _=>rfl),rfl,FrW.refl _ _⟩,?_⟩
  ·have:=Ek (ρ:=fun x=>x) Z.hs.length
   omega
  rintro m _ H1 ⟨ρ,rk1,Z1,v1,v2,v3,hm,hm2,rfl,W1,I1,X1,LI1,hid,hl1,f1⟩
  obtain⟨dx,hd,tn,wy,al,ds,as,hM,w1⟩:=id W1
  refine⟨_,rfl,p,Jy,dx,_,_,rfl,w1.ob,T.o_Weave.cl,T.n_Weave_alike,oH _ _ _ _,al,_,rfl,.inl (SqL.of w1.ha),_,_,rfl,rfl,_,rfl,?_⟩
  cases hal1:Z1.al with
  | nil =>
   have has:as=[]:=p8.mp (by rw[w1.la,hal1];rfl)
   subst has
   refine eR ?_
   exact k ρ rk1 H1 Z1 W1 I1 X1 LI1 hal1 hid hl1 f1
  | cons pr rest =>
   obtain⟨a,tt,b⟩:=pr
   obtain⟨q0,as',rfl⟩:∃ q0 as',as=q0::as':=by
    cases as with
    | nil=>have:=w1.la;rw[hal1] at this;simp at this
    | cons q0 as'=>exact⟨q0,as',rfl⟩
   refine eM (fun _=>?_) (fun z=>absurd (decide_eq_true (show (0:Int)<(((q0::as').map V.ref).length:Nat) by rw[b7,j1];omega)) z)
   have hq0:H1 q0=some (.tup [.int (a:Nat),.str (S tt),.int (b:Nat)]):=w1.at' 0 q0 (a,tt,b) rfl (by rw[hal1];rfl)
   obtain⟨p1,p2,p3⟩:=I1.al (a,tt,b) (by rw[hal1];exact d9)
   have p1:a<Z1.hs.length:=p1
   have p2:b<Z1.hs.length:=p2
   have p3:tt=lay (back (φ a)++φ b):=p3
   obtain⟨tA,tl⟩:AllL tt∧tt.length≤2 * L:=by rw[p3];exact hZ I1 a b
   refine⟨fun σ' H'=>∃ (ρ' rk':Nat→Nat) (Z':WvS) (v1 v2 v3:Option V),9 * wB ρ' Z.hs.length+Z'.al.length<m∧σ'=[some (.ref p),v1,v2,v3]∧Wat Jy H' p M Z'∧WI hf φ ρ' rk' L Z'∧EI E' ρ' Z'∧LI E' ρ' Z'∧(∀ x,ρ' (ρ' x)=ρ' x)∧Z'.hs.length=Z.hs.length∧FrW M H H',fun σ' H' ⟨ρ',rk',Z',v1,v2,v3,q0,q1⟩=>⟨_,q0,ρ',rk',Z',v1,v2,v3,rfl,by omega,q1⟩,?_⟩
   refine⟨_,rfl,p,Jy,dx,_,_,rfl,w1.ob,T.o_Weave.cl,T.n_Weave_alike,oH _ _ _ _,.inl ⟨rfl,_,SqL.of w1.ha⟩,al,_,0,0,.ref q0,rfl,rfl,w1.ha,by decide,by decide,aXD (by decide) (by rw[b7,j1];omega),rfl,?_⟩
   have w2:=w1.upAl as' rest (by have:=w1.la;rw[hal1] at this;simpa using this) (fun j x e h1 h2=>w1.at' (j+1) x e h1 (by rw[hal1];exact h2))
   have f2:FrW M H1 (upd H1 al (.lst (as'.map V.ref))):=by rw[hM];exact WvC.put1 (by simp)
   show mO _ _ _ _ (upd H1 al (.lst (as'.map V.ref)))
   generalize upd H1 al (.lst (as'.map V.ref))=H2 at w2 f2
   have q0M:q0 ∉ M:=by rw[hM];exact w1.out hq0 (by intro xs z;cases z) (by intro kvs z;cases z)
   have hq2:=f2 _ _ hq0 q0M
   have I2:WI hf φ ρ rk1 L { Z1 with al:=rest }:=I1.alDrop fun e he=>by rw[hal1];exact d4 _ he
   have W2:Wat Jy H2 p M { Z1 with al:=rest }:=⟨dx,hd,tn,wy,al,ds,as',hM,w2⟩
   refine⟨_,rfl,p,dx,_,rfl,w2.ob,fY _ _ _ _ (by decide +kernel) (by decide +kernel) (by decide +kernel) (by decide +kernel),_,rfl,q0,_,0,.int (a:Nat),rfl,rfl,SqT.of hq2,rfl,hf,φ,ρ,rk1,L,p,M,_,a,[],rfl,W2,I2,hL,p1,AllL.nil,rfl,by simp,fun t1 H3 Z3 K3 e3=>?_⟩
   have e3:H3 t1=some (.tup [.int (ρ a:Nat),.str (S (lay (back (φ a)++φ (ρ a))))]):=e3
   obtain⟨dx3,hd3,tn3,wy3,al3,ds3,as3,hM3,w3⟩:=id K3.at'
   have hq3:=K3.fr _ _ hq2 q0M
   refine⟨_,rfl,p,dx3,_,rfl,w3.ob,fY _ _ _ _ (by decide +kernel) (by decide +kernel) (by decide +kernel) (by decide +kernel),_,rfl,q0,_,2,.int (b:Nat),rfl,rfl,SqT.of hq3,rfl,_,rfl,q0,_,1,.str (S tt),rfl,rfl,SqT.of hq3,rfl,hf,φ,ρ,rk1,L,p,M,_,b,tt,rfl,K3.at',K3.wi,hL,by rw[K3.ln];exact p2,tA,by rw[p3,Di],by omega,fun t2 H4 Z4 K4 e4=>?_⟩
   have et:lay (tt++(back (φ b)++φ (ρ b)))=lay (back (φ a)++φ (ρ b)):=by
    rw[p3,fR _ _ (AllL.app.mpr ⟨aO (I1.fa a).1,(I1.fa b).1⟩),l8]
    exact fN (aO (I1.fa a).1) (I1.fa b).1 (I1.fa (ρ b)).1
   rw[et] at e4
   have t1M:t1 ∉ M:=by rw[hM3];exact w3.out e3 (by intro xs z;cases z) (by intro kvs z;cases z)
   have e34:=K4.fr _ _ e3 t1M
   have hln:Z4.hs.length=Z1.hs.length:=K4.ln.trans K3.ln
   have hws:Z4.ws=Z1.ws:=K4.ws.trans K3.ws
   have hal4:Z4.al=rest:=K4.al.trans K3.al
   have X4:EI E' ρ { Z4 with al:=(a,tt,b)::Z4.al }:=X1.move hws (by rw[hal1];show (a,tt,b)::Z4.al=_;rw[hal4]) hln
   have rab:Rel E' a b:=LI1.al a tt b (by rw[hal1];exact d9)
   have LI4:LI E' ρ Z4:=LI1.move fun e he=>by rw[hal4] at he;rw[hal1];exact d4 _ he
   have of4:OfE E' Z4:=fun i fs hi e he=>(X1.ofE LI1) i fs (by rw[← hws];exact hi) e he
   have f14:FrW M H H4:=fun x o e n=>K4.fr _ _ (K3.fr _ _ (f2 _ _ (f1 x o e n) n) n) n
   have hrl:m=9 * wB ρ Z.hs.length+(rest.length+1):=by rw[hm,hal1,j1]
   refine⟨_,rfl,t1,_,0,.int (ρ a:Nat),rfl,rfl,SqT.of e34,rfl,_,rfl,t2,_,0,.int (ρ b:Nat),rfl,rfl,SqT.of e4,rfl,rfl,_,rfl,?_⟩
   by_cases hab:ρ a=ρ b
   ·rw[show decide (V.int ((ρ a:Nat):Int)=V.int ((ρ b:Nat):Int))=true from decide_eq_true (by rw[hab])]
    refine eR ?_
    exact⟨ρ,rk1,Z4,_,_,_,by rw[hal4];omega,rfl,K4.at',K4.wi,X4.pop hab,LI4,hid,hln.trans hl1,f14⟩
   ·rw[show decide (V.int ((ρ a:Nat):Int)=V.int ((ρ b:Nat):Int))=false from decide_eq_false (fun z=>hab (by have:=V.int.inj z;omega))]
    refine jJ ?_
    obtain⟨dx4,hd4,tn4,wy4,al4,ds4,as4,hM4,w4⟩:=id K4.at'
    obtain⟨oA,ol⟩:=hZ I1 a (ρ a)
    obtain⟨oB,ol2⟩:=hZ I1 a (ρ b)
    refine⟨_,rfl,p,dx4,_,rfl,w4.ob,fY _ _ _ _ (by decide +kernel) (by decide +kernel) (by decide +kernel) (by decide +kernel),_,rfl,t1,_,0,.int (ρ a:Nat),rfl,rfl,SqT.of e34,rfl,_,rfl,t2,_,0,.int (ρ b:Nat),rfl,rfl,SqT.of e4,rfl,_,rfl,t1,_,1,.str (S (lay (back (φ a)++φ (ρ a)))),rfl,rfl,SqT.of e34,rfl,_,rfl,oA,by omega,fun H5 s5=>?_⟩
    refine⟨_,rfl,t2,_,1,.str (S (lay (back (φ a)++φ (ρ b)))),rfl,rfl,SqT.of (s5 _ _ e4),rfl,_,_,rfl,aO oA,oB,by rw[bW];omega,fun H6 s6=>?_⟩
    have ht:lay (back (lay (back (φ a)++φ (ρ a)))++lay (back (φ a)++φ (ρ b)))=lay (back (φ (ρ a))++φ (ρ b)):=by
     rw[I_ (I1.fa a).1 (I1.fa (ρ a)).1]
     exact IQ (I1.fa (ρ a)).1 (I1.fa a).1 (I1.fa (ρ b)).1
    rw[ht]
    have I4:=K4.wi
    obtain⟨ra1,ra2⟩:=I4.rt a (by rw[hln];exact p1)
    obtain⟨rb1,rb2⟩:=I4.rt b (by rw[hln];exact p2)
    obtain⟨es,hes⟩:∃ es,Z4.ws[ρ a]?=some es:=⟨_,a9 (by rw[I4.lw];exact ra1)⟩
    obtain⟨o1,o2,o3⟩:=Ea I4 X4 (by rw[hln];exact p1) (by rw[hln];exact p2) rfl rfl hab rfl hes
    have hel:es.length≤8:=rJ (I4.wy _ es hes).1 fun e he=>((I4.wy _ es hes).2 e he).1
    refine⟨hf,φ,ρ,rk1,_,_,L,p,M,Z4,ρ a,ρ b,_,es,rfl,(K4.at'.same s5).same s6,I4,I4.under ra2 rb2 hab rfl,hL,hes,ra1,rb1,hab,rfl,by rw[hal4];omega,fun H7 W7 f7=>?_⟩
    have rb3:ρ (ρ b)=ρ b:=hid b
    have lu:=LI4.under rab rfl rfl (lay (back (φ (ρ a))++φ (ρ b)))
    have rhd:Rel E' (ρ a) (ρ b):=((LI4.ro a).symm.trans rab).trans (LI4.ro b)
    have liu:=LI.underW (t:=lay (back (φ (ρ a))++φ (ρ b))) (es:=es) lu (fun i fs hi e he=>of4 i fs hi e he) (fun e he=>by
     obtain⟨u,v,z1,z2,z3⟩:=of4 _ es hes e he
     exact⟨u,v,z1,z2.trans rhd,z3⟩) (by show ρ b<Z4.ws.length;rw[I4.lw];exact rb1)
    have hcnt:=AD (N:=Z.hs.length) (hd:=ρ a) (ab:=ρ b) (by rw[← hl1,← hln];exact ra1) (hid a) rb3 hab
    have hul:=jY (ab:=ρ b) (t:=lay (back (φ (ρ a))++φ (ρ b))) (es:=es) (T:=dE Z4 (ρ a) (ρ b) (lay (back (φ (ρ a))++φ (ρ b))))
    have hul2:(dE Z4 (ρ a) (ρ b) (lay (back (φ (ρ a))++φ (ρ b)))).al.length=rest.length:=by show Z4.al.length=_;rw[hal4]
    refine⟨ρU ρ (ρ a) (ρ b),_,_,_,_,_,by omega,rfl,W7,o1,o2,liu,AH hid rb3 hab,?_,fun x o e n=>f7 _ _ (s6 _ _ (s5 _ _ (f14 x o e n))) n⟩
    rw[o3,j0]
    exact hln.trans hl1
theorem Hb{f:Addr}{fd:FuncData}(D:DfM K Jy "lay_word" "Weave.lay_word" Fq ["self","word","told"] f fd)(T:Txt P w K mg Jw Jx Jy)(c_z2:Cl P w K mg base "contrary" ["letter"] 1 iD)(c_zv:Cl P w K mg base "turned_back" ["word"] 2 kJ)(c_zh:mT P w K mg base Jy "new_place" ["self"] 1 (CA Jy))(c_zp:mT P w K mg base Jy "lay_way" ["self","place","letter","goal","told"] 4 (xD Jy)):mT P w K mg base Jy "lay_word" ["self","word","told"] 5 (yI Jy):=by
 obtain⟨f_zh,fd_zh,G_zh,m_zh,b_zh⟩:=c_zh
 obtain⟨f_zp,fd_zp,G_zp,m_zp,b_zp⟩:=c_zp
 refine D.cl (D.F.ok sc_zl (fun vs H Q E h=>?_) (fun cdv A outer s H vs Q E hr h=>?_))
 ·obtain⟨_,_,_,_,p,M,Z,E',wd,t,rfl,_⟩:=h
  rfl
 ·obtain⟨hf,φ,rk,L,p,M,Z,E',wd,t,rfl,hW,I,X,LI0,hsy,hL,hφ,h0,hN,hal,hwA,hcon,htold,hlen,k⟩:=h
  refine⟨_,(aD (aL (i:=3) sc_zl.nd rfl (Or.inl rfl) aG)
   (aF (cW j7 rfl (C7 (by rfl) T.b_enumerate (aA (pv 1) aC)) (iS (K:=K) rfl rfl (cD (bA (i:=4) sc_zl.nd rfl (Or.inl rfl)) (cD (bA (i:=5) sc_zl.nd rfl (Or.inl rfl)) fZ))) (aD (aL (i:=6) sc_zl.nd rfl (Or.inl rfl) (fJ fH (pv 4) (aZ FH (aT eJ (by rfl) T.b_len j8 (aA (pv 1) aC)) aG) (aS _)))
   (gB (aL (i:=7) sc_zl.nd rfl (Or.inl rfl) (kL (iJ (pv 6)) aG (uR (pv 0) T.o_Weave.cl m_zh G_zh (hr.mono (by decide)) b_zh .nil fA)))
   (gB (aL (i:=8) sc_zl.nd rfl (Or.inl rfl) (kL (iJ (pv 6)) (pv 2) cA))
   (aD (bR (dW (pv 0) T.o_Weave.cl m_zp G_zp (hr.mono (by decide)) b_zp .nil fA (aA (pv 3) (aA (pv 5) (aA (pv 7) (aA (pv 8) aC))))))
   (aD (bR (dW (pv 0) T.o_Weave.cl m_zp G_zp (hr.mono (by decide)) b_zp .nil fA (aA (pv 7) (aA (pC c_z2 hr (aA (pv 5) aC)) (aA (pv 3) (aA (pC c_zv hr (aA (pv 8) aC)) aC))))))
   (aF (aL (i:=3) sc_zl.nd rfl (Or.inl rfl) (pv 7))))))))))),?_⟩
  refine⟨_,rfl,S wd,rfl,BP (w:=wd) (fun i σ H2=>∃ (v4 v5 v6 v7 v8:Option V) (hr:Nat) (M2:List Addr) (Z2:WvS) (φ2:Nat→List Nat) (E2:Nat→Nat→Nat→Prop),σ=[some (.ref p),some (.str (S wd)),some (.str (S t)),some (.int (hr:Nat)),v4,v5,v6,v7,v8]∧Wat Jy H2 p M2 Z2∧MU H M M2∧FrW M H H2∧WI hf φ2 (fun x=>x) rk L Z2∧EI E2 (fun x=>x) Z2∧LI E2 (fun x=>x) Z2∧Gi E2∧(∀ p c q,E2 p c q↔E' p c q∨FlE Z.hs.length wd i p c q)∧φ2 0=[]∧Fw E2 (fun x=>x) 0 (wd.take i) hr∧hr<Z2.hs.length∧hr=dU Z.hs.length wd.length i∧Z2.hs.length=Z.hs.length+min i (wd.length - 1)∧Z2.al.length≤Z.al.length+2 * i∧(i<wd.length→φ2 hr=lay (back (Hw hf (wd.take i))))∧(i=wd.length→hr=0)) ?_ ?_ ?_⟩
  ·exact⟨_,_,_,_,_,0,M,Z,φ,E',rfl,hW,MU.refl _ _,FrW.refl _ _,I,X,LI0,hsy,fun p c q=>⟨.inl,fun z=>z.elim id fun ⟨j,hj,_⟩=>absurd hj (u5 _)⟩,hφ,rfl,h0,by unfold dU;rw[if_pos (.inl rfl)],by rw[Nat.zero_min];rfl,b9 _,fun _=>hφ,fun _=>rfl⟩
  ·rintro i c q _ H2 hc hq2 ⟨v4,v5,v6,v7,v8,hr,M2,Z2,φ2,E2,rfl,W2,u2,f2,I2,X2,LI2,sy2,mo2,φ20,fw2,hrl,hrp,ln2,al2,hφr,_⟩
   have hi:i<wd.length:=(a8.mp hc).1
   have hcL:cN c:=hwA c (b0 hc)
   have tk:wd.take (i+1)=wd.take i++[c]:=bM hc
   have huA:AllL (Hw hf (wd.take i)):=wI (fun c hc=>(I.ha c hc).1) fun x hx=>hwA x (p9 hx)
   have hcA:=(I.ha c hcL).1
   have hφr:=hφr hi
   have s3:=Same.new (o:=HO.tup [.int ((i:Nat):Int),.str (S [c])]) hq2
   refine⟨q,_,rfl,.inr (SqT.of aB),rfl,_,_,rfl,_,_,rfl,rfl,?_⟩
   generalize upd H2 q (.tup [.int ((i:Nat):Int),.str (S [c])])=H3 at s3
   refine⟨_,rfl,_,rfl,S wd,rfl,aK (by rw[bG];omega),_,_,rfl,rfl,rfl,?_⟩
   have W3:=W2.same s3
   have f3:FrW M H H3:=fun b o e n=>s3 _ _ (f2 b o e n)
   have hb:decide (V.int ((i:Nat):Int)=V.int ((((S wd).length:Nat):Int) - 1))=decide (i+1=wd.length):=by
    rw[bG]
    refine decide_eq_decide.mpr ⟨fun z=>by have:=V.int.inj z;omega,fun z=>by congr 1;omega⟩
   dsimp only
   rw[hb]
   generalize hlast:decide (i+1=wd.length)=lastb
   refine⟨fun σ H'=>∃ (v8:Option V) (g:Nat) (M4:List Addr) (Z4:WvS) (φ4:Nat→List Nat),σ=[some (.ref p),some (.str (S wd)),some (.str (S t)),some (.int (hr:Nat)),some (.int ((i:Nat):Int)),some (.str (S [c])),some (.bl lastb),some (.int (g:Nat)),v8]∧Wat Jy H' p M4 Z4∧MU H M M4∧FrW M H H'∧WI hf φ4 (fun x=>x) rk L Z4∧EI E2 (fun x=>x) Z4∧LI E2 (fun x=>x) Z4∧φ4 0=[]∧hr<Z4.hs.length∧g<Z4.hs.length∧g=dU Z.hs.length wd.length (i+1)∧Z4.hs.length=Z.hs.length+min (i+1) (wd.length - 1)∧Z4.al.length≤Z.al.length+2 * i∧φ4 hr=lay (back (Hw hf (wd.take i)))∧(lastb=true→g=0)∧(lastb=false→φ4 g=lay (back (Hw hf (wd.take (i+1))))),?_,?_⟩
   ·refine⟨_,rfl,_,rfl,?_⟩
    cases lastb with
    | true=>exact jJ ⟨_,0,M2,Z2,φ2,rfl,W3,u2,f3,I2,X2,LI2,φ20,hrl,by omega,by have hl:i+1=wd.length:=of_decide_eq_true hlast;unfold dU;rw[if_pos (.inr hl)],by have hl:i+1=wd.length:=of_decide_eq_true hlast;omega,al2,hφr,fun _=>rfl,fun z=>by cases z⟩
    | false =>
     refine eR ?_
     obtain⟨dx,hd,tn,wy,al,ds,as,hM,w3⟩:=id W3
     refine⟨_,rfl,p,dx,_,rfl,w3.ob,fY _ _ _ _ (by decide +kernel) (by decide +kernel) (by decide +kernel) (by decide +kernel),p,M2,Z2,rfl,W3,by omega,by rw[I2.lt];omega,by rw[I2.lw];omega,fun d H4 W4 hd4 f4=>?_⟩
     have hold:∀ {x:Nat},x<Z2.hs.length→φN φ2 Z2.hs.length (lay (back (Hw hf (wd.take (i+1))))) x=φ2 x:=fun {x} hx=>by unfold φN;rw[if_neg (by omega)]
     have hA1:AllL (Hw hf (wd.take (i+1))):=wI (fun c hc=>(I.ha c hc).1) fun x hx=>hwA x (p9 hx)
     have ln4:(BQ Z2).hs.length=Z2.hs.length+1:=by show (Z2.hs++[Z2.hs.length]).length=_;rw[b8];rfl
     refine⟨_,Z2.hs.length,M2++[d],BQ Z2,_,rfl,W4,fun x hx=>?_,?_,I2.new (dI (aO hA1)) (hlen (i+1) (by omega)),X2.new I2.lw,⟨LI2.ro,LI2.al⟩,?_,by omega,by omega,(by have hl:¬ i+1=wd.length:=of_decide_eq_false hlast;unfold dU;rw[if_neg (by omega)];omega),(by have hl:¬ i+1=wd.length:=of_decide_eq_false hlast;omega),al2,?_,fun z=>(by cases z),fun _=>?_⟩
     ·rcases i8.mp hx with z | z
      ·exact u2 x z
      ·rw[c5.mp z]
       by_cases hdM:d∈M
       ·exact .inl hdM
       ·refine .inr ?_
        cases e:H d with
        | none=>rfl
        | some o=>rw[f3 d o e hdM] at hd4;cases hd4
     ·exact FrW.trans f3 u2 f4
     ·rw[hold (by omega)];exact φ20
     ·rw[hold hrl];exact hφr
     ·unfold φN;rw[if_pos rfl]
   rintro _ H4 ⟨v8',g,M4,Z4,φ4,rfl,W4,u4,f4,I4,X4,LI4,φ40,hr4,hg4,hgp,l42,al4,hφ4,hg0,hgn⟩
   refine⟨fun σ H'=>∃ (pt:List Nat),σ=[some (.ref p),some (.str (S wd)),some (.str (S t)),some (.int (hr:Nat)),some (.int ((i:Nat):Int)),some (.str (S [c])),some (.bl lastb),some (.int (g:Nat)),some (.str (S pt))]∧H'=H4∧pt=lay (back (φ4 hr)++(hf c++φ4 g)),?_,?_⟩
   ·refine⟨_,rfl,_,rfl,?_⟩
    cases lastb with
    | true =>
     have hl:i+1=wd.length:=of_decide_eq_true hlast
     refine jJ ⟨_,rfl,t,rfl,rfl,?_⟩
     rw[htold (by intro z;rw[z] at hi;simp at hi),hφ4,hg0 rfl,φ40,zQ huA hcA,← tk,hl,k0]
    | false =>
     refine eR ⟨[],rfl,rfl,?_⟩
     rw[hφ4,hgn rfl,tk,Cp huA hcA]
   rintro _ _ ⟨pt,rfl,rfl,hpt⟩
   obtain⟨pA,pl⟩:AllL pt∧pt.length≤3 * L:=by rw[hpt];exact nI I4 hcL hr g
   obtain⟨es,hes⟩:∃ es,Z4.ws[hr]?=some es:=⟨_,a9 (by rw[I4.lw];exact hr4)⟩
   obtain⟨dx,hd,tn,wy,al,ds,as,hM,w4⟩:=id W4
   refine⟨_,rfl,p,dx,_,rfl,w4.ob,fY _ _ _ _ (by decide +kernel) (by decide +kernel) (by decide +kernel) (by decide +kernel),_,rfl,_,rfl,_,rfl,_,rfl,hf,φ4,(fun x=>x),rk,L,p,M4,Z4,hr,c,g,pt,es,rfl,W4,I4,hL,hes,hcL,hg4,hpt,by omega,fun H5 W5 f5=>?_⟩
   have I5:=I4.lay hes hcL hg4 hpt
   have X5:=X4.lay' (t:=pt) (c:=c) hes rfl hr4 hg4
   obtain⟨h5,_⟩:=gG (S:=Z4) hr c g pt es
   have la5:=kB (S:=Z4) (i:=hr) (c:=c) (g:=g) (t:=pt) (es:=es)
   have m5:∀ p' c' q',E2 p' c' q'→(E2 p' c' q'∨(p'=hr∧c'=c∧q'=g)):=fun _ _ _ z=>.inl z
   have LI5:=(LI4.mono m5).lay' (t:=pt) ((X4.ofE LI4).mono m5) hes (.inr ⟨rfl,rfl,rfl⟩)
   generalize aY Z4 hr c g pt es=Z5 at W5 I5 X5 LI5 h5 la5
   obtain⟨es',hes'⟩:∃ es,Z5.ws[g]?=some es:=⟨_,a9 (by rw[I5.lw,h5];exact hg4)⟩
   obtain⟨dx5,hd5,tn5,wy5,al5,ds5,as5,hM5,w5⟩:=id W5
   refine⟨_,rfl,p,dx5,_,rfl,w5.ob,fY _ _ _ _ (by decide +kernel) (by decide +kernel) (by decide +kernel) (by decide +kernel),_,rfl,_,rfl,c,rfl,hcL,fun H6 s6=>?_⟩
   refine⟨_,rfl,_,rfl,pt,rfl,pA,by omega,fun H7 s7=>?_⟩
   have hbp:back pt=lay (back (φ4 g)++(hf (aU c)++φ4 hr)):=by
    rw[hpt,hcon c hcL]
    exact IX (I4.fa hr).1 (I4.fa g).1 hcA
   refine⟨hf,φ4,(fun x=>x),rk,L,p,M4,Z5,g,aU c,hr,back pt,es',rfl,(W5.same s6).same s7,I5,hL,hes',cZ hcL,by rw[h5];exact hr4,hbp,by omega,fun H8 W8 f8=>?_⟩
   have I8:=I5.lay hes' (cZ hcL) (by rw[h5];exact hr4) hbp
   have X8:=X5.lay' (t:=back pt) (c:=aU c) hes' rfl (by rw[h5];exact hg4) (by rw[h5];exact hr4)
   obtain⟨h8,_⟩:=gG (S:=Z5) g (aU c) hr (back pt) es'
   have la8:=kB (S:=Z5) (i:=g) (c:=aU c) (g:=hr) (t:=back pt) (es:=es')
   have m8:∀ p' c' q',(E2 p' c' q'∨(p'=hr∧c'=c∧q'=g))→((E2 p' c' q'∨(p'=hr∧c'=c∧q'=g))∨(p'=g∧c'=aU c∧q'=hr)):=fun _ _ _ z=>.inl z
   have LI8:=(LI5.mono m8).lay' (t:=back pt) ((X5.ofE LI5).mono m8) hes' (.inr ⟨rfl,rfl,rfl⟩)
   generalize aY Z5 g (aU c) hr (back pt) es'=Z8 at W8 I8 X8 LI8 h8 la8
   have ff:FrW M H H8:=fun b o e n=>by
    have nM:b ∉ M4:=fun z=>(u4 b z).elim n fun q=>by rw[e] at q;cases q
    exact f8 _ _ (s7 _ _ (s6 _ _ (f5 _ _ (f4 b o e n) nM))) nM
   refine⟨_,rfl,_,_,_,_,_,g,M4,Z8,φ4,_,rfl,W8,u4,ff,I8,X8,LI8,?_,?_,φ40,?_,by rw[h8,h5];exact hg4,hgp,by rw[h8,h5];exact l42,by omega,fun hlt=>?_,fun hl=>?_⟩
   ·rintro p' c' q' ((z | ⟨rfl,rfl,rfl⟩) | ⟨rfl,rfl,rfl⟩)
    ·obtain⟨a,b⟩:=sy2 _ _ _ z
     exact⟨a,.inl (.inl b)⟩
    ·exact⟨hcL,.inr ⟨rfl,rfl,rfl⟩⟩
    ·exact⟨cZ hcL,.inl (.inr ⟨rfl,bK hcL,rfl⟩)⟩
   ·intro p' c' q'
    rw[FlE.succ hc,mo2,← hrp,← hgp]
    constructor
    ·rintro((z | z) | z)
     ·exact z.elim .inl fun z=>.inr (.inl z)
     ·exact .inr (.inr (.inl ⟨z.2.1,z.1,z.2.2⟩))
     ·exact .inr (.inr (.inr ⟨z.2.1,z.1,z.2.2⟩))
    ·rintro(z | z | z | z)
     ·exact .inl (.inl (.inl z))
     ·exact .inl (.inl (.inr z))
     ·exact .inl (.inr ⟨z.2.1,z.1,z.2.2⟩)
     ·exact .inr ⟨z.2.1,z.1,z.2.2⟩
   ·rw[tk]
    exact(fw2.mono fun p c q z=>.inl (.inl z)).app ⟨hr,g,rfl,.inl (.inr ⟨rfl,rfl,rfl⟩),rfl⟩
   ·have:lastb=false:=by rw[← hlast];exact decide_eq_false (by omega)
    exact hgn this
   ·have:lastb=true:=by rw[← hlast];exact decide_eq_true hl
    exact hg0 this
  ·rintro σ H2 ⟨v4,v5,v6,v7,v8,hr,M2,Z2,φ2,E2,rfl,W2,u2,f2,I2,X2,LI2,sy2,mo2,φ20,fw2,hrl,hrp,ln2,al2,_,hr0⟩
   have hr0:=hr0 rfl
   subst hr0
   rw[k0] at fw2
   exact k M2 H2 Z2 φ2 E2 W2 u2 f2 I2 X2 LI2 sy2 mo2 φ20 fw2 (by rw[ln2,Nat.min_eq_right (by omega)]) al2
theorem GW{f:Addr}{fd:FuncData}(D:Df K mg "numbers_of_heads" E5 ["n","weave"] f fd)(T:Txt P w K mg Jw Jx Jy)(c_zx:Cl P w K mg base "letters_of" ["n"] 1 (Bt K))(c_zo:mT P w K mg base Jy "head_of" ["self","place"] 5 (sC Jy))(c_zm:mT P w K mg base Jy "goal_of" ["self","head","letter"] 6 (rL Jy)):Cl P w K mg base "numbers_of_heads" ["n","weave"] 7 (xX Jy):=by
 obtain⟨f_zo,fd_zo,G_zo,m_zo,b_zo⟩:=c_zo
 obtain⟨f_zm,fd_zm,G_zm,m_zm,b_zm⟩:=c_zm
 refine D.cl (D.F.ok sc_za (fun vs H Q E h=>?_) (fun cdv A outer s H vs Q E hr h=>?_))
 ·obtain⟨_,_,_,_,_,n,p,M,Z,rfl,_⟩:=h
  rfl
 ·obtain⟨hf,φ,ρ,rk,L,n,p,M,Z,rfl,h1,h4,hW,I,hL,h0,hN,k⟩:=h
  refine⟨_,(aD (aL (i:=2) sc_za.nd rfl (Or.inl rfl) (dB (aA (dW (pv 1) T.o_Weave.cl m_zo G_zo (hr.mono (by decide)) b_zo .nil fA (aA aG aC)) aC)))
   (aD (aL (i:=3) sc_za.nd rfl (Or.inl rfl) (xN (tF (aQ (aN (K:=K) rfl) (pv 2) aG (fun _ _=>rfl)) aG zJ) rfl rfl (by simp) (by decide)))
   (aD (aL (i:=4) sc_za.nd rfl (Or.inl rfl) aG)
   (aD (iO j7 (aP B8 (pv 4) (aT (bB (K:=K) rfl) (by rfl) T.b_len j8 (aA (pv 2) aC)) (aS _)) (aD (cW j7 rfl (jH (K:=K) rfl (pC c_zx hr (aA (pv 0) aC))) (bA (i:=5) sc_za.nd rfl (Or.inl rfl)) (aD (aL (i:=6) sc_za.nd rfl (Or.inl rfl) (dW (pv 1) T.o_Weave.cl m_zm G_zm (hr.mono (by decide)) b_zm .nil fA (aA (aQ (aN (K:=K) rfl) (pv 2) (pv 4) (fun _ _=>rfl)) (aA (pv 5) aC))))
   (aF (cV (pw_and (aP mV (pv 6) hV (aS _)) (pw_and1 (BO (qO (l7 (p0 (by decide:1≤64) _) hr.units) (pv 6) (pv 3)) (by rfl)))).pt (aD (nF (l7 (p0 (by decide:1≤64) _) hr.units) (pv 3) (pv 6) (aT (bB (K:=K) rfl) (by rfl) T.b_len j8 (aA (pv 2) aC)) (by rfl))
   (aF (bR (cX (K:=K) rfl j6 m4 m6 cI (pv 2) (aA (pv 6) aC))))) bS))))
   (aF (En (i:=4) sc_za.nd rfl (Or.inl rfl) aG Ed))))
   (aF (aX (pv 3))))))),?_⟩
  obtain⟨dx,hd,tn,wy,al,a1⟩:=hW.self
  refine⟨_,rfl,p,dx,_,rfl,a1,fY _ _ _ _ (by decide +kernel) (by decide +kernel) (by decide +kernel) (by decide +kernel),hf,φ,ρ,rk,L,p,M,Z,0,rfl,hW,I,hL,h0,fun H1 Z1 K1=>?_⟩
  refine⟨(by show 1≤sizeLine;decide),fun hs hh=>?_⟩
  have hhM:hs ∉ M:=K1.at'.new hh
  have hhH:=K1.free hhM hh
  have K2:=K1.same (Same.new (o:=HO.lst [.int ((ρ 0:Nat):Int)]) hh)
  have e2:upd H1 hs (.lst [.int ((ρ 0:Nat):Int)]) hs=some (.lst (cF [ρ 0])):=aB
  generalize upd H1 hs (.lst [.int ((ρ 0:Nat):Int)])=H2 at K2 e2
  intro q hq
  have hqM:q ∉ M:=K2.at'.new hq
  have hqH:=K2.free hqM hq
  have s3:=Same.new (o:=HO.dK []) hq
  refine⟨_,rfl,hs,_,0,.int ((ρ 0:Nat):Int),rfl,rfl,SqL.of (s3 _ _ e2),rfl,?_⟩
  refine⟨aB,[(.inl ((ρ 0:Nat):Int),.int 0)],rfl,(by show 1≤15;decide),?_⟩
  have s4:Same H2 (upd (upd H2 q (.dK [])) q (.dK [(.inl ((ρ 0:Nat):Int),.int 0)])):=fun b o e=>by
   have n:b≠q:=aI e hq
   rw[aE n,aE n];exact e
  have e4:upd (upd H2 q (.dK [])) q (.dK [(.inl ((ρ 0:Nat):Int),.int 0)]) q=some (.dK (eE [ρ 0])):=aB
  show mO _ _ _ _ (upd (upd H2 q (.dK [])) q (.dK [(.inl ((ρ 0:Nat):Int),.int 0)]))
  have K3:=K2.same s4
  have e3:=s4 _ _ e2
  generalize upd (upd H2 q (.dK [])) q (.dK [(.inl ((ρ 0:Nat):Int),.int 0)])=H3 at e4 K3 e3
  have hr0:ρ 0<Z.hs.length:=(I.rt 0 h0).1
  refine⟨fun m0 σ H'=>∃ (v5 v6:Option V) (dn:Nat) (Z':WvS) (ord:List Nat),m0+dn=1000∧σ=[some (.int (n:Nat)),some (.ref p),some (.ref hs),some (.ref q),some (.int (dn:Nat)),v5,v6]∧Kept Jy hf φ ρ rk L p M H H' Z Z'∧H' hs=some (.lst (cF ord))∧H' q=some (.dK (eE ord))∧OrdOk Z.hs.length ord∧bY (fI ρ Z) (aJ (n:Nat)) 1000 0 [ρ 0]=bY (fI ρ Z) (aJ (n:Nat)) m0 dn ord,⟨1000,none,none,0,Z1,[ρ 0],rfl,rfl,K3,e3,e4,⟨by simp,fun x hx=>by rw[c5.mp hx];exact hr0⟩,rfl⟩,?_⟩
  rintro m0 _ H4 ⟨v5,v6,dn,Z4,ord,hmd,rfl,K4,e34,e44,ok,hup⟩
  have hol:=ok.len
  refine⟨_,rfl,_,rfl,hs,_,rfl,.inl (SqL.of e34),_,_,rfl,rfl,_,rfl,?_⟩
  refine eM (fun z=>?_) (fun z=>?_)
  rotate_left
  ·have hge:ord.length≤dn:=by
    have:¬ ((dn:Nat):Int)<(((cF ord).length:Nat):Int):=fun y=>z (decide_eq_true y)
    rw[cR] at this
    omega
   rw[pN _ _ _ _ _ hge] at hup
   refine⟨_,rfl,k q H4 Z4 K4 hqH ?_ ?_ ?_⟩
   ·rw[hup];exact e44
   ·rw[hup];omega
   ·rw[hup];exact ok.2
  ·have hlt:dn<ord.length:=by
    have:((dn:Nat):Int)<(((cF ord).length:Nat):Int):=of_decide_eq_true z
    rw[cR] at this
    omega
   obtain⟨s,hs'⟩:∃ s,ord[dn]?=some s:=⟨_,a9 hlt⟩
   have hsl:s<Z.hs.length:=ok.2 s (b0 hs')
   obtain⟨m1,rfl⟩:∃ m1,m0=m1+1:=⟨m0 - 1,by omega⟩
   rw[nW _ _ _ _ _ hs'] at hup
   refine⟨fun σ' H'=>∃ (v5 v6:Option V) (Z':WvS) (ord':List Nat),σ'=[some (.int (n:Nat)),some (.ref p),some (.ref hs),some (.ref q),some (.int ((dn+1:Nat):Int)),v5,v6]∧Kept Jy hf φ ρ rk L p M H H' Z Z'∧H' hs=some (.lst (cF ord'))∧H' q=some (.dK (eE ord'))∧OrdOk Z.hs.length ord'∧bY (fI ρ Z) (aJ (n:Nat)) 1000 0 [ρ 0]=bY (fI ρ Z) (aJ (n:Nat)) m1 (dn+1) ord',fun σ' H' ⟨v5,v6,Z',ord',e,s⟩=>⟨m1,by omega,v5,v6,dn+1,Z',ord',by omega,e,s⟩,?_⟩
   refine⟨_,rfl,n,rfl,h1,h4,fun t H5 s7 ht=>⟨t,rfl,⟨_,ht⟩,?_⟩⟩
   refine yM (K:=K) (a:=t) (xs:=bJ (aJ (n:Nat))) (fun i σ H'=>∃ (v5 v6:Option V) (Z':WvS),σ=[some (.int (n:Nat)),some (.ref p),some (.ref hs),some (.ref q),some (.int ((dn:Nat):Int)),v5,v6]∧Kept Jy hf φ ρ rk L p M H H' Z Z'∧H' hs=some (.lst (cF (bZ (fI ρ Z s) ((aJ (n:Nat)).take i) ord)))∧H' q=some (.dK (eE (bZ (fI ρ Z s) ((aJ (n:Nat)).take i) ord)))∧OrdOk Z.hs.length (bZ (fI ρ Z s) ((aJ (n:Nat)).take i) ord)∧SqT K H' t (bJ (aJ (n:Nat)))) ⟨_,_,Z4,rfl,K4.same s7,s7 _ _ e34,s7 _ _ e44,ok,ht⟩ ?_ ?_ ?_
   ·rintro i σ H' _ ⟨_,_,_,_,_,_,_,_,s8⟩
    exact s8
   ·rintro i x _ H6 hx ⟨v5,v6,Z6,rfl,K6,e36,e46,ok6,ht6⟩
    obtain⟨c,hc,rfl⟩:∃ c,(aJ (n:Nat))[i]?=some c∧x=.str (S [c]):=by
     unfold bJ at hx
     rw[c7] at hx
     cases e:(aJ (n:Nat))[i]? with
     | none=>rw[e] at hx;cases hx
     | some c=>rw[e] at hx;cases hx;exact⟨c,rfl,rfl⟩
    have tk:(aJ (n:Nat)).take (i+1)=(aJ (n:Nat)).take i++[c]:=bM hc
    rw[tk,xH]
    obtain⟨r,hr⟩:=eY (fI ρ Z s) ((aJ (n:Nat)).take i) ord
    have hat:(bZ (fI ρ Z s) ((aJ (n:Nat)).take i) ord)[dn]?=some s:=by rw[hr,m9 hlt];exact hs'
    generalize bZ (fI ρ Z s) ((aJ (n:Nat)).take i) ord=oi at e36 e46 ok6 hat
    have hoi:=ok6.len
    obtain⟨es,hes⟩:∃ es,Z6.ws[s]?=some es:=⟨_,a9 (by rw[K6.wi.lw,K6.ln];exact hsl)⟩
    have hdl:fI ρ Z s c=(cS es c).map fun r=>ρ r.1:=by
     unfold fI
     rw[c9,← K6.ws,hes]
     rfl
    obtain⟨dx6,hd6,tn6,wy6,al6,a6⟩:=K6.at'.self
    refine⟨_,rfl,p,dx6,_,rfl,a6,fY _ _ _ _ (by decide +kernel) (by decide +kernel) (by decide +kernel) (by decide +kernel),_,rfl,_,rfl,hs,_,_,.int ((s:Nat):Int),rfl,rfl,SqL.of e36,bD (jE hat),_,rfl,hf,φ,ρ,rk,L,p,M,Z6,s,c,es,rfl,K6.at',K6.wi,hL,hes,fun H7 Z7 K7=>?_⟩
    have e37:=K7.fr _ _ e36 hhM
    have e47:=K7.fr _ _ e46 hqM
    have K67:=K6.trans K7
    have htM:SqT K H7 t (bJ (aJ (n:Nat))):=Es K6.at' K7.fr ht6
    rw[hdl]
    cases ew:cS es c with
    | none =>
     refine⟨_,rfl,rfl,_,rfl,?_⟩
     show ∃ (v5 v6:Option V) (Z':WvS),_
     exact⟨_,_,Z7,rfl,K67,e37,e47,ok6,htM⟩
    | some rr =>
     have hgl:ρ rr.1<Z.hs.length:=by
      have:=((K6.wi.wy s es hes).2 _ (dH ew)).2.1
      have:=(K6.wi.rt rr.1 this).1
      rw[K6.ln] at this
      exact this
     show _
     dsimp only [u8]
     generalize ρ rr.1=g at hgl
     refine⟨_,rfl,rfl,_,rfl,?_⟩
     refine(show tB (rP (sQ 6) (sQ 3)) _ H7 _ from ?_)
     refine⟨_,rfl,_,rfl,q,_,rfl,DGet.k (k:=.inl ((g:Nat):Int)) e47,_,rfl,?_⟩
     rw[sH]
     by_cases hin:g∈oi
     ·rw[if_pos hin,if_pos hin]
      show ∃ (v5 v6:Option V) (Z':WvS),_
      exact⟨_,_,Z7,rfl,K67,e37,e47,ok6,htM⟩
     ·rw[if_neg hin,if_neg hin]
      have hl1000:oi.length<sizeLine:=aR (by omega)
      refine⟨_,rfl,hs,_,rfl,.inl (SqL.of e37),_,rfl,_,rfl,q,_,rfl,DPut.k (k:=.inl ((g:Nat):Int)) e47 (by rw[tK];exact hl1000),?_⟩
      have hnl:V.int (((cF oi).length:Nat):Int)=V.int ((oi.length:Nat):Int):=by rw[cR]
      rw[hnl,Cs hin]
      have K8:=K67.setD (o:=HO.dK (eE (oi++[g]))) hqM hqH e47
      have e48:upd H7 q (.dK (eE (oi++[g]))) q=some (.dK (eE (oi++[g]))):=aB
      have nqh:hs≠q:=cC e37 e47 (by intro z;cases z)
      have e38:upd H7 q (.dK (eE (oi++[g]))) hs=some (.lst (cF oi)):=by rw[aE nqh];exact e37
      have ht8:SqT K (upd H7 q (.dK (eE (oi++[g])))) t (bJ (aJ (n:Nat))):=by
       rcases htM with (z | ⟨o,z⟩) | z
       ·exact .inl (.inl (by rw[aE (cC z e47 (by intro y;cases y))];exact z))
       ·exact .inl (.inr ⟨o,by rw[aE (cC z e47 (by intro y;cases y))];exact z⟩)
       ·exact .inr z
      generalize upd H7 q (.dK (eE (oi++[g])))=H8 at K8 e48 e38 ht8
      refine⟨_,rfl,.inl ⟨rfl,_,SqL.of e38⟩,_,rfl,hs,_,_,rfl,rfl,e38,by rw[cR];exact hl1000,?_⟩
      refine⟨_,_,Z7,rfl,K8.set hhM hhH e38,?_,?_,ok6.snoc hgl hin,EJ e38 ht8⟩
      ·rw[aB,lB]
      ·rw[aE nqh.symm];exact e48
   ·rintro σ H6 ⟨v5,v6,Z6,rfl,K6,e36,e46,ok6,_⟩
    rw[bI,k0] at e36 e46 ok6
    exact⟨_,rfl,_,_,rfl,rfl,v5,v6,Z6,_,rfl,K6,e36,e46,ok6,hup⟩
theorem Gb{f:Addr}{fd:FuncData}(D:Df K mg "place_told" A4 ["n","weave","numbers","head"] f fd)(T:Txt P w K mg Jw Jx Jy)(c_zn:Cl P w K mg base "first_letters" ["n"] 1 kF)(c_zm:mT P w K mg base Jy "goal_of" ["self","head","letter"] 6 (rL Jy)):Cl P w K mg base "place_told" ["n","weave","numbers","head"] 7 (uM Jy):=by
 obtain⟨f_zm,fd_zm,G_zm,m_zm,b_zm⟩:=c_zm
 refine D.cl (D.F.ok sc_zw (fun vs H Q E h=>?_) (fun cdv A outer s H vs Q E hr h=>?_))
 ·obtain⟨_,_,_,_,_,n,p,M,Z,t,s,ord,rfl,_⟩:=h
  rfl
 ·obtain⟨hf,φ,ρ,rk,L,n,p,M,Z,t,s,ord,rfl,h1,h4,hW,I,hL,hsl,hN,hmem,k⟩:=h
  refine⟨_,(aD (iR (i:=4) (sc0:=aH A4) (N:=["n","weave","numbers","head","goals"]) (ix:=[1,3]) sc_zw.nd rfl rfl (by decide +kernel) rfl rfl rfl (jH (K:=K) rfl (pC c_zn hr (aA (pv 0) aC))) (fun _ _ _=>cB) (fun _ _ _=>(dW (pv 1) T.o_Weave.cl m_zm G_zm (hr.mono (by decide)) b_zm .nil fA (aA (pv 2) (aA (pv 0) aC)))))
   (aF (aX (bQ (eB (K:=K) rfl) (by rfl) T.b_tuple boot_tuple (aA (cL (sc0:=aH A4) (N:=["n","weave","numbers","head","goals"]) (ix:=[2]) (by decide +kernel) rfl rfl rfl (cK (K:=K) rfl (pv 4)) (fun _ _ _=>cB) (fun _ _ _=>(kL (aP vS (pv 0) hV (aS _)) hV (nE (l7 (p0 (by decide:1≤64) _) hr.units) (pv 1) (pv 0) (fun _ _=>rfl))))) aC))))),?_⟩
  obtain⟨on,hN⟩:=hN
  have htM:t ∉ M:=hW.out hN (by intro xs z;cases z) (by intro kvs z;cases z)
  have ll:(cM n).length=n:=(mS h1 h4).len
  have lln:(dD n).length=n:=iG h4
  refine⟨_,rfl,n,rfl,h1,h4,fun tl H1 htl s1 etl=>⟨tl,rfl,⟨_,SqT.of etl⟩,fun Dd hD=>?_⟩⟩
  have K1:Kept Jy hf φ ρ rk L p M H H1 Z Z:=(Kept.refl hW I).same s1
  have hDM:Dd ∉ M:=K1.at'.new hD
  have hDH:=K1.free hDM hD
  have tlM:tl ∉ M:=K1.at'.out etl (by intro xs z;cases z) (by intro kvs z;cases z)
  refine hX (xs:=bE (cM n)) (fun i H2=>∃ Z2,Kept Jy hf φ ρ rk L p M H H2 Z Z2∧H2 tl=some (.tup (bE (cM n)))∧H2 Dd=some (.lst (((dD n).take i).map fun c=>fL (fI ρ Z s c)))) ⟨Z,K1.same (Same.new hD),by rw[aE (aI etl hD)];exact etl,aB⟩ (fun i H2 _ ⟨_,_,h,_⟩=>SqT.of h) ?_ ?_
  ·rintro i v H2 hv ⟨Z2,K2,e2t,e2⟩
   obtain⟨rfl,hi⟩:=yF h4 hv
   have hci:=Bz hv
   obtain⟨es,hes⟩:∃ es,Z2.ws[s]?=some es:=⟨_,a9 (by rw[K2.wi.lw,K2.ln];exact hsl)⟩
   have hdl:fI ρ Z s (97+i)=(cS es (97+i)).map fun r=>ρ r.1:=by
    unfold fI
    rw[c9,← K2.ws,hes]
    rfl
   obtain⟨dx2,hd2,tn2,wy2,al2,a2⟩:=K2.at'.self
   refine⟨_,rfl,p,dx2,_,rfl,a2,fY _ _ _ _ (by decide +kernel) (by decide +kernel) (by decide +kernel) (by decide +kernel),_,rfl,_,rfl,hf,φ,ρ,rk,L,p,M,Z2,s,97+i,es,rfl,K2.at',K2.wi,hL,hes,fun H3 Z3 K3=>?_⟩
   have e3:=K3.fr _ _ e2 hDM
   have fin:∀ y,y=fL (fI ρ Z s (97+i))→∃ ys,H3 Dd=some (.lst ys)∧ys.length<sizeLine∧∃ Z2,Kept Jy hf φ ρ rk L p M H (upd H3 Dd (.lst (ys++[y]))) Z Z2∧upd H3 Dd (.lst (ys++[y])) tl=some (.tup (bE (cM n)))∧upd H3 Dd (.lst (ys++[y])) Dd=some (.lst (((dD n).take (i+1)).map fun c=>fL (fI ρ Z s c))):=fun y hy=>by
    refine⟨_,e3,?_,Z3,(K2.trans K3).set hDM hDH e3,?_,?_⟩
    ·rw[b7,i9];exact aR (by omega)
    ·rw[aE (cC (K3.fr _ _ e2t tlM) e3 (by intro z;cases z))];exact K3.fr _ _ e2t tlM
    ·rw[aB,t8,hci,g9,hy];rfl
   cases ew:cS es (97+i) with
   | none=>exact fin _ (by rw[hdl,ew];rfl)
   | some r=>exact fin _ (by rw[hdl,ew];rfl)
  ·rintro H2 ⟨Z2,K2,e2t,e2⟩
   rw[aM,ll,t4 (by omega)] at e2
   refine⟨_,rfl,Dd,rfl,⟨_,SqL.of e2⟩,fun Ee hE=>?_⟩
   have hEM:Ee ∉ M:=K2.at'.new hE
   have hN2:=K2.fr _ _ hN htM
   refine cG (xs:=(dD n).map fun c=>fL (fI ρ Z s c)) (fun i H3=>Same H2 H3∧H3 Ee=some (.lst ((jK (fI ρ Z) ((dD n).take i) ord s).map fL))) ⟨Same.new hE,aB⟩ (fun i H3 _ h=>SqL.of (h.1 _ _ e2)) ?_ ?_
   ·rintro i v H3 hv ⟨s3,e3⟩
    rw[c7] at hv
    obtain⟨c,hc,rfl⟩:=d8.mp hv
    have hi:i<n:=by have:=(a8.mp hc).1;omega
    have hcm:=kR h1 h4 (b0 hc)
    have fin:∀ y,y=fL ((fI ρ Z s c).map fun g=>ord.idxOf g)→(HO.lst ((jK (fI ρ Z) ((dD n).take i) ord s).map fL++[y]))=HO.lst ((jK (fI ρ Z) ((dD n).take (i+1)) ord s).map fL):=fun y hy=>by
     rw[bM hc,hy]
     unfold jK
     rw[g9,g9]
     rfl
    have sm:((jK (fI ρ Z) ((dD n).take i) ord s).map fL).length<sizeLine:=by
     unfold jK
     rw[b7,b7,i9];exact aR (by omega)
    cases ed:fI ρ Z s c with
    | none =>
     refine⟨_,rfl,rfl,_,rfl,?_⟩
     refine⟨_,e3,sm,s3.upd hE,?_⟩
     rw[aB,fin _ (by rw[ed];rfl)]
    | some g =>
     refine⟨_,rfl,rfl,_,rfl,?_⟩
     have hg:DGet H3 t (.int ((g:Nat):Int)) (some (.int (ord.idxOf g:Nat))):=by
      have:=DGet.fk (k:=.inl ((g:Nat):Int)) (s3 _ _ hN2)
      rw[sH,if_pos (hmem c hcm g ed)] at this
      exact this
     refine⟨_,rfl,_,rfl,t,.int (ord.idxOf g:Nat),rfl,hg,?_⟩
     refine⟨_,e3,sm,s3.upd hE,?_⟩
     rw[aB,fin _ (by rw[ed];rfl)]
   ·rintro H3 ⟨s3,e3⟩
    rw[b7,k0] at e3
    refine⟨Ee,_,rfl,.inl ⟨SqL.of e3,fun q hq=>?_⟩⟩
    have K3:=(K2.same s3).same (Same.new (o:=HO.tup ((jK (fI ρ Z) (dD n) ord s).map fL)) hq)
    exact k q _ Z2 K3 ((K2.same s3).free ((K2.same s3).at'.new hq) hq) aB
theorem FA{f:Addr}{fd:FuncData}(D:Df K mg "web_of" xS ["n","words"] f fd)(T:Txt P w K mg Jw Jx Jy)(c_zj:mT P w K mg base Jy "__init__" ["self"] 1 (tL Jy))(c_zl:mT P w K mg base Jy "lay_word" ["self","word","told"] 5 (yI Jy))(c_zy:mT P w K mg base Jy "fold" ["self"] 6 (yQ Jy))(c_za:Cl P w K mg base "numbers_of_heads" ["n","weave"] 7 (xX Jy))(c_zw:Cl P w K mg base "place_told" ["n","weave","numbers","head"] 7 (uM Jy)):Cl P w K mg base "web_of" ["n","words"] 8 (CC K):=by
 obtain⟨f_zj,fd_zj,G_zj,m_zj,b_zj⟩:=c_zj
 obtain⟨f_zl,fd_zl,G_zl,m_zl,b_zl⟩:=c_zl
 obtain⟨f_zy,fd_zy,G_zy,m_zy,b_zy⟩:=c_zy
 refine D.cl (D.F.ok sc_ze1 (fun vs H Q E h=>?_) (fun cdv A outer s H vs Q E hr h=>?_))
 ·obtain⟨n,a,rs,rfl,_⟩:=h
  rfl
 ·obtain⟨n,a,rs,rfl,h1,h4,ea,hlen,hall,k⟩:=h
  refine⟨_,(aD (aL (i:=2) sc_ze1.nd rfl (Or.inr rfl) (Ck (T.o_Weave.make m_zj) G_zj (hr.mono (by decide)) (by rfl) T.m_Weave b_zj .nil fA))
   (aD (cW j7 rfl (GG (cK (K:=K) rfl (pv 1)) (jH (K:=K) rfl (pv 1))) (bA (i:=3) sc_ze1.nd rfl (Or.inl rfl)) (aF (bR (dW (pv 2) T.o_Weave.cl m_zl G_zl (hr.mono (by decide)) b_zl .nil fA (aA (pv 3) (aA cA aC))))))
   (aD (bR (uR (pv 2) T.o_Weave.cl m_zy G_zy (hr.mono (by decide)) b_zy .nil fA))
   (aD (aL (i:=4) sc_ze1.nd rfl (Or.inr rfl) (pC c_za hr (aA (pv 0) (aA (pv 2) aC))))
   (aF (aX (bQ (eB (K:=K) rfl) (by rfl) T.b_tuple boot_tuple (aA (Bo (H0:=H) rfl (cL (sc0:=aH xS) (N:=["n","words","weave","word","numbers"]) (ix:=[0,2,4]) (by decide +kernel) rfl rfl rfl (AV (pv 4)) (fun _ _ _=>cB) (fun _ _ _=>(pC c_zw hr (aA (pv 1) (aA (pv 2) (aA (pv 3) (aA (pv 0) aC)))))))) aC)))))))),?_⟩
  intro p dx hp hdx hne
  have hp0:upd (upd H dx (.own p)) p (.ins Jy dx []) p=some (.ins Jy dx []):=aB
  have sN:∀ b o,H b=some o→upd (upd H dx (.own p)) p (.ins Jy dx []) b=some o:=fun b o e=>by rw[aE (aI e hp),aE (aI e hdx)];exact e
  refine⟨p,dx,rfl,hp0,fun M H1 hM1 hW1 kp1=>⟨rfl,?_⟩⟩
  have s1:Same H H1:=fun b o e=>kp1 b o (sN b o e) (aI e hp)
  have fr1:∀ x∈M,H x=none:=fun x hx=>by
   have:=hM1 x hx
   cases e:H x with
   | none=>rfl
   | some o=>rw[sN _ _ e] at this;cases this
  refine Ef (K:=K) (a:=a) (xs:=bE rs) (fun i σ H2=>∃ (v3:Option V) (M2:List Addr) (Z2:WvS) (φ2:Nat→List Nat) (E2:Nat→Nat→Nat→Prop),σ=[some (.int (n:Nat)),some (.ref a),some (.ref p),v3,none]∧Wat Jy H2 p M2 Z2∧(∀ x∈M2,H x=none)∧Same H H2∧WI (fun _=>[]) φ2 (fun x=>x) (fun _=>0) 0 Z2∧EI E2 (fun x=>x) Z2∧LI E2 (fun x=>x) Z2∧Gi E2∧φ2 0=[]∧(∀ p c q,E2 p c q↔eN 1 (rs.take i) p c q)∧0<Z2.hs.length∧Z2.hs.length=Hx 1 (rs.take i)∧Z2.hs.length≤1+i * 80∧Z2.al.length≤i * 160) (fun Q q=>⟨_,rfl,q⟩) ea ?_ ?_ ?_ ?_
  ·exact⟨none,M,GN,_,_,rfl,hW1,fr1,s1,WI.init (fun c _=>⟨AllL.nil,b9 _⟩),EI.init,⟨fun x=>.refl x,fun x t y z=>by cases z⟩,fun _ _ _ z=>z.elim,rfl,fun p c q=>Iff.rfl,(by decide),rfl,(by decide),(by decide)⟩
  ·rintro i σ H2 _ ⟨_,_,_,_,_,_,_,_,s2,_⟩
   exact s2
  ·rintro i v _ H2 hv ⟨v3,M2,Z2,φ2,E2,rfl,W2,fr2,s2,I2,X2,LI2,sy2,φ20,fe2,l0,ln,l1,l2⟩
   obtain⟨x,hx,rfl⟩:=dP hv
   have hi:i<rs.length:=(a8.mp hx).1
   obtain⟨xA,xl⟩:=hall x (b0 hx)
   have tk:rs.take (i+1)=rs.take i++[x]:=by rw[t8,hx];rfl
   obtain⟨dx2,hd2,tn2,wy2,al2,a2⟩:=W2.self
   have hH:∀ w:List Nat,Hw (fun _=>[]) w=[]:=fun w=>by unfold Hw;simp
   refine⟨_,rfl,p,dx2,_,rfl,a2,fY _ _ _ _ (by decide +kernel) (by decide +kernel) (by decide +kernel) (by decide +kernel),_,rfl,(fun _=>[]),φ2,(fun _=>0),0,p,M2,Z2,E2,x,[],rfl,W2,I2,X2,LI2,sy2,by decide,φ20,l0,by omega,by omega,xA,fun c _=>rfl,fun _=>by rw[hH];rfl,fun j _=>by rw[hH];exact b9 _,fun M3 H3 Z3 φ3 E3 W3 u3 f3 I3 X3 LI3 sy3 mo3 φ30 fw3 m1 m3=>?_⟩
   have s3:Same H H3:=fun b o e=>f3 b o (s2 _ _ e) fun z=>by rw[fr2 b z] at e;cases e
   refine⟨_,M3,Z3,φ3,E3,rfl,W3,fun y hy=>?_,s3,I3,X3,LI3,sy3,φ30,fun p' c' q'=>?_,by omega,?_,by omega,by omega⟩
   ·rcases u3 y hy with z | z
    ·exact fr2 y z
    ·exact s2.free z
   ·rw[tk,nQ,mo3,fe2,← ln]
   ·rw[tk,uL,m1,ln]
  ·rintro _ H2 ⟨v3,M2,Z2,φ2,E2,rfl,W2,fr2,s2,I2,X2,LI2,sy2,φ20,fe2,l0,ln,l1,l2⟩
   rw[aM,k0] at fe2
   rw[aM] at l1 l2
   obtain⟨dx2,hd2,tn2,wy2,al2,a2⟩:=W2.self
   refine⟨_,rfl,p,dx2,_,rfl,a2,fY _ _ _ _ (by decide +kernel) (by decide +kernel) (by decide +kernel) (by decide +kernel),(fun _=>[]),φ2,(fun _=>0),0,p,M2,Z2,E2,rfl,W2,I2,X2,LI2,by decide,by omega,by omega,fun ρ rk3 H3 Z3 W3 I3 X3 LI3 al3 hid3 ln3 f3=>?_⟩
   have aut:=Fy I3 X3 LI3 al3 hid3 fe2 0
   have s3:Same H H3:=fun b o e=>f3 b o (s2 _ _ e) fun z=>by rw[fr2 b z] at e;cases e
   refine⟨_,rfl,_,rfl,(fun _=>[]),φ2,ρ,rk3,0,n,p,M2,Z3,rfl,h1,h4,W3,I3,by decide,by rw[ln3];exact l0,by rw[ln3];omega,fun t H4 Z4 K4 ht et hol hox=>?_⟩
   have hcl:=gY (δ:=fI ρ Z3) (ls:=aJ (n:Nat)) 1000 0 [ρ 0] (fun i s hi=>absurd hi (u5 _)) (by omega)
   have hweb:fU (fun s c=>if ρ s=s then fI ρ Z3 s c else none) n (ρ 0) 1000=(bY (fI ρ Z3) (aJ (n:Nat)) 1000 0 [ρ 0]).map (jK (fI ρ Z3) (dD n) (bY (fI ρ Z3) (aJ (n:Nat)) 1000 0 [ρ 0])):=(B6 hid3).symm
   generalize bY (fI ρ Z3) (aJ (n:Nat)) 1000 0 [ρ 0]=ord at et hol hox hcl hweb
   have htM:=W3.new ht
   have ht0:H t=none:=s3.free ht
   have sK:∀ {G:Hp} {Zg:WvS},Kept Jy (fun _=>[]) φ2 ρ rk3 0 p M2 H3 G Z3 Zg→Same H G:=fun K b o e=>K.fr b o (s3 _ _ e) fun z=>by rw[fr2 b z] at e;cases e
   refine⟨_,rfl,t,_,rfl,.inl ⟨et,fun o Dd hD=>?_⟩⟩
   have K5:=K4.setD (o:=HO.frz o (.dK (eE ord))) htM ht et
   have e5:upd H4 t (.frz o (.dK (eE ord))) t=some (.frz o (.dK (eE ord))):=aB
   generalize upd H4 t (.frz o (.dK (eE ord)))=H5 at K5 e5 hD
   have hDM:Dd ∉ M2:=K5.at'.new hD
   have hD3:H3 Dd=none:=K5.free hDM hD
   have htD:t≠Dd:=aI e5 hD
   refine AG (d:=t) (o:=o) (kvs:=eE ord) (fun i G=>∃ (Zg:WvS) (qs:List Addr),Kept Jy (fun _=>[]) φ2 ρ rk3 0 p M2 H3 G Z3 Zg∧G t=some (.frz o (.dK (eE ord)))∧qs.length=i∧G Dd=some (.lst (qs.map V.ref))∧∀ (j:Nat) (q:Addr) (s:Nat),qs[j]?=some q→ord[j]?=some s→G q=some (.tup ((jK (fI ρ Z3) (dD n) ord s).map fL))) ⟨Z4,[],K5.same (Same.new hD),by rw[aE htD];exact e5,rfl,aB,fun j q s z=>by simp at z⟩ (fun i G _ ⟨_,_,_,h,_⟩=>h) ?_ ?_
   ·rintro i ky v G hk ⟨Zg,qs,Kg,eg,hql,eD,hqs⟩
    obtain⟨s,hs,rfl⟩:∃ s,ord[i]?=some s∧ky=.inl ((s:Nat):Int):=by
     unfold eE at hk
     rw[c7] at hk
     obtain⟨gk,hgk,e⟩:=d8.mp hk
     rw[List.getElem?_zipIdx] at hgk
     obtain⟨s,hs,rfl⟩:=d8.mp hgk
     exact⟨s,hs,(aZS e).1.symm⟩
    have hsm:=b0 hs
    have hil:i<ord.length:=(a8.mp hs).1
    refine⟨_,rfl,_,rfl,_,rfl,_,rfl,(fun _=>[]),φ2,ρ,rk3,0,n,p,M2,Zg,t,s,ord,rfl,h1,h4,Kg.at',Kg.wi,by decide,by rw[Kg.ln];exact hox s hsm,⟨o,eg⟩,fun c hc g hg=>hcl s hsm c hc g (by rw[← uW Kg];exact hg),fun q G6 Z6 K6 hq eq=>?_⟩
    rw[uW Kg] at eq
    have eD6:=K6.fr _ _ eD hDM
    have eg6:=K6.fr _ _ eg htM
    refine⟨_,eD6,by rw[b7,hql];exact aR (by omega),Z6,qs++[q],(Kg.trans K6).set hDM hD3 eD6,by rw[aE htD];exact eg6,by rw[b8,hql];rfl,by rw[aB,g9];rfl,fun j q' s' hj hs'=>?_⟩
    rcases dY hj with ⟨z,hj⟩ | ⟨z,rfl⟩
    ·have e0:=hqs j q' s' hj hs'
     have e6:=K6.fr _ _ e0 (Kg.at'.out e0 (by intro xs z;cases z) (by intro kvs z;cases z))
     rw[aE (cC e6 eD6 (by intro z;cases z))]
     exact e6
    ·rw[z,hql,hs] at hs'
     cases hs'
     rw[aE (cC eq eD6 (by intro z;cases z))]
     exact eq
   ·rintro G ⟨Zg,qs,Kg,eg,hql,eD,hqs⟩
    refine⟨_,.inr ⟨t,o,_,eg,fun o v z=>(by rw[ht0] at z;cases z),rfl⟩,?_⟩
    have s6:Same H (upd G t (.dK (eE ord))):=(sK Kg).upd ht0
    have eD6:upd G t (.dK (eE ord)) Dd=some (.lst (qs.map V.ref)):=by rw[aE htD.symm];exact eD
    refine⟨Dd,_,rfl,.inl ⟨SqL.of eD6,fun r hr=>k r _ ρ _ (s6.upd' hr) aut hid3 ⟨qs,aB,?_,fun i q row hq hrow=>?_⟩ (by rw[hweb,b7];exact hol)⟩⟩
    ·rw[hweb,b7,hql,tK]
    ·rw[hweb,c7] at hrow
     obtain⟨s,hs,rfl⟩:=d8.mp hrow
     have e0:=hqs i q s hq hs
     have e6:upd G t (.dK (eE ord)) q=_:=(aE (cC e0 eg (by intro z;cases z))).trans e0
     rw[aE (aI e6 hr)]
     exact e6
theorem Gd{f:Addr}{fd:FuncData}(D:Df K mg "_law_retold" EX ["_law_retelling","_law_word_here"] f fd)(T:Txt P w K mg Jw Jx Jy)(c_z1:Cl P w K mg base "_law_back" ["_law_word_here"] 2 lF)(c_z7:Cl P w K mg base "_law_laid" ["_law_text"] 2 mH):Cl P w K mg base "_law_retold" ["_law_retelling","_law_word_here"] 3 (sY K):=by
 refine D.cl (D.F.ok sc_zz (fun vs H Q E h=>?_) (fun cdv A outer s H vs Q E hr h=>?_))
 ·obtain⟨a,rs,n,M,x,rfl,_⟩:=h
  rfl
 ·obtain⟨a,rs,n,M,x,rfl,hq,hr0,h1,h4,hM,hox,hxl,hxm,k⟩:=h
  refine⟨_,(aD (aL (i:=2) sc_zz.nd rfl (Or.inl rfl) cA)
   (aD (cW j7 rfl (lZ (pv 1)) (bA (i:=3) sc_zz.nd rfl (Or.inl rfl)) (aD (aL (i:=4) sc_zz.nd rfl (Or.inl rfl) (aQ (bL (K:=K) rfl) (pv 0) (cX (K:=K) rfl o0 aXf aXg (vF rfl) cA (aA (fX (K:=K) rfl o0 aQi aQj oC (pv 3)) aC)) (fun _ _=>rfl)))
   (gB (cV (iJ (fX (K:=K) rfl o0 PySem.F.slot_str_isupper PySem.F.type_str_isupper xG (pv 3))) (aF (aL (i:=4) sc_zz.nd rfl (Or.inl rfl) (pC c_z1 hr (aA (pv 4) aC)))) bS)
   (aF (aL (i:=2) sc_zz.nd rfl (Or.inl rfl) (aZ bT (pv 2) (pv 4)))))))
   (aF (aX (pC c_z7 hr (aA (pv 2) aC)))))),?_⟩
  refine⟨_,rfl,S x,rfl,kU (w:=x) (fun i σ H1=>∃ v3 v4:Option V,σ=[some (.ref a),some (.str (S x)),some (.str (S (dL rs (x.take i)))),v3,v4]∧Same H H1) ⟨none,none,by rw[kS];rfl,Same.refl H⟩ ?_ ?_⟩
  ·rintro i c σ H1 hc ⟨v3,v4,rfl,s1⟩
   have hi:i<x.length:=(a8.mp hc).1
   have hcn:=hox c (b0 hc)
   have hcL:cN c:=aV hcn
   have hc1:AllL [c]:=fun d hd=>by rw[c5.mp hd];exact hcL
   have tl:=nP hr0 (x.take i)
   have tm:(x.take i).length * M≤x.length * M:=aQx _ (by rw[i9];omega)
   have htk:dL rs (x.take (i+1))=dL rs (x.take i)++eV rs c:=by rw[bM hc,iP,dO,vD,o6]
   have hll:=uJ hr0 c
   obtain⟨r,hr9⟩:∃ r,rs[lo c - 97]?=some r:=⟨_,a9 (Gv hcn hr0.len h1 h4)⟩
   have hra:=hr0.all r (b0 hr9)
   have hrl:=hr0.le r (b0 hr9)
   refine⟨_,rfl,rfl,_,rfl,rfl,S [c],rfl,rfl,pY [c] hc1 (by simp),_,_,rfl,rfl,?_,a,bE rs,_,.str (S r),rfl,rfl,L2.SqT.same s1 hq,?_,?_⟩
   ·rw[jA hc1];exact(yN hcL).1
   ·rw[jA hc1]
    show sX (bE rs) (Txt.find (Str.ofString "abcd") (S [lo c]))=some (.str (S r))
    rw[(yN hcL).2]
    exact bD (eU hr9)
   refine⟨fun σ H2=>σ=[some (.ref a),some (.str (S x)),some (.str (S (dL rs (x.take i)))),some (.str (S [c])),some (.str (S (eV rs c)))]∧Same H H2,?_,?_⟩
   ·refine⟨_,rfl,rfl,_,rfl,rfl,_,rfl,?_⟩
    rw[AB hcL]
    have ht:eV rs c=if bO c=true then r else back r:=by
     unfold eV lo at *
     unfold bO
     by_cases q:96<c
     ·rw[if_pos q] at hr9
      rw[if_pos (decide_eq_true q),if_pos (decide_eq_true q),c9,hr9];rfl
     ·rw[if_neg q] at hr9
      rw[if_neg (by simpa using q),if_neg (by simpa using q),c9,show c - 65=c+32 - 97 by omega,hr9];rfl
    cases hlow:bO c with
    | true =>
     rw[hlow,if_pos rfl] at ht
     rw[ht]
     exact eR ⟨rfl,s1⟩
    | false =>
     rw[hlow,if_neg (by decide)] at ht
     rw[ht]
     exact jJ ⟨_,rfl,r,rfl,hra,by omega,fun H2 s2=>⟨rfl,s1.trans s2⟩⟩
   rintro _ H2 ⟨rfl,s2⟩
   refine⟨_,rfl,_,rfl,_,_,rfl,rfl,by rw[bG,bG];exact aK (by omega),some (.str (S [c])),some (.str (S (eV rs c))),?_,s2⟩
   rw[htk,fP]
   rfl
  ·rintro _ H1 ⟨v3,v4,rfl,s1⟩
   rw[k0]
   have tl:=nP hr0 x
   exact⟨_,rfl,dL rs x,rfl,fT hr0 x,by omega,fun H2 s2=>k H2 (s1.trans s2)⟩
theorem E7{f:Addr}{fd:FuncData}(D:Df K mg "_law_then" zI ["_law_one","_law_other"] f fd)(T:Txt P w K mg Jw Jx Jy)(c_zz:Cl P w K mg base "_law_retold" ["_law_retelling","_law_word_here"] 3 (sY K)):Cl P w K mg base "_law_then" ["_law_one","_law_other"] 4 (Be K):=by
 refine D.cl (D.F.ok Fk (fun vs H Q E h=>?_) (fun cdv A outer s H vs Q E hr h=>?_))
 ·obtain⟨a,b,f,s,n,M,L,rfl,_⟩:=h
  rfl
 ·obtain⟨a,b,f0,s0,n,M,L,rfl,ha,hb,hf0,hs0,hfo,h1,h4,hM,hL,hML,k⟩:=h
  refine⟨_,(aF (aX (bQ (eB (K:=K) rfl) (by rfl) T.b_tuple boot_tuple (aA (cL (sc0:=aH zI) (N:=["_law_one","_law_other"]) (ix:=[1]) (by decide +kernel) rfl rfl rfl (jH (K:=K) rfl (pv 0)) (fun _ _ _=>cB) (fun _ _ _=>(pC c_zz hr (aA (pv 1) (aA (pv 0) aC))))) aC)))),?_⟩
  refine⟨_,rfl,a,rfl,⟨_,ha⟩,fun Dd hD=>hX (xs:=bE f0) (fun i H1=>Same H H1∧H1 Dd=some (.lst (bE ((f0.take i).map (fK s0))))) ⟨Same.new hD,aB⟩ (fun i H1 _ h=>L2.SqT.same h.1 ha) ?_ ?_⟩
  ·rintro i v H1 hv ⟨s1,e1⟩
   obtain⟨x,hx,rfl⟩:=dP hv
   have hxm:=b0 hx
   have hi:i<f0.length:=(a8.mp hx).1
   have hxl:=hf0.le x hxm
   refine⟨_,rfl,_,rfl,b,s0,n,L,x,rfl,L2.SqT.same s1 hb,hs0,h1,h4,hL,hfo x hxm,by omega,k8 (aQx _ hxl) (k8 hML (by decide)),fun H2 s2=>⟨_,s2 _ _ e1,?_,(s1.trans s2).upd hD,?_⟩⟩
   ·have:=hf0.len
    rw[aM,b7,i9];exact aR (by omega)
   ·rw[aB,t8,hx,g9]
    unfold bE
    rw[g9]
    rfl
  ·rintro H1 ⟨s1,e1⟩
   rw[aM,k0] at e1
   refine⟨Dd,_,rfl,.inl ⟨SqL.of e1,fun q hq=>k q _ (s1.free hq) (s1.upd' hq) aB⟩⟩
theorem Hi{f:Addr}{fd:FuncData}(D:Df K mg "_law_same" FD ["_law_n"] f fd)(T:Txt P w K mg Jw Jx Jy):Cl P w K mg base "_law_same" ["_law_n"] 1 kF:=by
 refine D.cl (D.F.ok Hy (fun vs H Q E h=>?_) (fun cdv A outer s H vs Q E hr h=>?_))
 ·obtain⟨n,rfl,_⟩:=h
  rfl
 ·obtain⟨n,rfl,h1,h4,k⟩:=h
  refine⟨_,(aF (aX (bQ (pI rfl) (by rfl) T.b_tuple boot_tuple (aA (kN xK cA kW (jC (pv 0))) aC)))),?_⟩
  refine⟨_,rfl,_,rfl,_,rfl,by decide +kernel,dD n,?_,?_,fun l hl=>?_⟩
  ·show [V.str (Txt.slice (Str.ofString "abcd") none (some ((n:Nat):Int)))]=_
   rw[B_,pE _ (by omega) (by simp;omega)]
   rfl
  ·unfold dD;rw[i9];simp;omega
  ·refine k l _ hl (Same.new hl) ?_
   rw[aB,Dl]
   rfl
theorem Hq{f:Addr}{fd:FuncData}(D:Df K mg "_law_drawn_change" EE ["_law_flow_here","_law_n"] f fd)(T:Txt P w K mg Jw Jx Jy)(c_z8:Cl P w K mg base "_law_pick" ["_law_flow_here","_law_many"] 1 iH)(c_zt:Cl P w K mg base "_law_letters" ["_law_n"] 1 mC)(c_zq:Cl P w K mg base "_law_contrary" ["_law_letter"] 1 iD):Cl P w K mg base "_law_drawn_change" ["_law_flow_here","_law_n"] 2 vC:=by
 refine D.cl (D.F.ok sc_zb (fun vs H Q E h=>?_) (fun cdv A outer s H vs Q E hr h=>?_))
 ·obtain⟨fl,sc,n,rfl,_⟩:=h
  rfl
 ·obtain⟨fl,sc,n,rfl,hf,h1,h4,k⟩:=h
  refine⟨_,(aD (aL (i:=2) sc_zb.nd rfl (Or.inl rfl) (aQ (aN (K:=K) rfl) (pC c_zt hr (aA (pv 1) aC)) (pC c_z8 hr (aA (pv 0) (aA (aZ iK aG (pv 1)) aC))) (fun _ _=>rfl)))
   (aD (aL (i:=3) sc_zb.nd rfl (Or.inl rfl) (dB aC))
   (aD (cW j7 rfl (cK (K:=K) rfl (pC c_zt hr (aA (pv 1) aC))) (bA (i:=4) sc_zb.nd rfl (Or.inl rfl)) (aF (cV (pw_or (aP fH (pv 4) (pv 2) (aS _)) (pw_or1 (pw_and (aP jT (pv 4) (pC c_zq hr (aA (pv 2) aC)) (aS _)) (pw_and1 (aP fH (pC c_z8 hr (aA (pv 0) (aA aG aC))) aG (aS _)))).pt)).pt (aF (bR (cX (K:=K) rfl j6 m4 m6 cI (pv 3) (aA (pv 4) aC)))) bS)))
   (aF (aX (eF (aA (pv 2) (aA (bQ (eB (K:=K) rfl) (by rfl) T.b_tuple boot_tuple (aA (pv 3) aC)) aC)))))))),?_⟩
  have i1:(1:Int)≤(n:Nat):=by omega
  have i4:((n:Nat):Int)≤4:=by omega
  refine⟨_,rfl,(n:Nat),rfl,i1,i4,fun l H1 hl s1 e1=>?_⟩
  refine⟨_,rfl,_,rfl,_,_,rfl,rfl,.inl ⟨by decide,by decide⟩,fl,sc,_,rfl,hf.same s1,by omega,by omega,fun d H2 d0 d1 f2 k2=>?_⟩
  have hln:=jF i1 i4
  obtain⟨c,hc⟩:∃ c,(aJ (n:Nat))[d.toNat]?=some c:=⟨_,a9 (show d.toNat<(aJ (n:Nat)).length by omega)⟩
  have hcm:c∈aJ (n:Nat):=b0 hc
  have hcL:=aV hcm
  refine⟨l,_,_,.str (S [c]),rfl,rfl,SqL.of (k2 _ _ e1 (hf.ne hl)),rV d0 (uT hc),aK (by simp),fun sd hsd=>?_⟩
  have hsf:sd≠fl:=f2.ne hsd
  have hss:sd≠sc:=f2.ne2 hsd
  have k02:Kp fl H H2:=s1.kp.trans k2
  have hsd0:H sd=none:=k02.free hsd hsf
  refine⟨_,rfl,(n:Nat),rfl,i1,i4,fun l2 H3 hl2 s3 e3=>⟨l2,rfl,⟨_,SqL.of e3⟩,?_⟩⟩
  have hl2s:sd≠l2:=aI (aB (H:=H2) (a:=sd) (o:=HO.lst [])) hl2
  have hl2f:l2≠fl:=(f2.upd hsd).ne hl2
  refine iY (K:=K) (a:=l2) (xs:=bJ (aJ (n:Nat))) (fun i σ H4=>∃ (v4:Option V) (w:List Nat),σ=[some (.ref fl),some (.int (n:Nat)),some (.str (S [c])),some (.ref sd),v4]∧IsFl H4 fl sc∧Kp fl H H4∧H4 l2=some (.lst (bJ (aJ (n:Nat))))∧H4 sd=some (.lst (bJ w))∧(∀ d∈w,d∈aJ (n:Nat)∧d≠aU c)∧w.length≤i∧(c∈(aJ (n:Nat)).take i→c∈w)∧w.Sublist ((aJ (n:Nat)).take i)) ?_ ?_ ?_ ?_
  ·exact⟨none,[],rfl,(f2.upd hsd).same s3,(k02.upd hsd0).trans s3.kp,e3,s3 _ _ aB,fun d hd=>(nomatch hd),b9 _,(fun h=>by simp at h),aZP []⟩
  ·rintro i _ H4 _ ⟨v4,w,rfl,f4,k4,e4,_⟩
   exact SqL.of e4
  ·rintro i v _ H4 hv ⟨v4,w,rfl,f4,k4,e4,es,hw,hwl,hin,hsub⟩
   obtain⟨o,ho,rfl⟩:∃ o,(aJ (n:Nat))[i]?=some o∧v=.str (S [o]):=by
    unfold bJ at hv
    rw[c7] at hv
    cases hq:(aJ (n:Nat))[i]? with
    | none=>rw[hq] at hv;cases hv
    | some o=>rw[hq] at hv;exact⟨o,rfl,(d6 hv).symm⟩
   have hom:=b0 ho
   have hi:i<8:=by have:=(a8.mp ho).1;omega
   have tk:c∈(aJ (n:Nat)).take (i+1)→c∈(aJ (n:Nat)).take i∨c=o:=fun h=>by
    rw[bM ho] at h
    rcases i8.mp h with q | q
    ·exact .inl q
    ·exact .inr (c5.mp q)
   have app:o≠aU c→∀ H5,IsFl H5 fl sc→Kp fl H H5→H5 l2=some (.lst (bJ (aJ (n:Nat))))→H5 sd=some (.lst (bJ w))→∃ (v4:Option V) (w':List Nat),[some (V.ref fl),some (.int (n:Nat)),some (.str (S [c])),some (.ref sd),some (.str (S [o]))]=[some (.ref fl),some (.int (n:Nat)),some (.str (S [c])),some (.ref sd),v4]∧IsFl (upd H5 sd (.lst (bJ w++[.str (S [o])]))) fl sc∧Kp fl H (upd H5 sd (.lst (bJ w++[.str (S [o])])))∧upd H5 sd (.lst (bJ w++[.str (S [o])])) l2=some (.lst (bJ (aJ (n:Nat))))∧upd H5 sd (.lst (bJ w++[.str (S [o])])) sd=some (.lst (bJ w'))∧(∀ d∈w',d∈aJ (n:Nat)∧d≠aU c)∧w'.length≤i+1∧(c∈(aJ (n:Nat)).take (i+1)→c∈w')∧w'.Sublist ((aJ (n:Nat)).take (i+1)):=fun hoc H5 f5 k5 e5 es5=>by
    refine⟨_,w++[o],rfl,f5.set hsf hss,k5.upd hsd0,by rw[aE hl2s.symm];exact e5,by rw[aB,cO],fun d hd=>?_,by rw[b8,t9];omega,fun h=>?_,(by rw[bM ho];exact hsub.append (aZP _))⟩
    ·rcases i8.mp hd with q | q
     ·exact hw d q
     ·rw[c5.mp q];exact⟨hom,hoc⟩
    ·rcases tk h with q | q
     ·exact l4 _ (hin q)
     ·rw[q];simp
   refine⟨_,rfl,_,rfl,rfl,_,rfl,eM (fun z=>jJ ⟨_,rfl,.inl ⟨rfl,_,SqL.of es⟩,_,rfl,sd,_,_,rfl,rfl,es,by rw[bI];exact aR (by omega),app (by rw[eO] at z;have z':o=c:=(by simpa using z);rw[z'];exact(A3 hcL).symm) H4 f4 k4 e4 es⟩) (fun z=>?_)⟩
   have hsub2:w.Sublist ((aJ (n:Nat)).take (i+1)):=by rw[bM ho];exact hsub.trans (List.sublist_append_left _ _)
   have zc:¬ c=o:=fun e=>z (by rw[eO,e];simp)
   have nin:c∈(aJ (n:Nat)).take (i+1)→c∈w:=fun h=>by
    rcases tk h with q | q
    ·exact hin q
    ·exact absurd q zc
   refine⟨_,rfl,_,rfl,c,rfl,hcL,fun H5 s5=>⟨rfl,_,rfl,eM (fun y=>?_) (fun y=>eR ?_)⟩⟩
   ·refine⟨_,rfl,fl,sc,2,rfl,f4.same s5,by decide,by decide,fun e H6 e0 e1 f6 k6=>⟨rfl,_,rfl,eM (fun x=>?_) (fun x=>?_)⟩⟩
    ·have es6:=k6 _ _ (s5 _ _ es) hsf
     exact⟨_,rfl,.inl ⟨rfl,_,SqL.of es6⟩,_,rfl,sd,_,_,rfl,rfl,es6,by rw[bI];exact aR (by omega),app (fun e=>by rw[eO,e] at y;simp at y) H6 f6 ((k4.trans s5.kp).trans k6) (k6 _ _ (s5 _ _ e4) hl2f) es6⟩
    ·exact⟨_,w,rfl,f6,(k4.trans s5.kp).trans k6,k6 _ _ (s5 _ _ e4) hl2f,k6 _ _ (s5 _ _ es) hsf,hw,by omega,nin,hsub2⟩
   ·exact⟨_,w,rfl,f4.same s5,k4.trans s5.kp,s5 _ _ e4,s5 _ _ es,hw,by omega,nin,hsub2⟩
  ·rintro _ H4 ⟨v4,w,rfl,f4,k4,e4,es,hw,hwl,hin,hsub⟩
   rw[bI,k0] at hin hsub
   rw[bI,hln] at hwl
   refine⟨_,rfl,_,rfl,sd,_,rfl,.inl ⟨SqL.of es,fun q hq=>⟨aK (by simp),fun p hp=>?_⟩⟩⟩
   have hqf:q≠fl:=f4.ne hq
   have hpf:p≠fl:=(f4.upd hq).ne hp
   have hq0:H q=none:=k4.free hq hqf
   have hp0:H p=none:=(k4.upd hq0).free hp hpf
   have hpq:q≠p:=aI (aB (H:=H4) (a:=q) (o:=HO.tup (bJ w))) hp
   exact k p c w _ hp0 ⟨hcm,fun d hd=>(hw d hd).1,(BX h1 h4).sublist hsub,hin hcm,fun z=>(hw _ z).2 rfl⟩ (by omega) ⟨q,aB,by rw[aE hpq];exact aB⟩ ((f4.upd hq).upd hp) ((k4.upd hq0).upd hp0)
theorem HC{f:Addr}{fd:FuncData}(D:Df K mg "_law_change_told" Fz ["_law_n","_law_change"] f fd)(T:Txt P w K mg Jw Jx Jy)(c_zq:Cl P w K mg base "_law_contrary" ["_law_letter"] 1 iD):Cl P w K mg base "_law_change_told" ["_law_n","_law_change"] 2 tW:=by
 refine D.cl (D.F.ok sc_zf (fun vs H Q E h=>?_) (fun cdv A outer s H vs Q E hr h=>?_))
 ·obtain⟨n,p,c,sd,rfl,_⟩:=h
  rfl
 ·obtain⟨n,p,c,sd,rfl,h1,h4,⟨q,ep,eq⟩,hc,hsd,k⟩:=h
  refine⟨_,(aD (dS (pv 1) (iS (K:=K) rfl rfl (cD (bA (i:=2) sc_zf.nd rfl (Or.inl rfl)) (cD (bA (i:=3) sc_zf.nd rfl (Or.inl rfl)) fZ))))
   (aD (aL (i:=4) sc_zf.nd rfl (Or.inl rfl) (dB aC))
   (aD (cW j7 rfl (lZ (kN xK cA kW (jC (pv 0)))) (bA (i:=5) sc_zf.nd rfl (Or.inl rfl)) (aD (aL (i:=6) sc_zf.nd rfl (Or.inl rfl) (pv 5))
   (gB (cV (aP jT (pv 5) (fX (K:=K) rfl o0 aQi aQj oC (pv 2)) (aS _)) (aD (aL (i:=6) sc_zf.nd rfl (Or.inl rfl) (aZ bT (pv 5) (aZ oK (pv 2) (bQ lK (by rfl) T.b_int boot_int (aA (fJ (Bd (K:=K) rfl) (pv 5) (pv 3) (by rfl)) aC)))))
   (aF (aL (i:=6) sc_zf.nd rfl (Or.inl rfl) (aZ bT (aZ oK (pC c_zq hr (aA (pv 2) aC)) (bQ lK (by rfl) T.b_int boot_int (aA (fJ (Bd (K:=K) rfl) (pC c_zq hr (aA (pv 5) aC)) (pv 3) (by rfl)) aC))) (pv 6))))) bS)
   (aF (bR (cX (K:=K) rfl j6 m4 m6 cI (pv 4) (aA (pv 6) aC)))))))
   (aF (aX (bQ (eB (K:=K) rfl) (by rfl) T.b_tuple boot_tuple (aA (pv 4) aC))))))),?_⟩
  refine⟨_,rfl,p,_,rfl,.inr (SqT.of ep),rfl,_,_,rfl,_,_,rfl,rfl,?_⟩
  refine⟨aK (by simp),fun l hl=>?_⟩
  refine⟨_,rfl,_,rfl,_,rfl,by decide +kernel,S (dD n),?_,?_⟩
  ·show V.str (Txt.slice (Str.ofString "abcd") none (some ((n:Nat):Int)))=_
   rw[B_,pE _ (by omega) (by simp;omega)]
   rfl
  refine kU (w:=dD n) (fun i σ H1=>∃ v5 v6:Option V,σ=[some (.int (n:Nat)),some (.ref p),some (.str (S [c])),some (.ref q),some (.ref l),v5,v6]∧Same H H1∧H1 l=some (.lst (bE (((dD n).take i).map (qU c sd))))) ⟨none,none,rfl,Same.new hl,aB⟩ ?_ ?_
  ·rintro i d σ H1 hd ⟨v5,v6,rfl,s1,e1⟩
   have hm:=b0 hd
   have hdL:=zC hm
   have hdl:=yR hm
   have hi:i<4:=by have:=(a8.mp hd).1;rw[iG h4] at this;omega
   have hc1:=gR hc
   refine⟨_,rfl,?_⟩
   refine⟨fun σ H2=>σ=[some (.int (n:Nat)),some (.ref p),some (.str (S [c])),some (.ref q),some (.ref l),some (.str (S [d])),some (.str (S (qU c sd d)))]∧Same H1 H2,?_,?_⟩
   ·refine⟨_,rfl,_,rfl,rfl,S [c],rfl,rfl,pY [c] hc1 (by simp),?_⟩
    rw[jA hc1]
    refine⟨rfl,_,rfl,?_⟩
    show if (!decide (V.str (S [d])=V.str (S [lo c])))=true then _ else _
    rw[EZ]
    by_cases hlo:d=lo c
    ·rw[decide_eq_true hlo]
     have e:qU c sd d=[d]:=by unfold qU;rw[if_pos hlo]
     rw[e]
     exact eR ⟨rfl,Same.refl _⟩
    ·rw[decide_eq_false hlo]
     refine jJ ⟨_,rfl,_,rfl,_,rfl,_,rfl,q,bJ sd,rfl,.inr (SqT.of (s1 _ _ eq)),rfl,pL sd,.inr ⟨_,rfl,?_⟩⟩
     refine⟨S [c],(if FO (.str (S [d])) (bJ sd)=true then 1 else 0),rfl,rfl,yX _ _,?_⟩
     rw[D_,BH]
     have hu1:(if decide (d∈sd)=true then [c] else []).length≤1:=by split <;> simp
     have hu2:(if decide (d∈sd)=true then [c] else [])=(if d∈sd then [c] else []):=by simp only [decide_eq_true_iff]
     generalize (if decide (d∈sd)=true then [c] else [])=u at hu1 hu2
     refine⟨_,_,rfl,rfl,by rw[bG,bG];exact aK (by simp;omega),?_⟩
     rw[fP]
     refine⟨_,rfl,c,rfl,hc,fun H2 s2=>⟨_,rfl,d,rfl,hdL,fun H3 s3=>⟨_,rfl,q,bJ sd,rfl,.inr (SqT.of (s3 _ _ (s2 _ _ (s1 _ _ eq)))),rfl,pL sd,.inr ⟨_,rfl,S [aU c],(if FO (.str (S [aU d])) (bJ sd)=true then 1 else 0),rfl,rfl,yX _ _,?_⟩⟩⟩⟩
     rw[D_,BH]
     have hv1:(if decide (aU d∈sd)=true then [aU c] else []).length≤1:=by split <;> simp
     have hv2:(if decide (aU d∈sd)=true then [aU c] else [])=(if aU d∈sd then [aU c] else []):=by simp only [decide_eq_true_iff]
     generalize (if decide (aU d∈sd)=true then [aU c] else [])=v at hv1 hv2
     refine⟨_,rfl,_,_,rfl,rfl,by rw[bG,bG,b8];exact aK (by simp;omega),?_,s2.trans s3⟩
     rw[fP,← l8,hu2,hv2]
     have e:qU c sd d=(if aU d∈sd then [aU c] else [])++[d]++(if d∈sd then [c] else []):=by unfold qU;rw[if_neg hlo]
     rw[e]
     rfl
   rintro _ H2 ⟨rfl,s2⟩
   have e2:=s2 _ _ e1
   refine⟨_,rfl,.inl ⟨rfl,_,SqL.of e2⟩,_,rfl,l,_,_,rfl,rfl,e2,?_,_,_,rfl,(s1.trans s2).upd hl,?_⟩
   ·rw[aM,b7,i9];exact aR (by omega)
   ·rw[aB,bM hd,g9]
    unfold bE
    rw[g9]
    rfl
  ·rintro _ H1 ⟨v5,v6,rfl,s1,e1⟩
   rw[k0] at e1
   exact⟨_,rfl,l,_,rfl,.inl ⟨SqL.of e1,fun t ht=>k t _ (s1.free ht) (s1.upd' ht) aB⟩⟩
theorem EM{f:Addr}{fd:FuncData}(D:Df K mg "_law_key" xR ["_law_word_here"] f fd)(T:Txt P w K mg Jw Jx Jy):Cl P w K mg base "_law_key" ["_law_word_here"] 1 Ch:=by
 refine D.cl (D.F.ok Ez (fun vs H Q E h=>?_) (fun cdv A outer s H vs Q E hr h=>?_))
 ·obtain⟨x,rfl,_⟩:=h
  rfl
 ·obtain⟨x,rfl,hx,hlen,k⟩:=h
  refine⟨_,(aF (aX (eF (aA (aT eJ (by rfl) T.b_len j8 (aA (pv 0) aC)) (aA (cL (sc0:=aH xR) (N:=["_law_word_here"]) (ix:=[]) (by decide +kernel) rfl rfl rfl (lZ (pv 0)) (fun _ _ _=>cB) (fun _ _ _=>(cX (K:=K) rfl o0 aXf aXg (vF rfl) cA (aA (pv 0) aC)))) aC))))),?_⟩
  refine⟨_,rfl,_,rfl,by rw[bG];exact aK (by omega),_,rfl,S x,rfl,fun Dd hD=>wQ (w:=x) (fun i H1=>Same H H1∧H1 Dd=some (.lst ((rks (x.take i)).map V.int))) ⟨Same.new hD,aB⟩ ?_ ?_⟩
  ·rintro i c H1 hc ⟨s1,e1⟩
   have hi:i<x.length:=(a8.mp hc).1
   have hcL:=hx c (b0 hc)
   refine⟨rfl,_,rfl,_,_,rfl,rfl,(D4 hcL).1,?_⟩
   rw[(D4 hcL).2]
   refine⟨_,e1,?_,s1.upd hD,?_⟩
   ·rw[b7,nC,i9];exact aR (by omega)
   ·rw[aB,bM hc];unfold rks;rw[g9,g9];rfl
  ·rintro H1 ⟨s1,e1⟩
   rw[k0] at e1
   refine⟨aK (by simp),fun p hp=>?_⟩
   rw[bG]
   exact k p Dd _ (s1.free hp) hD (s1.upd' hp) aB (by rw[aE (aI e1 hp)];exact e1)
theorem HH{f:Addr}{fd:FuncData}(D:Df K mg "_law_change_back" DF ["_law_change"] f fd)(T:Txt P w K mg Jw Jx Jy)(c_zq:Cl P w K mg base "_law_contrary" ["_law_letter"] 1 iD)(c_zc1:Cl P w K mg base "_law_key" ["_law_word_here"] 1 Ch):Cl P w K mg base "_law_change_back" ["_law_change"] 4 Bq:=by
 obtain⟨f_zc1,fd_zc1,G_zc1,m_zc1,k_zc1,b_zc1⟩:=c_zc1
 refine D.cl (D.F.ok sc_zg (fun vs H Q E h=>?_) (fun cdv A outer s H vs Q E hr h=>?_))
 ·obtain⟨n,p,c,sd,rfl,_⟩:=h
  rfl
 ·obtain⟨n,p,c,sd,rfl,h1,h4,⟨q,ep,eq⟩,g,hl8,k⟩:=h
  refine⟨_,(aD (dS (pv 0) (iS (K:=K) rfl rfl (cD (bA (i:=1) sc_zg.nd rfl (Or.inr rfl)) (cD (bA (i:=2) sc_zg.nd rfl (Or.inl rfl)) fZ))))
   (aD (aL (i:=3) sc_zg.nd rfl (Or.inl rfl) (aZ sB (cL (sc0:=aH DF) (N:=["_law_change","_law_letter","_law_side","_law_other"]) (ix:=[1]) (by decide +kernel) rfl rfl rfl (jH (K:=K) rfl (pv 2)) (fun _ _ _=>kZ (aP jT (pv 0) (pv 1) (aS _))) (fun _ _ _=>(pv 0))) (dB (aA (pC c_zq hr (aA (pv 1) aC)) aC))))
   (aF (aX (eF (aA (pC c_zq hr (aA (pv 1) aC)) (aA (bQ (eB (K:=K) rfl) (by rfl) T.b_tuple boot_tuple (aA (Ba (K:=K) rfl G_zc1 (hr.mono (by decide)) b_zc1 (by rfl) T.b_sorted (by rfl) m_zc1 (aA (pv 3) aC)) aC)) aC))))))),?_⟩
  have hcL:=aV g.let'
  refine⟨_,rfl,p,_,rfl,.inr (SqT.of ep),rfl,_,_,rfl,_,_,rfl,rfl,?_⟩
  refine⟨_,rfl,q,rfl,⟨_,SqT.of eq⟩,fun Dd hD=>hX (xs:=bJ sd) (fun i H2=>Same H H2∧H2 Dd=some (.lst (bJ ((sd.take i).filter fun d=>decide (d≠c))))) ⟨Same.new hD,aB⟩ (fun i H2 _ h=>SqT.of (h.1 _ _ eq)) ?_ ?_⟩
  ·rintro i v H2 hv ⟨s2,eD⟩
   obtain⟨d,hd,rfl⟩:=Dr hv
   have hi:i<sd.length:=(a8.mp hd).1
   refine⟨_,rfl,_,rfl,rfl,_,rfl,?_⟩
   rw[eO]
   refine eM (fun z=>?_) (fun z=>?_)
   ·have z':d≠c:=by simpa using z
    refine⟨_,rfl,_,eD,?_,s2.upd hD,?_⟩
    ·rw[bI]
     have:=u0 (fun d=>decide (d≠c)) (sd.take i)
     rw[i9] at this
     exact aR (by omega)
    ·rw[aB,bM hd,aQc,aX6 (by simpa using z'),aXA,cO]
   ·have z':d=c:=by simpa using z
    refine⟨s2,?_⟩
    rw[bM hd,aQc,aX5 (by simpa using z'),aXA,o6]
    exact eD
  ·rintro H2 ⟨s2,eD⟩
   rw[bI,k0] at eD
   have hfl:(sd.filter fun d=>decide (d≠c)).length≤8:=k8 (u0 _ _) hl8
   have hfm:∀ d∈(sd.filter fun d=>decide (d≠c))++[aU c],cN d:=fun d hd=>by
    rcases i8.mp hd with z | z
    ·exact aV (g.side d (x8.mp z).1)
    ·rw[c5.mp z];exact cZ hcL
   have hss:=fun (ws:List (List Nat)) hp ho=>uS (ws:=ws) h1 h4 g hp ho
   generalize (sd.filter fun d=>decide (d≠c))=F at eD hfl hfm hss
   refine⟨_,rfl,c,rfl,hcL,fun H3 s3=>⟨aK (by simp),fun l hl=>?_⟩⟩
   have eD3:=s3 _ _ eD
   refine⟨Dd,l,_,_,rfl,rfl,by rw[aE (aI eD3 hl)];exact eD3,aB,aK (by rw[bI];simp;omega),fun L hL=>?_⟩
   have s4:Same H3 (upd (upd H3 l (.lst [.str (S [aU c])])) L (.lst (bJ F++[.str (S [aU c])]))):=(Same.new hl).upd' hL
   have e4:upd (upd H3 l (.lst [.str (S [aU c])])) L (.lst (bJ F++[.str (S [aU c])])) L=some (.lst (bE (mE (F++[aU c])))):=by rw[aB,qZ,cO]
   generalize upd (upd H3 l (.lst [.str (S [aU c])])) L (.lst (bJ F++[.str (S [aU c])]))=H4 at s4 e4
   refine⟨_,rfl,c,rfl,hcL,fun H6 s6=>⟨_,rfl,?_⟩⟩
   have e6:=s6 _ _ e4
   obtain⟨l',xs',kz,Pv,el,a0,a1,a2,a3,a4,a5,a6,a7⟩:=BS (K:=K) (Q:=fun v H''=>∃ D ws',v=V.ref D∧H6 D=none∧Same H6 H''∧H'' D=some (.lst (bE ws'))∧ws'.Perm (mE (F++[aU c]))∧ws'.Pairwise Bw) (SqL.of e6) (by unfold mE;rw[b7,b8];show F.length+1<64;omega) (fun y hy=>by
    obtain⟨d,hd,rfl⟩:=j2.mp hy
    exact⟨gR (hfm d hd),by simp⟩) (fun D ws' H' a b c d e=>⟨D,ws',rfl,a,b,c,d,e⟩)
   refine⟨l',xs',kz,Pv,el,a0,a1,a2,a3,a4,a5,a6,fun S' ks H5' hP=>?_⟩
   obtain⟨b1,b2,b3,b4⟩:=a7 S' ks H5' hP
   refine⟨b1,b2,b3,fun pp hpp so L2 hL2=>?_⟩
   obtain⟨L',ws,eL,_,s7,e7,hp7,ho7⟩:=b4 pp hpp so L2 hL2
   cases eL
   generalize upd (upd H5' S' (.lst [])) L2 (.lst (pp.toList.map fun i=>xs'.getD i .non))=H7 at s7 e7
   rw[hss ws hp7 ho7,qZ] at e7
   have s17:Same H H7:=(((s2.trans s3).trans s4).trans s6).trans s7
   refine⟨L2,_,rfl,.inl ⟨SqL.of e7,fun t ht=>⟨aK (by simp),fun r hr=>k r _ ((s17.upd' ht).upd' hr) ⟨t,aB,?_⟩⟩⟩⟩
   rw[aE (aI (aB (H:=H7) (a:=t) (o:=HO.tup (bJ (lS c sd)))) hr)]
   exact aB
theorem GI{f:Addr}{fd:FuncData}(D:Df K mg "_law_alphabet" De ["_law_flow_here","_law_n","_law_steps","_law_most"] f fd)(T:Txt P w K mg Jw Jx Jy)(c_z8:Cl P w K mg base "_law_pick" ["_law_flow_here","_law_many"] 1 iH)(c_za1:Cl P w K mg base "_law_then" ["_law_one","_law_other"] 4 (Be K))(c_z6:Cl P w K mg base "_law_same" ["_law_n"] 1 kF)(c_zb:Cl P w K mg base "_law_drawn_change" ["_law_flow_here","_law_n"] 2 vC)(c_zf:Cl P w K mg base "_law_change_told" ["_law_n","_law_change"] 2 tW)(c_zg:Cl P w K mg base "_law_change_back" ["_law_change"] 4 Bq):Cl P w K mg base "_law_alphabet" ["_law_flow_here","_law_n","_law_steps","_law_most"] 5 BG:=by
 refine D.cl (D.F.ok sc_zr (fun vs H Q E h=>?_) (fun cdv A outer s H vs Q E hr h=>?_))
 ·obtain⟨fl,sc,n,mo,st,rfl,_⟩:=h
  rfl
 ·obtain⟨fl,sc,n,mo,st,rfl,f,h1,h4,m1,m8,s0,s9,k⟩:=h
  refine⟨_,(aD (AY (i:=4) (j:=5) rfl sc_zr.nd rfl rfl (by decide) rfl rfl (aA (pC c_z6 hr (aA (pv 1) aC)) (aA (pC c_z6 hr (aA (pv 1) aC)) aC)) (by rfl))
   (aD (cW j7 rfl (dQ (by rfl) T.b_range (aA (pC c_z8 hr (aA (pv 0) (aA (aZ eT (pv 2) aG) aC))) aC)) (bA (i:=6) sc_zr.nd rfl (Or.inl rfl)) (aD (aL (i:=7) sc_zr.nd rfl (Or.inl rfl) (pC c_zb hr (aA (pv 0) (aA (pv 1) aC))))
   (aD (aL (i:=8) sc_zr.nd rfl (Or.inl rfl) (pC c_za1 hr (aA (pv 4) (aA (pC c_zf hr (aA (pv 1) (aA (pv 7) aC))) aC))))
   (aD (aL (i:=9) sc_zr.nd rfl (Or.inl rfl) (pC c_za1 hr (aA (pC c_zf hr (aA (pv 1) (aA (pC c_zg hr (aA (pv 7) aC)) aC))) (aA (pv 5) aC))))
   (aF (cV (aP BD (aT (Aq (K:=K) rfl rfl) (by rfl) T.b_max boot_max (aA (cL (sc0:=aH De) (N:=["_law_flow_here","_law_n","_law_steps","_law_most","_law_found","_law_back_here","_law_k","_law_change","_law_further","_law_further_back"]) (ix:=[]) (by decide +kernel) rfl rfl rfl (jH (K:=K) rfl (aZ (Ci (K:=K) rfl) (pv 8) (pv 9))) (fun _ _ _=>cB) (fun _ _ _=>(aT eJ (by rfl) T.b_len j8 (aA (pv 0) aC)))) aC)) (pv 3) (aS _)) (aF (AY (i:=4) (j:=5) rfl sc_zr.nd rfl rfl (by decide) rfl rfl (aA (pv 8) (aA (pv 9) aC)) (by rfl))) bS))))))
   (aF (aX (eF (aA (pv 4) (aA (pv 5) aC))))))),?_⟩
  refine⟨_,rfl,n,rfl,h1,h4,fun p1 H1 hp1 s1 e1=>?_⟩
  refine⟨_,rfl,n,rfl,h1,h4,fun p2 H2 hp2 s2 e2=>?_⟩
  have f2:=(f.same s1).same s2
  have e12:=s2 _ _ e1
  have k02:Kp fl H H2:=(s1.trans s2).kp
  refine⟨_,_,rfl,_,rfl,_,rfl,_,_,rfl,rfl,fl,sc,_,rfl,f2,(by show (0:Int)<st+1;omega),(by show st+1<(1073741824:Int);omega),fun d H3 d0 d1 f3 k3=>⟨d,rfl,by omega,by have:d<st+1:=d1;omega,?_⟩⟩
  refine eX (lo:=0) (n:=d.toNat) (fun i σ G=>∃ (a b:Addr) (fd bk:List (List Nat)) (v6 v7 v8 v9:Option V),σ=[some (.ref fl),some (.int (n:Nat)),some (.int st),some (.int (mo:Nat)),some (.ref a),some (.ref b),v6,v7,v8,v9]∧AI G a fd∧AI G b bk∧IvG n fd bk mo mo∧IsFl G fl sc∧Kp fl H G) ?_ ?_ ?_
  ·exact⟨p1,p2,cM n,cM n,none,none,none,none,rfl,zB f2 k3 e12,zB f2 k3 e2,IvG.low h1 h4 mo mo m1 m1,f3,k02.trans k3⟩
  ·rintro i _ G hi ⟨a,b,fd,bk,v6,v7,v8,v9,rfl,ea,eb,iv,fG,kG⟩
   refine⟨_,rfl,_,rfl,fl,sc,n,rfl,fG,h1,h4,fun p c sd G2 hp gd hl8 ic fG2 kG2=>?_⟩
   have hcL:=aV gd.let'
   have hsL:∀ d∈sd,cN d:=fun d hd=>aV (gd.side d hd)
   have ic':=gd.back h1 h4
   obtain⟨r1,r2,r3,r4⟩:=C8 h1 h4 gd
   have ea2:=zB fG kG2 ea
   have eb2:=zB fG kG2 eb
   refine⟨_,rfl,_,rfl,_,rfl,n,p,c,sd,rfl,h1,h4,ic,hcL,hsL,fun t3 G3 ht3 s3 e3=>?_⟩
   refine⟨a,t3,fd,iE n c sd,n,mo,3,rfl,SqT.of (s3 _ _ ea2),SqT.of e3,iv.rt,r1.1,fun x hx=>(iv.ro x hx).1,h1,h4,by omega,by omega,by omega,fun pf G4 hpf s4 e4=>?_⟩
   have s24:=s3.trans s4
   refine⟨_,rfl,_,rfl,n,p,c,sd,rfl,h1,h4,ic.same s24,gd,hl8,fun q5 G5 s5 ic5=>?_⟩
   refine⟨n,q5,aU c,lS c sd,rfl,h1,h4,ic5,cZ hcL,fun d hd=>aV (ic'.side d hd),fun t6 G6 ht6 s6 e6=>?_⟩
   have s26:=(s24.trans s5).trans s6
   refine⟨_,rfl,t6,b,iE n (aU c) (lS c sd),bk,n,3,mo,rfl,SqT.of e6,SqT.of (s26 _ _ eb2),r2.1,iv.bt,r2.2,h1,h4,by omega,by omega,by omega,fun pb G7 hpb s7 e7=>?_⟩
   have s27:=s26.trans s7
   have s47:=(s5.trans s6).trans s7
   have fG7:=fG2.same s27
   have kG7:Kp fl H G7:=(kG.trans kG2).trans s27.kp
   have iv2:=iv.comp h1 h4 r1 r2 r3 r4
   have e47:=s47 _ _ e4
   have nf:(bN fd (iE n c sd)).length=n:=iv2.rt.len
   have nb:(bN (iE n (aU c) (lS c sd)) bk).length=n:=iv2.bt.len
   generalize bN fd (iE n c sd)=ff at e47 iv2 nf
   generalize bN (iE n (aU c) (lS c sd)) bk=fb at e7 iv2 nb
   have lall:∀ x∈ff++fb,x.length≤24:=fun x hx=>by
    rcases i8.mp hx with z | z
    ·have:=iv2.rt.le x z;omega
    ·have:=iv2.bt.le x z;omega
   have nn:∀ {l:List (List Nat)},l.length=n→bE l≠[]:=fun {l} e z=>by
    have:=congrArg List.length z
    rw[aM,e] at this
    simp at this
    omega
   refine⟨_,rfl,_,rfl,pf,pb,_,_,rfl,rfl,SqT.of e47,SqT.of e7,nn nf,aK (by rw[aM,aM];omega),(fun z=>absurd z (nn nb)),fun _ pt hpt=>?_⟩
   have ec:bE ff++bE fb=bE (ff++fb):=by unfold bE;rw[g9]
   rw[ec]
   have s8:=Same.new (o:=HO.tup (bE (ff++fb))) hpt
   have e8:upd G7 pt (.tup (bE (ff++fb))) pt=some (.tup (bE (ff++fb))):=aB
   generalize upd G7 pt (.tup (bE (ff++fb)))=G8 at s8 e8
   refine⟨pt,rfl,⟨_,SqT.of e8⟩,fun Dd hD=>hX (K:=K) (a:=pt) (xs:=bE (ff++fb)) (fun i G9=>Same G8 G9∧G9 Dd=some (.lst ((((ff++fb).take i).map fun x=>((x.length:Nat):Int)).map V.int))) ⟨Same.new hD,aB⟩ (fun i G9 _ h=>SqT.of (h.1 _ _ e8)) ?_ ?_⟩
   ·rintro i v G9 hv ⟨s9,e9⟩
    obtain⟨x,hx,rfl⟩:=dP hv
    have hxl:=lall x (b0 hx)
    have hil:=(a8.mp hx).1
    refine⟨_,rfl,S x,rfl,aK (by rw[bG];omega),_,e9,?_,s9.upd hD,?_⟩
    ·rw[b7,b7,i9]
     have:(ff++fb).length=n+n:=by rw[b8,nf,nb]
     exact aR (by omega)
    ·rw[aB,t8,hx,g9,g9,bG]
     rfl
   ·rintro G9 ⟨s9,e9⟩
    rw[aM,k0] at e9
    refine⟨Dd,_,rfl,SqL.of e9,by rw[b7,b8,nf];omega,fun mx hmx=>?_⟩
    refine⟨_,rfl,_,_,rfl,rfl,_,rfl,?_⟩
    have s79:=s8.trans s9
    have f9:=fG7.same s79
    have k9:Kp fl H G9:=kG7.trans s79.kp
    refine eM (fun e=>?_) (fun e=>?_)
    ·have e':mx≤((mo:Nat):Int):=of_decide_eq_true e
     obtain⟨x1,x2⟩:=Fl rfl hmx e'
     refine⟨_,rfl,_,rfl,_,_,rfl,pf,pb,ff,fb,_,_,_,_,rfl,s79 _ _ e47,s79 _ _ e7,iv2.le x1 x2,f9,k9⟩
    ·exact⟨a,b,fd,bk,_,_,_,_,rfl,s79 _ _ (s27 _ _ ea2),s79 _ _ (s27 _ _ eb2),iv,f9,k9⟩
  ·rintro _ G ⟨a,b,fd,bk,v6,v7,v8,v9,rfl,ea,eb,iv,fG,kG⟩
   refine⟨_,rfl,_,rfl,aK (by simp),fun t ht=>?_⟩
   have s5:=Same.new (o:=HO.tup [.ref a,.ref b]) ht
   exact k t a b fd bk _ aB (s5 _ _ ea) (s5 _ _ eb) iv (fG.upd ht) (kG.upd (kG.free ht (fG.ne ht)))
inductive IvJ0(fl:Addr)(a:Addr)(rs:List (List Nat))(sc:Addr)(H:Hp)(i:Nat)(σ:L2.St)(G:Hp):Prop
 | mk (us:List (List Nat)) (v4 v5:Option V) (h0:σ=[some (.ref fl),some (.ref a),some (.int (m:Nat)),some (.str (S us.flatten)),v4,v5]) (h1:(∀ u∈us,∃ v∈rs,u=v∨u=back v)) (h2:us.length=i) (h3:IsFl G fl sc) (h4:Kp fl H G):IvJ0 fl a rs sc H i σ G
theorem HB{f:Addr}{fd:FuncData}(D:Df K mg "_law_joined_ones" ED ["_law_flow_here","_law_some","_law_many"] f fd)(T:Txt P w K mg Jw Jx Jy)(c_z8:Cl P w K mg base "_law_pick" ["_law_flow_here","_law_many"] 1 iH)(c_z1:Cl P w K mg base "_law_back" ["_law_word_here"] 2 lF)(c_z7:Cl P w K mg base "_law_laid" ["_law_text"] 2 mH):Cl P w K mg base "_law_joined_ones" ["_law_flow_here","_law_some","_law_many"] 3 AU:=by
 refine D.cl (D.F.ok sc_zd (fun vs H Q E h=>?_) (fun cdv A outer s H vs Q E hr h=>?_))
 ·obtain⟨fl,sc,a,rs,n,m,M,rfl,_⟩:=h
  rfl
 ·obtain⟨fl,sc,a,rs,n,m,M,rfl,f,ea,haf,h1,h4,hrl,hrs,hm,hM,k⟩:=h
  refine⟨_,(aD (aL (i:=3) sc_zd.nd rfl (Or.inl rfl) cA)
   (aD (cW j7 rfl (dQ (by rfl) T.b_range (aA (aZ iK (pv 2) (bQ lK (by rfl) T.b_int boot_int (aA (fJ nV (aT (bB (K:=K) rfl) (by rfl) T.b_len j8 (aA (pv 1) aC)) aG (aS _)) aC))) aC)) (bA (i:=4) sc_zd.nd rfl (Or.inl rfl)) (aD (aL (i:=5) sc_zd.nd rfl (Or.inl rfl) (aQ (aN (K:=K) rfl) (pv 1) (pC c_z8 hr (aA (pv 0) (aA (aT (bB (K:=K) rfl) (by rfl) T.b_len j8 (aA (pv 1) aC)) aC))) (fun _ _=>rfl)))
   (aF (aL (i:=3) sc_zd.nd rfl (Or.inl rfl) (aZ bT (pv 3) (aQ (aN (K:=K) rfl) (dB (aA (pv 5) (aA (pC c_z1 hr (aA (pv 5) aC)) aC))) (pC c_z8 hr (aA (pv 0) (aA aG aC))) (fun _ _=>rfl)))))))
   (aF (aX (pC c_z7 hr (aA (pv 3) aC)))))),?_⟩
  obtain⟨b,hb,hb1,hb2⟩:∃ b:Nat,(if decide ((0:Int)<(((bE rs).length:Nat):Int))=true then (1:Int) else 0)=((b:Nat):Int)∧b≤1∧(b=1→0<rs.length):=by
   rw[aM]
   by_cases z:0<rs.length
   ·exact⟨1,by rw[decide_eq_true (by omega)];rfl,by omega,fun _=>z⟩
   ·exact⟨0,by rw[decide_eq_false (by omega)];rfl,by omega,fun z=>by omega⟩
  refine⟨_,rfl,_,rfl,a,_,rfl,.inl (SqL.of ea),_,_,rfl,rfl,.inr ⟨_,rfl,?_⟩⟩
  rw[hb]
  have hmb:((m:Nat):Int) * ((b:Nat):Int)=((m * b:Nat):Int):=by simp
  have hmb5:m * b≤m:=by
   have:b=0∨b=1:=by omega
   rcases this with rfl | rfl <;> omega
  have hx1:∀ x∈rs,x.length≤M:=fun x hx=>(hrs x hx).2
  have hx2:∀ x∈rs,OfN n x:=fun x hx=>(hrs x hx).1
  refine⟨_,_,rfl,rfl,.inl ⟨by omega,by omega⟩,((m * b:Nat):Int),by rw[← hmb],by omega,by omega,?_⟩
  have e0:Str.ofString ""=S ([]:List (List Nat)).flatten:=kS
  refine eX (lo:=0) (n:=(((m * b:Nat):Int)).toNat) (IvJ0 fl a rs sc H) ⟨[],none,none,by rw[← e0];rfl,fun u hu=>by (cases hu),rfl,f,Kp.refl _ _⟩ ?_ ?_
  ·rintro i _ G hi ⟨us,v4,v5,rfl,hus,hul,fG,kG⟩
   have hb':b=1:=by
    have:b=0∨b=1:=by omega
    rcases this with rfl | rfl
    ·simp at hi
    ·rfl
   have hpos:=hb2 hb'
   have hi5:i<5:=by
    have:(((m * b:Nat):Int)).toNat=m * b:=by omega
    omega
   have ul:=rQ hx1 hus
   have ul2:us.length * M≤5 * 100:=aQd (by omega) hM
   have eaG:=kG _ _ ea haf
   refine⟨_,rfl,_,rfl,_,rfl,a,_,rfl,.inl (SqL.of eaG),fl,sc,_,rfl,fG,by rw[aM];omega,by rw[aM];omega,fun g G2 g0 g1 f2 k2=>?_⟩
   rw[aM] at g1
   obtain⟨x,hx⟩:∃ x,rs[g.toNat]?=some x:=⟨_,a9 (by omega)⟩
   have hxm:=b0 hx
   obtain⟨xO,xl⟩:=hrs x hxm
   refine⟨a,_,g,.str (S x),rfl,rfl,SqL.of (k2 _ _ eaG haf),rV g0 (eU hx),?_⟩
   refine⟨_,rfl,_,rfl,_,rfl,x,rfl,xO.all,by omega,fun G3 s3=>⟨aK (by simp),fun q hq=>?_⟩⟩
   have f3:=f2.same s3
   refine⟨_,rfl,fl,sc,2,rfl,f3.upd hq,by decide,by decide,fun e G4 e0 e1 f4 k4=>?_⟩
   obtain⟨y,hy,hyx⟩:∃ y,sX [V.str (S x),V.str (S (back x))] e=some (.str (S y))∧(y=x∨y=back x):=by
    have:e=0∨e=1:=by omega
    rcases this with rfl | rfl
    ·exact⟨x,rfl,.inl rfl⟩
    ·exact⟨back x,rfl,.inr rfl⟩
   have hyl:y.length≤M:=by
    rcases hyx with rfl | rfl
    ·exact xl
    ·rw[bW];exact xl
   have hqf:q≠fl:=f3.ne hq
   have eq4:=k4 _ _ (aB (H:=G3) (a:=q) (o:=HO.lst [.str (S x),.str (S (back x))])) hqf
   refine⟨q,_,_,_,rfl,rfl,SqL.of eq4,hy,_,_,rfl,rfl,by rw[bG,bG];exact aK (by omega),?_⟩
   rw[fP]
   have hq2:G2 q=none:=s3.free hq
   refine⟨us++[y],_,_,by rw[List.flatten_append,List.flatten_singleton];rfl,fun u hu=>?_,by rw[b8,hul];rfl,f4,?_⟩
   ·rcases i8.mp hu with z | z
    ·exact hus u z
    ·rw[c5.mp z];exact⟨x,hxm,hyx⟩
   ·exact((kG.trans k2).trans (s3.upd' hq).kp).trans k4
  ·rintro _ G ⟨us,v4,v5,rfl,hus,hul,fG,kG⟩
   have ul:=rQ hx1 hus
   have hum:us.length≤m:=by omega
   have ul2:us.length * M≤m * M:=aQd hum (b9 _)
   have ul3:m * M≤5 * 100:=aQd hm hM
   have uO:=Dk (n:=(n:Nat)) (by omega) (by omega) hx2 hus
   have:=eZ us.flatten
   exact⟨_,rfl,us.flatten,rfl,uO.all,by omega,fun G2 s2=>k _ G2 uO.lay (eC _) (by omega) ⟨us,hus,rfl⟩ (fG.same s2) (kG.trans s2.kp)⟩
inductive IvJ1(fl:Addr)(n:Nat)(most:Nat)(lt:Nat)(H:Hp)(sc:Addr)(σ:L2.St)(G:Hp):Prop
 | mk (b:Addr) (bs:List (List Nat)) (h0:σ=[some (.ref fl),some (.int (n:Nat)),some (.int (most:Nat)),some (.int (lt:Nat)),some (.ref b),none,none,none]) (h1:G b=some (.lst (bE bs))) (h2:H b=none) (h3:b≠fl) (h4:b≠sc) (h5:bs.length≤4) (h6:(∀ x∈bs,OfN n x∧bF x∧x.length≤13)) (h7:IsFl G fl sc) (h8:Kp fl H G):IvJ1 fl n most lt H sc σ G
inductive IvJ2(fl:Addr)(n:Nat)(most:Nat)(lt:Nat)(b:Addr)(l:Addr)(bs:List (List Nat))(sc:Addr)(H:Hp)(i:Nat)(σ:L2.St)(G:Hp):Prop
 | mk (v6:Option V) (fs:List (List Nat)) (h0:σ=[some (.ref fl),some (.int (n:Nat)),some (.int (most:Nat)),some (.int (lt:Nat)),some (.ref b),some (.ref l),v6,none]) (h1:G b=some (.lst (bE bs))) (h2:G l=some (.lst (bE fs))) (h3:fs.length=bs.length+i) (h4:(∀ x∈fs,OfN n x∧bF x∧x.length≤39)) (h5:IsFl G fl sc) (h6:Kp fl H G):IvJ2 fl n most lt b l bs sc H i σ G
inductive IvJ3(fl:Addr)(n:Nat)(most:Nat)(lt:Nat)(b:Addr)(v6:Option V)(H:Hp)(sc:Addr)(σ:L2.St)(G:Hp):Prop
 | mk (v7:Option V) (l:Addr) (fs:List (List Nat)) (h0:σ=[some (.ref fl),some (.int (n:Nat)),some (.int (most:Nat)),some (.int (lt:Nat)),some (.ref b),some (.ref l),v6,v7]) (h1:G l=some (.lst (bE fs))) (h2:H l=none) (h3:l≠fl) (h4:l≠sc) (h5:fs.length≤8) (h6:(∀ x∈fs,OfN n x∧bF x∧x.length≤45)) (h7:IsFl G fl sc) (h8:Kp fl H G):IvJ3 fl n most lt b v6 H sc σ G
inductive IvJ4(fl:Addr)(n:Nat)(most:Nat)(lt:Nat)(b:Addr)(l:Addr)(v6:Option V)(v7:Option V)(sc:Addr)(H:Hp)(m:Nat)(σ:L2.St)(G:Hp):Prop
 | mk (fs:List (List Nat)) (h0:m=fs.length) (h1:σ=[some (.ref fl),some (.int (n:Nat)),some (.int (most:Nat)),some (.int (lt:Nat)),some (.ref b),some (.ref l),v6,v7]) (h2:G l=some (.lst (bE fs))) (h3:fs.length≤8) (h4:(∀ x∈fs,OfN n x∧bF x∧x.length≤45)) (h5:IsFl G fl sc) (h6:Kp fl H G):IvJ4 fl n most lt b l v6 v7 sc H m σ G
inductive IvJ5(fs:List (List Nat))(fl:Addr)(n:Nat)(most:Nat)(lt:Nat)(b:Addr)(l:Addr)(v6:Option V)(v7:Option V)(sc:Addr)(H:Hp)(σ':L2.St)(G':Hp):Prop
 | mk (fs':List (List Nat)) (h0:fs'.length<fs.length) (h1:σ'=[some (.ref fl),some (.int (n:Nat)),some (.int (most:Nat)),some (.int (lt:Nat)),some (.ref b),some (.ref l),v6,v7]) (h2:G' l=some (.lst (bE fs'))) (h3:fs'.length≤8) (h4:(∀ x∈fs',OfN n x∧bF x∧x.length≤45)) (h5:IsFl G' fl sc) (h6:Kp fl H G'):IvJ5 fs fl n most lt b l v6 v7 sc H σ' G'
theorem F5{f:Addr}{fd:FuncData}(D:Df K mg "_law_some_words" Aj ["_law_flow_here","_law_n","_law_most","_law_letters_here"] f fd)(T:Txt P w K mg Jw Jx Jy)(c_z8:Cl P w K mg base "_law_pick" ["_law_flow_here","_law_many"] 1 iH)(c_z1:Cl P w K mg base "_law_back" ["_law_word_here"] 2 lF)(c_z7:Cl P w K mg base "_law_laid" ["_law_text"] 2 mH)(c_z5:Cl P w K mg base "_law_word" ["_law_flow_here","_law_n","_law_most"] 2 xB)(c_zr:Cl P w K mg base "_law_alphabet" ["_law_flow_here","_law_n","_law_steps","_law_most"] 5 BG)(c_zd:Cl P w K mg base "_law_joined_ones" ["_law_flow_here","_law_some","_law_many"] 3 AU):Cl P w K mg base "_law_some_words" ["_law_flow_here","_law_n","_law_most","_law_letters_here"] 6 yD:=by
 refine D.cl (D.F.ok sc_zi (fun vs H Q E h=>?_) (fun cdv A outer s H vs Q E hr h=>?_))
 ·obtain⟨fl,sc,n,most,lt,rfl,_⟩:=h
  rfl
 ·obtain⟨fl,sc,n,most,lt,rfl,f,h1,h4,k⟩:=h
  refine⟨_,(aD (iR (i:=4) (sc0:=aH Aj) (N:=["_law_flow_here","_law_n","_law_most","_law_letters_here","_law_base","_law_found","_law_k","_law_g"]) (ix:=[0,1]) sc_zi.nd rfl rfl (by decide +kernel) rfl rfl rfl (dQ (by rfl) T.b_range (aA (pC c_z8 hr (aA (pv 0) (aA aG aC))) aC)) (fun _ _ _=>cB) (fun _ _ _=>(pC c_z5 hr (aA (pv 1) (aA (pv 2) (aA (aQ (aN (K:=K) rfl) (dB (aA aG (aA aG (aA aG aC)))) (pC c_z8 hr (aA (pv 1) (aA aG aC))) (fun _ _=>rfl)) aC))))))
   (gB (cV (aP fH (pC c_z8 hr (aA (pv 0) (aA aG aC))) aG (aS _)) (aF (aL (i:=4) sc_zi.nd rfl (Or.inl rfl) (bQ (iA (K:=K) rfl) (by rfl) T.b_list boot_list (aA (aQ (bL (K:=K) rfl) (pC c_zr hr (aA (pv 0) (aA (pv 1) (aA aG (aA aG aC))))) aG (fun _ _=>rfl)) aC)))) bS)
   (aD (aL (i:=5) sc_zi.nd rfl (Or.inl rfl) (bQ (iA (K:=K) rfl) (by rfl) T.b_list boot_list (aA (pv 4) aC)))
   (aD (cW j7 rfl (dQ (by rfl) T.b_range (aA (pC c_z8 hr (aA (pv 0) (aA aG aC))) aC)) (bA (i:=6) sc_zi.nd rfl (Or.inl rfl)) (aF (bR (cX (K:=K) rfl j6 m4 m6 cI (pv 5) (aA (pC c_zd hr (aA (pv 0) (aA (pv 4) (aA (aZ eT aG (pC c_z8 hr (aA (pv 0) (aA aG aC)))) aC)))) aC)))))
   (gB (cV (aP fH (pC c_z8 hr (aA (pv 0) (aA aG aC))) aG (aS _)) (aD (aL (i:=7) sc_zi.nd rfl (Or.inr rfl) (pC c_z5 hr (aA (pv 0) (aA (pv 1) (aA aG aC)))))
   (aF (iR (i:=5) (sc0:=aH Aj) (N:=["_law_flow_here","_law_n","_law_most","_law_letters_here","_law_base","_law_found","_law_k","_law_g"]) (ix:=[7]) sc_zi.nd rfl rfl (by decide +kernel) rfl rfl rfl (cK (K:=K) rfl (pv 5)) (fun _ _ _=>cB) (fun _ _ _=>(pC c_z7 hr (aA (aZ bT (aZ bT (pv 1) (pv 0)) (pC c_z1 hr (aA (pv 1) aC))) aC)))))) bS)
   (aD (iO j7 (PW.pt (pw_or (aP nV (aT (bB (K:=K) rfl) (by rfl) T.b_len j8 (aA (pv 5) aC)) (pv 2) (aS _)) (pw_or1 (aP nV (aT (qV (K:=K) rfl rfl) (by rfl) T.b_sum boot_sum (aA (cL (sc0:=aH Aj) (N:=["_law_flow_here","_law_n","_law_most","_law_letters_here","_law_base","_law_found","_law_k","_law_g"]) (ix:=[]) (by decide +kernel) rfl rfl rfl (cK (K:=K) rfl (pv 5)) (fun _ _ _=>cB) (fun _ _ _=>(aT eJ (by rfl) T.b_len j8 (aA (pv 0) aC)))) aC)) (pv 3) (aS _))))) (aF (bR (cX (K:=K) rfl j6 aQ1 aQ2 vK (pv 5) (aA (pC c_z8 hr (aA (pv 0) (aA (aT (bB (K:=K) rfl) (by rfl) T.b_len j8 (aA (pv 5) aC)) aC))) aC)))))
   (aF (aX (pv 5))))))))),?_⟩
  refine⟨_,rfl,fl,sc,4,rfl,f,by decide,by decide,fun d0 H1 d00 d01 f1 k1=>⟨d0,rfl,by omega,by omega,fun D0 hD0=>?_⟩⟩
  have hD0f:D0≠fl:=f1.ne hD0
  have hD0s:D0≠sc:=f1.ne2 hD0
  have hD0H:H D0=none:=k1.free hD0 hD0f
  refine wJ (lo:=0) (n:=d0.toNat) (fun i G=>∃ bs,G D0=some (.lst (bE bs))∧bs.length=i∧(∀ x∈bs,OfN n x∧bF x∧x.length≤13)∧IsFl G fl sc∧Kp fl H G) ⟨[],aB,rfl,fun x hx=>by (cases hx),f1.upd hD0,k1.upd hD0H⟩ ?_ ?_
  ·rintro i G hi ⟨bs,eb,hbl,hbs,fG,kG⟩
   refine⟨_,rfl,_,rfl,aK (by simp),fun q hq=>?_⟩
   refine⟨_,rfl,fl,sc,3,rfl,fG.upd hq,by decide,by decide,fun e G2 e0 e1 f2 k2=>?_⟩
   obtain⟨c,hc,hc13⟩:∃ c:Nat,sX [V.int 4,V.int 7,V.int 13] e=some (.int (c:Nat))∧c≤13:=by
    have:e=0∨e=1∨e=2:=by omega
    rcases this with rfl | rfl | rfl
    ·exact⟨4,rfl,by decide⟩
    ·exact⟨7,rfl,by decide⟩
    ·exact⟨13,rfl,by decide⟩
   have hqf:q≠fl:=fG.ne hq
   have eq2:=k2 _ _ (aB (H:=G) (a:=q) (o:=HO.lst [.int 4,.int 7,.int 13])) hqf
   refine⟨q,_,_,_,rfl,rfl,SqL.of eq2,hc,fl,sc,(n:Nat),(c:Nat),rfl,f2,by omega,by omega,by omega,by omega,fun w G3 wO wP wl f3 k3=>?_⟩
   have kq:Kp fl G G3:=((Same.new hq).kp.trans k2).trans k3
   refine⟨_,kq _ _ eb hD0f,by rw[aM];exact aR (by omega),bs++[w],by rw[aB,jD],by rw[b8,hbl];rfl,fun x hx=>?_,f3.set hD0f hD0s,(kG.trans kq).upd hD0H⟩
   rcases i8.mp hx with z | z
   ·exact hbs x z
   ·rw[c5.mp z];exact⟨wO,wP,by omega⟩
  rintro G ⟨bs,eb,hbl,hbs,fG,kG⟩
  refine⟨(IvJ1 fl n most lt H sc),?_,?_⟩
  ·refine⟨_,rfl,fl,sc,4,rfl,fG,by decide,by decide,fun e G2 e0 e1 f2 k2=>⟨rfl,_,rfl,eM (fun z=>?_) (fun z=>?_)⟩⟩
   ·refine⟨_,rfl,_,rfl,fl,sc,n,5,4,rfl,f2,h1,h4,by decide,by decide,by decide,by decide,fun p a b fw fb G3 ep ea _ iv f3 k3=>⟨p,_,0,.ref a,rfl,rfl,SqT.of ep,rfl,a,_,rfl,.inr (SqT.of ea),fun l hl=>?_⟩⟩
    have hlf:=f3.ne hl
    refine⟨l,fw,rfl,aB,((kG.trans k2).trans k3).free hl hlf,hlf,f3.ne2 hl,by rw[iv.rt.len];exact h4,fun x hx=>?_,f3.upd hl,((kG.trans k2).trans k3).trans (Same.new hl).kp⟩
    obtain⟨xo,xl⟩:=iv.ro x hx
    have:=iv.rt.le x hx
    exact⟨xo,by rw[← xl];exact eC x,by omega⟩
   ·exact⟨D0,bs,rfl,k2 _ _ eb hD0f,hD0H,hD0f,hD0s,by omega,hbs,f2,kG.trans k2⟩
  clear hD0 hD0f hD0s hD0H eb hbl hbs fG kG f1 k1
  rintro _ G1 ⟨b,bs,rfl,eb,hbH,hbf,hbs',hbl,hbs,f1,k1⟩
  refine⟨_,rfl,b,_,rfl,.inl (SqL.of eb),fun l hl=>?_⟩
  have hlf:=f1.ne hl
  have hls:=f1.ne2 hl
  have hlH:=k1.free hl hlf
  have hlb:b≠l:=aI eb hl
  have f2:=f1.upd (o:=HO.lst (bE bs)) hl
  have k2:Kp fl H (upd G1 l (.lst (bE bs))):=k1.trans (Same.new hl).kp
  have el2:upd G1 l (.lst (bE bs)) l=some (.lst (bE bs)):=aB
  have eb2:upd G1 l (.lst (bE bs)) b=some (.lst (bE bs)):=by rw[aE hlb];exact eb
  show mO _ _ _ _ (upd G1 l (.lst (bE bs)))
  generalize upd G1 l (.lst (bE bs))=G2 at f2 k2 el2 eb2
  refine⟨_,rfl,fl,sc,5,rfl,f2,by decide,by decide,fun d G3 d0 d1 f3 k3=>⟨d,rfl,by omega,by omega,eX (lo:=0) (n:=d.toNat) (IvJ2 fl n most lt b l bs sc H) ⟨none,bs,rfl,k3 _ _ eb2 hbf,k3 _ _ el2 hlf,rfl,fun x hx=>(by obtain⟨a,b,c⟩:=hbs x hx;exact⟨a,b,by omega⟩),f3,k2.trans k3⟩ ?_ ?_⟩⟩
  ·rintro i _ G hi ⟨v6,fs,rfl,ebG,elG,hfl,hfs,fG,kG⟩
   refine⟨_,rfl,.inl ⟨rfl,_,SqL.of elG⟩,_,rfl,_,rfl,_,rfl,fl,sc,3,rfl,fG,by decide,by decide,fun e G4 e0 e1 f4 k4=>?_⟩
   obtain⟨m,hm⟩:∃ m:Nat,1+e=(m:Int):=⟨(1+e).toNat,by omega⟩
   refine⟨_,_,rfl,rfl,fl,sc,b,bs,n,m,13,by show [V.ref fl,V.ref b,V.int (1+e)]=_;rw[hm],f4,k4 _ _ ebG hbf,hbf,h1,h4,by omega,fun x hx=>⟨(hbs x hx).1,(hbs x hx).2.2⟩,by omega,by decide,fun w G5 wO wP wl _ f5 k5=>?_⟩
   have k45:=k4.trans k5
   have el5:=k45 _ _ elG hlf
   have wl:w.length≤39:=by
    have:m * 13≤3 * 13:=aQd (by omega) (b9 _)
    omega
   refine⟨l,_,_,rfl,rfl,el5,by rw[aM];exact aR (by omega),_,fs++[w],rfl,by rw[aE hlb];exact k45 _ _ ebG hbf,by rw[aB,jD],by rw[b8,hfl];rfl,fun x hx=>?_,f5.set hlf hls,(kG.trans k45).upd hlH⟩
   rcases i8.mp hx with z | z
   ·exact hfs x z
   ·rw[c5.mp z];exact⟨wO,wP,wl⟩
  clear f1 k1 eb hl f2 k2 el2 eb2 k3 f3
  rintro _ G3 ⟨v6,fs,rfl,ebG,elG,hfl,hfs,fG,kG⟩
  refine⟨(IvJ3 fl n most lt b v6 H sc),?_,?_⟩
  ·refine⟨_,rfl,fl,sc,3,rfl,fG,by decide,by decide,fun e G4 e0 e1 f4 k4=>⟨rfl,_,rfl,eM (fun z=>?_) (fun z=>?_)⟩⟩
   ·refine⟨_,rfl,_,rfl,fl,sc,(n:Nat),3,rfl,f4,by omega,by omega,by decide,by decide,fun g G5 gO gP gl f5 k5=>?_⟩
    have el5:=(k4.trans k5) _ _ elG hlf
    have k5:=(kG.trans k4).trans k5
    refine⟨_,rfl,l,rfl,⟨_,SqL.of el5⟩,fun Dd hD=>cG (K:=K) (a:=l) (xs:=bE fs) (fun i G=>∃ gs,Same G5 G∧G Dd=some (.lst (bE gs))∧gs.length=i∧∀ x∈gs,OfN n x∧bF x∧x.length≤45) ⟨[],Same.new hD,aB,rfl,fun x hx=>by (cases hx)⟩ (fun i G _ ⟨_,s,_⟩=>SqL.of (s _ _ el5)) ?_ ?_⟩
    ·rintro i v G hv ⟨gs,sG,eG,hgl,hgs⟩
     obtain⟨x,hx,rfl⟩:=dP hv
     obtain⟨xO,xP,xl⟩:=hfs x (b0 hx)
     have hil:=(a8.mp hx).1
     refine⟨_,rfl,_,rfl,_,_,rfl,rfl,by rw[bG,bG];exact aK (by omega),?_⟩
     rw[fP]
     refine⟨_,rfl,g,rfl,gO.all,by omega,fun G6 s6=>?_⟩
     have wO:OfN n (g++x++back g):=(gO.app xO).app (gO.back (by omega) (by omega))
     have wl:(g++x++back g).length≤45:=by rw[b8,b8,bW];omega
     refine⟨_,_,rfl,rfl,by rw[bG,bG,b8,bW];exact aK (by omega),g++x++back g,by rw[fP];rfl,wO.all,by omega,fun G7 s7=>⟨_,s7 _ _ (s6 _ _ eG),by rw[aM];exact aR (by omega),gs++[lay (g++x++back g)],((sG.trans s6).trans s7).upd hD,by rw[aB,jD],by rw[b8,hgl];rfl,fun y hy=>?_⟩⟩
     rcases i8.mp hy with z | z
     ·exact hgs y z
     ·rw[c5.mp z]
      have:=eZ (g++x++back g)
      exact⟨wO.lay,eC _,by omega⟩
    ·rintro G ⟨gs,sG,eG,hgl,hgs⟩
     rw[aM] at hgl
     have hDf:=f5.ne hD
     exact⟨_,Dd,gs,rfl,eG,k5.free hD hDf,hDf,f5.ne2 hD,by omega,hgs,f5.same sG,k5.trans sG.kp⟩
   ·exact⟨_,l,fs,rfl,k4 _ _ elG hlf,hlH,hlf,hls,by omega,fun x hx=>(by obtain⟨a,b,c⟩:=hfs x hx;exact⟨a,b,by omega⟩),f4,kG.trans k4⟩
  clear hlf hls hlH hlb ebG elG hfl hfs fG kG
  clear l
  rintro _ G4 ⟨v7,l,fs,rfl,el,hlH,hlf,hls,hfl,hfs,f4,k4⟩
  refine⟨(IvJ4 fl n most lt b l v6 v7 sc H),⟨_,fs,rfl,rfl,el,hfl,hfs,f4,k4⟩,?_⟩
  clear el hfl hfs f4 k4
  rintro m _ G ⟨fs,rfl,rfl,el,hfl,hfs,fG,kG⟩
  refine⟨_,rfl,l,_,rfl,.inl (SqL.of el),_,rfl,_,_,rfl,rfl,_,rfl,?_⟩
  have popd:∀ (g:Int),0≤g→g<(((bE fs).length:Nat):Int)→∃ x,fs[g.toNat]?=some x∧(fs.eraseIdx g.toNat).length<fs.length∧(fs.eraseIdx g.toNat).length≤8∧(∀ x∈fs.eraseIdx g.toNat,OfN n x∧bF x∧x.length≤45)∧seqIndex? g (bE fs).length=some g.toNat:=fun g g0 g1=>by
   rw[aM] at g1
   refine⟨_,a9 (by omega),by rw[aXp,if_pos (by omega)];omega,by rw[aXp,if_pos (by omega)];omega,fun x hx=>hfs x (List.mem_of_mem_eraseIdx hx),?_⟩
   rw[aM]
   exact aXD g0 (by omega)
  refine eM (fun z=>?_) (fun z=>?_)
  case' refine_2 =>
   refine⟨_,rfl,l,rfl,⟨_,SqL.of el⟩,fun Dd hD=>cG (K:=K) (a:=l) (xs:=bE fs) (fun i G'=>Same G G'∧G' Dd=some (.lst (((fs.take i).map fun x=>((x.length:Nat):Int)).map V.int))) ⟨Same.new hD,aB⟩ (fun i G' _ h=>SqL.of (h.1 _ _ el)) ?_ ?_⟩
   ·rintro i v G9 hv ⟨s9,e9⟩
    obtain⟨x,hx,rfl⟩:=dP hv
    have hxl:=(hfs x (b0 hx)).2.2
    have hil:=(a8.mp hx).1
    refine⟨_,rfl,S x,rfl,aK (by rw[bG];omega),_,e9,?_,s9.upd hD,?_⟩
    ·rw[b7,b7,i9];exact aR (by omega)
    ·rw[aB,t8,hx,g9,g9,bG];rfl
   rintro G9 ⟨s9,e9⟩
   rw[aM,k0] at e9
   refine⟨Dd,_,rfl,SqL.of e9,_,rfl,_,_,rfl,rfl,_,rfl,?_⟩
   rw[oX]
   have el9:=s9 _ _ el
   have fG9:=fG.same s9
   have kG9:=kG.trans s9.kp
   clear el fG kG
   refine eM (fun z2=>?_) (fun z2=>?_)
   rotate_left
   ·have a1:¬ (((most:Nat):Int)<(((bE fs).length:Nat):Int)):=fun y=>z (decide_eq_true y)
    have a2:¬ (((lt:Nat):Int)<(((fs.map List.length).sum:Nat):Int)):=fun y=>z2 (decide_eq_true y)
    rw[aM] at a1
    exact⟨_,rfl,k l fs G9 hlH el9 ⟨by omega,by omega,fun x hx=>⟨(hfs x hx).1,(hfs x hx).2.1⟩⟩ fG9 kG9⟩
   have hpos:0<fs.length:=by
    have a2:(((lt:Nat):Int)<(((fs.map List.length).sum:Nat):Int)):=of_decide_eq_true z2
    cases fs with
    | nil=>simp at a2;omega
    | cons _ _=>simp
  case' refine_1 =>
   have hpos:0<fs.length:=by
    have a1:(((most:Nat):Int)<(((bE fs).length:Nat):Int)):=of_decide_eq_true z
    rw[aM] at a1
    omega
   have el9:=el
   have fG9:=fG
   have kG9:=kG
  all_goals
   refine⟨(IvJ5 fs fl n most lt b l v6 v7 sc H),fun σ' G' ⟨fs',h,e,x1,x2,x3,x4,x5⟩=>⟨_,h,fs',rfl,e,x1,x2,x3,x4,x5⟩,?_⟩
   refine⟨_,rfl,.inl ⟨rfl,_,SqL.of el9⟩,_,rfl,_,rfl,l,_,rfl,.inl (SqL.of el9),fl,sc,_,rfl,fG9,by rw[aM];omega,by rw[aM];omega,fun g G2 g0 g1 f2 k2=>?_⟩
   obtain⟨x,hx,p1,p2,p3,p4⟩:=popd g g0 g1
   rw[aM] at g1
   refine⟨l,_,g,g.toNat,.str (S x),rfl,rfl,k2 _ _ el9 hlf,by omega,by omega,p4,eU hx,?_⟩
   rw[qP]
   exact⟨_,p1,rfl,aB,p2,p3,f2.set hlf hls,(kG9.trans k2).upd hlH⟩
inductive IvR0(r:Addr)(d:Addr)(H:Hp)(g:Nat→Nat→Option Nat)(n:Nat)(i:Nat)(σ:L2.St)(G:Hp):Prop
 | mk (v2 v3 v4 v5:Option V) (kvs:List (List bX×V)) (g':Nat→Nat→Option Nat) (h0:σ=[some (.ref r),some (.ref d),v2,v3,v4,v5]) (h1:Same H G) (h2:G d=some (.dT kvs)) (h3:TabW kvs g') (h4:kvs.length≤8 * i) (h5:G_ g' g) (h6:∀ p,p<i→∀ j q,j<n→g p (97+j)=some q→g' p (97+j)=some q∧g' q (aU (97+j))=some p):IvR0 r d H g n i σ G
inductive IvR1(r:Addr)(d:Addr)(i:Nat)(q:Addr)(H:Hp)(t:Addr)(n:Nat)(g:Nat→Nat→Option Nat)(j:Nat)(σ:L2.St)(G:Hp):Prop
 | mk (v4 v5:Option V) (kvs:List (List bX×V)) (g':Nat→Nat→Option Nat) (h0:σ=[some (.ref r),some (.ref d),some (.int (i:Nat)),some (.ref q),v4,v5]) (h1:Same H G) (h2:G t=some (.tup (bE (cM n)))) (h3:G d=some (.dT kvs)) (h4:TabW kvs g') (h5:kvs.length≤8 * i+2 * j) (h6:G_ g' g) (h7:(∀ p,p<i→∀ j q,j<n→g p (97+j)=some q→g' p (97+j)=some q∧g' q (aU (97+j))=some p)) (h8:∀ m q,m<j→g i (97+m)=some q→g' i (97+m)=some q∧g' q (aU (97+m))=some i):IvR1 r d i q H t n g j σ G
theorem GM{f:Addr}{fd:FuncData}(D:Df K mg "ways_both_ways" EV ["web"] f fd)(T:Txt P w K mg Jw Jx Jy)(c_zn:Cl P w K mg base "first_letters" ["n"] 1 kF)(c_z2:Cl P w K mg base "contrary" ["letter"] 1 iD):Cl P w K mg base "ways_both_ways" ["web"] 2 zH:=by
 refine D.cl (D.F.ok sc_zk (fun vs H Q E h=>?_) (fun cdv A outer s H vs Q E hr h=>?_))
 ·obtain⟨r,n,W,g,rfl,_⟩:=h
  rfl
 ·obtain⟨r,n,W,g,rfl,h1,h4,hw,ok,k⟩:=h
  refine⟨_,(aD (aL (i:=1) sc_zk.nd rfl (Or.inl rfl) BJ)
   (aD (cW j7 rfl (BU (K:=K) rfl (by rfl) T.b_enumerate (aA (pv 0) aC)) (iS (K:=K) rfl rfl (cD (bA (i:=2) sc_zk.nd rfl (Or.inl rfl)) (cD (bA (i:=3) sc_zk.nd rfl (Or.inl rfl)) fZ))) (aF (cW j7 rfl (EG (K:=K) rfl (by rfl) T.b_zip (aA (pC c_zn hr (aA (aT (bB (K:=K) rfl) (by rfl) T.b_len j8 (aA (pv 3) aC)) aC)) (aA (pv 3) aC))) (iS (K:=K) rfl rfl (cD (bA (i:=4) sc_zk.nd rfl (Or.inl rfl)) (cD (bA (i:=5) sc_zk.nd rfl (Or.inl rfl)) fZ))) (aF (cV (aP mV (pv 5) hV (aS _)) (aD (nF (l7 (p0 (by decide:1≤64) _) hr.units) (pv 1) (eF (aA (pv 2) (aA (pv 4) aC))) (pv 5) (by rfl))
   (aF (nF (l7 (p0 (by decide:1≤64) _) hr.units) (pv 1) (eF (aA (pv 5) (aA (pC c_z2 hr (aA (pv 4) aC)) aC))) (pv 2) (by rfl)))) bS)))))
   (aF (aX (pv 1))))),?_⟩
  obtain⟨qs,er,hql,hqr⟩:=id hw
  have hWl:=ok.few
  intro d hd
  have s1:=Same.new (o:=HO.dT []) hd
  have ed:upd H d (.dT []) d=some (.dT []):=aB
  generalize upd H d (.dT [])=H1 at s1 ed
  refine⟨_,rfl,r,rfl,⟨_,SqT.of (s1 _ _ er)⟩,Aw (K:=K) (a:=r) (xs:=qs.map V.ref) (IvR0 r d H g n) ⟨none,none,none,none,[],_,rfl,s1,ed,TabW.nil,b9 _,fun p c q z=>(by cases z),fun p hp=>absurd hp (u5 _)⟩ (fun i σ G _ ⟨_,_,_,_,_,_,_,s,_,_,_,_,_⟩=>SqT.of (s _ _ er)) ?_ ?_⟩
  ·rintro i x pz _ G hx hpz ⟨v2,v3,v4,v5,kvs,g',rfl,sG,dG,tb,kl,sub,full⟩
   rw[c7] at hx
   obtain⟨q,hq,rfl⟩:=d8.mp hx
   obtain⟨row,hrow⟩:∃ row,W[i]?=some row:=⟨_,a9 (by rw[← hql];exact(a8.mp hq).1)⟩
   have hiW:=(a8.mp hrow).1
   have hrl:=ok.len row (b0 hrow)
   have s2:=Same.new (o:=HO.tup [.int ((i:Nat):Int),.ref q]) hpz
   refine⟨pz,_,rfl,.inr (SqT.of aB),rfl,_,_,rfl,_,_,rfl,rfl,?_⟩
   have sG2:=sG.trans s2
   have dG2:=s2 _ _ dG
   generalize upd G pz (.tup [.int ((i:Nat):Int),.ref q])=G2 at s2 sG2 dG2
   have eq0:=hqr i q row hq hrow
   have eq2:=sG2 _ _ eq0
   have hrv:(row.map fL).length=n:=by rw[b7];exact hrl
   refine⟨_,rfl,q,_,rfl,.inr (SqT.of eq2),n,by rw[hrv];rfl,h1,h4,fun t G3 ht s3 et=>⟨_,rfl,t,q,rfl,⟨_,SqT.of et⟩,⟨_,SqT.of (s3 _ _ eq2)⟩,?_⟩⟩
   have sG3:=sG2.trans s3
   have ht0:H t=none:=sG2.free ht
   have htd:t≠d:=fun e=>by rw[e,dG2] at ht;cases ht
   have ll:(bE (cM n)).length=n:=by rw[aM];exact(mS h1 h4).len
   refine CK (K:=K) (t:=t) (u:=q) (xs:=bE (cM n)) (ys:=row.map fL) (IvR1 r d i q H t n g) ⟨_,_,kvs,g',rfl,sG3,et,s3 _ _ dG2,tb,kl,sub,full,fun m q hm=>absurd hm (u5 _)⟩ (fun j σ G _ ⟨_,_,_,_,_,s,e,_,_,_,_,_,_⟩=>⟨SqT.of e,SqT.of (s _ _ eq0)⟩) ?_ ?_
   ·rintro j x y pz2 _ G4 hx hy hpz2 ⟨v4,v5,kvs,g',rfl,sG4,et4,dG4,tb,kl,sub,full,part⟩
    obtain⟨rfl,hj⟩:=yF h4 hx
    rw[c7] at hy
    obtain⟨o,ho,rfl⟩:=d8.mp hy
    have hgo:=ok.lo i j row o hrow ho
    have hcL:cN (97+j):=by unfold cN;omega
    have s5:=Same.new (o:=HO.tup [.str (S [97+j]),fL o]) hpz2
    refine⟨pz2,_,rfl,.inr (SqT.of aB),rfl,_,_,rfl,_,_,rfl,rfl,?_⟩
    have sG5:=sG4.trans s5
    have dG5:=s5 _ _ dG4
    have et5:=s5 _ _ et4
    generalize upd G4 pz2 (.tup [.str (S [97+j]),fL o])=G5 at s5 sG5 dG5 et5
    cases o with
    | none =>
     refine⟨_,rfl,rfl,_,rfl,eR ?_⟩
     refine⟨_,_,kvs,g',rfl,sG5,et5,dG5,tb,by omega,sub,full,fun m q hm hg=>?_⟩
     by_cases z:m=j
     ·subst z;rw[hgo] at hg;cases hg
     ·exact part m q (by omega) hg
    | some b =>
     refine⟨_,rfl,rfl,_,rfl,jJ ?_⟩
     refine⟨_,rfl,_,rfl,_,rfl,_,rfl,aK (by simp),fun k1 hk1=>?_⟩
     have s6:=Same.new (o:=HO.tup [.int ((i:Nat):Int),.str (S [97+j])]) hk1
     have ek1:upd G5 k1 (.tup [.int ((i:Nat):Int),.str (S [97+j])]) k1=some (.tup ((iQ i (97+j)).map kV)):=aB
     generalize upd G5 k1 (.tup [.int ((i:Nat):Int),.str (S [97+j])])=G6 at s6 ek1
     refine⟨d,_,rfl,DPut.t (s6 _ _ dG5) ek1 (rS (by omega)),?_⟩
     have d7:upd G6 d (.dT (cT kvs (iQ i (97+j)) (fL (some b)))) d=some (.dT (cT kvs (iQ i (97+j)) (.int (b:Nat)))):=aB
     have sG7:Same H (upd G6 d (.dT (cT kvs (iQ i (97+j)) (fL (some b))))):=(sG5.trans s6).upd hd
     have et7:upd G6 d (.dT (cT kvs (iQ i (97+j)) (fL (some b)))) t=some (.tup (bE (cM n))):=by rw[aE htd];exact s6 _ _ et5
     generalize upd G6 d (.dT (cT kvs (iQ i (97+j)) (fL (some b))))=G7 at d7 sG7 et7
     refine⟨_,rfl,_,rfl,_,rfl,_,rfl,97+j,rfl,hcL,fun G8 s8=>⟨aK (by simp),fun k2 hk2=>?_⟩⟩
     have s9:=Same.new (o:=HO.tup [fL (some b),.str (S [aU (97+j)])]) hk2
     have ek2:upd G8 k2 (.tup [fL (some b),.str (S [aU (97+j)])]) k2=some (.tup ((iQ b (aU (97+j))).map kV)):=aB
     generalize upd G8 k2 (.tup [fL (some b),.str (S [aU (97+j)])])=G9 at s9 ek2
     have s79:=s8.trans s9
     have kl7:=dM kvs (iQ i (97+j)) (V.int (b:Nat))
     have kl9:=dM (cT kvs (iQ i (97+j)) (V.int (b:Nat))) (iQ b (aU (97+j))) (V.int (i:Nat))
     have gb:=ok.sy i (97+j) b hcL hgo
     have put:∀ x y q,g x y=some q→(g' x y=some q∨(x=i∧y=97+j)∨(x=b∧y=aU (97+j)))→(if x=b∧y=aU (97+j) then some i else if x=i∧y=97+j then some b else g' x y)=some q:=fun x y q hq hc=>by
      by_cases z1:x=b∧y=aU (97+j)
      ·rw[if_pos z1]
       rw[z1.1,z1.2,gb] at hq
       exact hq
      ·rw[if_neg z1]
       by_cases z2:x=i∧y=97+j
       ·rw[if_pos z2]
        rw[z2.1,z2.2,hgo] at hq
        exact hq
       ·rw[if_neg z2]
        rcases hc with z | z | z
        ·exact z
        ·exact absurd z z2
        ·exact absurd z z1
     refine⟨d,_,rfl,DPut.t (s79 _ _ d7) ek2 (rS (by omega)),_,_,_,_,rfl,(sG7.trans s79).upd hd,by rw[aE htd];exact s79 _ _ et7,aB,(tb.put i (97+j) b).put b (aU (97+j)) i,by omega,fun x y q hq=>?_,fun p hp m q hm hg=>?_,fun m q hm hg=>?_⟩
     ·split at hq
      ·rename_i z;cases hq;rw[z.1,z.2];exact gb
      ·split at hq
       ·rename_i z;cases hq;rw[z.1,z.2];exact hgo
       ·exact sub x y q hq
     ·have hmL:cN (97+m):=by unfold cN;omega
      obtain⟨u1,u2⟩:=full p hp m q hm hg
      exact⟨put _ _ _ hg (.inl u1),put _ _ _ (ok.sy _ _ _ hmL hg) (.inl u2)⟩
     ·have hmL:cN (97+m):=by unfold cN;omega
      by_cases z:m=j
      ·subst z
       rw[hgo] at hg
       cases hg
       exact⟨put _ _ _ hgo (.inr (.inl ⟨rfl,rfl⟩)),put _ _ _ gb (.inr (.inr ⟨rfl,rfl⟩))⟩
      ·obtain⟨u1,u2⟩:=part m q (by omega) hg
       exact⟨put _ _ _ hg (.inl u1),put _ _ _ (ok.sy _ _ _ hmL hg) (.inl u2)⟩
   ·rintro _ G4 ⟨v4,v5,kvs,g',rfl,sG4,et4,dG4,tb,kl,sub,full,part⟩
    rw[ll,hrv,aJE] at kl part
    refine⟨_,_,_,_,kvs,g',rfl,sG4,dG4,tb,by omega,sub,fun p hp m q hm hg=>?_⟩
    by_cases z:p=i
    ·subst z;exact part m q hm hg
    ·exact full p (by omega) m q hm hg
  ·rintro _ G ⟨v2,v3,v4,v5,kvs,g',rfl,sG,dG,tb,kl,sub,full⟩
   rw[b7,hql] at full
   have hgg:g'=g:=by
    funext p c
    cases e:g p c with
    | none =>
     cases e':g' p c with
     | none=>rfl
     | some q=>have:=sub p c q e';rw[e] at this;cases this
    | some q =>
     obtain⟨b1,b2,b3⟩:=ok.bd p c q e
     have hcL:=aV b3
     by_cases lw:bO c=true
     ·obtain⟨j,hj,rfl⟩:=lG h1 h4 b3 lw
      exact(full p b1 j q hj e).1
     ·obtain⟨j,hj,ej⟩:=lG h1 h4 (dF (by omega) (by omega) b3) (by rw[jB hcL];simpa using lw)
      have e2:=ok.sy p c q hcL e
      rw[ej] at e2
      have:=(full q b2 j p hj e2).2
      rw[← ej,bK hcL] at this
      exact this
   rw[hgg] at tb
   exact⟨_,rfl,k d kvs G hd dG tb sG⟩
inductive IvR2(r:Addr)(w:List Nat)(d:Addr)(H1:Hp)(g:Nat→Nat→Option Nat)(i:Nat)(σ:L2.St)(G:Hp):Prop
 | mk (v4:Option V) (q:Nat) (h0:σ=[some (.ref r),some (.str (S w)),some (.ref d),some (.int (q:Nat)),v4]) (h1:Same H1 G) (h2:dJ g 0 (w.take i)=some q):IvR2 r w d H1 g i σ G
theorem Fx{f:Addr}{fd:FuncData}(D:Df K mg "is_read" A1 ["web","word"] f fd)(T:Txt P w K mg Jw Jx Jy)(c_zk:Cl P w K mg base "ways_both_ways" ["web"] 2 zH):Cl P w K mg base "is_read" ["web","word"] 3 yJ:=by
 refine D.cl (D.F.ok sc_zb1 (fun vs H Q E h=>?_) (fun cdv A outer s H vs Q E hr h=>?_))
 ·obtain⟨r,n,W,g,w,rfl,_⟩:=h
  rfl
 ·obtain⟨r,n,W,g,w,rfl,h1,h4,hw,ok,hO,hl,k⟩:=h
  refine⟨_,(aD (aL (i:=2) sc_zb1.nd rfl (Or.inl rfl) (pC c_zk hr (aA (pv 0) aC)))
   (aD (aL (i:=3) sc_zb1.nd rfl (Or.inl rfl) aG)
   (aD (cW j7 rfl (lZ (pv 1)) (bA (i:=4) sc_zb1.nd rfl (Or.inl rfl)) (aD (aL (i:=3) sc_zb1.nd rfl (Or.inl rfl) (tV (l7 (p0 (by decide:1≤64) _) hr.units) (pv 2) (eF (aA (pv 3) (aA (pv 4) aC))) ⟨rfl,rfl,rfl,rfl⟩))
   (aF (cV (aP vS (pv 3) hV (aS _)) (aF (aX tO)) bS))))
   (aF (aX (fJ fH (pv 3) aG (aS _))))))),?_⟩
  refine⟨_,rfl,r,n,W,g,rfl,h1,h4,hw,ok,fun d kvs H1 hd dG tb s1=>?_⟩
  refine⟨_,rfl,S w,rfl,kU (w:=w) (IvR2 r w d H1 g) ⟨none,0,rfl,Same.refl _,rfl⟩ ?_ ?_⟩
  ·rintro i c _ G hc ⟨v4,q,rfl,sG,hp⟩
   have hp1:dJ g 0 (w.take (i+1))=g q c:=by rw[bM hc,fB,hp];rfl
   refine⟨_,rfl,d,rfl,.inr ⟨kvs,.inl (sG _ _ dG)⟩,_,rfl,_,rfl,aK (by simp),fun k1 hk1=>?_⟩
   have s2:=Same.new (o:=HO.tup [.int ((q:Nat):Int),.str (S [c])]) hk1
   have ek1:upd G k1 (.tup [.int ((q:Nat):Int),.str (S [c])]) k1=some (.tup ((iQ q c).map kV)):=aB
   generalize upd G k1 (.tup [.int ((q:Nat):Int),.str (S [c])])=G2 at s2 ek1
   have sG2:=sG.trans s2
   have hg:DGet G2 d (.ref k1) ((g q c).map fun (q:Nat)=>V.int q):=by
    have:=DGet.t (k:=iQ q c) (sG2 _ _ dG) ek1
    rw[tb q c] at this
    exact this
   refine⟨_,hg,?_⟩
   cases e:g q c with
   | none =>
    refine⟨_,rfl,rfl,_,rfl,jJ ?_⟩
    have:dJ g 0 w=none:=by
     have hs:w=w.take (i+1)++w.drop (i+1):=(aQ0 _ _).symm
     rw[hs,gC,hp1,e]
     rfl
    have:=k G2 (s1.trans sG2)
    rw[‹dJ g 0 w=none›,decide_eq_false (by intro z;cases z)] at this
    exact this
   | some q' =>
    refine⟨_,rfl,rfl,_,rfl,eR ?_⟩
    exact⟨_,q',rfl,sG2,by rw[hp1,e]⟩
  ·rintro _ G ⟨v4,q,rfl,sG,hp⟩
   rw[k0] at hp
   refine⟨_,rfl,rfl,?_⟩
   have:=k G (s1.trans sG)
   rw[hp] at this
   have e:decide (V.int ((q:Nat):Int)=V.int 0)=decide (some q=some 0):=by
    by_cases z:q=0
    ·subst z;rfl
    ·rw[decide_eq_false (fun y=>z (by have:=V.int.inj y;omega)),decide_eq_false (fun y=>z (d6 y))]
   rw[e]
   exact this
theorem Gr{f:Addr}{fd:FuncData}(D:Df K mg "_law_moved" FE ["_law_flow_here","_law_some"] f fd)(T:Txt P w K mg Jw Jx Jy)(c_z8:Cl P w K mg base "_law_pick" ["_law_flow_here","_law_many"] 1 iH)(c_z1:Cl P w K mg base "_law_back" ["_law_word_here"] 2 lF)(c_z7:Cl P w K mg base "_law_laid" ["_law_text"] 2 mH)(c_zd:Cl P w K mg base "_law_joined_ones" ["_law_flow_here","_law_some","_law_many"] 3 AU):Cl P w K mg base "_law_moved" ["_law_flow_here","_law_some"] 4 xQ:=by
 refine D.cl (D.F.ok sc_z0 (fun vs H Q E h=>?_) (fun cdv A outer s H vs Q E hr h=>?_))
 ·obtain⟨fl,sc,a,rs,n,rfl,_⟩:=h
  rfl
 ·obtain⟨fl,sc,a,rs,n,rfl,f,ea,haf,has,h1,h4,hrl,hrs,k⟩:=h
  refine⟨_,(aD (aL (i:=2) sc_z0.nd rfl (Or.inl rfl) (bQ (iA (K:=K) rfl) (by rfl) T.b_list boot_list (aA (pv 1) aC)))
   (aD (cV (aP fH (aT (bB (K:=K) rfl) (by rfl) T.b_len j8 (aA (pv 2) aC)) aG (aS _)) (aF (aX (dB (aA cA aC)))) bS)
   (aD (aL (i:=3) sc_z0.nd rfl (Or.inl rfl) (pC c_z8 hr (aA (pv 0) (aA (aT (bB (K:=K) rfl) (by rfl) T.b_len j8 (aA (pv 2) aC)) aC))))
   (aD (aL (i:=4) sc_z0.nd rfl (Or.inl rfl) (pC c_z8 hr (aA (pv 0) (aA (aT (bB (K:=K) rfl) (by rfl) T.b_len j8 (aA (pv 2) aC)) aC))))
   (aD (aL (i:=5) sc_z0.nd rfl (Or.inl rfl) (pC c_z8 hr (aA (pv 0) (aA aG aC))))
   (aD (aL (i:=6) sc_z0.nd rfl (Or.inl rfl) (aQ (aN (K:=K) rfl) (dB (aA (aQ (aN (K:=K) rfl) (pv 2) (pv 4) (fun _ _=>rfl)) (aA (pC c_z1 hr (aA (aQ (aN (K:=K) rfl) (pv 2) (pv 4) (fun _ _=>rfl)) aC)) aC))) (pC c_z8 hr (aA (pv 0) (aA aG aC))) (fun _ _=>rfl)))
   (gB (cV (pw_and (aP fH (pv 5) aG (aS _)) (pw_and1 (aP jT (pv 4) (pv 3) (aS _)))).pt (aF (dS (pC c_z7 hr (aA (aZ bT (aQ (aN (K:=K) rfl) (pv 2) (pv 3) (fun _ _=>rfl)) (pv 6)) aC)) (dZ (pv 2) (pv 3) cJ))) (aF (cV (pw_and (aP fH (pv 5) aG (aS _)) (pw_and1 (aP jT (pv 4) (pv 3) (aS _)))).pt (aF (dS (pC c_z7 hr (aA (aZ bT (pv 6) (aQ (aN (K:=K) rfl) (pv 2) (pv 3) (fun _ _=>rfl))) aC)) (dZ (pv 2) (pv 3) cJ))) (aF (cV (aP fH (pv 5) aG (aS _)) (aF (dS (pC c_z1 hr (aA (aQ (aN (K:=K) rfl) (pv 2) (pv 3) (fun _ _=>rfl)) aC)) (dZ (pv 2) (pv 3) cJ))) (aF (cV (aP fH (pv 5) aG (aS _)) (aF (dS (eF (aA (aQ (aN (K:=K) rfl) (pv 2) (pv 4) (fun _ _=>rfl)) (aA (aQ (aN (K:=K) rfl) (pv 2) (pv 3) (fun _ _=>rfl)) aC))) (iS (K:=K) rfl rfl (cD (dZ (pv 2) (pv 3) cJ) (cD (dZ (pv 2) (pv 4) cJ) fZ))))) (aF (bR (cX (K:=K) rfl j6 PySem.F.slot_list_insert PySem.F.type_list_insert Al (pv 2) (aA (pv 3) (aA (pC c_zd hr (aA (pv 0) (aA (pv 1) (aA aG aC)))) aC))))))))))))
   (aF (aX (pv 2)))))))))),?_⟩
  refine⟨_,rfl,a,_,rfl,.inl (SqL.of ea),fun l hl=>?_⟩
  have hlf:=f.ne hl
  have hls:=f.ne2 hl
  have hal:a≠l:=aI ea hl
  have el:upd H l (.lst (bE rs)) l=some (.lst (bE rs)):=aB
  have ea1:upd H l (.lst (bE rs)) a=some (.lst (bE rs)):=by rw[aE hal];exact ea
  have f1:=f.upd (o:=HO.lst (bE rs)) hl
  have k1:Kp fl H (upd H l (.lst (bE rs))):=(Same.new hl).kp
  show mO _ _ _ _ (upd H l (.lst (bE rs)))
  generalize upd H l (.lst (bE rs))=H1 at el ea1 f1 k1
  refine⟨_,rfl,l,_,rfl,.inl (SqL.of el),rfl,_,rfl,eM (fun z=>?_) (fun z=>?_)⟩
  ·have h0:rs=[]:=by
    have:=V.int.inj (of_decide_eq_true z)
    rw[aM] at this
    exact p8.mp (by omega)
   subst h0
   refine⟨(by show 1≤sizeLine;decide),fun l2 hl2=>?_⟩
   refine k l2 [[]] _ (k1.free hl2 (f1.ne hl2)) (by rw[aB];show some (HO.lst [V.str (Str.ofString "")])=_;rw[kS];rfl) ⟨fun x hx=>?_,fun x hx=>(nomatch hx)⟩ (by decide) (fun x hx=>?_) (f1.upd hl2) (k1.trans (Same.new hl2).kp)
   ·rw[c5.mp hx];exact .nil
   ·rw[c5.mp hx];exact⟨OfN.nil,trivial,by simp⟩
  have hpos:0<rs.length:=by
   have:¬ V.int (((bE rs).length:Nat):Int)=V.int 0:=fun y=>z (decide_eq_true y)
   rw[aM] at this
   apply Nat.pos_of_ne_zero
   intro q
   exact this (by rw[q];rfl)
  refine⟨_,rfl,_,rfl,l,_,rfl,.inl (SqL.of el),fl,sc,_,rfl,f1,by rw[aM];omega,by rw[aM];omega,fun kk H2 kk0 kk1 f2 k2=>?_⟩
  rw[aM] at kk1
  obtain⟨i,rfl⟩:∃ i:Nat,kk=(i:Int):=⟨kk.toNat,by omega⟩
  have el2:=k2 _ _ el hlf
  refine⟨_,rfl,_,rfl,l,_,rfl,.inl (SqL.of el2),fl,sc,_,rfl,f2,by rw[aM];omega,by rw[aM];omega,fun jj H3 jj0 jj1 f3 k3=>?_⟩
  rw[aM] at jj1
  obtain⟨j,rfl⟩:∃ j:Nat,jj=(j:Int):=⟨jj.toNat,by omega⟩
  have el3:=k3 _ _ el2 hlf
  refine⟨_,rfl,fl,sc,5,rfl,f3,by decide,by decide,fun fm H4 fm0 fm1 f4 k4=>?_⟩
  have el4:=k4 _ _ el3 hlf
  obtain⟨u,hu⟩:∃ u,rs[i]?=some u:=⟨_,a9 (by omega)⟩
  obtain⟨v,hv⟩:∃ v,rs[j]?=some v:=⟨_,a9 (by omega)⟩
  obtain⟨uO,uP,ul⟩:=hrs u (b0 hu)
  obtain⟨vO,vP,vl⟩:=hrs v (b0 hv)
  refine⟨_,rfl,_,rfl,l,_,_,.str (S v),rfl,rfl,SqL.of el4,bD (eU hv),?_⟩
  refine⟨_,rfl,_,rfl,l,_,_,.str (S v),rfl,rfl,SqL.of el4,bD (eU hv),v,rfl,vO.all,by omega,fun H5 s5=>⟨aK (by simp),fun q hq=>?_⟩⟩
  have f5:=f4.same s5
  refine⟨_,rfl,fl,sc,2,rfl,f5.upd hq,by decide,by decide,fun e H6 e0 e1 f6 k6=>?_⟩
  obtain⟨y,hy,hyx⟩:∃ y,sX [V.str (S v),V.str (S (back v))] e=some (.str (S y))∧(y=v∨y=back v):=by
   have:e=0∨e=1:=by omega
   rcases this with rfl | rfl
   ·exact⟨v,rfl,.inl rfl⟩
   ·exact⟨back v,rfl,.inr rfl⟩
  have hyl:y.length≤40:=by
   rcases hyx with rfl | rfl
   ·exact vl
   ·rw[bW];exact vl
  have yO:OfN n y:=by
   rcases hyx with rfl | rfl
   ·exact vO
   ·exact vO.back (by omega) (by omega)
  have hqf:q≠fl:=f5.ne hq
  have eq6:=k6 _ _ (aB (H:=H5) (a:=q) (o:=HO.lst [.str (S v),.str (S (back v))])) hqf
  have k46:Kp fl H4 H6:=((s5.upd' hq).kp).trans k6
  have k16:Kp fl H1 H6:=((k2.trans k3).trans k4).trans k46
  have el6:=k16 _ _ el hlf
  have ea6:=k16 _ _ ea1 haf
  have k06:=k1.trans k16
  refine⟨q,_,_,_,rfl,rfl,SqL.of eq6,hy,?_⟩
  clear k2 k3 k4 k46 k16 el el2 el3 el4 ea1 f1 f2 f3 f4 f5 eq6 hq s5
  have lay90:∀ {x:List Nat},OfN n x→x.length≤80→OfN n (lay x)∧bF (lay x)∧(lay x).length≤90:=fun {x} hO hl=>⟨hO.lay,eC x,by have:=eZ x;omega⟩
  have setO:∀ {w:List Nat} {i:Nat},(OfN n w∧bF w∧w.length≤90)→∀ x∈rs.set i w,OfN n x∧bF x∧x.length≤90:=fun {w i} hw x hx=>by
   rcases y3 hx with z | rfl
   ·obtain⟨a,b,c⟩:=hrs x z
    exact⟨a,b,by omega⟩
   ·exact hw
  refine⟨fun σ G=>∃ (rs':List (List Nat)),σ=[some (.ref fl),some (.ref a),some (.ref l),some (.int (i:Nat)),some (.int (j:Nat)),some (.int fm),some (.str (S y))]∧G l=some (.lst (bE rs'))∧Gn2 rs rs'∧rs'.length≤11∧(∀ x∈rs',OfN n x∧bF x∧x.length≤90)∧IsFl G fl sc∧Kp fl H G,?_,?_⟩
  rotate_left
  ·rintro _ G ⟨rs',rfl,e1,e2,e3,e4,e5,e6⟩
   exact⟨_,rfl,k l rs' G hl e1 e2 e3 e4 e5 e6⟩
  have ix:∀ {m:Nat},m<rs.length→AT (bE rs).length ((m:Nat):Int)=some m:=fun {m} hm=>by
   have:=pF (n:=(bE rs).length) (i:=((m:Nat):Int)) (by omega) (by rw[aM];omega)
   rwa [aQI] at this
  have iL:i<rs.length:=by omega
  have jL:j<rs.length:=by omega
  have hcu:OfN n u∧bF u∧u.length≤90:=⟨uO,uP,by omega⟩
  have hcv:OfN n v∧bF v∧v.length≤90:=⟨vO,vP,by omega⟩
  have fcase:fm=0∨fm=1∨fm=2∨fm=3∨fm=4:=by omega
  have dne:j≠i→(!decide (V.int ((j:Nat):Int)=V.int ((i:Nat):Int)))=true:=fun h=>by rw[decide_eq_false (fun q=>h (by have:=V.int.inj q;omega))];rfl
  have deq:j=i→(!decide (V.int ((j:Nat):Int)=V.int ((i:Nat):Int)))=false:=fun h=>by rw[h,decide_eq_true rfl];rfl
  have F:∀ {a b:Int},a≠b→decide (V.int a=V.int b)=false:=fun h=>decide_eq_false fun q=>h (V.int.inj q)
  have xl:∀ {x:List Nat},x=u++y∨x=y++u→AllL x∧x.length≤80∧OfN n x:=fun {x} hx=>by
   rcases hx with rfl | rfl
   ·exact⟨(uO.app yO).all,by rw[b8];omega,uO.app yO⟩
   ·exact⟨(yO.app uO).all,by rw[b8];omega,yO.app uO⟩
  rcases fcase with rfl | rfl | rfl | rfl | rfl
  case' inl =>
   refine⟨_,rfl,rfl,_,rfl,mJ (decide_eq_true rfl) ⟨_,rfl,_,rfl,rfl,_,rfl,?_⟩⟩
   by_cases hji:j=i
   case' pos =>
    refine dR (deq hji) ⟨_,rfl,rfl,_,rfl,dR (F (by decide)) (eR ⟨_,rfl,rfl,_,rfl,dR (F (by decide)) ⟨_,rfl,rfl,_,rfl,dR (F (by decide)) ?_⟩⟩)⟩
   case' neg =>
    obtain⟨x1,x2,x3⟩:=xl (.inl rfl)
    refine mJ (dne hji) ⟨_,rfl,_,rfl,l,_,_,.str (S u),rfl,rfl,SqL.of el6,bD (eU hu),_,rfl,_,_,rfl,rfl,by rw[bG,bG];exact aK (by omega),u++y,by rw[fP];rfl,x1,by omega,fun G sG=>⟨_,rfl,_,rfl,l,_,_,i,rfl,rfl,sG _ _ el6,ix iL,rs.set i (lay (u++y)),rfl,by rw[aB,iB],(yZ hu hv hji uO.all vO.all uP hyx).1,by rw[j0];omega,setO (lay90 x3 x2),(f6.same sG).set hlf hls,(k06.trans sG.kp).upd hl⟩⟩
  case' inr.inl =>
   refine⟨_,rfl,rfl,_,rfl,dR (F (by decide)) (eR ⟨_,rfl,rfl,_,rfl,mJ (decide_eq_true rfl) ⟨_,rfl,_,rfl,rfl,_,rfl,?_⟩⟩)⟩
   by_cases hji:j=i
   case' pos =>
    refine dR (deq hji) ⟨_,rfl,rfl,_,rfl,dR (F (by decide)) ⟨_,rfl,rfl,_,rfl,dR (F (by decide)) ?_⟩⟩
   case' neg =>
    obtain⟨x1,x2,x3⟩:=xl (.inr rfl)
    refine mJ (dne hji) ⟨_,rfl,_,rfl,_,rfl,l,_,_,.str (S u),rfl,rfl,SqL.of el6,bD (eU hu),_,_,rfl,rfl,by rw[bG,bG];exact aK (by omega),y++u,by rw[fP];rfl,x1,by omega,fun G sG=>⟨_,rfl,_,rfl,l,_,_,i,rfl,rfl,sG _ _ el6,ix iL,rs.set i (lay (y++u)),rfl,by rw[aB,iB],(yZ hu hv hji uO.all vO.all uP hyx).2,by rw[j0];omega,setO (lay90 x3 x2),(f6.same sG).set hlf hls,(k06.trans sG.kp).upd hl⟩⟩
  case inr.inr.inl =>
   refine⟨_,rfl,rfl,_,rfl,dR (F (by decide)) (eR ⟨_,rfl,rfl,_,rfl,dR (F (by decide)) (eR ⟨_,rfl,rfl,_,rfl,mJ (decide_eq_true rfl) ?_⟩)⟩)⟩
   exact⟨_,rfl,_,rfl,l,_,_,.str (S u),rfl,rfl,SqL.of el6,bD (eU hu),u,rfl,uO.all,by omega,fun G sG=>⟨_,rfl,_,rfl,l,_,_,i,rfl,rfl,sG _ _ el6,ix iL,rs.set i (back u),rfl,by rw[aB,iB],Dm hu uO.all,by rw[j0];omega,setO ⟨uO.back (by omega) (by omega),gW uO.all uP,by rw[bW];omega⟩,(f6.same sG).set hlf hls,(k06.trans sG.kp).upd hl⟩⟩
  case inr.inr.inr.inl =>
   refine⟨_,rfl,rfl,_,rfl,dR (F (by decide)) (eR ⟨_,rfl,rfl,_,rfl,dR (F (by decide)) (eR ⟨_,rfl,rfl,_,rfl,dR (F (by decide)) ⟨_,rfl,rfl,_,rfl,mJ (decide_eq_true rfl) ?_⟩⟩)⟩)⟩
   refine⟨_,rfl,_,rfl,l,_,_,.str (S v),rfl,rfl,SqL.of el6,bD (eU hv),_,rfl,_,rfl,l,_,_,.str (S u),rfl,rfl,SqL.of el6,bD (eU hu),aK (by simp),fun t ht=>?_⟩
   have htl:l≠t:=aI el6 ht
   have el7:upd H6 t (.tup [.str (S v),.str (S u)]) l=some (.lst (bE rs)):=by rw[aE htl];exact el6
   have f7:=f6.upd (o:=HO.tup [.str (S v),.str (S u)]) ht
   have k7:Kp fl H (upd H6 t (.tup [.str (S v),.str (S u)])):=k06.trans (Same.new ht).kp
   refine⟨t,_,rfl,.inr (SqT.of aB),rfl,_,_,rfl,?_⟩
   generalize upd H6 t (.tup [.str (S v),.str (S u)])=H7 at el7 f7 k7
   refine⟨_,rfl,_,rfl,l,_,_,i,rfl,rfl,el7,ix iL,_,_,rfl,_,rfl,_,rfl,l,_,_,j,rfl,rfl,aB,by rw[j0];exact ix jL,rfl,?_⟩
   refine⟨(rs.set i v).set j u,rfl,by rw[aB,iB,iB],CQ hu hv,by rw[j0,j0];omega,fun x hx=>?_,(f7.set hlf hls).set hlf hls,(k7.upd hl).upd hl⟩
   rcases y3 hx with z | rfl
   ·exact setO hcv x z
   ·exact hcu
  case' inr.inr.inr.inr =>
   refine⟨_,rfl,rfl,_,rfl,dR (F (by decide)) (eR ⟨_,rfl,rfl,_,rfl,dR (F (by decide)) (eR ⟨_,rfl,rfl,_,rfl,dR (F (by decide)) ⟨_,rfl,rfl,_,rfl,dR (F (by decide)) ?_⟩⟩)⟩)⟩
  all_goals
   refine⟨_,rfl,.inl ⟨rfl,_,SqL.of el6⟩,_,rfl,_,rfl,_,rfl,fl,sc,a,rs,n,2,40,rfl,f6,ea6,haf,h1,h4,by omega,fun x hx=>⟨(hrs x hx).1,(hrs x hx).2.2⟩,by decide,by decide,fun w G wO wP wl wj fG kG=>?_⟩
   refine⟨l,_,i,.str (S w),rfl,rfl,kG _ _ el6 hlf,by rw[aM];omega,by rw[aM];omega,rs.take i++w::rs.drop i,rfl,?_,Ff (Gen.joi (fun x hx=>(hrs x hx).1.all) wj),?_,fun x hx=>?_,fG.set hlf hls,(k06.trans kG).upd hl⟩
   ·rw[aB]
    unfold bE
    rw[g9,i6,List.map_take,List.map_drop]
   ·rw[b8,j1,i9,aQ5];omega
   ·rcases i8.mp hx with z | z
    ·obtain⟨a,b,c⟩:=hrs x (p9 z)
     exact⟨a,b,by omega⟩
    ·rcases c6.mp z with rfl | z
     ·exact⟨wO,wP,by omega⟩
     ·obtain⟨a,b,c⟩:=hrs x (aXo z)
      exact⟨a,b,by omega⟩
theorem Hv{f:Addr}{fd:FuncData}(D:Df K mg "_law_fits" C0 ["_law_some","_law_most"] f fd)(T:Txt P w K mg Jw Jx Jy):Cl P w K mg base "_law_fits" ["_law_some","_law_most"] 1 AX:=by
 refine D.cl (D.F.ok Hn (fun vs H Q E h=>?_) (fun cdv A outer s H vs Q E hr h=>?_))
 ·obtain⟨a,rs,m,rfl,_⟩:=h
  rfl
 ·obtain⟨a,rs,m,rfl,ea,hrl,hxl,k⟩:=h
  refine⟨_,(aF (aX (A8 (fJ BD (aT (bB (K:=K) rfl) (by rfl) T.b_len j8 (aA (pv 0) aC)) aG (aS _)) (B3 (fJ BD (aT (qV (K:=K) rfl rfl) (by rfl) T.b_sum boot_sum (aA (cL (sc0:=aH C0) (N:=["_law_some","_law_most"]) (ix:=[]) (by decide +kernel) rfl rfl rfl (cK (K:=K) rfl (pv 0)) (fun _ _ _=>cB) (fun _ _ _=>(aT eJ (by rfl) T.b_len j8 (aA (pv 0) aC)))) aC)) (pv 1) (aS _)))))),?_⟩
  refine⟨_,rfl,a,_,rfl,.inl (SqL.of ea),_,_,rfl,rfl,_,rfl,eM (fun z=>?_) (fun z=>?_)⟩
  ·have h6:rs.length≤6:=by
    have:=of_decide_eq_true z
    rw[aM] at this
    omega
   refine⟨_,rfl,a,rfl,⟨_,SqL.of ea⟩,fun Dd hD=>cG (K:=K) (a:=a) (xs:=bE rs) (fun i G=>Same H G∧G Dd=some (.lst (((rs.take i).map fun x=>((x.length:Nat):Int)).map V.int))) ⟨Same.new hD,aB⟩ (fun i G _ h=>SqL.of (h.1 _ _ ea)) ?_ ?_⟩
   ·rintro i v G9 hv ⟨s9,e9⟩
    obtain⟨x,hx,rfl⟩:=dP hv
    have hl:=hxl x (b0 hx)
    have hil:=(a8.mp hx).1
    refine⟨_,rfl,S x,rfl,aK (by rw[bG];omega),_,e9,?_,s9.upd hD,?_⟩
    ·rw[b7,b7,i9];exact aR (by omega)
    ·rw[aB,t8,hx,g9,g9,bG];rfl
   ·rintro G9 ⟨s9,e9⟩
    rw[aM,k0] at e9
    refine⟨Dd,_,rfl,SqL.of e9,_,rfl,_,_,rfl,rfl,?_⟩
    have:=k G9 s9
    have e:decide (rs.length≤6∧(rs.map List.length).sum≤m)=decide ((rs.map fun x=>((x.length:Nat):Int)).sum≤((m:Nat):Int)):=by
     rw[oX,y4,decide_eq_true_iff,decide_eq_true_iff]
     constructor
     ·rintro⟨_,q⟩;omega
     ·intro q;exact⟨h6,by omega⟩
    rw[e] at this
    exact this
  ·have h6:¬ rs.length≤6:=by
    have:¬ ((((bE rs).length:Nat):Int)≤6):=fun y=>z (decide_eq_true y)
    rw[aM] at this
    omega
   have:=k H (Same.refl _)
   rw[decide_eq_false (fun q=>h6 q.1)] at this
   exact this
theorem Hs{f:Addr}{fd:FuncData}(D:Df K mg "_law_by_ways" Ah ["_law_web"] f fd)(T:Txt P w K mg Jw Jx Jy)(c_z1:Cl P w K mg base "_law_back" ["_law_word_here"] 2 lF)(c_z7:Cl P w K mg base "_law_laid" ["_law_text"] 2 mH):Cl P w K mg base "_law_by_ways" ["_law_web"] 3 D7:=by
 refine D.cl (D.F.ok sc_zu (fun vs H Q E h=>?_) (fun cdv A outer s H vs Q E hr h=>?_))
 ·obtain⟨r,n,W,g,rfl,_⟩:=h
  rfl
 ·obtain⟨r,n,W,g,rfl,h1,h4,hw,ok,hrc,k⟩:=h
  refine⟨_,(aD (aL (i:=1) sc_zu.nd rfl (Or.inl rfl) (xN (tF aG cA zJ) rfl rfl (by simp) (by decide)))
   (aD (aL (i:=2) sc_zu.nd rfl (Or.inl rfl) (dB (aA aG aC)))
   (aD (aL (i:=3) sc_zu.nd rfl (Or.inl rfl) (dB aC))
   (aD (aL (i:=4) sc_zu.nd rfl (Or.inl rfl) aG)
   (aD (iO j7 (aP B8 (pv 4) (aT (bB (K:=K) rfl) (by rfl) T.b_len j8 (aA (pv 2) aC)) (aS _)) (aD (aL (i:=5) sc_zu.nd rfl (Or.inr rfl) (aQ (aN (K:=K) rfl) (pv 2) (pv 4) (fun _ _=>rfl)))
   (aD (aL (i:=4) sc_zu.nd rfl (Or.inl rfl) (aZ eT (pv 4) aG))
   (aF (cW j7 rfl (dQ (by rfl) T.b_range (aA (aT (bB (K:=K) rfl) (by rfl) T.b_len j8 (aA (aQ (bL (K:=K) rfl) (pv 0) (pv 5) (fun _ _=>rfl)) aC)) aC)) (bA (i:=6) sc_zu.nd rfl (Or.inr rfl)) (aD (iR (i:=7) (sc0:=aH Ah) (N:=["_law_web","_law_comes","_law_order","_law_over","_law_at","_law_here","_law_k","_law_back_here","_law_there","_law_letter"]) (ix:=[0,5,6]) sc_zu.nd rfl rfl (by decide +kernel) rfl rfl rfl (dQ (by rfl) T.b_range (aA (aT (bB (K:=K) rfl) (by rfl) T.b_len j8 (aA (pv 0) aC)) aC)) (fun _ _ _=>kZ (aP fH (aQ (bL (K:=K) rfl) (aQ (bL (K:=K) rfl) (pv 1) (pv 0) (fun _ _=>rfl)) (pv 3) (fun _ _=>rfl)) (pv 2) (aS _))) (fun _ _ _=>(pv 0)))
   (aF (cW j7 rfl (cK (K:=K) rfl (aZ sB (dB (aA (eF (aA (aQ (bL (K:=K) rfl) (aQ (bL (K:=K) rfl) (pv 0) (pv 5) (fun _ _=>rfl)) (pv 6) (fun _ _=>rfl)) (aA (aQ sV cA (pv 6) (fun _ _=>rfl)) aC))) aC)) (cL (sc0:=aH Ah) (N:=["_law_web","_law_comes","_law_order","_law_over","_law_at","_law_here","_law_k","_law_back_here","_law_there","_law_letter"]) (ix:=[6]) (by decide +kernel) rfl rfl rfl (cK (K:=K) rfl (pv 7)) (fun _ _ _=>cB) (fun _ _ _=>(eF (aA (pv 0) (aA (aQ sV cA (pv 1) (fun _ _=>rfl)) aC))))))) (iS (K:=K) rfl rfl (cD (bA (i:=8) sc_zu.nd rfl (Or.inl rfl)) (cD (bA (i:=9) sc_zu.nd rfl (Or.inl rfl)) fZ))) (aF (cV (pw_and (aP mV (pv 8) hV (aS _)) (pw_and1 (BO (qO (l7 (p0 (by decide:1≤64) _) hr.units) (pv 8) (pv 1)) (by rfl)))).pt (aD (nF (l7 (p0 (by decide:1≤64) _) hr.units) (pv 1) (pv 8) (aZ bT (nE (l7 (p0 (by decide:1≤64) _) hr.units) (pv 1) (pv 5) (fun _ _=>rfl)) (pv 9)) (by rfl))
   (aF (bR (cX (K:=K) rfl j6 m4 m6 cI (pv 2) (aA (pv 8) aC))))) bS))))))))))
   (aD (cW j7 rfl (cK (K:=K) rfl (pv 2)) (bA (i:=5) sc_zu.nd rfl (Or.inr rfl)) (aF (cW j7 rfl (dQ (by rfl) T.b_range (aA (aT (bB (K:=K) rfl) (by rfl) T.b_len j8 (aA (aQ (bL (K:=K) rfl) (pv 0) (pv 5) (fun _ _=>rfl)) aC)) aC)) (bA (i:=6) sc_zu.nd rfl (Or.inr rfl)) (aD (aL (i:=8) sc_zu.nd rfl (Or.inl rfl) (aQ (bL (K:=K) rfl) (aQ (bL (K:=K) rfl) (pv 0) (pv 5) (fun _ _=>rfl)) (pv 6) (fun _ _=>rfl)))
   (aF (cV (aP mV (pv 8) hV (aS _)) (aF (bR (cX (K:=K) rfl j6 m4 m6 cI (pv 3) (aA (pC c_z7 hr (aA (aZ bT (aZ bT (nE (l7 (p0 (by decide:1≤64) _) hr.units) (pv 1) (pv 5) (fun _ _=>rfl)) (aQ sV cA (pv 6) (fun _ _=>rfl))) (pC c_z1 hr (aA (nE (l7 (p0 (by decide:1≤64) _) hr.units) (pv 1) (pv 8) (fun _ _=>rfl)) aC))) aC)) aC)))) bS))))))
   (aF (aX (cL (sc0:=aH Ah) (N:=["_law_web","_law_comes","_law_order","_law_over","_law_at","_law_here","_law_k","_law_back_here","_law_there","_law_letter"]) (ix:=[]) (by decide +kernel) rfl rfl rfl (cK (K:=K) rfl (pv 3)) (fun _ _ _=>kZ (aP jT (pv 0) cA (aS _))) (fun _ _ _=>(pv 0))))))))))),?_⟩
  obtain⟨qs,er,hql,hqr⟩:=id hw
  have hWl:=ok.few
  have hW0:=ok.pos
  intro d hd
  refine⟨aB,[(.inl 0,.str (Str.ofString ""))],rfl,(by show 1≤15;decide),?_⟩
  have s1:Same H (upd (upd H d (.dK [])) d (.dK [(.inl 0,.str (Str.ofString ""))])):=fun b o e=>by
   have nb:b≠d:=aI e hd
   rw[aE nb,aE nb];exact e
  have e1:upd (upd H d (.dK [])) d (.dK [(.inl 0,.str (Str.ofString ""))]) d=some (.dK [(.inl 0,.str (S []))]):=by rw[aB,← kS]
  show mO _ _ _ _ (upd (upd H d (.dK [])) d (.dK [(.inl 0,.str (Str.ofString ""))]))
  generalize upd (upd H d (.dK [])) d (.dK [(.inl 0,.str (Str.ofString ""))])=H1 at s1 e1
  refine⟨(by show 1≤sizeLine;decide),fun od hod=>?_⟩
  have hod0:H od=none:=s1.free hod
  have hdo:d≠od:=aI e1 hod
  have s2:Same H (upd H1 od (.lst [.int 0])):=s1.upd' hod
  have e2d:upd H1 od (.lst [.int 0]) d=some (.dK [(.inl 0,.str (S []))]):=by rw[aE hdo];exact e1
  have e2:upd H1 od (.lst [.int 0]) od=some (.lst (cF [0])):=aB
  show mO _ _ _ _ (upd H1 od (.lst [.int 0]))
  generalize upd H1 od (.lst [.int 0])=H2 at s2 e2d e2
  refine⟨aK (by simp),fun ov hov=>?_⟩
  have hov0:H ov=none:=s2.free hov
  have hdv:d≠ov:=aI e2d hov
  have hovo:od≠ov:=aI e2 hov
  have s3:Same H (upd H2 ov (.lst [])):=s2.upd' hov
  have e3d:upd H2 ov (.lst []) d=some (.dK [(.inl 0,.str (S []))]):=by rw[aE hdv];exact e2d
  have e3:upd H2 ov (.lst []) od=some (.lst (cF [0])):=by rw[aE hovo];exact e2
  have e3v:upd H2 ov (.lst []) ov=some (.lst (bE [])):=aB
  show mO _ _ _ _ (upd H2 ov (.lst []))
  generalize upd H2 ov (.lst [])=H3 at s3 e3d e3 e3v
  clear e1 s1 s2 e2d e2 hod hov
  have ci0:CmI n W g [0] [(.inl 0,.str (S []))] fun _=>[]:=by
   refine⟨by simp,fun p hp=>by rw[c5.mp hp];exact hW0,by simp,rfl,fun p=>?_,fun p=>OfN.nil,fun p hp=>by rw[c5.mp hp];rfl,fun p hp=>by simp,by simp⟩
   by_cases z:p=0
   ·subst z;rw[if_pos (by simp)];rfl
   ·rw[if_neg (by simpa using z),cU (show ¬ (Sum.inl 0:bX)=Sum.inl ((p:Nat):Int) from fun e=>z (by have:=aXI e;omega))];rfl
  have rowA:∀ p,p<W.length→∃ qa row,qs[p]?=some qa∧W[p]?=some row∧row.length=n∧H qa=some (.tup (row.map fL)):=fun p hp=>by
   have a1:W[p]?=some W[p]:=a9 hp
   have a2:qs[p]?=some (qs[p]'(by omega)):=a9 (by omega)
   exact⟨_,_,a2,a1,ok.len _ (aQM hp),hqr p _ _ a2 a1⟩
  refine⟨fun m0 σ G=>∃ (v5 v6 v7 v8 v9:Option V) (at':Nat) (ord:List Nat) (kvs:List (bX×V)) (cw:Nat→List Nat),m0+at'=1000∧σ=[some (.ref r),some (.ref d),some (.ref od),some (.ref ov),some (.int (at':Nat)),v5,v6,v7,v8,v9]∧Same H G∧G d=some (.dK kvs)∧G od=some (.lst (cF ord))∧G ov=some (.lst (bE []))∧CmI n W g ord kvs cw∧∀ i s,i<at'→ord[i]?=some s→∀ c t,g s c=some t→t∈ord,⟨1000,none,none,none,none,none,0,[0],_,_,rfl,rfl,s3,e3d,e3,e3v,ci0,fun i s hi=>absurd hi (u5 _)⟩,?_⟩
  rintro m0 _ G ⟨v5,v6,v7,v8,v9,at',ord,kvs,cw,hmd,rfl,sG,dG,oG,vG,ci,cl⟩
  have hol:=ci.len
  refine⟨_,rfl,_,rfl,od,_,rfl,.inl (SqL.of oG),_,_,rfl,rfl,_,rfl,?_⟩
  refine eM (fun z=>?_) (fun z=>?_)
  ·have hlt:at' < ord.length:=by
    have:((at':Nat):Int)<(((cF ord).length:Nat):Int):=of_decide_eq_true z
    rw[cR] at this
    omega
   obtain⟨s,hs⟩:∃ s,ord[at']?=some s:=⟨_,a9 hlt⟩
   have hsm:=b0 hs
   have hsW:=ci.lt s hsm
   obtain⟨m1,rfl⟩:∃ m1,m0=m1+1:=⟨m0 - 1,by omega⟩
   refine⟨fun σ' G=>∃ (v5 v6 v7 v8 v9:Option V) (ord:List Nat) (kvs:List (bX×V)) (cw:Nat→List Nat),σ'=[some (.ref r),some (.ref d),some (.ref od),some (.ref ov),some (.int ((at' + 1:Nat):Int)),v5,v6,v7,v8,v9]∧Same H G∧G d=some (.dK kvs)∧G od=some (.lst (cF ord))∧G ov=some (.lst (bE []))∧CmI n W g ord kvs cw∧∀ i s,i<at' + 1→ord[i]?=some s→∀ c t,g s c=some t→t∈ord,fun σ' G ⟨v5,v6,v7,v8,v9,ord,kvs,cw,e,x⟩=>⟨m1,by omega,v5,v6,v7,v8,v9,at' + 1,ord,kvs,cw,by omega,e,x⟩,?_⟩
   refine⟨_,rfl,_,rfl,od,_,_,.int ((s:Nat):Int),rfl,rfl,SqL.of oG,bD (jE hs),?_⟩
   refine⟨_,rfl,_,_,rfl,rfl,?_⟩
   obtain⟨qa,row,hqa,hrow,hrl,eqa⟩:=rowA s hsW
   have er':=sG _ _ er
   refine⟨_,rfl,_,rfl,r,_,_,.ref qa,rfl,rfl,SqT.of er',bD (by rw[c7,hqa];rfl),qa,_,rfl,.inr (SqT.of (sG _ _ eqa)),_,rfl,by rw[b7];omega,by rw[b7];omega,?_⟩
   have hrn:((((row.map fL).length:Nat):Int)).toNat=n:=by rw[b7,hrl];omega
   rw[hrn]
   refine eX (lo:=0) (n:=n) (fun j σ G=>∃ (v6 v7 v8 v9:Option V) (ord':List Nat) (kvs:List (bX×V)) (cw:Nat→List Nat),σ=[some (.ref r),some (.ref d),some (.ref od),some (.ref ov),some (.int ((at' + 1:Nat):Int)),some (.int (s:Nat)),v6,v7,v8,v9]∧Same H G∧G d=some (.dK kvs)∧G od=some (.lst (cF ord'))∧G ov=some (.lst (bE []))∧CmI n W g ord' kvs cw∧(∃ r,ord'=ord++r)∧∀ m c t,m<j→(c=97+m∨c=aU (97+m))→g s c=some t→t∈ord') ⟨_,_,_,_,ord,kvs,cw,rfl,sG,dG,oG,vG,ci,⟨[],(o6 _).symm⟩,fun m c t hm=>absurd hm (u5 _)⟩ ?_ ?_
   ·rintro j _ G2 hj ⟨v6,v7,v8,v9,ord',kvs,cw,rfl,sG2,dG2,oG2,vG2,ci2,⟨r2,hr2⟩,cl2⟩
    have e0j:((0:Int)+((j:Nat):Int))=((j:Nat):Int):=by omega
    rw[e0j]
    have hsm2:s∈ord':=by rw[hr2];exact l4 _ hsm
    have er2:=sG2 _ _ er
    have hcL:cN (97+j):=by unfold cN;omega
    have hcn:97+j∈aJ (n:Nat):=(xU h1 h4 hj).1
    obtain⟨o,ho⟩:∃ o,row[j]?=some o:=⟨_,a9 (by omega)⟩
    have hgo:=ok.lo s j row o hrow ho
    refine⟨_,rfl,r,_,rfl,.inr (SqT.of er2),_,rfl,by rw[b7];omega,by rw[b7];omega,fun Dd hD=>?_⟩
    refine rO (lo:=0) (n:=(((qs.map V.ref).length:Nat):Int).toNat) (fun m G3=>Same G2 G3∧G3 Dd=some (.lst (cF ((List.range m).filter fun p=>decide (g p (97+j)=some s))))) ⟨Same.new hD,aB⟩ ?_ ?_
    ·rintro m G3 hm ⟨s3',e3'⟩
     have hm':m<W.length:=by rw[b7] at hm;omega
     obtain⟨qm,rowm,hqm,hrowm,hrlm,eqm⟩:=rowA m hm'
     obtain⟨om,hom⟩:∃ o,rowm[j]?=some o:=⟨_,a9 (by omega)⟩
     have hgm:=ok.lo m j rowm om hrowm hom
     have sG3:=sG2.trans s3'
     refine⟨_,rfl,_,rfl,r,_,_,.ref qm,rfl,rfl,SqT.of (sG3 _ _ er),rV (by omega) (by rw[show ((0:Int)+(m:Nat)).toNat=m by omega,c7,hqm];rfl),_,rfl,qm,_,_,fL om,rfl,rfl,SqT.of (sG3 _ _ eqm),bD (by rw[c7,hom];rfl),_,rfl,?_⟩
     have hfl:(List.range (m+1)).filter (fun p=>decide (g p (97+j)=some s))=(List.range m).filter (fun p=>decide (g p (97+j)=some s))++(if decide (g m (97+j)=some s) then [m] else []):=by
      rw[aZ9,aQc,aZ2,aXA]
     have hsz:((List.range m).filter fun p=>decide (g p (97+j)=some s)).length≤900:=by
      have:=u0 (fun p=>decide (g p (97+j)=some s)) (List.range m)
      rw[y9] at this
      omega
     refine⟨by cases om <;> rfl,_,rfl,eM (fun z=>?_) (fun z=>?_)⟩
     ·have hoq:om=some s:=by
       cases om with
       | none=>exact absurd z (by intro y;cases of_decide_eq_true y)
       | some b =>
        have:=V.int.inj (of_decide_eq_true z)
        congr 1
        omega
      refine⟨_,rfl,_,e3',by rw[cR];exact aR (by omega),s3'.upd hD,?_⟩
      rw[aB,hfl,hgm,hoq,decide_eq_true rfl]
      show some (HO.lst (_++[V.int ((0:Int)+(m:Nat))]))=some (HO.lst (cF (_++[m])))
      rw[show ((0:Int)+(m:Nat))=(m:Nat) by omega,lB]
     ·have hoq:¬ om=some s:=fun e=>z (by subst e;exact decide_eq_true rfl)
      refine⟨s3',?_⟩
      rw[e3',hfl,hgm,decide_eq_false hoq]
      simp
    rintro G3 ⟨s3',e3'⟩
    rw[show (((qs.map V.ref).length:Nat):Int).toNat=W.length by rw[b7];omega] at e3'
    have memL:∀ p,p∈((List.range W.length).filter fun p=>decide (g p (97+j)=some s))↔g s (aU (97+j))=some p:=fun p=>by
     constructor
     ·intro hp
      exact ok.sy p _ s hcL (of_decide_eq_true (x8.mp hp).2)
     ·intro hp
      have h2:=ok.sy s _ p (cZ hcL) hp
      rw[bK hcL] at h2
      exact x8.mpr ⟨aQW.mpr (ok.bd _ _ _ hp).2.1,decide_eq_true h2⟩
    have lenL:((List.range W.length).filter fun p=>decide (g p (97+j)=some s)).length≤900:=by
     have:=u0 (fun p=>decide (g p (97+j)=some s)) (List.range W.length)
     rw[y9] at this
     omega
    generalize ((List.range W.length).filter fun p=>decide (g p (97+j)=some s))=Lb at e3' memL lenL
    have sG3:=sG2.trans s3'
    have ei:=xY (j:=j) (by omega)
    have eI:=DG (j:=j) (by omega)
    refine⟨_,rfl,_,rfl,r,_,_,.ref qa,rfl,rfl,SqT.of (sG3 _ _ er),bD (by rw[c7,hqa];rfl),_,rfl,qa,_,_,fL o,rfl,rfl,SqT.of (sG3 _ _ eqa),bD (by rw[c7,ho];rfl),?_⟩
    refine⟨_,rfl,_,_,97+j,rfl,rfl,ei.1,ei.2,aK (by simp),fun t1 ht1=>⟨aK (by simp),fun L1 hL1=>?_⟩⟩
    have s4:Same G3 (upd (upd G3 t1 (.tup [fL o,.str (S [97+j])])) L1 (.lst [.ref t1])):=(Same.new ht1).upd' hL1
    have e4t:upd (upd G3 t1 (.tup [fL o,.str (S [97+j])])) L1 (.lst [.ref t1]) t1=some (.tup [fL o,.str (S [97+j])]):=by rw[aE (aI aB hL1)];exact aB
    have e4L:upd (upd G3 t1 (.tup [fL o,.str (S [97+j])])) L1 (.lst [.ref t1]) L1=some (.lst [.ref t1]):=aB
    have e4D:=s4 _ _ e3'
    refine(show zG _ _ _ _ _ (upd (upd G3 t1 (.tup [fL o,.str (S [97+j])])) L1 (.lst [.ref t1])) _ from ?_)
    generalize upd (upd G3 t1 (.tup [fL o,.str (S [97+j])])) L1 (.lst [.ref t1])=G4 at s4 e4t e4L e4D
    refine⟨_,rfl,Dd,rfl,⟨_,SqL.of e4D⟩,fun E2 hE2=>?_⟩
    refine cG (K:=K) (a:=Dd) (xs:=cF Lb) (fun i G5=>Same G4 G5∧∃ ts:List Addr,G5 E2=some (.lst (ts.map V.ref))∧ts.length=i∧∀ (m:Nat) (t:Addr) (p:Nat),ts[m]?=some t→Lb[m]?=some p→G5 t=some (.tup [.int (p:Nat),.str (S [aU (97+j)])])) ⟨Same.new hE2,([]:List Addr),aB,rfl,fun m t p (z:([]:List Addr)[m]?=some t) _=>by rw[List.getElem?_nil] at z;cases z⟩ (fun i G5 _ h=>SqL.of (h.1 _ _ e4D)) ?_ ?_
    ·rintro i v G5 hv ⟨s5,ts,e5,htl,hts⟩
     obtain⟨p,hp,rfl⟩:∃ p,Lb[i]?=some p∧v=.int (p:Nat):=by
      unfold cF at hv
      rw[c7] at hv
      obtain⟨p,hp,e⟩:=d8.mp hv
      exact⟨p,hp,e.symm⟩
     have hil:=(a8.mp hp).1
     refine⟨_,rfl,_,rfl,_,_,aU (97+j),rfl,rfl,eI.1,eI.2,aK (by simp),fun t2 ht2=>?_⟩
     have s6:=Same.new (o:=HO.tup [.int ((p:Nat):Int),.str (S [aU (97+j)])]) ht2
     have e6:upd G5 t2 (.tup [.int ((p:Nat):Int),.str (S [aU (97+j)])]) t2=some (.tup [.int ((p:Nat):Int),.str (S [aU (97+j)])]):=aB
     have e6E:=s6 _ _ e5
     refine⟨_,e6E,by rw[b7,htl];exact aR (by omega),(s5.trans s6).upd hE2,ts++[t2],by rw[aB,g9];rfl,by rw[b8,htl];rfl,fun m t p' hm hp'=>?_⟩
     rcases dY hm with ⟨z,hm⟩ | ⟨z,rfl⟩
     ·have e0:=s6 _ _ (hts m t p' hm hp')
      rw[aE (cC e0 e6E (by intro z;cases z))]
      exact e0
     ·rw[z,htl,hp] at hp'
      cases hp'
      rw[aE (cC e6 e6E (by intro z;cases z))]
      exact e6
    rintro G5 ⟨s5,ts,e5,htl,hts⟩
    rw[cR] at htl
    refine⟨L1,E2,_,_,rfl,rfl,s5 _ _ e4L,e5,aK (by rw[b7,htl];simp;omega),fun L hL=>⟨L,rfl,⟨_,SqL.of aB⟩,?_⟩⟩
    have s6:=Same.new (o:=HO.lst ([.ref t1]++ts.map V.ref)) hL
    have e6:upd G5 L (.lst ([.ref t1]++ts.map V.ref)) L=some (.lst ((t1::ts).map V.ref)):=aB
    have items:∀ (m:Nat) (t:Addr),(t1::ts)[m]?=some t→∃ (o':Option Nat) (c:Nat),upd G5 L (.lst ([.ref t1]++ts.map V.ref)) t=some (.tup [fL o',.str (S [c])])∧c∈aJ (n:Nat)∧∀ q,o'=some q→g s c=some q:=fun m t hm=>by
     cases m with
     | zero =>
      cases hm
      exact⟨o,97+j,s6 _ _ (s5 _ _ e4t),hcn,fun q e=>by rw[hgo,e]⟩
     | succ m =>
      have hm':ts[m]?=some t:=hm
      obtain⟨p,hp⟩:∃ p,Lb[m]?=some p:=⟨_,a9 (by rw[← htl];exact(a8.mp hm').1)⟩
      exact⟨some p,aU (97+j),s6 _ _ (hts m t p hm' hp),dF (by omega) (by omega) hcn,fun q e=>by cases e;exact(memL p).mp (b0 hp)⟩
    have cov:∀ (c t:Nat),(c=97+j∨c=aU (97+j))→g s c=some t→∃ (m:Nat) (a:Addr),(t1::ts)[m]?=some a∧upd G5 L (.lst ([.ref t1]++ts.map V.ref)) a=some (.tup [fL (some t),.str (S [c])]):=fun c t hc hg=>by
     rcases hc with rfl | rfl
     ·exact⟨0,t1,rfl,by rw[s6 _ _ (s5 _ _ e4t),← hgo,hg]⟩
     ·obtain⟨m,hm⟩:=l5 ((memL t).mpr hg)
      obtain⟨a,ha⟩:∃ a,ts[m]?=some a:=⟨_,a9 (by rw[htl];exact(a8.mp hm).1)⟩
      exact⟨m+1,a,ha,s6 _ _ (hts m a t ha hm)⟩
    have sG6:=((sG3.trans s4).trans s5).trans s6
    have s26:=((s3'.trans s4).trans s5).trans s6
    have dG6:=s26 _ _ dG2
    have oG6:=s26 _ _ oG2
    have vG6:=s26 _ _ vG2
    generalize upd G5 L (.lst ([.ref t1]++ts.map V.ref))=G6 at s6 e6 items cov sG6 s26 dG6 oG6 vG6
    have hLd:L≠d:=cC e6 dG6 (by intro z;cases z)
    have hLo:L≠od:=fun e=>by
     have:=s26 _ _ oG2
     have hL5:G5 L=none:=hL
     rw[e] at hL5
     have:=((s3'.trans s4).trans s5) _ _ oG2
     rw[hL5] at this
     cases this
    refine iY (K:=K) (a:=L) (xs:=(t1::ts).map V.ref) (fun i σ G=>∃ (v8 v9:Option V) (ord':List Nat) (kvs:List (bX×V)) (cw:Nat→List Nat),σ=[some (.ref r),some (.ref d),some (.ref od),some (.ref ov),some (.int ((at' + 1:Nat):Int)),some (.int (s:Nat)),some (.int (j:Nat)),some (.ref Dd),v8,v9]∧Same H G∧(∀ b us,G6 b=some (.tup us)→G b=some (.tup us))∧G L=some (.lst ((t1::ts).map V.ref))∧G d=some (.dK kvs)∧G od=some (.lst (cF ord'))∧G ov=some (.lst (bE []))∧CmI n W g ord' kvs cw∧(∃ r,ord'=ord++r)∧(∀ m c t,m<j→(c=97+m∨c=aU (97+m))→g s c=some t→t∈ord')∧∀ m a c t,m<i→(t1::ts)[m]?=some a→G6 a=some (.tup [fL (some t),.str (S [c])])→t∈ord') ⟨_,_,ord',kvs,cw,rfl,sG6,fun b us e=>e,e6,dG6,oG6,vG6,ci2,⟨r2,hr2⟩,cl2,fun m a c t hm=>absurd hm (u5 _)⟩ (fun i σ G _ ⟨_,_,_,_,_,_,_,_,h,_⟩=>SqL.of h) ?_ ?_
    ·rintro i v _ G7 hv ⟨v8,v9,ord2,kvs2,cw2,rfl,sG7,tp7,eL7,dG7,oG7,vG7,ci7,⟨r7,hr7⟩,cl7,it7⟩
     rw[c7] at hv
     obtain⟨ta,hta,rfl⟩:=d8.mp hv
     obtain⟨o',c,eta,hcm,hoq⟩:=items i ta hta
     have eta7:=tp7 _ _ eta
     have hol7:=ci7.len
     have hsm7:s∈ord2:=by rw[hr7];exact l4 _ hsm
     refine⟨ta,_,rfl,.inr (SqT.of eta7),rfl,_,_,rfl,_,_,rfl,rfl,?_⟩
     have up:∀ {ord3:List Nat},(∀ x∈ord2,x∈ord3)→(∀ q,o'=some q→q∈ord3)→(∀ m c t,m<j→(c=97+m∨c=aU (97+m))→g s c=some t→t∈ord3)∧∀ m a c t,m<i+1→(t1::ts)[m]?=some a→G6 a=some (.tup [fL (some t),.str (S [c])])→t∈ord3:=fun {ord3} hsub hnew=>by
      refine⟨fun m c t hm hc hg=>hsub _ (cl7 m c t hm hc hg),fun m a c' t hm ha ea=>?_⟩
      by_cases z:m=i
      ·subst z
       rw[hta] at ha
       cases ha
       rw[eta] at ea
       cases o' with
       | none=>cases ea
       | some q =>
        have:q=t:=by
         injection ea with ea
         injection ea with ea
         injection ea with ea _
         have:=V.int.inj ea
         omega
        rw[← this]
        exact hnew q rfl
      ·exact hsub _ (it7 m a c' t (by omega) ha ea)
     cases o' with
     | none =>
      refine⟨_,rfl,rfl,_,rfl,eR ?_⟩
      obtain⟨u1,u2⟩:=up (ord3:=ord2) (fun x hx=>hx) (fun q e=>by cases e)
      exact⟨_,_,ord2,kvs2,cw2,rfl,sG7,tp7,eL7,dG7,oG7,vG7,ci7,⟨r7,hr7⟩,u1,u2⟩
     | some t =>
      have hgt:=hoq t rfl
      refine⟨_,rfl,rfl,_,rfl,jJ ?_⟩
      refine(show tB (rP (sQ 8) (sQ 1)) _ G7 _ from ?_)
      refine⟨_,rfl,_,rfl,d,_,rfl,DGet.k (k:=.inl ((t:Nat):Int)) dG7,_,rfl,?_⟩
      rw[ci7.val t]
      by_cases hin:t∈ord2
      ·rw[if_pos hin]
       refine eR ?_
       obtain⟨u1,u2⟩:=up (ord3:=ord2) (fun x hx=>hx) (fun q e=>by cases e;exact hin)
       exact⟨_,_,ord2,kvs2,cw2,rfl,sG7,tp7,eL7,dG7,oG7,vG7,ci7,⟨r7,hr7⟩,u1,u2⟩
      ·rw[if_neg hin]
       refine jJ ?_
       have hln:=ci7.ln s hsm7
       have hkl:=ci7.kl
       have hgs:DGet G7 d (.int ((s:Nat):Int)) (some (.str (S (cw2 s)))):=by
        have:=DGet.k (k:=.inl ((s:Nat):Int)) dG7
        rw[ci7.val s,if_pos hsm7] at this
        exact this
       refine⟨_,rfl,_,rfl,d,.str (S (cw2 s)),rfl,hgs,_,rfl,_,_,rfl,rfl,by rw[bG,bG];exact aK (by simp;omega),?_⟩
       rw[fP]
       refine⟨_,rfl,_,rfl,d,_,rfl,DPut.k (k:=.inl ((t:Nat):Int)) dG7 (aR (by omega)),?_⟩
       have ci8:=ci7.add hsm7 hcm hgt hin (ok.bd _ _ _ hgt).2.1
       have dG8:upd G7 d (.dK (cT kvs2 (.inl ((t:Nat):Int)) (.str (S (cw2 s++[c]))))) d=some (.dK (cT kvs2 (.inl ((t:Nat):Int)) (.str (S (cw2 s++[c]))))):=aB
       have oG8:upd G7 d (.dK (cT kvs2 (.inl ((t:Nat):Int)) (.str (S (cw2 s++[c]))))) od=some (.lst (cF ord2)):=by rw[aE hdo.symm];exact oG7
       have vG8:upd G7 d (.dK (cT kvs2 (.inl ((t:Nat):Int)) (.str (S (cw2 s++[c]))))) ov=some (.lst (bE [])):=by rw[aE hdv.symm];exact vG7
       have eL8:upd G7 d (.dK (cT kvs2 (.inl ((t:Nat):Int)) (.str (S (cw2 s++[c]))))) L=some (.lst ((t1::ts).map V.ref)):=by rw[aE hLd];exact eL7
       have sG8:Same H (upd G7 d (.dK (cT kvs2 (.inl ((t:Nat):Int)) (.str (S (cw2 s++[c])))))):=sG7.upd hd
       have tp8:∀ b us,G6 b=some (.tup us)→upd G7 d (.dK (cT kvs2 (.inl ((t:Nat):Int)) (.str (S (cw2 s++[c]))))) b=some (.tup us):=fun b us e=>by
        have e':=tp7 b us e
        rw[aE (cC e' dG7 (by intro z;cases z))];exact e'
       generalize upd G7 d (.dK (cT kvs2 (.inl ((t:Nat):Int)) (.str (S (cw2 s++[c])))))=G8 at dG8 oG8 vG8 eL8 sG8 tp8
       obtain⟨u1,u2⟩:=up (ord3:=ord2++[t]) (fun x hx=>l4 _ hx) (fun q e=>by cases e;simp)
       refine⟨_,rfl,.inl ⟨rfl,_,SqL.of oG8⟩,_,rfl,od,_,_,rfl,rfl,oG8,by rw[cR];exact aR (by omega),?_⟩
       refine⟨_,_,ord2++[t],_,_,rfl,sG8.upd hod0,fun b us e=>?_,by rw[aE hLo];exact eL8,by rw[aE hdo];exact dG8,by rw[aB];show some (HO.lst (cF ord2++[V.int ((t:Nat):Int)]))=_;rw[lB],by rw[aE hovo.symm];exact vG8,ci8,⟨r7++[t],by rw[hr7,l8]⟩,u1,u2⟩
       have e':=tp8 b us e
       rw[aE (cC e' oG8 (by intro z;cases z))];exact e'
    ·rintro _ G7 ⟨v8,v9,ord2,kvs2,cw2,rfl,sG7,tp7,eL7,dG7,oG7,vG7,ci7,hr7,cl7,it7⟩
     refine⟨_,_,_,_,ord2,kvs2,cw2,rfl,sG7,dG7,oG7,vG7,ci7,hr7,fun m c t hm hc hg=>?_⟩
     by_cases q:m=j
     ·subst q
      obtain⟨m',a,ha,ea⟩:=cov c t hc hg
      refine it7 m' a c t ?_ ha ea
      rw[b7]
      exact(a8.mp ha).1
     ·exact cl7 m c t (by omega) hc hg
   ·rintro _ G2 ⟨v6,v7,v8,v9,ord',kvs,cw,rfl,sG2,dG2,oG2,vG2,ci2,⟨r2,hr2⟩,cl2⟩
    refine⟨_,_,_,_,_,ord',kvs,cw,rfl,sG2,dG2,oG2,vG2,ci2,fun i s' hi hs' c t hg=>?_⟩
    by_cases q:i=at'
    ·subst q
     rw[hr2,m9 hlt,hs] at hs'
     cases hs'
     have hcm:=(ok.bd _ _ _ hg).2.2
     have hcL:=aV hcm
     by_cases lw:bO c=true
     ·obtain⟨j,hj,rfl⟩:=lG h1 h4 hcm lw
      exact cl2 j _ t hj (.inl rfl) hg
     ·obtain⟨j,hj,ej⟩:=lG h1 h4 (dF (by omega) (by omega) hcm) (by rw[jB hcL];simpa using lw)
      exact cl2 j _ t hj (.inr (by rw[← ej,bK hcL])) hg
    ·have hil:i<ord.length:=by omega
     rw[hr2,m9 hil] at hs'
     rw[hr2]
     exact l4 _ (cl i s' (by omega) hs' c t hg)
  ·have hge:ord.length≤at':=by
    have:¬ ((at':Nat):Int)<(((cF ord).length:Nat):Int):=fun y=>z (decide_eq_true y)
    rw[cR] at this
    omega
   have cl':∀ s∈ord,∀ c t,g s c=some t→t∈ord:=fun s hs c t hg=>by
    obtain⟨i,hi⟩:=l5 hs
    exact cl i s (by have:=(a8.mp hi).1;omega) hi c t hg
   have pin:∀ (w:List Nat) (s t:Nat),s∈ord→dJ g s w=some t→t∈ord:=fun w=>by
    induction w with
    | nil=>exact fun s t hs e=>by rw[← d6 e];exact hs
    | cons c w ih =>
     intro s t hs e
     obtain⟨m,e1,e2⟩:=o9.mp (show (g s c).bind (fun q=>dJ g q w)=some t from e)
     exact ih m t (cl' s hs c m e1) e2
   have allo:∀ p,p<W.length→p∈ord:=fun p hp=>by
    obtain⟨w,hw'⟩:=hrc p hp
    exact pin w 0 p ci.z hw'
   clear cl hmd
   refine⟨_,rfl,od,rfl,⟨_,SqL.of oG⟩,iY (K:=K) (a:=od) (xs:=cF ord) (fun i σ G=>∃ (v5 v6 v8:Option V) (os:List (List Nat)),σ=[some (.ref r),some (.ref d),some (.ref od),some (.ref ov),some (.int (at':Nat)),v5,v6,v7,v8,v9]∧Same H G∧G d=some (.dK kvs)∧G od=some (.lst (cF ord))∧G ov=some (.lst (bE os))∧os.length≤4 * i∧(∀ x∈os,OfN n x∧bF x∧x.length≤2000∧dJ g 0 x=some 0)∧∀ i' p j q,i' < i→ord[i']?=some p→j<n→g p (97+j)=some q→lay (cw p++([97+j]++back (cw q)))∈os) ⟨v5,v6,v8,[],rfl,sG,dG,oG,vG,b9 _,fun x hx=>(nomatch hx),fun i' p j q hi=>absurd hi (u5 _)⟩ (fun i σ G _ ⟨_,_,_,_,_,_,_,h,_⟩=>SqL.of h) ?_ ?_⟩
   ·rintro i v _ G2 hv ⟨v5,v6,v8,os,rfl,sG2,dG2,oG2,vG2,hol2,hos,hin2⟩
    obtain⟨s,hs,rfl⟩:∃ s,ord[i]?=some s∧v=.int (s:Nat):=by
     unfold cF at hv
     rw[c7] at hv
     obtain⟨p,hp,e⟩:=d8.mp hv
     exact⟨p,hp,e.symm⟩
    have hsm:=b0 hs
    have hil:=(a8.mp hs).1
    obtain⟨qa,row,hqa,hrow,hrl,eqa⟩:=rowA s (ci.lt s hsm)
    refine⟨_,rfl,_,rfl,r,_,_,.ref qa,rfl,rfl,SqT.of (sG2 _ _ er),bD (by rw[c7,hqa];rfl),qa,_,rfl,.inr (SqT.of (sG2 _ _ eqa)),_,rfl,by rw[b7];omega,by rw[b7];omega,?_⟩
    have hrn:((((row.map fL).length:Nat):Int)).toNat=n:=by rw[b7,hrl];omega
    rw[hrn]
    refine eX (lo:=0) (n:=n) (fun j σ G=>∃ (v6 v8:Option V) (os:List (List Nat)),σ=[some (.ref r),some (.ref d),some (.ref od),some (.ref ov),some (.int (at':Nat)),some (.int (s:Nat)),v6,v7,v8,v9]∧Same H G∧G d=some (.dK kvs)∧G od=some (.lst (cF ord))∧G ov=some (.lst (bE os))∧os.length≤4 * i+j∧(∀ x∈os,OfN n x∧bF x∧x.length≤2000∧dJ g 0 x=some 0)∧(∀ i' p j q,i' < i→ord[i']?=some p→j<n→g p (97+j)=some q→lay (cw p++([97+j]++back (cw q)))∈os)∧∀ m q,m<j→g s (97+m)=some q→lay (cw s++([97+m]++back (cw q)))∈os) ⟨v6,v8,os,rfl,sG2,dG2,oG2,vG2,by omega,hos,hin2,fun m q hm=>absurd hm (u5 _)⟩ ?_ ?_
    ·rintro j _ G3 hj ⟨v6,v8,os,rfl,sG3,dG3,oG3,vG3,hol3,hos3,hin3,hm3⟩
     have e0j:((0:Int)+((j:Nat):Int))=((j:Nat):Int):=by omega
     rw[e0j]
     have hcn:97+j∈aJ (n:Nat):=(xU h1 h4 hj).1
     obtain⟨o,ho⟩:∃ o,row[j]?=some o:=⟨_,a9 (by omega)⟩
     have hgo:=ok.lo s j row o hrow ho
     have ei:=xY (j:=j) (by omega)
     refine⟨_,rfl,_,rfl,r,_,_,.ref qa,rfl,rfl,SqT.of (sG3 _ _ er),bD (by rw[c7,hqa];rfl),_,rfl,qa,_,_,fL o,rfl,rfl,SqT.of (sG3 _ _ eqa),bD (by rw[c7,ho];rfl),?_⟩
     cases o with
     | none =>
      refine⟨_,rfl,rfl,_,rfl,eR ?_⟩
      refine⟨_,_,os,rfl,sG3,dG3,oG3,vG3,by omega,hos3,hin3,fun m q hm hg=>?_⟩
      by_cases z:m=j
      ·subst z;rw[hgo] at hg;cases hg
      ·exact hm3 m q (by omega) hg
     | some q =>
      have hqm:=cl' s hsm _ q hgo
      refine⟨_,rfl,rfl,_,rfl,jJ ?_⟩
      have hgs:DGet G3 d (.int ((s:Nat):Int)) (some (.str (S (cw s)))):=by
       have:=DGet.k (k:=.inl ((s:Nat):Int)) dG3
       rw[ci.val s,if_pos hsm] at this
       exact this
      have hgq:DGet G3 d (fL (some q)) (some (.str (S (cw q)))):=by
       have:=DGet.k (k:=.inl ((q:Nat):Int)) dG3
       rw[ci.val q,if_pos hqm] at this
       exact this
      have l1:=ci.ln s hsm
      have l2:=ci.ln q hqm
      obtain⟨wO,wp⟩:=Cn ok.sy ci h1 h4 hsm hqm hcn hgo
      have wl:(cw s++([97+j]++back (cw q))).length≤2000:=by rw[b8,b8,bW];simp;omega
      refine⟨_,rfl,.inl ⟨rfl,_,SqL.of vG3⟩,_,rfl,_,rfl,d,.str (S (cw s)),rfl,hgs,_,rfl,_,_,97+j,rfl,rfl,ei.1,ei.2,_,_,rfl,rfl,by rw[bG];exact aK (by show _+1≤_;omega),?_⟩
      refine⟨_,rfl,_,rfl,d,.str (S (cw q)),rfl,hgq,cw q,rfl,(ci.ofn q).all,by omega,fun G4 s4=>?_⟩
      have e97:(S (cw s)++(⟨#[97+j]⟩:Str))=S (cw s++[97+j]):=fP _ [97+j]
      refine⟨_,_,rfl,rfl,by rw[e97,bG,bG,bW,b8];exact aK (by simp;omega),cw s++([97+j]++back (cw q)),by rw[e97,fP,l8];rfl,wO.all,by omega,fun G5 s5=>?_⟩
      have s35:=s4.trans s5
      have vG5:=s35 _ _ vG3
      have ll:=eZ (cw s++([97+j]++back (cw q)))
      refine⟨ov,_,_,rfl,rfl,vG5,by rw[aM];exact rS (by omega),_,_,os++[lay (cw s++([97+j]++back (cw q)))],rfl,(sG3.trans s35).upd hov0,by rw[aE hdv];exact s35 _ _ dG3,by rw[aE hovo];exact s35 _ _ oG3,by rw[aB,jD],by rw[b8,t9];omega,fun x hx=>?_,fun i' p j' q' a b c e=>l4 _ (hin3 i' p j' q' a b c e),fun m q' hm hg=>?_⟩
      ·rcases i8.mp hx with w | w
       ·exact hos3 x w
       ·rw[c5.mp w];exact⟨wO.lay,eC _,by omega,wp⟩
      ·by_cases z:m=j
       ·subst z
        rw[hgo] at hg
        cases hg
        simp
       ·exact l4 _ (hm3 m q' (by omega) hg)
    ·rintro _ G3 ⟨v6,v8,os,rfl,sG3,dG3,oG3,vG3,hol3,hos3,hin3,hm3⟩
     refine⟨_,_,_,os,rfl,sG3,dG3,oG3,vG3,by omega,hos3,fun i' p j q hi' hp hj hg=>?_⟩
     by_cases z:i'=i
     ·subst z
      rw[hs] at hp
      cases hp
      exact hm3 j q hj hg
     ·exact hin3 i' p j q (by omega) hp hj hg
   ·rintro _ G2 ⟨v5,v6,v8,os,rfl,sG2,dG2,oG2,vG2,hol2,hos,hin2⟩
    rw[cR] at hol2 hin2
    refine⟨_,rfl,ov,rfl,⟨_,SqL.of vG2⟩,fun Dd hD=>cG (K:=K) (a:=ov) (xs:=bE os) (fun i G3=>Same G2 G3∧G3 Dd=some (.lst (bE ((os.take i).filter fun x=>decide (x≠[]))))) ⟨Same.new hD,aB⟩ (fun i G3 _ h=>SqL.of (h.1 _ _ vG2)) ?_ ?_⟩
    ·rintro i v G3 hv ⟨s3',e3'⟩
     obtain⟨x,hx,rfl⟩:=dP hv
     have hil:=(a8.mp hx).1
     have ht:(os.take (i+1)).filter (fun x=>decide (x≠[]))=(os.take i).filter (fun x=>decide (x≠[]))++(if decide (x≠[]) then [x] else []):=by
      rw[t8,hx,aQc]
      show _++List.filter _ [x]=_
      rw[aZ2,aXA]
     have hsz:((os.take i).filter fun x=>decide (x≠[])).length≤50000:=by
      have:=u0 (fun x=>decide (x≠[])) (os.take i)
      rw[i9] at this
      omega
     refine⟨_,rfl,rfl,_,rfl,?_⟩
     rw[kS,eO]
     by_cases hx0:x=[]
     ·subst hx0
      refine dR (by rw[decide_eq_true rfl];rfl) ⟨s3',?_⟩
      rw[e3',ht]
      simp
     ·refine mJ (by rw[decide_eq_false hx0];rfl) ⟨_,rfl,_,e3',by rw[aM];exact rS (by omega),s3'.upd hD,?_⟩
      rw[aB,ht,jD]
      simp[hx0]
    ·rintro G3 ⟨s3',e3'⟩
     rw[aM,k0] at e3'
     have mem:∀ x,x∈os.filter (fun x=>decide (x≠[]))↔x∈os∧x≠[]:=fun x=>by rw[x8,decide_eq_true_iff]
     refine k Dd _ G3 (sG2.free hD) e3' ?_ (fun x hx=>?_) (fun x xO xP xp=>?_) (sG2.trans s3')
     ·have:=u0 (fun x=>decide (x≠[])) os
      omega
     ·obtain⟨a,b,c,e⟩:=hos x ((mem x).mp hx).1
      exact⟨a,b,by omega,e⟩
     ·have:=vB (over:=os.filter fun x=>decide (x≠[])) h1 h4 ok.sy (fun p=>(ci.ofn p).all) ci.z0 (fun p i q hi hg=>?_) x 0 0 xO xp
      ·rw[ci.z0] at this
       have e:back ([]:List Nat)=[]:=rfl
       rw[e,o6,aXa,fO xP] at this
       exact this
      ·by_cases z:lay (cw p++([97+i]++back (cw q)))=[]
       ·exact .inl z
       ·obtain⟨i',hi'⟩:=l5 (allo p (ok.bd _ _ _ hg).1)
        exact .inr ((mem _).mpr ⟨hin2 i' p i q (a8.mp hi').1 hi' hi hg,z⟩)
theorem ET{f:Addr}{fd:FuncData}(D:Df K mg "law" oQ ["_law_script"] f fd)(T:Txt P w K mg Jw Jx Jy)(c_ze1:Cl P w K mg base "web_of" ["n","words"] 8 (CC K))(c_zb1:Cl P w K mg base "is_read" ["web","word"] 3 yJ)(c_z9:Cl P w K mg base "_law_flow" ["_law_script"] 1 (Bx K))(c_z8:Cl P w K mg base "_law_pick" ["_law_flow_here","_law_many"] 1 iH)(c_z5:Cl P w K mg base "_law_word" ["_law_flow_here","_law_n","_law_most"] 2 xB)(c_zi:Cl P w K mg base "_law_some_words" ["_law_flow_here","_law_n","_law_most","_law_letters_here"] 6 yD)(c_z0:Cl P w K mg base "_law_moved" ["_law_flow_here","_law_some"] 4 xQ)(c_zu:Cl P w K mg base "_law_by_ways" ["_law_web"] 3 D7)(c_z3:Cl P w K mg base "_law_fits" ["_law_some","_law_most"] 1 AX):FnOk P w K mg base yB 9 f fd ["_law_script"] (yS K):=by
 refine D.F.ok sc_law (fun vs H Q E h=>?_) (fun cdv A outer s H vs Q E hr h=>?_)
 ·obtain⟨a,ns,rfl,_⟩:=h
  rfl
 ·obtain⟨a,ns,rfl,hs,hl,k⟩:=h
  refine⟨_,(aD (aL (i:=1) sc_law.nd rfl (Or.inl rfl) (pC c_z9 hr (aA (pv 0) aC)))
   (aD (aL (i:=2) sc_law.nd rfl (Or.inr rfl) (aZ eT aG (pC c_z8 hr (aA (pv 1) (aA aG aC)))))
   (aD (aL (i:=3) sc_law.nd rfl (Or.inl rfl) (pC c_zi hr (aA (pv 1) (aA (pv 2) (aA aG (aA aG aC))))))
   (aD (aL (i:=4) sc_law.nd rfl (Or.inr rfl) (pC c_ze1 hr (aA (pv 2) (aA (pv 3) aC))))
   (aD (aL (i:=5) sc_law.nd rfl (Or.inr rfl) (pv 3))
   (aD (cW j7 rfl (dQ (by rfl) T.b_range (aA (pC c_z8 hr (aA (pv 1) (aA aG aC))) aC)) (bA (i:=6) sc_law.nd rfl (Or.inl rfl)) (aD (aL (i:=7) sc_law.nd rfl (Or.inr rfl) (pC c_z0 hr (aA (pv 1) (aA (pv 5) aC))))
   (aF (cV (iJ (pC c_z3 hr (aA (pv 7) (aA aG aC)))) (aD (aL (i:=5) sc_law.nd rfl (Or.inr rfl) (pv 7))
   (aF (cV (aP (FK hr.units) (pC c_ze1 hr (aA (pv 2) (aA (pv 5) aC))) (pv 4) (aS _)) (aF (aX tO)) bS))) bS))))
   (aD (cV (wU (iJ (aT (lO (K:=K) rfl rfl) (by rfl) T.b_all boot_all (aA (cL (sc0:=aH oQ) (N:=["_law_script","_law_flow_here","_law_n","_law_some","_law_web","_law_moved_here","_law_k","_law_further","_law_word_here","_law_own"]) (ix:=[2,5]) (by decide +kernel) rfl rfl rfl (cK (K:=K) rfl (pv 3)) (fun _ _ _=>cB) (fun _ _ _=>(pC c_zb1 hr (aA (pC c_ze1 hr (aA (pv 1) (aA (pv 2) aC))) (aA (pv 0) aC))))) aC)))) (aF (aX tO)) bS)
   (aD (aL (i:=8) sc_law.nd rfl (Or.inl rfl) (pC c_z5 hr (aA (pv 1) (aA (pv 2) (aA aG aC)))))
   (aD (aL (i:=7) sc_law.nd rfl (Or.inr rfl) (pC c_ze1 hr (aA (pv 2) (aA (aZ sB (pv 3) (dB (aA (pv 8) aC))) aC))))
   (aD (cV (PW.pt (pw_or (aP jT (fJ (Cr hr.units) (pv 7) (pv 4) (aS _)) (pC c_zb1 hr (aA (pv 4) (aA (pv 8) aC))) (aS _)) (pw_or1 (wU (iJ (aT (lO (K:=K) rfl rfl) (by rfl) T.b_all boot_all (aA (cL (sc0:=aH oQ) (N:=["_law_script","_law_flow_here","_law_n","_law_some","_law_web","_law_moved_here","_law_k","_law_further","_law_word_here","_law_own"]) (ix:=[7]) (by decide +kernel) rfl rfl rfl (cK (K:=K) rfl (aZ sB (pv 3) (dB (aA (pv 8) aC)))) (fun _ _ _=>cB) (fun _ _ _=>(pC c_zb1 hr (aA (pv 1) (aA (pv 0) aC))))) aC))))))) (aF (aX tO)) bS)
   (aD (aL (i:=9) sc_law.nd rfl (Or.inl rfl) (pC c_zu hr (aA (pv 4) aC)))
   (aD (cV (wU (iJ (pC c_z3 hr (aA (pv 9) (aA aG aC))))) (aF (aX tO)) bS)
   (aF (aX (A8 (aT (lO (K:=K) rfl rfl) (by rfl) T.b_all boot_all (aA (cL (sc0:=aH oQ) (N:=["_law_script","_law_flow_here","_law_n","_law_some","_law_web","_law_moved_here","_law_k","_law_further","_law_word_here","_law_own"]) (ix:=[4]) (by decide +kernel) rfl rfl rfl (cK (K:=K) rfl (pv 9)) (fun _ _ _=>cB) (fun _ _ _=>(pC c_zb1 hr (aA (pv 1) (aA (pv 0) aC))))) aC)) (B3 (fJ (Cr hr.units) (pC c_ze1 hr (aA (pv 2) (aA (pv 9) aC))) (pv 4) (aS _)))))))))))))))))),?_⟩
  refine⟨_,rfl,a,ns,rfl,hs,hl,fun fl sc H1 hfl s1 f1=>?_⟩
  refine⟨_,rfl,fl,sc,4,rfl,f1,by decide,by decide,fun d H2 d0 d1 f2 k2=>⟨_,_,rfl,rfl,?_⟩⟩
  obtain⟨n,hn⟩:∃ n:Nat,1+d=(n:Int):=⟨(1+d).toNat,by omega⟩
  have hd:(fun i j:Int=>V.int (i+j)) 1 d=V.int (n:Nat):=by rw[← hn]
  rw[hd]
  have n1:1≤n:=by omega
  have n4:n≤4:=by omega
  have ofa:∀ {m lt:Nat} {rs:List (List Nat)},SmW n m lt rs→lt≤40→∀ x∈rs,AllL x∧x.length≤80:=fun sm hlt x hx=>⟨(sm.ofn x hx).1.all,by have:=sm.one hx;omega⟩
  refine⟨_,rfl,_,rfl,fl,sc,n,5,30,rfl,f2,n1,n4,fun l rs H3 hl3 el sm f3 k3=>?_⟩
  have hlf:l≠fl:=f2.ne hl3
  have hls:l≠sc:=f2.ne2 hl3
  have sl:=sm.len
  have ss:=sm.sum
  have sa:=ofa sm (by decide)
  have so:∀ x∈rs,OfN n x:=fun x hx=>(sm.ofn x hx).1
  have sm6:SmW n 6 40 rs:=⟨by omega,by omega,sm.ofn⟩
  clear f2 k2 k3 hl3 f1 s1
  refine⟨_,rfl,_,rfl,n,l,rs,rfl,n1,n4,.inr (SqL.of el),by omega,sa,fun r H4 ρ δ s4 au idp w4 wl=>?_⟩
  obtain⟨g,ok,hg,hgi,hrc⟩:=wH n1 n4 au so wl
  have el4:=s4 _ _ el
  have f4:=f3.same s4
  refine⟨_,rfl,?_⟩
  refine⟨_,rfl,fl,sc,6,rfl,f4,by decide,by decide,fun d5 H5 d50 d51 f5 k5=>⟨d5,rfl,by omega,by omega,?_⟩⟩
  have w5:=w4.kp f4 k5
  have el5:=k5 _ _ el4 hlf
  refine eX (lo:=0) (n:=d5.toNat) (fun i σ G=>∃ (v6 v7:Option V) (lm:Addr) (ms:List (List Nat)),σ=[some (.ref a),some (.ref fl),some (.int (n:Nat)),some (.ref l),some (.ref r),some (.ref lm),v6,v7,none,none]∧G lm=some (.lst (bE ms))∧lm≠fl∧lm≠sc∧Gn2 rs ms∧SmW n 6 40 ms∧IsFl G fl sc∧Kp fl H5 G) ⟨none,none,l,rs,rfl,el5,hlf,hls,Gn2.refl _,sm6,f5,Kp.refl _ _⟩ ?_ ?_
  ·rintro i _ G hi ⟨v6,v7,lm,ms,rfl,em,hmf,hms,gn,smm,fG,kG⟩
   have ml:=smm.len
   refine⟨_,rfl,_,rfl,fl,sc,lm,ms,n,rfl,fG,em,hmf,hms,n1,n4,by omega,fun x hx=>⟨(smm.ofn x hx).1,(smm.ofn x hx).2,smm.one hx⟩,fun lf ms' G2 hlf2 ef gn' hl' hx' f2 k2=>?_⟩
   have hff:=fG.ne hlf2
   have hfs:=fG.ne2 hlf2
   refine⟨_,rfl,lf,ms',40,rfl,ef,by omega,fun x hx=>by have:=(hx' x hx).2.2;omega,fun G3 s3=>⟨_,rfl,eM (fun z=>?_) (fun z=>?_)⟩⟩
   ·have hz:=of_decide_eq_true z
    have smf:SmW n 6 40 ms':=⟨hz.1,hz.2,fun x hx=>⟨(hx' x hx).1,(hx' x hx).2.1⟩⟩
    have gn2:=gn.trans gn'
    have ef3:=s3 _ _ ef
    refine⟨_,rfl,_,rfl,_,rfl,n,lf,ms',rfl,n1,n4,.inr (SqL.of ef3),by omega,ofa smf (by decide),fun r2 G4 ρ2 δ2 s4' au2 id2 w6 wl2=>?_⟩
    have k24:Kp fl H5 G4:=(kG.trans k2).trans (s3.trans s4').kp
    have e:=CU au au2 (fun x hx=>(sa x hx).1) (fun x hx=>(smf.ofn x hx).1.all) gn2 (n:=n)
    refine⟨_,rfl,r2,r,_,_,rfl,rfl,w6,w5.kp f5 k24,_,rfl,dR (by rw[if_pos rfl,decide_eq_true e];rfl) ?_⟩
    exact⟨_,_,lf,ms',rfl,s4' _ _ ef3,hff,hfs,gn2,smf,(f2.same s3).same s4',k24⟩
   ·exact⟨_,_,lm,ms,rfl,s3 _ _ (k2 _ _ em hmf),hmf,hms,gn,smm,f2.same s3,(kG.trans k2).trans s3.kp⟩
  ·rintro _ G ⟨v6,v7,lm,ms,rfl,em,hmf,hms,gn,smm,fG,kG⟩
   have wG:=w5.kp f5 kG
   have elG:=kG _ _ el5 hlf
   have ml:=smm.len
   clear w5 w4 el5 el4 el f3 f4 f5 k5 kG s4
   have rd:∀ (xs:List (List Nat)),(List.replicate xs.length true).all id=true:=fun xs=>by
    rw[y1];intro b hb;exact(List.mem_replicate.mp hb).2
   refine⟨_,rfl,l,rfl,⟨_,SqL.of elG⟩,fun Dd hD=>cG (K:=K) (a:=l) (xs:=bE rs) (fun i G2=>Same G G2∧G2 Dd=some (.lst ((List.replicate i true).map V.bl))) ⟨Same.new hD,aB⟩ (fun i G2 _ h=>SqL.of (h.1 _ _ elG)) ?_ ?_⟩
   ·rintro i v G2 hv ⟨s2,e2⟩
    obtain⟨x,hx,rfl⟩:=dP hv
    have hxm:=b0 hx
    have hil:=(a8.mp hx).1
    refine⟨_,rfl,_,rfl,n,lm,ms,rfl,n1,n4,.inr (SqL.of (s2 _ _ em)),by omega,ofa smm (by decide),fun r3 G3 ρ3 δ3 s3 au3 id3 w3 wl3=>?_⟩
    obtain⟨g3,ok3,hg3,_⟩:=wH n1 n4 au3 (fun x hx=>(smm.ofn x hx).1) wl3
    refine⟨_,rfl,r3,n,_,g3,x,rfl,n1,n4,w3,ok3,so x hxm,by have:=(sa x hxm).2;omega,fun G4 s4=>?_⟩
    rw[gn.2 x hxm g3 0 ok3.sy hg3,decide_eq_true rfl]
    have s34:=s3.trans s4
    refine⟨_,s34 _ _ e2,by rw[b7,aQY];exact aR (by omega),(s2.trans s34).upd hD,?_⟩
    rw[aB,aXB,g9]
    rfl
   rintro G2 ⟨s2,e2⟩
   refine⟨Dd,_,rfl,SqL.of e2,_,rfl,dR (by rw[aM,rd rs];rfl) ?_⟩
   have f2:=fG.same s2
   refine⟨_,rfl,_,rfl,fl,sc,(n:Nat),9,rfl,f2,by omega,by omega,by decide,by decide,fun wd G3 wO wP wdl f3 k3=>?_⟩
   have w3:=(wG.same s2).kp f2 k3
   have el3:=k3 _ _ (s2 _ _ elG) hlf
   clear e2 em wG elG hD gn smm
   have plus:∀ {G4:Hp} {l1 L:Addr},G4 l=some (.lst (bE rs))→G4 l1=none→upd G4 l1 (.lst [.str (S wd)]) L=none→Same G4 (upd (upd G4 l1 (.lst [.str (S wd)])) L (.lst (bE rs++[.str (S wd)])))∧upd (upd G4 l1 (.lst [.str (S wd)])) L (.lst (bE rs++[.str (S wd)])) L=some (.lst (bE (rs++[wd]))):=fun {G4 l1 L} e h1 h2=>⟨(Same.new h1).upd' h2,by rw[aB,jD]⟩
   have sO:∀ x∈rs++[wd],OfN n x∧x.length≤80:=fun x hx=>by
    rcases i8.mp hx with z | z
    ·exact⟨so x z,(sa x z).2⟩
    ·rw[c5.mp z];exact⟨wO,by omega⟩
   refine⟨_,rfl,_,rfl,_,rfl,aK (by simp),fun l1 hl1=>⟨l,l1,_,_,rfl,rfl,by rw[aE (aI el3 hl1)];exact el3,aB,aK (by rw[aM];simp;omega),fun L hL=>?_⟩⟩
   obtain⟨s4,e4⟩:=plus el3 hl1 hL
   generalize upd (upd G3 l1 (.lst [.str (S wd)])) L (.lst (bE rs++[.str (S wd)]))=G4 at s4 e4
   refine⟨n,L,rs++[wd],rfl,n1,n4,.inr (SqL.of e4),by rw[b8];simp;omega,fun x hx=>⟨(sO x hx).1.all,(sO x hx).2⟩,fun r4 G5 ρ4 δ4 s5 au4 id4 w5 wl4=>?_⟩
   obtain⟨g4,ok4,hg4,hgi4,_⟩:=wH n1 n4 au4 (fun x hx=>(sO x hx).1) wl4
   have s35:=s4.trans s5
   have w35:=w3.same s35
   have el5:=s35 _ _ el3
   have f5:=f3.same s35
   refine⟨_,rfl,_,rfl,r4,r,_,_,rfl,rfl,w5,w35,?_⟩
   refine⟨_,rfl,_,rfl,r,n,_,g,wd,rfl,n1,n4,w35,ok,wO,by omega,fun G6 s6=>⟨rfl,_,rfl,?_⟩⟩
   have hiff:(fU δ4 n (ρ4 0) 1000=fU δ n (ρ 0) 1000)↔dJ g 0 wd=some 0:=by
    constructor
    ·intro e
     rw[e] at ok4
     rw[Au n1 n4 ok ok4]
     exact hg4 wd (by simp)
    ·intro e
     refine rH au au4 (fun x hx=>⟨(sO x hx).1.all,?_⟩) (fun x hx=>⟨(sa x hx).1,iU au4 (l4 _ hx)⟩)
     rcases i8.mp hx with z | z
     ·exact iU au z
     ·rw[c5.mp z];exact(hgi wd).mp e
   have hdec:decide (fU δ4 n (ρ4 0) 1000=fU δ n (ρ 0) 1000)=decide (dJ g 0 wd=some 0):=by rw[y4,decide_eq_true_iff,decide_eq_true_iff];exact hiff
   refine dR (by rw[if_neg i3,hdec,decide_eq_true rfl];rfl) ?_
   have el6:=s6 _ _ el5
   have w6:=w5.same s6
   refine⟨_,rfl,_,rfl,aK (by simp),fun l2 hl2=>⟨l,l2,_,_,rfl,rfl,by rw[aE (aI el6 hl2)];exact el6,aB,aK (by rw[aM];simp;omega),fun L2 hL2=>?_⟩⟩
   obtain⟨s7,e7⟩:=plus el6 hl2 hL2
   generalize upd (upd G6 l2 (.lst [.str (S wd)])) L2 (.lst (bE rs++[.str (S wd)]))=G7 at s7 e7
   have w7:=w6.same s7
   refine⟨L2,rfl,⟨_,SqL.of e7⟩,fun D2 hD2=>cG (K:=K) (a:=L2) (xs:=bE (rs++[wd])) (fun i G8=>Same G7 G8∧G8 D2=some (.lst ((List.replicate i true).map V.bl))) ⟨Same.new hD2,aB⟩ (fun i G8 _ h=>SqL.of (h.1 _ _ e7)) ?_ ?_⟩
   ·rintro i v G8 hv ⟨s8,e8⟩
    obtain⟨x,hx,rfl⟩:=dP hv
    have hxm:=b0 hx
    have hil:=(a8.mp hx).1
    rw[b8] at hil
    refine⟨_,rfl,_,rfl,r4,n,_,g4,x,rfl,n1,n4,w7.same s8,ok4,(sO x hxm).1,by have:=(sO x hxm).2;omega,fun G9 s9=>?_⟩
    rw[hg4 x hxm,decide_eq_true rfl]
    refine⟨_,s9 _ _ e8,by rw[b7,aQY];exact aR (by simp at hil;omega),(s8.trans s9).upd hD2,?_⟩
    rw[aB,aXB,g9]
    rfl
   rintro G8 ⟨s8,e8⟩
   refine⟨D2,_,rfl,SqL.of e8,_,rfl,dR (by rw[aM,rd (rs++[wd])];rfl) ?_⟩
   have s58:=(s6.trans s7).trans s8
   have w8:=w35.same s58
   refine⟨_,rfl,r,n,_,g,rfl,n1,n4,w8,ok,hrc,fun lo os G9 hlo eo hol hox hog s9=>?_⟩
   have w9:=w8.same s9
   refine⟨_,rfl,lo,os,40,rfl,eo,hol,fun x hx=>(hox x hx).2.2.1,fun G10 s10=>⟨_,rfl,eM (fun z=>?_) (fun z=>?_)⟩⟩
   ·exact k _
   have hz:os.length≤6∧(os.map List.length).sum≤40:=by
    have:decide (os.length≤6∧(os.map List.length).sum≤40)=true:=by
     cases q:decide (os.length≤6∧(os.map List.length).sum≤40) with
     | true=>rfl
     | false=>rw[q] at z;exact absurd rfl z
    exact of_decide_eq_true this
   have smo:SmW n 6 40 os:=⟨hz.1,hz.2,fun x hx=>⟨(hox x hx).1,(hox x hx).2.1⟩⟩
   have w10:=w9.same s10
   have eo10:=s10 _ _ eo
   refine⟨_,rfl,lo,rfl,⟨_,SqL.of eo10⟩,fun D3 hD3=>cG (K:=K) (a:=lo) (xs:=bE os) (fun i G11=>Same G10 G11∧G11 D3=some (.lst ((List.replicate i true).map V.bl))) ⟨Same.new hD3,aB⟩ (fun i G11 _ h=>SqL.of (h.1 _ _ eo10)) ?_ ?_⟩
   ·rintro i v G11 hv ⟨s11,e11⟩
    obtain⟨x,hx,rfl⟩:=dP hv
    have hxm:=b0 hx
    have hil:=(a8.mp hx).1
    refine⟨_,rfl,_,rfl,r,n,_,g,x,rfl,n1,n4,w10.same s11,ok,(hox x hxm).1,by have:=smo.one hxm;omega,fun G12 s12=>?_⟩
    rw[(hox x hxm).2.2.2,decide_eq_true rfl]
    refine⟨_,s12 _ _ e11,by rw[b7,aQY];exact aR (by omega),(s11.trans s12).upd hD3,?_⟩
    rw[aB,aXB,g9]
    rfl
   rintro G11 ⟨s11,e11⟩
   refine⟨D3,_,rfl,SqL.of e11,_,rfl,mJ (by rw[aM,rd os]) ?_⟩
   refine⟨_,rfl,_,rfl,n,lo,os,rfl,n1,n4,.inr (SqL.of (s11 _ _ eo10)),by omega,ofa smo (by decide),fun r5 G12 ρ5 δ5 s12 au5 id5 w12 wl5=>?_⟩
   have e5:fU δ5 n (ρ5 0) 1000=fU δ n (ρ 0) 1000:=rH au au5 (fun x hx=>⟨(hox x hx).1.all,(hgi x).mp (hox x hx).2.2.2⟩) (fun x hx=>⟨(sa x hx).1,hog x (so x hx) (sm.ofn x hx).2 (hg x hx) δ5 _ (kY au5 fun y hy=>(hox y hy).1.all) fun y hy=>iU au5 hy⟩)
   refine⟨_,rfl,r5,r,_,_,rfl,rfl,w12,w10.same (s11.trans s12),?_⟩
   rw[if_neg i3,decide_eq_true e5]
   exact k _
end
theorem all_mk{l:PySem.W.OpenLaw}{w:World}{K:b5}{h:Heap}{mg:Str→Option Value}{fa:Addr}(X:K.In h)(G:h.Ns mainGlobals mg)(hfa:mg "law"=some (.ref fa))
  {f_42 Jw Jx Jy:Addr}
  {od_42 an_42:Option Addr} {sl_42:Array (Option Value)} {oc_42 kV_42 dc_42 pm_42 cd_42 ct_42:Value}
  (d_0:DI K "_wall" Ca)
  (d_1:DI K "letters_of" Et)
  (d_2:DI K "first_letters" Fh)
  (d_3:DI K "contrary" Fj)
  (d_4:DI K "laid_out" Ex)
  (d_5:DI K "turned_back" DE)
  (d_6:DI K "joined" A5)
  (d_7:DJ K Jy "__init__" "Weave.__init__" FG)
  (d_8:DJ K Jy "end_of" "Weave.end_of" EF)
  (d_9:DJ K Jy "head_of" "Weave.head_of" Fp)
  (d_10:DJ K Jy "goal_of" "Weave.goal_of" Eh)
  (d_11:DJ K Jy "new_place" "Weave.new_place" FM)
  (d_12:DJ K Jy "lay_way" "Weave.lay_way" E1)
  (d_13:DJ K Jy "lay_word" "Weave.lay_word" Fq)
  (d_14:DJ K Jy "put_under" "Weave.put_under" Fd)
  (d_15:DJ K Jy "fold" "Weave.fold" Em)
  (d_16:DJ K Jy "round_told" "Weave.round_told" Ej)
  (d_17:DI K "numbers_of_heads" E5)
  (d_18:DI K "place_told" A4)
  (d_19:DI K "web_of" xS)
  (d_20:DI K "ways_both_ways" EV)
  (d_21:DI K "is_read" A1)
  (d_22:DI K "_law_flow" E_)
  (d_23:DI K "_law_pick" Eb)
  (d_24:DI K "_law_letters" Fi)
  (d_25:DI K "_law_contrary" Fu)
  (d_26:DI K "_law_key" xR)
  (d_27:DI K "_law_back" DL)
  (d_28:DI K "_law_laid" Ev)
  (d_29:DI K "_law_word" Ds)
  (d_30:DI K "_law_retold" EX)
  (d_31:DI K "_law_then" zI)
  (d_32:DI K "_law_same" FD)
  (d_33:DI K "_law_drawn_change" EE)
  (d_34:DI K "_law_change_told" Fz)
  (d_35:DI K "_law_change_back" DF)
  (d_36:DI K "_law_alphabet" De)
  (d_37:DI K "_law_joined_ones" ED)
  (d_38:DI K "_law_some_words" Aj)
  (d_39:DI K "_law_moved" FE)
  (d_40:DI K "_law_by_ways" Ah)
  (d_41:DI K "_law_fits" C0)
  (na_42:PySem.W.nsIn K mainGlobals "law"=some (some (.ref f_42))) (nl_42:K.lookup f_42=some ⟨oc_42,od_42,.func (Go "law" oQ kV_42 dc_42 pm_42 an_42 cd_42 ct_42),sl_42⟩) (nc_42:PySem.W.codeIn K cd_42 "law"=true) (nk_42:PySem.W.keepIn K (.ref f_42)=true)
  (nb_all:PySem.W.nsIn K mainGlobals "all"=some none)
  (nb_enumerate:PySem.W.nsIn K mainGlobals "enumerate"=some none)
  (nb_int:PySem.W.nsIn K mainGlobals "int"=some none)
  (nb_len:PySem.W.nsIn K mainGlobals "len"=some none)
  (nb_list:PySem.W.nsIn K mainGlobals "list"=some none)
  (nb_max:PySem.W.nsIn K mainGlobals "max"=some none)
  (nb_range:PySem.W.nsIn K mainGlobals "range"=some none)
  (nb_reversed:PySem.W.nsIn K mainGlobals "reversed"=some none)
  (nb_sorted:PySem.W.nsIn K mainGlobals "sorted"=some none)
  (nb_sum:PySem.W.nsIn K mainGlobals "sum"=some none)
  (nb_tuple:PySem.W.nsIn K mainGlobals "tuple"=some none)
  (nb_zip:PySem.W.nsIn K mainGlobals "zip"=some none)
  (oa_Weave:PySem.W.nsIn K mainGlobals "Weave"=some (some (.ref Jy)))
  (ob_Weave:PySem.W.plainGet K Jy Str.empty=true)
  (oe_Weave:PySem.W.hasDictIn K Jy=true)
  (of_Weave:PySem.W.plainOver K Jy=true)
  (og_Weave:PySem.W.findIn K (.ref Jy) "__setattr__"=some (some (.builtin "object.__setattr__")))
  (oh_Weave:PySem.W.makesIn K Jy=true)
  (oi_Weave:PySem.W.keepIn K (.ref Jy)=true)
  (on_Weave_heads:PySem.W.findIn K (.ref Jy) "heads"=some none)
  (on_Weave_turns:PySem.W.findIn K (.ref Jy) "turns"=some none)
  (on_Weave_ways:PySem.W.findIn K (.ref Jy) "ways"=some none)
  (on_Weave_alike:PySem.W.findIn K (.ref Jy) "alike"=some none)
  (nm_CONTRARIES:PySem.W.nsIn K mainGlobals "CONTRARIES"=some (some (.ref Jw)))
  (nt_CONTRARIES:KTD.tabLook KTD.flatLooks (fun b=>K.lookup b) Jw conTab_rows=true) (nh_CONTRARIES:KTD.hashesOf (fun b=>K.lookup b) Jw=conTab_rows.map fun p=>(PySem.strKind l.prog w).hash p.1)
  (nm_LETTERS:PySem.W.nsIn K mainGlobals "LETTERS"=some (some (.ref Jx)))
  {i_LETTERS:Array Value} {n_LETTERS:Nat} (nt_LETTERS:K.lookup Jx=some ⟨.type "tuple",none,.seq i_LETTERS n_LETTERS,#[]⟩) (nv_LETTERS:Vals letV i_LETTERS.toList)
  : ∃ fd:FuncData,(∀ (s:Shared) (v:Value),BindsTo s fd ⟨[v],[]⟩ [("_law_script",v)])∧∀ base:Heap,K.In base→base.Ns mainGlobals mg→FnOk l.prog w K mg base yB 40 fa fd ["_law_script"] (yS K):=by
 have e:=hfa.symm.trans (aQQ X G na_42)
 have e2:f_42=fa:=by cases e;rfl
 subst e2
 have T:Txt l.prog w K mg Jw Jx Jy:=⟨aQQ X G oa_Weave,⟨⟨ob_Weave,oe_Weave,of_Weave,og_Weave⟩,oh_Weave,oi_Weave⟩,on_Weave_heads,on_Weave_turns,on_Weave_ways,on_Weave_alike,p7 X G nb_all,p7 X G nb_enumerate,p7 X G nb_int,p7 X G nb_len,p7 X G nb_list,p7 X G nb_max,p7 X G nb_range,p7 X G nb_reversed,p7 X G nb_sorted,p7 X G nb_sum,p7 X G nb_tuple,p7 X G nb_zip,aQQ X G nm_CONTRARIES,fun h x=>PySem.W.kt_tab_in l.prog w x nt_CONTRARIES (by decide +kernel) nh_CONTRARIES,aQQ X G nm_LETTERS,fun H=>.inr ⟨_,_,_,nt_LETTERS,rfl,rfl,Dy nv_LETTERS (by decide),nv_LETTERS⟩⟩
 obtain⟨_,_,D_0⟩:=jQ (ps:=["k"]) d_0 X G fun _ _ _ _ _ _ u h=>match u,h with | [_],_=>rfl
 obtain⟨_,_,D_1⟩:=jQ (ps:=["n"]) d_1 X G fun _ _ _ _ _ _ u h=>match u,h with | [_],_=>rfl
 obtain⟨_,_,D_2⟩:=jQ (ps:=["n"]) d_2 X G fun _ _ _ _ _ _ u h=>match u,h with | [_],_=>rfl
 obtain⟨_,_,D_3⟩:=jQ (ps:=["letter"]) d_3 X G fun _ _ _ _ _ _ u h=>match u,h with | [_],_=>rfl
 obtain⟨_,_,D_4⟩:=jQ (ps:=["text"]) d_4 X G fun _ _ _ _ _ _ u h=>match u,h with | [_],_=>rfl
 obtain⟨_,_,D_5⟩:=jQ (ps:=["word"]) d_5 X G fun _ _ _ _ _ _ u h=>match u,h with | [_],_=>rfl
 obtain⟨_,_,D_6⟩:=jQ (ps:=["one","other"]) d_6 X G fun _ _ _ _ _ _ u h=>match u,h with | [_,_],_=>rfl
 obtain⟨_,_,D_7⟩:=CI (ps:=["self"]) d_7 fun _ _ _ _ _ _ u h=>match u,h with | [_],_=>rfl
 obtain⟨_,_,D_8⟩:=CI (ps:=["self","place","told"]) d_8 fun _ _ _ _ _ _ u h=>match u,h with | [_,_,_],_=>rfl
 obtain⟨_,_,D_9⟩:=CI (ps:=["self","place"]) d_9 fun _ _ _ _ _ _ u h=>match u,h with | [_,_],_=>rfl
 obtain⟨_,_,D_10⟩:=CI (ps:=["self","head","letter"]) d_10 fun _ _ _ _ _ _ u h=>match u,h with | [_,_,_],_=>rfl
 obtain⟨_,_,D_11⟩:=CI (ps:=["self"]) d_11 fun _ _ _ _ _ _ u h=>match u,h with | [_],_=>rfl
 obtain⟨_,_,D_12⟩:=CI (ps:=["self","place","letter","goal","told"]) d_12 fun _ _ _ _ _ _ u h=>match u,h with | [_,_,_,_,_],_=>rfl
 obtain⟨_,_,D_13⟩:=CI (ps:=["self","word","told"]) d_13 fun _ _ _ _ _ _ u h=>match u,h with | [_,_,_],_=>rfl
 obtain⟨_,_,D_14⟩:=CI (ps:=["self","head","above","turn"]) d_14 fun _ _ _ _ _ _ u h=>match u,h with | [_,_,_,_],_=>rfl
 obtain⟨_,_,D_15⟩:=CI (ps:=["self"]) d_15 fun _ _ _ _ _ _ u h=>match u,h with | [_],_=>rfl
 obtain⟨_,_,D_16⟩:=CI (ps:=["self","letter"]) d_16 fun _ _ _ _ _ _ u h=>match u,h with | [_,_],_=>rfl
 obtain⟨_,_,D_17⟩:=jQ (ps:=["n","weave"]) d_17 X G fun _ _ _ _ _ _ u h=>match u,h with | [_,_],_=>rfl
 obtain⟨_,_,D_18⟩:=jQ (ps:=["n","weave","numbers","head"]) d_18 X G fun _ _ _ _ _ _ u h=>match u,h with | [_,_,_,_],_=>rfl
 obtain⟨_,_,D_19⟩:=jQ (ps:=["n","words"]) d_19 X G fun _ _ _ _ _ _ u h=>match u,h with | [_,_],_=>rfl
 obtain⟨_,_,D_20⟩:=jQ (ps:=["web"]) d_20 X G fun _ _ _ _ _ _ u h=>match u,h with | [_],_=>rfl
 obtain⟨_,_,D_21⟩:=jQ (ps:=["web","word"]) d_21 X G fun _ _ _ _ _ _ u h=>match u,h with | [_,_],_=>rfl
 obtain⟨_,_,D_22⟩:=jQ (ps:=["_law_script"]) d_22 X G fun _ _ _ _ _ _ u h=>match u,h with | [_],_=>rfl
 obtain⟨_,_,D_23⟩:=jQ (ps:=["_law_flow_here","_law_many"]) d_23 X G fun _ _ _ _ _ _ u h=>match u,h with | [_,_],_=>rfl
 obtain⟨_,_,D_24⟩:=jQ (ps:=["_law_n"]) d_24 X G fun _ _ _ _ _ _ u h=>match u,h with | [_],_=>rfl
 obtain⟨_,_,D_25⟩:=jQ (ps:=["_law_letter"]) d_25 X G fun _ _ _ _ _ _ u h=>match u,h with | [_],_=>rfl
 obtain⟨_,_,D_26⟩:=jQ (ps:=["_law_word_here"]) d_26 X G fun _ _ _ _ _ _ u h=>match u,h with | [_],_=>rfl
 obtain⟨_,_,D_27⟩:=jQ (ps:=["_law_word_here"]) d_27 X G fun _ _ _ _ _ _ u h=>match u,h with | [_],_=>rfl
 obtain⟨_,_,D_28⟩:=jQ (ps:=["_law_text"]) d_28 X G fun _ _ _ _ _ _ u h=>match u,h with | [_],_=>rfl
 obtain⟨_,_,D_29⟩:=jQ (ps:=["_law_flow_here","_law_n","_law_most"]) d_29 X G fun _ _ _ _ _ _ u h=>match u,h with | [_,_,_],_=>rfl
 obtain⟨_,_,D_30⟩:=jQ (ps:=["_law_retelling","_law_word_here"]) d_30 X G fun _ _ _ _ _ _ u h=>match u,h with | [_,_],_=>rfl
 obtain⟨_,_,D_31⟩:=jQ (ps:=["_law_one","_law_other"]) d_31 X G fun _ _ _ _ _ _ u h=>match u,h with | [_,_],_=>rfl
 obtain⟨_,_,D_32⟩:=jQ (ps:=["_law_n"]) d_32 X G fun _ _ _ _ _ _ u h=>match u,h with | [_],_=>rfl
 obtain⟨_,_,D_33⟩:=jQ (ps:=["_law_flow_here","_law_n"]) d_33 X G fun _ _ _ _ _ _ u h=>match u,h with | [_,_],_=>rfl
 obtain⟨_,_,D_34⟩:=jQ (ps:=["_law_n","_law_change"]) d_34 X G fun _ _ _ _ _ _ u h=>match u,h with | [_,_],_=>rfl
 obtain⟨_,_,D_35⟩:=jQ (ps:=["_law_change"]) d_35 X G fun _ _ _ _ _ _ u h=>match u,h with | [_],_=>rfl
 obtain⟨_,_,D_36⟩:=jQ (ps:=["_law_flow_here","_law_n","_law_steps","_law_most"]) d_36 X G fun _ _ _ _ _ _ u h=>match u,h with | [_,_,_,_],_=>rfl
 obtain⟨_,_,D_37⟩:=jQ (ps:=["_law_flow_here","_law_some","_law_many"]) d_37 X G fun _ _ _ _ _ _ u h=>match u,h with | [_,_,_],_=>rfl
 obtain⟨_,_,D_38⟩:=jQ (ps:=["_law_flow_here","_law_n","_law_most","_law_letters_here"]) d_38 X G fun _ _ _ _ _ _ u h=>match u,h with | [_,_,_,_],_=>rfl
 obtain⟨_,_,D_39⟩:=jQ (ps:=["_law_flow_here","_law_some"]) d_39 X G fun _ _ _ _ _ _ u h=>match u,h with | [_,_],_=>rfl
 obtain⟨_,_,D_40⟩:=jQ (ps:=["_law_web"]) d_40 X G fun _ _ _ _ _ _ u h=>match u,h with | [_],_=>rfl
 obtain⟨_,_,D_41⟩:=jQ (ps:=["_law_some","_law_most"]) d_41 X G fun _ _ _ _ _ _ u h=>match u,h with | [_,_],_=>rfl
 have D_42:=Jj (ps:=["_law_script"]) nl_42 nc_42 nk_42 (aQQ X G na_42) (fun _ _ _ _ _ _ u h=>match u,h with | [_],_=>rfl)
 refine⟨Go "law" oQ kV_42 dc_42 pm_42 an_42 cd_42 ct_42,fun s v=>.of_eq rfl,fun base _ _=>?_⟩
 have c_z9:=Hz (base:=base) D_22 T
 have c_z8:=GC (base:=base) D_23 T
 have c_zq:=F8 (base:=base) D_25 T
 have c_zt:=GL (base:=base) D_24 T
 have c_z7:=GF (base:=base) D_28 T c_zq
 have c_z5:=GV (base:=base) D_29 T c_z8 c_zt c_zq
 have c_z1:=GZ (base:=base) D_27 T c_zq
 have c_z2:=FY (base:=base) D_3 T
 have c_z4:=Hg (base:=base) D_4 T c_z2
 have c_zv:=FW (base:=base) D_5 T c_z2
 have c_zd1:=EN (base:=base) D_6 T c_z4
 have c_zx:=Gw (base:=base) D_1 T
 have c_zn:=Ho (base:=base) D_2 T
 have c_zf1:=FI (base:=base) D_0 T
 have c_zc:=GD (base:=base) D_16 T
 have c_zj:=FZ (base:=base) D_7 T
 have c_zs:=F6 (base:=base) D_8 T c_zd1
 have c_zo:=F7 (base:=base) D_9 T c_zs
 have c_zm:=Ha (base:=base) D_10 T c_zo
 have c_zh:=GU (base:=base) D_11 T
 have c_zp:=Hl (base:=base) D_12 T c_zv c_zd1
 have c_ze:=Gy (base:=base) D_14 T c_zv c_zd1 c_zp
 have c_zy:=Gj (base:=base) D_15 T c_zv c_zd1 c_zs c_ze
 have c_zl:=Hb (base:=base) D_13 T c_z2 c_zv c_zh c_zp
 have c_za:=GW (base:=base) D_17 T c_zx c_zo c_zm
 have c_zw:=Gb (base:=base) D_18 T c_zn c_zm
 have c_ze1:=FA (base:=base) D_19 T c_zj c_zl c_zy c_za c_zw
 have c_zz:=Gd (base:=base) D_30 T c_z1 c_z7
 have c_za1:=E7 (base:=base) D_31 T c_zz
 have c_z6:=Hi (base:=base) D_32 T
 have c_zb:=Hq (base:=base) D_33 T c_z8 c_zt c_zq
 have c_zf:=HC (base:=base) D_34 T c_zq
 have c_zc1:=EM (base:=base) D_26 T
 have c_zg:=HH (base:=base) D_35 T c_zq c_zc1
 have c_zr:=GI (base:=base) D_36 T c_z8 c_za1 c_z6 c_zb c_zf c_zg
 have c_zd:=HB (base:=base) D_37 T c_z8 c_z1 c_z7
 have c_zi:=F5 (base:=base) D_38 T c_z8 c_z1 c_z7 c_z5 c_zr c_zd
 have c_zk:=GM (base:=base) D_20 T c_zn c_z2
 have c_zb1:=Fx (base:=base) D_21 T c_zk
 have c_z0:=Gr (base:=base) D_39 T c_z8 c_z1 c_z7 c_zd
 have c_z3:=Hv (base:=base) D_41 T
 have c_zu:=Hs (base:=base) D_40 T c_z1 c_z7
 exact FnOk.mono (k:=40) (ET D_42 T c_ze1 c_zb1 c_z9 c_z8 c_z5 c_zi c_z0 c_zu c_z3) (by decide)
theorem walk{l:PySem.W.OpenLaw}{q:Program}{loose:List Str}{XP:(Str→Option Value)→Heap→Prop}{YP:World→Heap→Prop}{d:DefRec}{K:Params→b5}(hn:l.most=some 63)(hdf:d.params.defaults=[])
  (hY:∀ (w:World) (h:Heap),YP w h→(K w.params).In h)
  (F:∀ (w:World) (mg:Str→Option Value) (fa:Addr) (h:Heap),(K w.params).In h→h.Ns mainGlobals mg→mg d.name=some (.ref fa) →
   ∃ fd:FuncData,(∀ (s:Shared) (u:Value),BindsTo s fd ⟨[u],[]⟩ [("_law_script",u)])∧∀ base:Heap,(K w.params).In base→base.Ns mainGlobals mg→FnOk l.prog w (K w.params) mg base yB 40 fa fd ["_law_script"] (yS (K w.params))) :
  PySem.W.WalkO q loose XP YP l.row.toRowW d [] (fun f vs=>PySem.call f vs) :=
 L2.walk_of (n:=63) (k:=40) (x:="_law_script") (CX:=fun _=>yB) (sp:=fun w=>yS (K w.params)) hn (by decide) hdf ⟨rfl,by decide,by decide⟩ hY F (fun _ _ a ns hl _ hS=>⟨a,ns,rfl,hS,hl,fun _=>rfl⟩) fun _ _ _ _ _ z=>z
end Lw
def PySem.W.Fast.tw14820303493704552890:Nat:=0
def PySem.W.Fast.tw4834688965390247032:Nat:=0
def PySem.W.Fast.tw7641257125162119773:Nat:=0
def PySem.W.Fast.tw16518934303904918001:Nat:=0
def PySem.W.Fast.tw7291791633689736447:Nat:=0
def PySem.W.Fast.tw3120856287092774769:Nat:=0
def PySem.W.Fast.tw12794642359926734284:Nat:=0
def PySem.W.Fast.tw11020145408042704730:Nat:=0
def PySem.W.Fast.tw18128408517486489572:Nat:=0
def PySem.W.Fast.tw3038832415615930306:Nat:=0
def PySem.W.Fast.tw1344159593104577688:Nat:=0
def PySem.W.Fast.tw14654508808466146364:Nat:=0
def PySem.W.Fast.tw6921389362587631137:Nat:=0
def PySem.W.Fast.tw3967569334945498616:Nat:=0
def PySem.W.Fast.tw108498535560472073:Nat:=0
def PySem.W.Fast.tw16701315575590083937:Nat:=0
def PySem.W.Fast.tw4804826731104254794:Nat:=0
def PySem.W.Fast.tw6419422089261104215:Nat:=0
def PySem.W.Fast.tw13533667613729836740:Nat:=0
def PySem.W.Fast.tw4215704897307165289:Nat:=0
def PySem.W.Fast.tw17334860495707425043:Nat:=0
def PySem.W.Fast.tw3950013522042457748:Nat:=0
def PySem.W.Fast.tw1804880278732048886:Nat:=0
def PySem.W.Fast.tw10975201990569922959:Nat:=0
def PySem.W.Fast.tw11222132545771425397:Nat:=0
def PySem.W.Fast.tw1063592952893912249:Nat:=0
def PySem.W.Fast.tw15351284223442642156:Nat:=0
def PySem.W.Fast.tw14964570953061613010:Nat:=0
def PySem.W.Fast.tw3829845394526280221:Nat:=0
def PySem.W.Fast.tw14568488187528394510:Nat:=0
def PySem.W.Fast.tw4418955460785052774:Nat:=0
def PySem.W.Fast.tw3541399092143710329:Nat:=0
def PySem.W.Fast.tw6799774397827067023:Nat:=0
def PySem.W.Fast.tw14736804459455150497:Nat:=0
def PySem.W.Fast.tw12763196813424535595:Nat:=0
def PySem.W.Fast.tw13393400168634537339:Nat:=0
def PySem.W.Fast.tw6526157639926907968:Nat:=0
def PySem.W.Fast.tw16595460536975029651:Nat:=0
def PySem.W.Fast.tw13775669728694844952:Nat:=0
def PySem.W.Fast.tw15542679499728190956:Nat:=0
def PySem.W.Fast.tw18381404553574240523:Nat:=0
def PySem.W.Fast.tw13780040409040235501:Nat:=0
def PySem.W.Fast.tw16224128453313899055:Nat:=0
def PySem.W.Fast.tw664966754663525389:Nat:=0
def PySem.W.Fast.tw8414874505506886424:Nat:=0
def PySem.W.Fast.tw1149619182803035716:Nat:=0
def PySem.W.Fast.tw42164124003945493:Nat:=0
def PySem.W.Fast.tw791283163114851042:Nat:=0
def PySem.W.Fast.tw3597913951145927344:Nat:=0
def PySem.W.Fast.tw16758429055463226789:Nat:=0
def PySem.W.Fast.tw3790151098075953148:Nat:=0
def PySem.W.Fast.tw5149877503441475867:Nat:=0
def PySem.W.Fast.tw3641683907087498931:Nat:=0
def PySem.W.Fast.tw16374436026403293973:Nat:=0
def PySem.W.Fast.tw7105686023125084077:Nat:=0
def PySem.W.Fast.tw8473836631306079861:Nat:=0
def PySem.W.Fast.tw13257553468811287470:Nat:=0
def PySem.W.Fast.tw2139989516029201642:Nat:=0
def PySem.W.Fast.tw5455942674788047757:Nat:=0
def PySem.W.Fast.tw3196470954144241461:Nat:=0
def PySem.W.Fast.tw9772399378701946696:Nat:=0
def PySem.W.Fast.tw9249464646719609105:Nat:=0
def PySem.W.Fast.tw13384197558735838402:Nat:=0
def PySem.W.Fast.tw6879668746786812974:Nat:=0
def PySem.W.Fast.tw12838484111833424296:Nat:=0
def PySem.W.Fast.tw16292617792134749511:Nat:=0
def PySem.W.Fast.tw572670118763285078:Nat:=0
def PySem.W.Fast.tw10890736510559366652:Nat:=0
def PySem.W.Fast.tw18372687830377687867:Nat:=0
def PySem.W.Fast.tw5559247513726357706:Nat:=0
def PySem.W.Fast.tw12401742805833949567:Nat:=0
def PySem.W.Fast.tw4132811902314989983:Nat:=0
def PySem.W.Fast.tw16782368247111458829:Nat:=0
def PySem.W.Fast.tw17688084067345895356:Nat:=0
def PySem.W.Fast.tw14633604279845608685:Nat:=0
def PySem.W.Fast.tw1254766003028158884:Nat:=0
def PySem.W.Fast.tw927758094025424566:Nat:=0
def PySem.W.Fast.tw1417901937029208861:Nat:=0
def PySem.W.Fast.tw1077140795159165339:Nat:=0
def PySem.W.Fast.tw527226353495515681:Nat:=0
def PySem.W.Fast.tw3551869721217495284:Nat:=0
def PySem.W.Fast.tw1051846502478692168:Nat:=0
def PySem.W.Fast.tw7986093320832500591:Nat:=0
def PySem.W.Fast.tw10865245101563750157:Nat:=0
def PySem.W.Fast.tw12450823855460256504:Nat:=0
def PySem.W.Fast.tw12473500750764208310:Nat:=0
def PySem.W.Fast.tw664290216851787557:Nat:=0
def PySem.W.Fast.tw15805929311998099574:Nat:=0
def PySem.W.Fast.tw8484936660055223562:Nat:=0
def PySem.W.Fast.tw6684791674060670084:Nat:=0
def PySem.W.Fast.tw3345669447210619896:Nat:=0
def PySem.W.Fast.tw9957348498492456968:Nat:=0
def PySem.W.Fast.tw8235929050928042951:Nat:=0
def PySem.W.Fast.tw8910804739672466729:Nat:=0
def PySem.W.Fast.tw5874772466579854580:Nat:=0
def PySem.W.Fast.tw15524201465003296438:Nat:=0
def PySem.W.Fast.tw6314144367275714483:Nat:=0
def PySem.W.Fast.tw10637691856053512021:Nat:=0
def PySem.W.Fast.tw13332411605341203991:Nat:=0
def PySem.W.Fast.tw17964010278853322088:Nat:=0
def PySem.W.Fast.tw3807864235042149848:Nat:=0
def PySem.W.Fast.tw1723234880987415741:Nat:=0
def PySem.W.Fast.tw8800653716355628525:Nat:=0
def PySem.W.Fast.tw9409060871254555047:Nat:=0
def PySem.W.Fast.tw17637576229980913558:Nat:=0
def PySem.W.Fast.tw10522455984783220988:Nat:=0
def PySem.W.Fast.tw9707954212146597163:Nat:=0
def PySem.W.Fast.tw12402812054242340564:Nat:=0
def PySem.W.Fast.tw3506356278348388324:Nat:=0
def PySem.W.Fast.tw9460237223848635706:Nat:=0
def PySem.W.Fast.tw8547640688977268589:Nat:=0
def PySem.W.Fast.tw844951540282909677:Nat:=0
def PySem.W.Fast.tw12129252893771931378:Nat:=0
def PySem.W.Fast.tw7794473019262546882:Nat:=0
def PySem.W.Fast.tw5017585087859738436:Nat:=0
def PySem.W.Fast.tw8222777443499659362:Nat:=0
def PySem.W.Fast.tw5241878410083259899:Nat:=0
def PySem.W.Fast.tw14577361285632200461:Nat:=0
def PySem.W.Fast.tw9780431585994373845:Nat:=0
def PySem.W.Fast.tw18112799226075553734:Nat:=0
def PySem.W.Fast.tw749642454236997311:Nat:=0
def PySem.W.Fast.tw1263369543045112256:Nat:=0
def PySem.W.Fast.tw10134837428079155177:Nat:=0
def PySem.W.Fast.tw15247237115059741924:Nat:=0
def PySem.W.Fast.tw4055046426475676558:Nat:=0
def PySem.W.Fast.tw5978787153287088968:Nat:=0
def PySem.W.Fast.tw15878252359720999909:Nat:=0
def PySem.W.Fast.tw11931617606771928156:Nat:=0
def PySem.W.Fast.tw11279948293291666353:Nat:=0
def PySem.W.Fast.tw16255894645235435318:Nat:=0
def PySem.W.Fast.tw16837623540994038350:Nat:=0
def PySem.W.Fast.tw3679346900500316779:Nat:=0
def PySem.W.Fast.tw10677904313208589281:Nat:=0
def PySem.W.Fast.tw290913711511747487:Nat:=0
def PySem.W.Fast.tw14204239382725768479:Nat:=0
def PySem.W.Fast.tw4197465012179932765:Nat:=0
def PySem.W.Fast.tw2363210935815125286:Nat:=0
def PySem.W.Fast.tw3525389559287627777:Nat:=0
def PySem.W.Fast.tw14005620242756040543:Nat:=0
open PySem PySem.W PyProof.Rows
set_option maxRecDepth 100000 in
set_option maxHeartbeats 0 in
theorem PySem.Challenge.cw_newletters_k16_whole_webs_are_of_what_is_holds : PySem.Challenge.rw_newletters_k16_whole_webs_are_of_what_is.Holds := by
 w_on;o_law;k_head;(case hw=>w_witness2)
 k_fill
 refine Lw.walk (l:=PySem.Challenge.rw_newletters_k16_whole_webs_are_of_what_is) rfl rfl (fun w h Y=>aZb Y) ?F
 case F =>
  intro w mg fa h KX G hmg
  refine' Lw.all_mk KX G hmg ?d_0 ?d_1 ?d_2 ?d_3 ?d_4 ?d_5 ?d_6 ?d_7 ?d_8 ?d_9 ?d_10 ?d_11 ?d_12 ?d_13 ?d_14 ?d_15 ?d_16 ?d_17 ?d_18 ?d_19 ?d_20 ?d_21 ?d_22 ?d_23 ?d_24 ?d_25 ?d_26 ?d_27 ?d_28 ?d_29 ?d_30 ?d_31 ?d_32 ?d_33 ?d_34 ?d_35 ?d_36 ?d_37 ?d_38 ?d_39 ?d_40 ?d_41 ?na_42 ?nl_42 ?nc_42 ?nk_42 ?nb_all ?nb_enumerate ?nb_int ?nb_len ?nb_list ?nb_max ?nb_range ?nb_reversed ?nb_sorted ?nb_sum ?nb_tuple ?nb_zip ?oa_Weave ?ob_Weave ?oe_Weave ?of_Weave ?og_Weave ?oh_Weave ?oi_Weave ?on_Weave_heads ?on_Weave_turns ?on_Weave_ways ?on_Weave_alike ?nm_CONTRARIES ?nt_CONTRARIES ?nh_CONTRARIES ?nm_LETTERS ?nt_LETTERS ?nv_LETTERS
  (case oa_Weave=>k_is)
  (case d_0 | d_1 | d_2 | d_3 | d_4 | d_5 | d_6 | d_17 | d_18 | d_19 | d_20 | d_21 | d_22 | d_23 | d_24 | d_25 | d_26 | d_27 | d_28 | d_29 | d_30 | d_31 | d_32 | d_33 | d_34 | d_35 | d_36 | d_37 | d_38 | d_39 | d_40 | d_41=>exact⟨_,_,_,_,_,_,_,_,_,_,by k_is,by k_is,by k_is,by k_is⟩)
  (case d_7 | d_8 | d_9 | d_10 | d_11 | d_12 | d_13 | d_14 | d_15 | d_16=>exact⟨_,_,_,_,_,_,_,_,_,_,by k_is,by k_is,by k_is,by k_is,by k_is⟩)
  (case na_42 | nl_42 | nc_42 | nk_42 | nb_all | nb_enumerate | nb_int | nb_len | nb_list | nb_max | nb_range | nb_reversed | nb_sorted | nb_sum | nb_tuple | nb_zip | ob_Weave | oe_Weave | of_Weave | og_Weave | oh_Weave | oi_Weave | on_Weave_heads | on_Weave_turns | on_Weave_ways | on_Weave_alike | nm_CONTRARIES | nm_LETTERS | nt_LETTERS=>k_is)
  (case nt_CONTRARIES=>kernel_rfl)
  (case nh_CONTRARIES=>kernel_rfl)
  (case nv_LETTERS=>exact .cons ⟨_,rfl⟩ (.cons ⟨_,rfl⟩ (.cons ⟨_,rfl⟩ (.cons ⟨_,rfl⟩ (.cons ⟨_,rfl⟩ (.cons ⟨_,rfl⟩ (.cons ⟨_,rfl⟩ (.cons ⟨_,rfl⟩ .nil))))))))
