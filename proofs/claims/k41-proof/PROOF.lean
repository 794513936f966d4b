import PyProof.Rows.All
import Wide.All
import OpenK.AllK
import Wide.FinOn
import Lean
import PyProof.EqAt
import PyProof.EqKinds
import PyProof.TupleCall
import KE.KMinKey
import KE.KSortTup
import KE.KLam
import KE.KNestM
import KE.KItemsList
import KE.KIsAll
import KE.KDictList
import PyProof.AttrMissHeap
import KE.KDictOf
import PySem.Challenge.RW_newletters_k41_forms_of_rings
open PySem.Heap renaming get?_push_of_some → a9, lt_size → d6, get?_push_size → d8, get?_update_self → y4, size_push → aQB, get?_update_other → aQL
open PySem.W renaming Frag → b9, mg_of → i8, mg_none_of → p5, kia_one → aQI, kia_tup → aQJ, cellsFrom_some → aXT, codeHd_of_K → aX3, kitx_tuple → aXc, kitx_none → aXi, kitx_bool → aXj, kitx_list → aXk, kt_tab_in → aXq, kitx_int → aXv, kitx_str → aXw
open List renaming getElem?_eq_some_iff → c5, length_map → c6, getElem?_eq_getElem → c7, mem_singleton → c9, getD_eq_getElem?_getD → d5, mem_of_getElem? → d7, mem_cons → d9, mem_append_right → e9, getElem?_map → f6, size_toArray → f9, length_append → g9, mem_map → i4, map_append → i6, mem_cons_of_mem → i9, mem_cons_self → j6, mem_append → j8, not_mem_nil → j9, map_cons → k7, length_take → k9, length_eq_zero_iff → l8, length_cons → l9, mem_of_mem_drop → m5, map_map → m6, mem_of_mem_take → m9, mem_append_left → n9, take_length → p9, lookup_cons → q5, getElem_mem → q8, mem_filter → t5, getElem?_append_left → t6, length_reverse → t9, length_drop → u5, take_of_length_le → u8, append_nil → w5, getElem?_reverse → w9, getElem?_eq_none → x2, nodup_cons → x9, getElem?_of_mem → y0, map_congr_left → y1, mem_reverse → y2, length_singleton → y6, length_filter_le → y9, getElem?_append_right → z0, reverse_cons → aQA, getElem?_take_of_lt → aQC, filterMap_cons → aQF, find?_cons → aQK, dropLast_concat_getLast → aQO, all_eq_true → aQP, drop_eq_getElem_cons → aQT, take_add_one → aQ1, ext_getElem? → aQ3, length_range → aQ4, append_assoc → aQ6, length_pos_of_mem → aQ9, any_cons → aQf, eraseIdxIfInBounds_toArray → aQj, forIn_cons → aQl, length_pos_iff → aQu, map_id → aQx, idxOf_lt_length_of_mem → aXB, filter_filter → aXC, exists_cons_of_ne_nil → aXF, flatten_cons → aXI, filter_congr → aXJ, getElem?_eq_none_iff → aXK, length_filterMap_le → aXM, map_reverse → aXN, length_erase_of_mem → aXO, filter_cons → aXP, of_mem_zip → aXR, getElem?_set_self → aXS, forIn_nil → aXX, getElem?_set_ne → aXY, mem_erase_of_ne → aX0, all_cons → aX1, filter_eq_self → aX4, getElem?_range → aX5, mem_filterMap → aX8, map_nil → aX9, getElem?_drop → aXf, filter_append → aXg, getElem_idxOf → aXh, zipIdx_cons → aXz, cons_append → aZB, any_eq_true → aZC, zipIdx_nil → aZH, length_nil → aZI, nil_append → aZK, drop_zero → aZN, nodup_nil → aZO, sum_cons → aZU, all_map → aZi
open Nat renaming le_refl → c8, ne_of_lt → i7, lt_of_lt_of_le → k0, zero_le → l5, le_trans → m7, lt_of_le_of_lt → o6, not_lt_zero → o9, add_le_add_left → r6, lt_irrefl → r9, mod_lt → u0, ne_of_gt → x8, mod_eq_of_lt → aQQ, le_add_right → aQR, add_assoc → aQS, add_mod_mod → aQU, le_of_lt → aQW, add_mod_right → aQ2, mod_add_mod → aQm, le_succ → aQw, add_sub_cancel_left → aXQ, lt_trans → aXe, le_succ_of_le → aXp, add_mod → aXr, le_of_not_lt → aXu, lt_succ_self → aXx, div_add_mod → aZG, min_self → aZj, add_zero → aZk, sub_self → aZm, mul_one → aZq
open Option.some renaming inj → j7, injEq → aZy
open Bool renaming false_ne_true → k6, and_eq_true → w8, eq_iff_iff → y3, eq_false_iff → aQ5, false_eq_true → aXd, or_false → aZR
open PySem.F renaming plainAttrs_str → l3, plain_min_loop → l6, slot_dict_itemiterator_next → t8, plainAttrs_list → u4, slot_dict_keyiterator_next → v9, entry_min_loop → w6, slot_str_join → x3, type_str_join → x4, slot_tuple_iterator_next → z9, slot_list_append → aQD, type_list_append → aQE, args_tuple_add_2 → aQX, slot_list_getattribute → aQY, entry_tuple_add → aQ0, slot_tuple_add → aQ7, slot_str_upper → aQa, type_str_upper → aQb, slot_str_lower → aQc, type_str_lower → aQd, slot_list_pop → aQh, type_list_pop → aQi, args_dict_itemiterator_next_1 → aQk, slot_zip_next → aQn, args_dict_keyiterator_next_1 → aQp, entry_dict_itemiterator_next → aQq, entry_dict_keyiterator_next → aQr, slot_dict_itemiterator_iter → aQs, args_tuple_iterator_next_1 → aQv, slot_str_getitem → aQz, entry_tuple_iterator_next → aXA, slot_dict_items_iter → aXU, slot_str_index → aXV, type_str_index → aXW, plain_min → aXl, entry_min → aXm, args_zip_next_1 → aXn, entry_list_pop → aXt, kind_min → aXy, entry_zip_next → aZA, slot_dict_iter → aZD, slot_list_pop → aZF
open PySem renaming mem_of_lookup → l7, boot_len → p6, evalArgs_none → aX2
open Option renaming map_eq_some_iff → m8, isSome_iff_exists → v0, map_some → aQo, getD_none → aXs
open PySem.PassesOwn renaming never → p4
open PySem.Heap.SameBut renaming update → p7, refl → aZw
open PySem.Around renaming under_plainId → q0, frames_deeper → aXZ
open Int renaming toNat_natCast → u9, emod_nonneg → aQV, emod_lt_of_pos → aQZ, toNat_of_nonneg → aQt
open PySem.Obj renaming data_mapFields → v8, isFreed_of_fields → aQN, cls_mapFields → aXG
open PyProof.Rows renaming callWith_type1 → w4, slot_tuple_getitem → aQH, callWith_builtin1 → aZE, lt_int → aZt
open Array renaming getElem?_eq_getElem → x5, getElem?_toList → y7, length_toList → aQG, getElem?_eq_none_iff → aXE
open Classical renaming byContradiction → x6
open Ne renaming symm → aQM
open PySem.Calls renaming callWith_builtin → aQ8, Name_function_global → aXD
open PySem.Paired renaming length → aQe, snoc → aZr
open PySem.StrLaws renaming glued_eq_join → aQg, seqIndex_nonneg → aZL
open PySem.SeqAt.EqAt renaming int_int → aQy, int_str → aX6, str_int → aX7
open PySem.EqBoolInt renaming of_rcne → aXH
open PySem.Txt renaming slice_le → aXL
open PySem.Heap.IsSliceOf renaming new → aXa
open PyProof.V renaming same_str → aXb
open List.Pairwise renaming map → aXo, imp_of_mem → aZl, and_mem → aZs
open PySem.Heap.DictOf renaming new → aZJ
open PySem.Walks renaming strAscii → aZM, strWide → aZS
open List.Perm renaming refl → aZP
open PyProof.Rows.IsTup renaming new → aZQ
open PySem.SeqAt.RcNeAt renaming lists_lengths → aZT, tuples → aZu, lists → aZv
open List.cons renaming inj → aZV
open PySem.EqNone renaming eq_none_none → aZW, eq_none_bool → aZX, eq_bool_none → aZY, ne_none_none → aZ1, ne_none_bool → aZ2, ne_bool_none → aZ3, eq_none_int → aZ6, eq_none_str → aZ7, eq_int_none → aZ8, eq_str_none → aZa, ne_none_int → aZc, ne_none_str → aZd, ne_int_none → aZe, ne_str_none → aZg
open PySem.EqMixed renaming eq_bool_str → aZZ, eq_str_bool → aZ0, ne_bool_str → aZ4, ne_str_bool → aZ5, eq_int_str → aZ9, eq_str_int → aZb, ne_int_str → aZf, ne_str_int → aZh
open Sum.inr renaming inj → aZn
open PyProof.V.Flat renaming str_inv → aZo, int_inv → aZp
open PySem.Heap.IsTuple renaming push → aZx
set_option Elab.async false
set_option maxHeartbeats 4000000
set_option maxRecDepth 100000
set_option linter.all false
namespace L2
open PySem PySem.Spec PyProof.Rows
abbrev bI:=Sum Int Str
def mQ:bI→Value→Bool
 | .inl k,v=>Value.isInt k v
 | .inr x,v=>Value.isStrOf x v
def DO(w:World):bI→Int
 | .inl k=>hashInt k
 | .inr x=>hashStr w x
theorem bM:∀ {k:bI} {v:Value},mQ k v=true→(∃ i t,k=Sum.inl i∧v=Value.int i t)∨(∃ x t,k=Sum.inr x∧v=Value.str x t)
 | .inl i,v,h=>by
  obtain⟨t,e⟩:=Value.isInt_shape (k:=i) (v:=v) h
  exact .inl ⟨i,t,rfl,e⟩
 | .inr x,v,h=>by
  obtain⟨t,e⟩:=Value.isStrOf_shape (x:=x) (v:=v) h
  exact .inr ⟨x,t,rfl,e⟩
theorem tP(i:Int)(t:Tok):mQ (.inl i) (.int i t)=true:=by simp[mQ,Value.isInt]
theorem tZ(x:Str)(t:Tok):mQ (.inr x) (.str x t)=true:=by simp[mQ,Value.isStrOf]
theorem AL(a b:Int):decide ((Sum.inl a:bI)=Sum.inl b)=(a == b):=by
 by_cases e:a=b
 ·subst e;simp
 ·have h:¬ (Sum.inl a:bI)=Sum.inl b:=fun q=>e (Sum.inl.inj q)
  rw[decide_eq_false h]
  exact(beq_eq_false_iff_ne.mpr e).symm
theorem Bt(a b:Str):decide ((Sum.inr a:bI)=Sum.inr b)=decide (a=b):=by
 by_cases e:a=b
 ·subst e;simp
 ·have h:¬ (Sum.inr a:bI)=Sum.inr b:=fun q=>e (aZn q)
  rw[decide_eq_false h,decide_eq_false e]
theorem Bx(a:Int)(b:Str):decide ((Sum.inl a:bI)=Sum.inr b)=false:=decide_eq_false (fun q=>nomatch q)
theorem AR(a:Str)(b:Int):decide ((Sum.inr a:bI)=Sum.inl b)=false:=decide_eq_false (fun q=>nomatch q)
def bH(prog:Program)(w:World):PySem.KeyKind prog w bI where
 is:=mQ
 hash:=DO w
 inj:=fun v a b ha hb=>by
  rcases bM ha with ⟨i,t,rfl,rfl⟩ | ⟨x,t,rfl,rfl⟩
  ·rcases bM hb with ⟨j,u,rfl,e⟩ | ⟨y,u,rfl,e⟩
   ·injection e with e1 _;rw[e1]
   ·exact nomatch e
  ·rcases bM hb with ⟨j,u,rfl,e⟩ | ⟨y,u,rfl,e⟩
   ·exact nomatch e
   ·injection e with e1 _;rw[e1]
 byValue:=fun k v h=>by
  rcases bM h with ⟨i,t,rfl,rfl⟩ | ⟨x,t,rfl,rfl⟩ <;> rfl
 pyHash:=fun hv h=>by
  rcases bM hv with ⟨i,t,rfl,rfl⟩ | ⟨x,t,rfl,rfl⟩
  ·exact wpAny_pyHash_int h
  ·exact wpAny_pyHash_str h
 eqBool:=fun hu hv h=>by
  rcases bM hu with ⟨i,t,rfl,rfl⟩ | ⟨x,t,rfl,rfl⟩
  ·rcases bM hv with ⟨j,u,rfl,rfl⟩ | ⟨y,u,rfl,rfl⟩
   ·rw[AL] at h;exact wpAny_eqBool_int h
   ·rw[Bx] at h;exact aX6 i t y u _ _ _ _ h
  ·rcases bM hv with ⟨j,u,rfl,rfl⟩ | ⟨y,u,rfl,rfl⟩
   ·rw[AR] at h;exact aX7 x t j u _ _ _ _ h
   ·rw[Bt] at h;exact wpAny_eqBool_str h
 «strs»:=fun k x t v h=>by
  rcases bM h with ⟨i,u,rfl,e⟩ | ⟨y,u,rfl,e⟩
  ·exact nomatch e
  ·injection e with e1 _
   subst e1
   cases v <;> rfl
theorem pK(prog:Program)(w:World)(i:Int)(t:Tok):(bH prog w).is (.inl i) (.int i t)=true:=tP i t
theorem oP(prog:Program)(w:World)(x:Str)(t:Tok):(bH prog w).is (.inr x) (.str x t)=true:=tZ x t
inductive V where
 | non | bl (b:Bool) | int (i:Int) | str (x:Str) | byt (b:Array UInt8) | flt (b:UInt64) | ref (a:Addr) | ty (n:String)
 deriving DecidableEq
def RelV:V→Value→Prop
 | .non,u=>u=Value.none
 | .bl b,u=>u=Value.bool b
 | .int i,u=>∃ t,u=Value.int i t
 | .str x,u=>∃ t,u=Value.str x t
 | .byt b,u=>∃ t,u=Value.bytes b t
 | .flt b,u=>∃ t,u=Value.float b t
 | .ref a,u=>u=Value.ref a
 | .ty n,u=>u=Value.type n
abbrev Vals:List V→List Value→Prop:=Paired RelV
theorem Vals.length{xs:List V}{us:List Value}(r:Vals xs us):xs.length=us.length:=aQe r
theorem Vals.get:∀ {xs:List V} {us:List Value} {i:Nat} {x:V},Vals xs us→xs[i]?=some x→∃ u,us[i]?=some u∧RelV x u
 | _,_,_,_,.nil,e=>by simp at e
 | _,_,0,_,.cons r _,e=>by simp at e;subst e;exact⟨_,rfl,r⟩
 | _,_,i+1,x,.cons _ t,e=>by
  obtain⟨u,h1,h2⟩:=Vals.get (i:=i) (x:=x) t (by simpa using e)
  exact⟨u,by simpa using h1,h2⟩
theorem Vals.set{x:V}{u:Value}(r:RelV x u):∀ {xs:List V} {us:List Value} (i:Nat),Vals xs us→Vals (xs.set i x) (us.set i u)
 | _,_,_,.nil=>.nil
 | _,_,0,.cons _ t=>.cons r t
 | _,_,i+1,.cons q t=>.cons q (Vals.set r i t)
theorem Vals.append:∀ {xs ys:List V} {us ws:List Value},Vals xs us→Vals ys ws→Vals (xs++ys) (us++ws)
 | _,_,_,_,.nil,s=>s
 | _,_,_,_,.cons r t,s=>.cons r (Vals.append t s)
theorem Vals.take:∀ {xs:List V} {us:List Value} (n:Nat),Vals xs us→Vals (xs.take n) (us.take n)
 | _,_,0,_=>.nil
 | _,_,_+1,.nil=>.nil
 | _,_,n+1,.cons r t=>.cons r (Vals.take n t)
theorem Vals.drop:∀ {xs:List V} {us:List Value} (n:Nat),Vals xs us→Vals (xs.drop n) (us.drop n)
 | _,_,0,r=>r
 | _,_,_+1,.nil=>.nil
 | _,_,n+1,.cons _ t=>Vals.drop n t
def RelO:Option V→Option Value→Prop
 | some v,some u=>RelV v u
 | none,none=>True
 | _,_=>False
def KV{κ:Type}:List (κ×V)→List (κ×Value)→Prop:=Paired fun (p:κ×V) (q:κ×Value)=>p.1=q.1∧RelV p.2 q.2
def kV:bI→V
 | .inl i=>.int i
 | .inr x=>.str x
inductive HO where
 | lst (xs:List V)
 | tup (xs:List V)
 | dK (kvs:List (bI×V)) | dT (kvs:List (List bI×V))
 | set (S:Int→Bool) (n:Nat)
 | ins (C dx:Addr) (fs:List (Str×V))
 | own (x:Addr)
 | xd (fs:List (Str×V))
 | met (f x:Addr)
 | rng (lo hi:Int)
 | frz (o:Obj) (u:HO)
 | tbl (ps:Array Value)
 | ext (φ:Heap→Prop)
abbrev Hp:=Addr→Option HO
def upd(H:Hp)(a:Addr)(o:HO):Hp:=fun b=>if b=a then some o else H b
theorem aB{H:Hp}{a:Addr}{o:HO}:upd H a o a=some o:=by unfold upd;rw[if_pos rfl]
theorem aG{H:Hp}{a b:Addr}{o:HO}(h:b≠a):upd H a o b=H b:=by unfold upd;rw[if_neg h]
theorem eU{H:Hp}{a b:Addr}{o u:HO}(h:H a=some o)(h':H b=some u)(d:o≠u):a≠b:=by
 intro e;subst e;rw[h] at h';exact d (j7 h')
theorem aN{H:Hp}{a b:Addr}{o:HO}(h:H a=some o)(h':H b=none):a≠b:=by
 intro e;subst e;rw[h] at h';cases h'
def NoD(h:Heap)(a:Addr):Prop:=∃ o,h.get? a=some o∧o.dict=none
theorem NoD.new(h:Heap)(items:Array Value):NoD (h.push { cls:=.type "tuple",data:=.seq items }) h.objs.size:=⟨_,d8 _ rfl,rfl⟩
section
variable (P:Program)(w:World)
def ObjOk(H:Hp)(h:Heap)(a:Addr):HO→Prop
 | .lst xs=>xs.length≤sizeLine∧∃ (its:List Value) (n:Nat),Vals xs its∧h.get? a=some { cls:=.type "list",data:=.seq its.toArray n }
 | .tup xs=>xs.length≤sizeLine∧∃ its:List Value,Vals xs its∧IsTup h a its.toArray∧NoD h a
 | .dK kvs=>kvs.length≤sizeLine∧(a == sysModules)=false∧∃ vs,KV kvs vs∧h.DictOf (bH P w) a vs
 | .dT kvs=>kvs.length≤sizeLine∧(a == sysModules)=false∧∃ xs:List (List bI×Addr×Value),
   Paired (fun (p:List bI×V) (q:List bI×Addr×Value)=>p.1=q.1∧H q.2.1=some (.tup (p.1.map kV))∧RelV p.2 q.2.2) kvs xs ∧
   ∃ o es ep,h.get? a=some o∧o.ExactDict∧o.data=.dict es ep∧es.toList=xs.map (entryOfKey (tupleKind (bH P w)))∧(xs.map (·.1)).Nodup
 | .set S n=>h.SetOf (intKind P w) a S n
 | .ins C dx fs=>H dx=some (.own a)∧fs.length≤1000∧dx≠a∧h.get? a=some (PySem.W.instObj C dx) ∧
   ∃ mA,h.Ns1 dx mA∧(∀ f,RelO (fs.lookup f) (mA f))∧PySem.Within mA (fs.map (·.1))
 | .own _=>∃ o,h.get? a=some o
 | .xd fs=>∃ mA,h.Ns1 a mA∧∀ f,RelO (fs.lookup f) (mA f)
 | .rng lo hi=>∃ t u v,h.get? a=some { cls:=.type "range",data:=.fields #[.int lo t,.int hi u,.int 1 v] }
 | .frz o u=>h.get? a=some o∧ObjOk H h a u
 | .tbl ps=>h.get? a=some { cls:=.none,data:=.fields ps }
 | .met f x=>h.get? a=some (PySem.W.methodObj (.ref f) (.ref x))
 | .ext φ=>φ h∧(∃ o,h.get? a=some o)∧∀ h1 h2:Heap,φ h1→(∀ o,h1.get? a=some o→h2.get? a=some o)→φ h2
def HOk(H:Hp)(h:Heap):Prop:=∀ a o,H a=some o→ObjOk P w H h a o
end
section
variable {P:Program}{w:World}{H H':Hp}{h h':Heap}{a:Addr}{o:HO}
theorem ObjOk.lt(x:ObjOk P w H h a o):a<h.objs.size:=by
 cases o with
 | lst xs=>obtain⟨_,_,_,_,e⟩:=x;exact d6 e
 | tup xs=>obtain⟨_,_,_,p⟩:=x;exact p.1.lt
 | dK kvs=>obtain⟨_,_,_,_,o,_,_,e,_⟩:=x;exact d6 e
 | dT kvs=>obtain⟨_,_,_,_,o,_,_,e,_⟩:=x;exact d6 e
 | set S n=>obtain⟨o,_,_,_,e,_⟩:=x;exact d6 e
 | ins C dx fs=>obtain⟨_,_,_,e,_⟩:=x;exact d6 e
 | own y=>obtain⟨_,e⟩:=x;exact d6 e
 | xd fs=>obtain⟨_,⟨_,_,_,e,_⟩,_⟩:=x;exact d6 e
 | rng lo hi=>obtain⟨_,_,_,e⟩:=x;exact d6 e
 | frz ob u=>obtain⟨e,_⟩:=x;exact d6 e
 | tbl ps=>exact d6 (show h.get? a=some _ from x)
 | met f y=>exact d6 (show h.get? a=some _ from x)
 | ext φ=>obtain⟨_,⟨_,e⟩,_⟩:=x;exact d6 e
theorem Paired.mapP{α β:Type}{F G:α→β→Prop}:∀ {l₁:List α} {l₂:List β},Paired F l₁ l₂→(∀ a b,F a b→G a b)→Paired G l₁ l₂
 | _,_,.nil,_=>.nil
 | _,_,.cons r t,f=>.cons (f _ _ r) (Paired.mapP t f)
theorem ObjOk.stay(x:ObjOk P w H h a o)(k:∀ b u,(b=a∨H b=some (.own a))→h.get? b=some u→h'.get? b=some u)
  (ho:∀ b,H b=some (.own a)→H' b=some (.own a)) (ht:∀ b xs,H b=some (.tup xs)→H' b=some (.tup xs)):ObjOk P w H' h' a o:=by
 induction o with
 | lst xs=>obtain⟨z,its,n,r,e⟩:=x;exact⟨z,its,n,r,k _ _ (.inl rfl) e⟩
 | tup xs=>obtain⟨z,its,r,⟨ob,e,c⟩,od,e2,c2⟩:=x;exact⟨z,its,r,⟨ob,k _ _ (.inl rfl) e,c⟩,od,k _ _ (.inl rfl) e2,c2⟩
 | dK kvs=>obtain⟨z,y,vs,r,ob,es,ep,e,c⟩:=x;exact⟨z,y,vs,r,ob,es,ep,k _ _ (.inl rfl) e,c⟩
 | dT kvs =>
  obtain⟨z,y,xs,r,ob,es,ep,e,c⟩:=x
  exact⟨z,y,xs,Paired.mapP r fun p q z=>⟨z.1,ht _ _ z.2.1,z.2.2⟩,ob,es,ep,k _ _ (.inl rfl) e,c⟩
 | set S n=>obtain⟨ob,es,ep,t,e,c⟩:=x;exact⟨ob,es,ep,t,k _ _ (.inl rfl) e,c⟩
 | ins C dx fs =>
  obtain⟨d,z,ne,e,mA,⟨od,es,ep,e2,c⟩,r⟩:=x
  exact⟨ho _ d,z,ne,k _ _ (.inl rfl) e,mA,⟨od,es,ep,k _ _ (.inr d) e2,c⟩,r⟩
 | own y=>obtain⟨ob,e⟩:=x;exact⟨ob,k _ _ (.inl rfl) e⟩
 | xd fs=>obtain⟨mA,⟨od,es,ep,e,c⟩,r⟩:=x;exact⟨mA,⟨od,es,ep,k _ _ (.inl rfl) e,c⟩,r⟩
 | rng lo hi=>obtain⟨t,u,v,e⟩:=x;exact⟨t,u,v,k _ _ (.inl rfl) e⟩
 | frz ob u ih=>obtain⟨e,q⟩:=x;exact⟨k _ _ (.inl rfl) e,ih q⟩
 | tbl ps =>
  have e:h.get? a=some { cls:=.none,data:=.fields ps }:=x
  show h'.get? a=some { cls:=.none,data:=.fields ps }
  exact k a _ (.inl rfl) e
 | met f y =>
  have e:h.get? a=some (PySem.W.methodObj (.ref f) (.ref y)):=x
  show h'.get? a=some (PySem.W.methodObj (.ref f) (.ref y))
  exact k a _ (.inl rfl) e
 | ext φ=>obtain⟨p,⟨o,e⟩,st⟩:=x;exact⟨st _ _ p fun o q=>k _ _ (.inl rfl) q,⟨o,k _ _ (.inl rfl) e⟩,st⟩
theorem HOk.lt(x:HOk P w H h)(e:H a=some o):a<h.objs.size:=(x a o e).lt
theorem HOk.fresh(x:HOk P w H h)(e:h.objs.size≤a):H a=none:=by
 cases q:H a with
 | none=>rfl
 | some u=>exact absurd (k0 (x.lt q) e) (r9 _)
theorem HOk.kept(x:HOk P w H h)(k:∀ b u,h.get? b=some u→h'.get? b=some u):HOk P w H h':=fun a o e =>
 (x a o e).stay (fun b u _ q=>k b u q) (fun _ q=>q) fun _ _ q=>q
theorem HOk.laid(x:HOk P w H h)(k:∀ b u,h.get? b=some u→h'.get? b=some u)(hp:h.objs.size≤a)(new:ObjOk P w (upd H a o) h' a o):HOk P w (upd H a o) h':=fun b u e=>by
 have hn:=x.fresh hp
 by_cases hb:b=a
 ·subst hb;rw[aB] at e;cases e;exact new
 ·rw[aG hb] at e
  exact(x b u e).stay (fun c v _ q=>k c v q) (fun c q=>by rw[aG (aN q hn)];exact q) fun c xs q=>by rw[aG (aN q hn)];exact q
end
def Rd(H:Hp)(a:Addr)(u:HO):Prop:=H a=some u∨∃ o,H a=some (.frz o u)
theorem Rd.ok{P:Program}{w:World}{H:Hp}{h:Heap}{a:Addr}{u:HO}(r:Rd H a u)(x:HOk P w H h):ObjOk P w H h a u:=by
 rcases r with r | ⟨o,r⟩
 ·exact x a u r
 ·obtain⟨_,q⟩:=x a _ r
  exact q
def BN:Option HO→Prop
 | some (.lst _)=>True
 | some (.dK _)=>True
 | some (.dT _)=>True
 | some (.set _ _)=>True
 | some (.ins _ _ _)=>True
 | some (.ext _)=>True
 | _=>False
section
variable {P:Program}{w:World}{H:Hp}{h h':Heap}{x e:Addr}{o':HO}
theorem HOk.write(ok:HOk P w H h)(mu:BN (H x))(he:e=x∨H e=some (.own x))(k:∀ b u,b≠e→h.get? b=some u→h'.get? b=some u)(heo:∃ u,h'.get? e=some u)
  (new:ObjOk P w (upd H x o') h' x o'):HOk P w (upd H x o') h':=fun b u q=>by
 have nown:∀ c y,H c=some (.own y)→c≠x:=fun c y r z=>by subst z;rw[r] at mu;exact mu
 have ntup:∀ c xs,H c=some (.tup xs)→c≠x:=fun c xs r z=>by subst z;rw[r] at mu;exact mu
 by_cases hb:b=x
 ·subst hb;rw[aB] at q;cases q;exact new
 ·rw[aG hb] at q
  by_cases hbe:b=e
  ·have q':H b=some (.own x):=by
    rcases he with z | z
    ·exact absurd (hbe.trans z) hb
    ·rw[hbe];exact z
   rw[q] at q';cases q'
   obtain⟨v,hv⟩:=heo
   exact⟨v,by rw[hbe];exact hv⟩
  ·refine(ok b u q).stay (fun c v hc r=>k c v ?_ r) (fun c r=>by rw[aG (nown c b r)];exact r) fun c xs r=>by rw[aG (ntup c xs r)];exact r
   rcases hc with rfl | hc
   ·exact hbe
   ·rintro rfl
    rcases he with z | z
    ·exact nown c b hc z
    ·rw[hc] at z;cases z;exact hb rfl
end
structure Un(fs ex:List Addr)(H H':Hp)(h h':Heap):Prop where
 keep:∀ b o,h.get? b=some o→H b=none→b ∉ fs→b ∉ ex→h'.get? b=some o
 slot:∀ b o,h.get? b=some o→H b=none→b∈fs→b ∉ ex→∃ sl,h'.get? b=some { o with slots:=sl }
 free:∀ b o,h.get? b=some o→H b=none→b ∉ ex→H' b=none
 there:∀ b o,h.get? b=some o→b ∉ ex→∃ o',h'.get? b=some o'
 tups:∀ b xs,H b=some (.tup xs)→H' b=some (.tup xs)
 frzs:∀ b o u,H b=some (.frz o u)→H' b=some (.frz o u)
 tbls:∀ b ps,H b=some (.tbl ps)→∃ more,H' b=some (.tbl (ps++more))
section
variable {fs fs' ex ex':List Addr}{H H1 H2:Hp}{h h1 h2 h':Heap}{a x e:Addr}{o:HO}
theorem Un.any(u:Un fs ex H H1 h h1){b:Addr}{ob:Obj}(q:h.get? b=some ob)(n:H b=none)(hx:b ∉ ex):∃ sl,h1.get? b=some { ob with slots:=sl }:=by
 by_cases hb:b∈fs
 ·exact u.slot b ob q n hb hx
 ·exact⟨ob.slots,u.keep b ob q n hb hx⟩
theorem Un.kept(k:∀ b u,h.get? b=some u→h'.get? b=some u):Un fs ex H H h h' :=
 ⟨fun b ob q _ _ _=>k b ob q,fun b ob q _ _ _=>⟨ob.slots,k b ob q⟩,fun _ _ _ n _=>n,fun b ob q _=>⟨ob,k b ob q⟩,fun _ _ q=>q,fun _ _ _ q=>q,fun _ ps q=>⟨#[],by rw[q];simp⟩⟩
theorem Un.refl:Un fs ex H H h h:=Un.kept fun _ _ q=>q
theorem Un.laid(k:∀ b u,h.get? b=some u→h'.get? b=some u)(hp:h.objs.size≤a)(hn:H a=none):Un fs ex H (upd H a o) h h' where
 keep:=fun b u q _ _ _=>k b u q
 slot:=fun b u q _ _ _=>⟨u.slots,k b u q⟩
 free:=fun b u q n _=>by rw[aG (i7 (k0 (d6 q) hp))];exact n
 there:=fun b u q _=>⟨u,k b u q⟩
 tups:=fun b xs q=>by rw[aG (aN q hn)];exact q
 frzs:=fun b u xs q=>by rw[aG (aN q hn)];exact q
 tbls:=fun b ps q=>⟨#[],by rw[aG (aN q hn),q];simp⟩
theorem Un.write(mu:BN (H x))(he:e=x∨H e=some (.own x))(k:∀ b u,b≠e→h.get? b=some u→h'.get? b=some u)(heo:∃ u,h'.get? e=some u):Un fs ex H (upd H x o) h h':=by
 have hx:∀ b,H b=none→b≠x:=fun b n z=>by subst z;rw[n] at mu;exact mu
 have hb:∀ b,H b=none→b≠e:=fun b n z=>by
  subst z
  rcases he with r | r
  ·exact hx b n r
  ·rw[n] at r;cases r
 have hm:∀ b u,H b=some u→¬ BN (some u)→b≠x:=fun b u q nm z=>by subst z;rw[q] at mu;exact nm mu
 refine⟨fun b u q n _ _=>k b u (hb b n) q,fun b u q n _ _=>⟨u.slots,k b u (hb b n) q⟩,fun b u q n _=>by rw[aG (hx b n)];exact n,fun b u q _=>?_,
  fun b xs q=>by rw[aG (hm b _ q fun z=>z)];exact q,fun b u xs q=>by rw[aG (hm b _ q fun z=>z)];exact q,fun b ps q=>⟨#[],by rw[aG (hm b _ q fun z=>z),q];simp⟩⟩
 by_cases hbe:b=e
 ·subst hbe;exact heo
 ·exact⟨u,k b u hbe q⟩
end
def Dg(h:Heap)(H:Hp):List Addr:=(List.range h.objs.size).filter fun a=>(H a).isSome
def lJ(h:Heap)(H:Hp):Heap:=PySem.W.hideAll h (Dg h H)
theorem uX(h:Heap)(H:Hp):(lJ h H).objs.size=h.objs.size:=PySem.W.hideAll_size _ _
theorem xY{h:Heap}{H:Hp}{b:Addr}{o:Obj}(e:h.get? b=some o)(n:H b=none):(lJ h H).get? b=some o :=
 PySem.W.hideAll_get _ e fun hm=>by
  have q:(H b).isSome=true:=(t5.mp hm).2
  rw[n] at q;simp at q
theorem yP{h:Heap}{H:Hp}{b:Addr}{o:Obj}(e:(lJ h H).get? b=some o):h.get? b=some o∧H b=none:=by
 have e':h.get? b=some o:=PySem.W.of_hideAll (Dg h H) e
 refine⟨e',?_⟩
 cases q:H b with
 | none=>rfl
 | some x =>
  have hm:b∈Dg h H:=t5.mpr ⟨List.mem_range.mpr (d6 e'),by simp[q]⟩
  have z:(lJ h H).get? b=none:=PySem.W.hideAll_none (Dg h H) hm
  rw[z] at e;cases e
structure Mod(K:b9)(mg:Str→Option Value)(base:Heap):Prop where
 kin:K.In base
 glob:base.Ns mainGlobals mg
 blt:∃ mb,base.Ns builtinsNs mb∧∀ x:Str,x≠"__name__"→mb x=bootBuiltins x
 nolimit:base.NoLimit
structure Cx where
 prog:Program
 w:World
 K:b9
 mg:Str→Option Value
 base:Heap
 A:Around
 N:List Str
 s₀:Shared
 H₀:Hp
 env:Env
 outer:List Env
 stack:List Env
 ex:List Addr
 fn:Str→Bool
 calm:Bool
 pn:List (Addr×Obj)
 xe:Value→Shared→Prop
def tE(l:List Env):List Addr:=l.filterMap (·.frame)
abbrev Cx.fs(X:Cx):List Addr:=tE X.outer
def BD(sc:Scope)(x:Str):Prop:=sc.names.lookup x=some .local∨sc.names.lookup x=some .cell∨sc.names.lookup x=some .free
def BO(sc:Scope)(x:Str):Prop:=sc.names.lookup x=some .local∨sc.names.lookup x=some .cell
def DM(env:Env)(h:Heap)(m:Str→Option Value)(x:Str)(u:Value):Prop :=
 (env.kindOf x=some .local∧m x=some u)∨((env.kindOf x=some .cell∨env.kindOf x=some .free)∧∃ c,env.cells.lookup x=some c∧h.IsCell c (some u))
structure Cx.Ok(X:Cx):Prop where
 mod:Mod X.K X.mg X.base
 kind:X.env.scope.kind=.function
 glob:X.env.globals=mainGlobals
 blt:X.env.builtins=builtinsNs
 above:X.s₀.heap.objs.size≤X.env.locals
 inj:∀ x y c,X.env.cells.lookup x=some c→X.env.cells.lookup y=some c→x=y
 has:∀ x,(X.env.kindOf x=some .cell∨X.env.kindOf x=some .free)→∃ c,X.env.cells.lookup x=some c
 cab:∀ x c,X.fn x=true→X.env.cells.lookup x=some c→X.s₀.heap.objs.size≤c
 hd:X.calm=true→X.A.handled=none
 frames:X.A.frames=some X.stack
 stk:X.stack=X.outer∨(X.stack=X.env::X.outer∧X.env.frame=some X.env.locals)
 exf:∀ b∈X.ex,b≠X.env.locals∧∀ x c,X.env.cells.lookup x=some c→c≠b
 bs:∀ b o,X.base.get? b=some o→X.s₀.heap.get? b=some o∧X.H₀ b=none
 bsz:X.base.objs.size≤X.s₀.heap.objs.size
 noex:∀ b o,X.base.get? b=some o→b ∉ X.ex
 exfs:∀ b∈X.ex,b ∉ X.fs
 funs:X.s₀.heap.FunFrames X.base X.outer
 frf:∀ b∈X.fs,X.H₀ b=none
structure Inv(X:Cx)(pins:List (Addr×Obj))(σ:List (Option V))(H:Hp)(s:Shared):Prop where
 ok:X.Ok
 os:s.os=X.s₀.os
 bare:AllBare s.gens
 base:Un X.fs X.ex X.H₀ H X.s₀.heap s.heap
 loc:∃ m,s.heap.Ns X.env.locals m∧∀ (i:Nat) (x:Str) (v:V),X.N[i]?=some x→σ[i]?=some (some v)→BD X.env.scope x→∃ u,RelV v u∧DM X.env s.heap m x u
 cell:∀ x c,X.env.cells.lookup x=some c→∃ v,s.heap.IsCell c v
 free:H X.env.locals=none
 freeC:∀ x c,X.env.cells.lookup x=some c→H c=none
 pin:∀ p∈X.pn++pins,s.heap.get? p.1=some p.2∧H p.1=none∧p.1≠X.env.locals∧p.1 ∉ X.fs∧∀ v,p.2.data≠.cell v
 hok:HOk X.prog X.w H s.heap
 len:σ.length=X.N.length
section
variable {X:Cx}{pins:List (Addr×Obj)}{σ:List (Option V)}{H H':Hp}{s:Shared}{h':Heap}
theorem Cx.Ok.nofr(ok:X.Ok){b:Addr}{o:Obj}(e:X.base.get? b=some o):b ∉ X.fs:=fun hb=>by
 have:=(ok.funs.mem hb).1
 rw[e] at this;cases this
theorem Inv.bs(I:Inv X pins σ H s):∀ b o,X.base.get? b=some o→s.heap.get? b=some o∧H b=none:=fun b o e =>
 ⟨I.base.keep b o (I.ok.bs b o e).1 (I.ok.bs b o e).2 (I.ok.nofr e) (I.ok.noex b o e),I.base.free b o (I.ok.bs b o e).1 (I.ok.bs b o e).2 (I.ok.noex b o e)⟩
theorem Inv.bk(I:Inv X pins σ H s):∀ b o,X.base.get? b=some o→s.heap.get? b=some o:=fun b o e=>(I.bs b o e).1
theorem Inv.mod(I:Inv X pins σ H s):Mod X.K X.mg X.base:=I.ok.mod
theorem Inv.kIn(I:Inv X pins σ H s):X.K.In s.heap:=I.ok.mod.kin.keeps I.bk
theorem Inv.lt(I:Inv X pins σ H s):X.env.locals<s.heap.objs.size:=let ⟨_,hn,_⟩:=I.loc;hn.lt
theorem Inv.sz(I:Inv X pins σ H s):X.s₀.heap.objs.size≤s.heap.objs.size:=m7 I.ok.above (aQW I.lt)
theorem Inv.nofs(I:Inv X pins σ H s){a:Addr}(h:s.heap.objs.size≤a):a ∉ X.fs:=fun hb=>by
 obtain⟨_,o,ho,_⟩:=I.ok.funs.mem hb
 exact absurd (k0 (d6 ho) (m7 I.sz h)) (r9 _)
theorem Inv.cne(I:Inv X pins σ H s):∀ x c,X.env.cells.lookup x=some c→c≠X.env.locals:=fun x c e z=>by
 obtain⟨v,o,ho,hd⟩:=I.cell x c e
 obtain⟨m,⟨o',es,ep,ho',hd',_⟩,_⟩:=I.loc
 rw[z,ho'] at ho;cases ho;rw[hd'] at hd;cases hd
theorem Inv.funs(I:Inv X pins σ H s):s.heap.FunFrames X.base X.outer:=by
 have all:∀ (l:List Env),(∀ b∈tE l,b∈X.fs)→X.s₀.heap.FunFrames X.base l→s.heap.FunFrames X.base l:=by
  intro l
  induction l with
  | nil=>intro _ _;trivial
  | cons env r ih =>
   intro hs hl
   obtain⟨hk,⟨L,o,hf,hn,ho,hd⟩,hr⟩:=hl
   have hL:L∈X.fs:=hs L (by unfold tE;rw[aQF,hf];exact j6)
   obtain⟨sl,e⟩:=I.base.slot L o ho (I.ok.frf L hL) hL fun z=>I.ok.exfs L z hL
   exact⟨hk,⟨L,_,hf,hn,e,hd⟩,ih (fun b hb=>hs b (by unfold tE;rw[aQF,hf];exact i9 _ hb)) hr⟩
 exact all X.outer (fun _ hb=>hb) I.ok.funs
theorem Inv.stack(I:Inv X pins σ H s):s.heap.FunFrames X.base X.stack:=by
 rcases I.ok.stk with e | ⟨e,hf⟩
 ·rw[e];exact I.funs
 ·rw[e]
  obtain⟨m,hn,_⟩:=I.loc
  refine .cons (by rw[I.ok.kind];decide) hf hn ?_ I.funs
  exact Heap.get?_none_of_le (m7 I.ok.bsz I.ok.above)
theorem Inv.stkSub(I:Inv X pins σ H s):∀ b∈tE X.stack,b∈X.env.locals::X.fs:=fun b hb=>by
 rcases I.ok.stk with e | ⟨e,hf⟩
 ·rw[e] at hb;exact i9 _ hb
 ·rw[e] at hb
  unfold tE at hb
  rw[aQF,hf] at hb
  exact hb
theorem Inv.stkFree(I:Inv X pins σ H s):∀ b∈tE X.stack,H b=none:=fun b hb=>by
 rcases d9.mp (I.stkSub b hb) with e | hb
 ·rw[e];exact I.free
 ·obtain⟨_,o,ho,_⟩:=I.ok.funs.mem hb
  exact I.base.free b o ho (I.ok.frf b hb) fun z=>I.ok.exfs b z hb
theorem Inv.step{g':Array GenState}{t':Nat}{d':Drawn}{ch:List Addr}(I:Inv X pins σ H s)
  (hch:∀ b∈ch,(b∈X.ex∨X.s₀.heap.objs.size≤b)∧b≠X.env.locals∧(∀ x c,X.env.cells.lookup x=some c→c≠b)∧∀ p∈X.pn++pins,p.1≠b)
  (keep:∀ b o,b≠X.env.locals→b ∉ X.fs→b ∉ ch→s.heap.get? b=some o→H b=none→h'.get? b=some o)
  (slot:∀ b o,b≠X.env.locals→b∈X.fs→b ∉ ch→s.heap.get? b=some o→H b=none→∃ sl,h'.get? b=some { o with slots:=sl }) (free:∀ b o,b ∉ ch→s.heap.get? b=some o→H b=none→H' b=none)
  (there:∀ b o,b ∉ ch→s.heap.get? b=some o→∃ o',h'.get? b=some o')
  (tups:∀ b xs,H b=some (.tup xs)→H' b=some (.tup xs)) (frzs:∀ b o u,H b=some (.frz o u)→H' b=some (.frz o u)) (tbls:∀ b ps,H b=some (.tbl ps)→∃ more,H' b=some (.tbl (ps++more)))
  (ns:∀ m,s.heap.Ns X.env.locals m→h'.Ns X.env.locals m) (hok:HOk X.prog X.w H' h') (hg:AllBare g') :
  Inv X pins σ H' { s with heap:=h',gens:=g',drawn:=d',toks:=t' }:=by
 have neL:∀ b o,X.s₀.heap.get? b=some o→b≠X.env.locals:=fun b o e=>i7 (k0 (d6 e) I.ok.above)
 have neC:∀ b o,X.s₀.heap.get? b=some o→b ∉ X.ex→b ∉ ch:=fun b o e hx hb=>by
  rcases(hch b hb).1 with z | z
  ·exact hx z
  ·exact absurd (k0 (d6 e) z) (r9 _)
 have cellK:∀ x c,X.env.cells.lookup x=some c→∀ v,s.heap.IsCell c v→h'.IsCell c v:=fun x c e v ⟨o,ho,hd⟩=>by
  have nch:c ∉ ch:=fun z=>(hch c z).2.2.1 x c e rfl
  by_cases hc:c∈X.fs
  ·obtain⟨sl,q⟩:=slot c o (I.cne x c e) hc nch ho (I.freeC x c e)
   exact⟨_,q,hd⟩
  ·exact⟨o,keep c o (I.cne x c e) hc nch ho (I.freeC x c e),hd⟩
 refine⟨I.ok,I.os,hg,⟨fun b o e n hb hx=>?_,fun b o e n hb hx=>?_,fun b o e n hx=>?_,fun b o e hx=>?_,fun b xs e=>tups b xs (I.base.tups b xs e),fun b o xs e=>frzs b o xs (I.base.frzs b o xs e),fun b ps e=>?_⟩,?_,fun x c e=>?_,?_,fun x c e=>?_,fun p hp=>?_,hok,I.len⟩
 ·exact keep b o (neL b o e) hb (neC b o e hx) (I.base.keep b o e n hb hx) (I.base.free b o e n hx)
 ·obtain⟨sl,e1⟩:=I.base.slot b o e n hb hx
  obtain⟨sl',e2⟩:=slot b _ (neL b o e) hb (neC b o e hx) e1 (I.base.free b o e n hx)
  exact⟨sl',e2⟩
 ·obtain⟨o',e1⟩:=I.base.there b o e hx
  exact free b o' (neC b o e hx) e1 (I.base.free b o e n hx)
 ·obtain⟨o',e1⟩:=I.base.there b o e hx
  exact there b o' (neC b o e hx) e1
 ·obtain⟨m1,e1⟩:=I.base.tbls b ps e
  obtain⟨m2,e2⟩:=tbls b _ e1
  exact⟨m1++m2,by rw[e2,Array.append_assoc]⟩
 ·obtain⟨m,hn,hl⟩:=I.loc
  refine⟨m,ns m hn,fun i x v e1 e2 e3=>?_⟩
  obtain⟨u,r,l⟩:=hl i x v e1 e2 e3
  refine⟨u,r,?_⟩
  rcases l with l | ⟨k,c,e,z⟩
  ·exact .inl l
  ·exact .inr ⟨k,c,e,cellK x c e _ z⟩
 ·obtain⟨v,z⟩:=I.cell x c e
  exact⟨v,cellK x c e v z⟩
 ·obtain⟨m,⟨o,_,_,ho,_⟩,_⟩:=I.loc
  exact free _ o (fun z=>(hch _ z).2.1 rfl) ho I.free
 ·obtain⟨v,o,ho,hd⟩:=I.cell x c e
  exact free c o (fun z=>(hch c z).2.2.1 x c e rfl) ho (I.freeC x c e)
 ·obtain⟨e,n,ne,nf,d⟩:=I.pin p hp
  have nch:p.1 ∉ ch:=fun z=>(hch p.1 z).2.2.2 p hp rfl
  exact⟨keep p.1 p.2 ne nf nch e n,free p.1 p.2 nch e n,ne,nf,d⟩
theorem Inv.un{t':Nat}(I:Inv X pins σ H s)(u:Un X.fs [] H H' s.heap h')(hok:HOk X.prog X.w H' h'):Inv X pins σ H' { s with heap:=h',toks:=t' }:=by
 obtain⟨m,⟨o,es,ep,ho,r⟩,_⟩:=id I.loc
 obtain⟨sl,hL⟩:=u.any ho I.free (by simp)
 exact I.step (g':=s.gens) (d':=s.drawn) (ch:=[]) (fun _ z=>nomatch z) (fun b o _ hb _ e n=>u.keep b o e n hb (by simp)) (fun b o _ hb _ e n=>u.slot b o e n hb (by simp)) (fun b o _ e n=>u.free b o e n (by simp)) (fun b o _ e=>u.there b o e (by simp)) u.tups u.frzs u.tbls (fun m' hm=>by
  obtain⟨o',es',ep',ho',r'⟩:=hm
  rw[ho] at ho';cases ho'
  exact⟨_,es',ep',hL,r'⟩) hok I.bare
theorem Inv.call{g':Array GenState}{t':Nat}{d':Drawn}{ch:List Addr}(I:Inv X pins σ H s)(u:Un (tE X.stack) ch H H' s.heap h')(hok:HOk X.prog X.w H' h')(hg:AllBare g')
  (hch:∀ b∈ch,(b∈X.ex∨X.s₀.heap.objs.size≤b)∧b≠X.env.locals∧(∀ x c,X.env.cells.lookup x=some c→c≠b)∧∀ p∈X.pn++pins,p.1≠b) :
  Inv X pins σ H' { s with heap:=h',gens:=g',drawn:=d',toks:=t' }:=by
 obtain⟨m,⟨o,es,ep,ho,r⟩,_⟩:=id I.loc
 obtain⟨sl,hL⟩:=u.any ho I.free fun z=>(hch _ z).2.1 rfl
 exact I.step (ch:=ch) hch (fun b o hL hb hc e n=>u.keep b o e n (fun z=>(d9.mp (I.stkSub b z)).elim hL hb) hc) (fun b o _ _ hc e n=>u.any e n hc) (fun b o hc e n=>u.free b o e n hc) (fun b o hc e=>u.there b o e hc) u.tups u.frzs u.tbls (fun m' hm=>by
  obtain⟨o',es',ep',ho',r'⟩:=hm
  rw[ho] at ho';cases ho'
  exact⟨_,es',ep',hL,r'⟩) hok hg
theorem Inv.turned{t':Nat}{it:Addr}(I:Inv X pins σ H s)(k:∀ b o,b≠it→s.heap.get? b=some o→h'.get? b=some o)(hn:H it=none)(hL:it≠X.env.locals)
  (h1:it∈X.ex∨X.s₀.heap.objs.size≤it) (h2:∀ x c,X.env.cells.lookup x=some c→c≠it) (h3:∀ p∈X.pn++pins,p.1≠it):Inv X pins σ H { s with heap:=h',toks:=t' }:=by
 have nit:∀ b u,H b=some u→b≠it:=fun b u e z=>by rw[z,hn] at e;cases e
 refine I.step (g':=s.gens) (d':=s.drawn) (ch:=[it]) (fun b hb=>?_) (fun b o _ _ hc e _=>k b o (fun z=>hc (by simp[z])) e) (fun b o _ _ hc e _=>⟨o.slots,k b o (fun z=>hc (by simp[z])) e⟩) (fun _ _ _ _ n=>n)
  (fun b o hc e=>⟨o,k b o (fun z=>hc (by simp[z])) e⟩) (fun _ _ e=>e) (fun _ _ _ e=>e) (fun b ps e=>⟨#[],by rw[e];simp⟩) (fun m hm=>?_) (fun b u e=>?_) I.bare
 ·have e:b=it:=by simpa using hb
  subst e
  exact⟨h1,hL,h2,h3⟩
 ·obtain⟨o,es,ep,ho,r⟩:=hm
  exact⟨o,es,ep,k _ o (aQM hL) ho,r⟩
 ·refine(I.hok b u e).stay (fun c v hc q=>k c v ?_ q) (fun _ q=>q) fun _ _ q=>q
  rcases hc with z | z
  ·rw[z];exact nit b u e
  ·exact nit c _ z
theorem Inv.tok(I:Inv X pins σ H s)(t:Nat):Inv X pins σ H { s with toks:=t }:=I.un (h':=s.heap) (t':=t) Un.refl I.hok
theorem Inv.kept{t':Nat}(I:Inv X pins σ H s)(k:∀ b u,s.heap.get? b=some u→h'.get? b=some u):Inv X pins σ H { s with heap:=h',toks:=t' }:=I.un (Un.kept k) (I.hok.kept k)
theorem Inv.laid{a:Addr}{o:HO}{t':Nat}(I:Inv X pins σ H s)(k:∀ b u,s.heap.get? b=some u→h'.get? b=some u)(hp:s.heap.objs.size≤a)(new:ObjOk X.prog X.w (upd H a o) h' a o) :
  Inv X pins σ (upd H a o) { s with heap:=h',toks:=t' }:=I.un (Un.laid k hp (I.hok.fresh hp)) (I.hok.laid k hp new)
theorem Inv.write{x e:Addr}{o:HO}{t':Nat}(I:Inv X pins σ H s)(mu:BN (H x))(he:e=x∨H e=some (.own x))(k:∀ b u,b≠e→s.heap.get? b=some u→h'.get? b=some u)(heo:∃ u,h'.get? e=some u)
  (new:ObjOk X.prog X.w (upd H x o) h' x o):Inv X pins σ (upd H x o) { s with heap:=h',toks:=t' }:=I.un (Un.write mu he k heo) (I.hok.write mu he k heo new)
theorem Inv.pins_of{pins':List (Addr×Obj)}(I:Inv X pins σ H s)(h:∀ p∈pins',s.heap.get? p.1=some p.2∧H p.1=none∧p.1≠X.env.locals∧p.1 ∉ X.fs∧∀ v,p.2.data≠.cell v):Inv X pins' σ H s :=
 ⟨I.ok,I.os,I.bare,I.base,I.loc,I.cell,I.free,I.freeC,fun p hp=>(j8.mp hp).elim (fun z=>I.pin p (n9 _ z)) (h p),I.hok,I.len⟩
theorem oV{N:List Str}(hN:N.Nodup){i j:Nat}{x:Str}(a:N[i]?=some x)(b:N[j]?=some x):i=j:=by
 obtain⟨h1,e1⟩:=c5.mp a
 obtain⟨h2,e2⟩:=c5.mp b
 exact(List.getElem_inj hN).mp (e1.trans e2.symm)
theorem lR{M:Model}{A:Around}{E:Value→Shared→Prop}{i:Nat}{x:Str}{v:V}{u:Value}{Q:Unit→Shared→Prop}(I:Inv X pins σ H s)(hN:X.N.Nodup)(hi:X.N[i]?=some x)(hx:BO X.env.scope x)(r:RelV v u)
  (h:∀ s',Inv X pins (σ.set i (some v)) H s'→(∃ a,Heap.SameBut a s.heap s'.heap∧(a=X.env.locals∨X.env.cells.lookup x=some a))→Q () s') (hf:X.fn x=true∨X.env.scope.names.lookup x=some .local:=by first | exact .inl rfl | exact .inr rfl | assumption):wpAny M A (storeName X.env x u) Q E s:=by
 obtain⟨m,hn,hl⟩:=id I.loc
 have hcls:(X.env.scope.kind == .class || (X.env.scope.kind == .module && X.env.locals != X.env.globals))=false:=by rw[I.ok.kind];rfl
 have hiσ:i<σ.length:=by rw[I.len];exact(c5.mp hi).1
 have cne:=I.cne
 have tracked:∀ {a:Addr} {h':Heap},(∃ o,s.heap.get? a=some o∧H a=none)→Heap.SameBut a s.heap h'→HOk X.prog X.w H h':=fun {a h'} ha hs b ob e=>by
  obtain⟨_,_,hfree⟩:=ha
  refine(I.hok b ob e).stay (fun c w' hc q=>(hs.2 c ?_).trans q) (fun _ q=>q) fun _ _ q=>q
  rintro rfl
  rcases hc with rfl | hc
  ·rw[hfree] at e;cases e
  ·rw[hfree] at hc;cases hc
 rcases hx with hk | hk
 ·refine wpAny_storeName_local hk hn (fun h' hn' hs=>?_) hcls
  obtain⟨oL,_,_,hoL,_⟩:=id hn
  refine h _ ⟨I.ok,I.os,I.bare,⟨fun b o e n hb hx=>?_,fun b o e n hb hx=>?_,I.base.free,fun b o e hx=>?_,I.base.tups,I.base.frzs,I.base.tbls⟩,⟨_,hn',fun j y v' e1 e2 e3=>?_⟩,fun y c e=>?_,I.free,I.freeC,fun p hp=>?_,tracked ⟨oL,hoL,I.free⟩ hs,by simpa using I.len⟩ ⟨_,hs,.inl rfl⟩
  ·exact(hs.2 b (i7 (k0 (d6 e) I.ok.above))).trans (I.base.keep b o e n hb hx)
  ·obtain⟨sl,e1⟩:=I.base.slot b o e n hb hx
   exact⟨sl,(hs.2 b (i7 (k0 (d6 e) I.ok.above))).trans e1⟩
  ·obtain⟨o',e1⟩:=I.base.there b o e hx
   exact⟨o',(hs.2 b (i7 (k0 (d6 e) I.ok.above))).trans e1⟩
  ·by_cases hj:j=i
   ·subst hj
    rw[hi] at e1;cases e1
    rw[aXS hiσ] at e2
    cases e2
    exact⟨u,r,.inl ⟨hk,by simp⟩⟩
   ·rw[aXY (aQM hj)] at e2
    obtain⟨u',r',q⟩:=hl j y v' e1 e2 e3
    refine⟨u',r',?_⟩
    rcases q with ⟨k,e⟩ | ⟨k,c,e,z⟩
    ·refine .inl ⟨k,?_⟩
     have:y≠x:=fun e=>hj (oV hN e1 (e ▸ hi))
     simp[this,e]
    ·exact .inr ⟨k,c,e,z.sameBut hs (cne y c e)⟩
  ·obtain⟨w',z⟩:=I.cell y c e
   exact⟨w',z.sameBut hs (cne y c e)⟩
  ·obtain⟨e,n,ne,nf,d⟩:=I.pin p hp
   exact⟨(hs.2 p.1 ne).trans e,n,ne,nf,d⟩
 ·have hfn:X.fn x=true:=by
   rcases hf with z | z
   ·exact z
   ·rw[z] at hk;cases hk
  obtain⟨c,hc⟩:=I.ok.has x (.inl hk)
  obtain⟨w',z⟩:=I.cell x c hc
  refine wpAny_storeName_cell I.ok.kind hk hc z (fun h' hc' hs=>?_)
  obtain⟨oc,hoc,hocd⟩:=id z
  refine h { s with heap:=h' } ⟨I.ok,I.os,I.bare,⟨fun b o e n hb hx=>?_,fun b o e n hb hx=>?_,I.base.free,fun b o e hx=>?_,I.base.tups,I.base.frzs,I.base.tbls⟩,⟨m,hn.sameBut hs (aQM (cne x c hc)),fun j y v' e1 e2 e3=>?_⟩,fun y c' e=>?_,I.free,I.freeC,fun p hp=>?_,tracked ⟨oc,hoc,I.freeC x c hc⟩ hs,by simpa using I.len⟩ ⟨c,hs,.inr hc⟩
  ·exact(hs.2 b (i7 (k0 (d6 e) (I.ok.cab x c hfn hc)))).trans (I.base.keep b o e n hb hx)
  ·obtain⟨sl,e1⟩:=I.base.slot b o e n hb hx
   exact⟨sl,(hs.2 b (i7 (k0 (d6 e) (I.ok.cab x c hfn hc)))).trans e1⟩
  ·obtain⟨o',e1⟩:=I.base.there b o e hx
   exact⟨o',(hs.2 b (i7 (k0 (d6 e) (I.ok.cab x c hfn hc)))).trans e1⟩
  ·by_cases hj:j=i
   ·subst hj
    rw[hi] at e1;cases e1
    rw[aXS hiσ] at e2
    cases e2
    exact⟨u,r,.inr ⟨.inl hk,c,hc,hc'⟩⟩
   ·rw[aXY (aQM hj)] at e2
    obtain⟨u',r',q⟩:=hl j y v' e1 e2 e3
    refine⟨u',r',?_⟩
    rcases q with q | ⟨k,c',e,z'⟩
    ·exact .inl q
    ·refine .inr ⟨k,c',e,z'.sameBut hs ?_⟩
     rintro rfl
     exact hj (oV hN e1 (I.ok.inj _ _ _ e hc ▸ hi))
  ·by_cases hcc:c'=c
   ·subst hcc;exact⟨_,hc'⟩
   ·obtain⟨w2,z2⟩:=I.cell y c' e
    exact⟨w2,z2.sameBut hs hcc⟩
  ·obtain⟨e,n,ne,nf,d⟩:=I.pin p hp
   refine⟨(hs.2 p.1 ?_).trans e,n,ne,nf,d⟩
   intro q
   rw[q,hoc] at e
   have q':oc=p.2:=j7 e
   exact d w' (by rw[← q'];exact hocd)
theorem eM{M:Model}{A:Around}{E:Value→Shared→Prop}{i:Nat}{x:Str}{v:V}{u:Value}{Q:Unit→Shared→Prop}(I:Inv X pins σ H s)(hN:X.N.Nodup)(hi:X.N[i]?=some x)(hx:BO X.env.scope x)(r:RelV v u)
  (h:∀ s',Inv X pins (σ.set i (some v)) H s'→Q () s') (hf:X.fn x=true∨X.env.scope.names.lookup x=some .local:=by first | exact .inl rfl | exact .inr rfl | assumption):wpAny M A (storeName X.env x u) Q E s :=
 lR I hN hi hx r (fun s' I' _=>h s' I') hf
theorem Inv.call'{s':Shared}{ch:List Addr}(I:Inv X pins σ H s)(ho:s'.os=s.os)(u:Un (tE X.stack) ch H H' s.heap s'.heap)(hok:HOk X.prog X.w H' s'.heap)(hg:AllBare s'.gens)
  (hch:∀ b∈ch,(b∈X.ex∨X.s₀.heap.objs.size≤b)∧b≠X.env.locals∧(∀ x c,X.env.cells.lookup x=some c→c≠b)∧∀ p∈X.pn++pins,p.1≠b):Inv X pins σ H' s':=by
 obtain⟨h',g',d',t',o'⟩:=s'
 have e:o'=s.os:=ho
 subst e
 exact I.call (g':=g') (t':=t') (d':=d') u hok hg hch
end
abbrev XK:=Value→Option Addr→Hp→Prop
abbrev St:=List (Option V)
abbrev VK:=V→Hp→Prop
abbrev TE:=St→Hp→VK→Prop
abbrev TT:=St→Hp→(Bool→Hp→Prop)→Prop
abbrev TA:=St→Hp→(List V→Hp→Prop)→Prop
structure Ends where
 nx:St→Hp→Prop
 rt:VK
 bk:St→Hp→Prop:=fun _ _=>False
 ct:St→Hp→Prop:=fun _ _=>False
abbrev TS:=Ends→St→Hp→Prop
def EP(X:Cx)(pins:List (Addr×Obj))(σ:St)(Q:VK)(u:Value)(s':Shared):Prop:=∃ v H',Inv X pins σ H' s'∧RelV v u∧Q v H'
def TP(X:Cx)(pins:List (Addr×Obj))(σ:St)(Q:Bool→Hp→Prop)(b:Bool)(s':Shared):Prop:=∃ H',Inv X pins σ H' s'∧Q b H'
def AP(X:Cx)(pins:List (Addr×Obj))(σ:St)(Q:List V→Hp→Prop)(us:List Value)(s':Shared):Prop:=∃ vs H',Inv X pins σ H' s'∧Vals vs us∧Q vs H'
def SP(X:Cx)(pins:List (Addr×Obj))(D:Ends)(f:Flow)(s':Shared):Prop :=
 match f with
 | .next=>∃ σ' H',Inv X pins σ' H' s'∧D.nx σ' H'
 | .brk=>∃ σ' H',Inv X pins σ' H' s'∧D.bk σ' H'
 | .cont=>∃ σ' H',Inv X pins σ' H' s'∧D.ct σ' H'
 | .ret u=>∃ v σ' H',Inv X pins σ' H' s'∧RelV v u∧D.rt v H'
def PE(X:Cx)(e:Expr)(t:TE):Prop :=
 ∀ (pins:List (Addr×Obj)) (s:Shared) (σ:St) (H:Hp) (Q:VK),Inv X pins σ H s→t σ H Q→wpAny (model X.prog X.w) X.A (eval e X.env) (EP X pins σ Q) X.xe s
def PT(X:Cx)(e:Expr)(t:TT):Prop :=
 ∀ (pins:List (Addr×Obj)) (s:Shared) (σ:St) (H:Hp) (Q:Bool→Hp→Prop),Inv X pins σ H s→t σ H Q→wpAny (model X.prog X.w) X.A (isTrue e X.env (eval e X.env)) (TP X pins σ Q) X.xe s
def PW(X:Cx)(e:Expr)(t:TT):Prop :=
 ∀ (whole:Sem Value) (pins:List (Addr×Obj)) (s:Shared) (σ:St) (H:Hp) (Q:Bool→Hp→Prop),Inv X pins σ H s→t σ H Q→wpAny (model X.prog X.w) X.A (isTrue e X.env whole) (TP X pins σ Q) X.xe s
theorem PW.pt{X:Cx}{e:Expr}{t:TT}(h:PW X e t):PT X e t:=h _
def PA(X:Cx)(es:List Expr)(t:TA):Prop :=
 ∀ (pos:Pos) (pins:List (Addr×Obj)) (s:Shared) (σ:St) (H:Hp) (Q:List V→Hp→Prop),Inv X pins σ H s→t σ H Q→wpAny (model X.prog X.w) X.A (spliced (backTo pos (starEach es X.env))) (AP X pins σ Q) X.xe s
def PS(X:Cx)(st:Stmt)(t:TS):Prop :=
 ∀ (pins:List (Addr×Obj)) (s:Shared) (σ:St) (H:Hp) (D:Ends),Inv X pins σ H s→t D σ H→wpAny (model X.prog X.w) X.A (exec st X.env) (SP X pins D) X.xe s
def PSs(X:Cx)(st:List Stmt)(t:TS):Prop :=
 ∀ (pins:List (Addr×Obj)) (s:Shared) (σ:St) (H:Hp) (D:Ends),Inv X pins σ H s→t D σ H→wpAny (model X.prog X.w) X.A (execs st X.env) (SP X pins D) X.xe s
theorem bP{α:Type}{t:Sem α}{Q Q':α→Shared→Prop}{M:Model}{A:Around}{E:Value→Shared→Prop}{s:Shared}(h:wpAny M A t Q E s)(hQ:∀ a s,Q a s→Q' a s):wpAny M A t Q' E s:=wpAny_mono h hQ fun _ _ x=>x
section
variable {X:Cx}
theorem D8{a b:Expr}{ta tb:TE}(ha:PE X a ta)(hb:PE X b tb){pins:List (Addr×Obj)}{s:Shared}{σ:St}{H:Hp}{R:V→V→Hp→Prop}(I:Inv X pins σ H s)(h:ta σ H fun x H1=>tb σ H1 fun y H2=>R x y H2)
  {α:Type} {Q:α→Shared→Prop} {f:Value→Value→Sem α}
  (hf:∀ v u s2 x y H2,Inv X pins σ H2 s2→RelV x v→RelV y u→R x y H2→wpAny (model X.prog X.w) X.A (f v u) Q X.xe s2) :
  wpAny (model X.prog X.w) X.A (eval a X.env) (fun v s₁=>wpAny (model X.prog X.w) X.A (eval b X.env) (fun u s₂=>wpAny (model X.prog X.w) X.A (f v u) Q X.xe s₂) X.xe s₁) X.xe s:=by
 refine bP (ha pins s σ H _ I h) fun v s1 ⟨x,H1,I1,r1,q1⟩=>?_
 refine bP (hb pins s1 σ H1 _ I1 q1) fun u s2 ⟨y,H2,I2,r2,q2⟩=>?_
 exact hf v u s2 x y H2 I2 r1 r2 q2
inductive tVarI(i:Nat)(σ:St)(H:Hp)(Q:VK):Prop
 | mk (v:_) (_:σ[i]?=some (some v)) (_:Q v H):tVarI i σ H Q
def C6(i:Nat):TE:=fun σ H Q=>tVarI i σ H Q
def tC(v:V):TE:=fun _ H Q=>Q v H
theorem AQ{i:Nat}{x:Str}{pos:Pos}(hN:X.N[i]?=some x)(hv:BD X.env.scope x)(hd:(x == ("__debug__":Str))=false:=by decide)(hcd:(x == ("__classdict__":Str))=false:=by decide):PE X (.Name x pos) (C6 i):=by
 intro pins s σ H Q I h
 obtain⟨v,e,h⟩:=h
 obtain⟨m,hn,hl⟩:=I.loc
 obtain⟨u,r,l⟩:=hl i x v hN e hv
 have fin:EP X pins σ Q u s:=⟨v,H,I,r,h⟩
 rcases l with ⟨hk,hm⟩ | ⟨hk,c,hc,hcell⟩
 ·exact wpAny_Name (wpAny_loadName_local I.ok.kind hk hn hm fin) hd
 ·rcases hk with hk | hk
  ·exact wpAny_Name (wpAny_loadName_cell I.ok.kind hk hc hcell fin) hd
  ·exact wpAny_Name (wpAny_loadName_free I.ok.kind hk hc hcell fin hcd) hd
theorem aI{i j pos}:PE X (.Constant (.int i) j pos) (tC (.int i)):=fun _ _ _ H _ I h=>wpAny_Constant_int ⟨.int i,H,I.tok _,⟨_,rfl⟩,h⟩
theorem mL{b j pos}:PE X (.Constant (.bool b) j pos) (tC (.bl b)):=fun _ _ _ H _ I h=>Constant_bool ⟨.bl b,H,I,rfl,h⟩
theorem cH{x j pos}:PE X (.Constant (.str x) j pos) (tC (.str x)):=fun _ _ _ H _ I h=>Calls.Constant_str ⟨.str x,H,I.tok _,⟨_,rfl⟩,h⟩
def Gl(X:Cx)(x:Str):Prop:=X.env.kindOf x=some .globalImplicit
theorem jM{E:Value→Shared→Prop}{pins:List (Addr×Obj)}{s:Shared}{σ:St}{H:Hp}{x:Str}{u:Value}{pos:Pos}{Q:Value→Shared→Prop}(I:Inv X pins σ H s)(hg:Gl X x)(hm:X.mg x=some u)(h:Q u s)
  (hd:(x == ("__debug__":Str))=false:=by decide):wpAny (model X.prog X.w) X.A (eval (.Name x pos) X.env) Q E s :=
 aXD I.ok.kind hg (Calls.loadGlobal_global (by rw[I.ok.glob];exact I.mod.glob.keeps I.bk) hm h) hd
theorem eX{E:Value→Shared→Prop}{pins:List (Addr×Obj)}{s:Shared}{σ:St}{H:Hp}{x:Str}{u:Value}{pos:Pos}{Q:Value→Shared→Prop}(I:Inv X pins σ H s)(hg:Gl X x)(hm:X.mg x=none)(hv:bootBuiltins x=some u)(h:Q u s)
  (hn:x≠"__name__":=by decide) (hd:(x == ("__debug__":Str))=false:=by decide):wpAny (model X.prog X.w) X.A (eval (.Name x pos) X.env) Q E s:=by
 obtain⟨mb,h1,h2⟩:=I.mod.blt
 exact aXD I.ok.kind hg (Calls.loadGlobal_builtin (by rw[I.ok.glob];exact I.mod.glob.keeps I.bk) hm (by rw[I.ok.blt];exact h1.keeps I.bk) ((h2 x hn).trans hv) h) hd
theorem jK{x:Str}{v:V}{u:Value}{pos:Pos}(hg:Gl X x)(hm:X.mg x=some u)(r:RelV v u)(hd:(x == ("__debug__":Str))=false:=by decide):PE X (.Name x pos) (tC v) :=
 fun _ _ _ H _ I h=>jM I hg hm ⟨v,H,I,r,h⟩ hd
theorem yT{x:Str}{v:V}{u:Value}{pos:Pos}(hg:Gl X x)(hm:X.mg x=none)(hv:bootBuiltins x=some u)(r:RelV v u)(hn:x≠"__name__":=by decide)(hd:(x == ("__debug__":Str))=false:=by decide):PE X (.Name x pos) (tC v) :=
 fun _ _ _ H _ I h=>eX I hg hm hv ⟨v,H,I,r,h⟩ hn hd
variable {a b:Expr}{ta tb:TE}{pos:Pos}
def PC(X:Cx)(op:CmpOp)(a b:Expr)(t:TE):Prop :=
 ∀ (pins:List (Addr×Obj)) (s:Shared) (σ:St) (H:Hp) (Q:VK),Inv X pins σ H s→t σ H Q →
  wpAny (model X.prog X.w) X.A (eval a X.env) (fun v s₁=>wpAny (model X.prog X.w) X.A (eval b X.env) (fun u s₂=>wpAny (model X.prog X.w) X.A (compareOp op v u) (EP X pins σ Q) X.xe s₂) X.xe s₁) X.xe s
inductive tBI(Q:Bool→Hp→Prop)(x:V)(H1:Hp):Prop
 | mk (c:_) (_:x=.bl c) (_:Q c H1):tBI Q x H1
def tB(t:TE):TT:=fun σ H Q=>t σ H fun x H1=>tBI Q x H1
theorem Dz{op:CmpOp}{t:TE}(h:PC X op a b t)(h1:behindInMarks op b=false:=by first | exact nobehind _ (by decide) (by decide) | rfl):PT X (.Compare a [op] [b] pos) (tB t):=by
 intro pins s σ H Q I hw
 refine wpAny_isTrue_Compare1 (bP (h pins s σ H _ I hw) fun v s1 h1=>bP h1 fun u s2 h2=>bP h2 fun c s3 ⟨x,H1,I1,r1,q1⟩=>?_) h1
 obtain⟨d,rfl,q⟩:=q1
 cases r1
 exact wpAny_truthy_bool ⟨H1,I1,q⟩
theorem qV{e:Expr}{t:TE}(h:PE X e t)(he:∀ whole,isTrue e X.env whole=(do let v ← whole;standAt e.pos;holding [v] (truthy v)):=by intro _;rfl):PT X e (tB t):=by
 intro pins s σ H Q I hw
 refine isTrue_plain (bP (h pins s σ H _ I hw) fun v s1 ⟨x,H1,I1,r1,q1⟩=>?_) (he _)
 obtain⟨d,rfl,q⟩:=q1
 cases r1
 exact wpAny_truthy_bool ⟨H1,I1,q⟩
variable {tA tB':TT}{rest:List Expr}
def DE(t u:TT):TT:=fun σ H Q=>t σ H fun c H1=>if c=true then u σ H1 Q else Q false H1
def D1(t u:TT):TT:=fun σ H Q=>t σ H fun c H1=>if c=true then Q true H1 else u σ H1 Q
def DN(t:TT):TT:=fun σ H Q=>t σ H fun c H1=>Q (!c) H1
theorem pw_and1(ha:PT X a tA):PW X (.BoolOp .And [a] pos) tA:=by
 intro wh pins s σ H Q I h
 refine isTrue_and (bP (ha pins s σ H Q I h) fun c s1 e=>?_)
 cases c with
 | true=>exact isTrue_and_nil e
 | false=>exact e
theorem pw_or1(ha:PT X a tA):PW X (.BoolOp .Or [a] pos) tA:=by
 intro wh pins s σ H Q I h
 refine isTrue_or (bP (ha pins s σ H Q I h) fun c s1 e=>?_)
 cases c with
 | false=>exact isTrue_or_nil e
 | true=>exact e
theorem pw_and(ha:PT X a tA)(hb:PW X (.BoolOp .And (b::rest) pos) tB'):PW X (.BoolOp .And (a::b::rest) pos) (DE tA tB'):=by
 intro wh pins s σ H Q I h
 refine isTrue_and (bP (ha pins s σ H _ I h) fun c s1 ⟨H1,I1,q1⟩=>?_)
 cases c with
 | true=>exact hb wh pins s1 σ H1 Q I1 q1
 | false=>exact⟨H1,I1,q1⟩
theorem pw_or(ha:PT X a tA)(hb:PW X (.BoolOp .Or (b::rest) pos) tB'):PW X (.BoolOp .Or (a::b::rest) pos) (D1 tA tB'):=by
 intro wh pins s σ H Q I h
 refine isTrue_or (bP (ha pins s σ H _ I h) fun c s1 ⟨H1,I1,q1⟩=>?_)
 cases c with
 | true=>exact⟨H1,I1,q1⟩
 | false=>exact hb wh pins s1 σ H1 Q I1 q1
theorem AS(ha:PT X a tA):PT X (.UnaryOp .Not a pos) (DN tA):=by
 intro pins s σ H Q I h
 exact isTrue_not (ha pins s σ H (fun c H1=>Q (!c) H1) I h)
end
def SqL(K:b9)(H:Hp)(a:Addr)(xs:List V):Prop :=
 Rd H a (.lst xs) ∨
  ∃ (o:Obj) (its:Array Value) (n:Nat),K.lookup a=some o∧o.cls=.type "list"∧o.dict=none∧o.data=.seq its n∧its.size≤sizeLine∧Vals xs its.toList
def SqT(K:b9)(H:Hp)(a:Addr)(xs:List V):Prop :=
 Rd H a (.tup xs) ∨
  ∃ (o:Obj) (its:Array Value) (n:Nat),K.lookup a=some o∧o.cls=.type "tuple"∧o.data=.seq its n∧its.size≤sizeLine∧Vals xs its.toList
def Dq:Value→Option V
 | .none=>some .non
 | .bool b=>some (.bl b)
 | .int i _=>some (.int i)
 | .str x _=>some (.str x)
 | .bytes b _=>some (.byt b)
 | .float b _=>some (.flt b)
 | .ref a=>some (.ref a)
 | .type n=>some (.ty n)
 | _=>none
theorem RelV.abs{x:V}{u:Value}(r:RelV x u):Dq u=some x:=by
 cases x with
 | non=>cases r;rfl
 | bl _=>cases r;rfl
 | int _=>obtain⟨t,rfl⟩:=r;rfl
 | str _=>obtain⟨t,rfl⟩:=r;rfl
 | byt _=>obtain⟨t,rfl⟩:=r;rfl
 | flt _=>obtain⟨t,rfl⟩:=r;rfl
 | ref _=>cases r;rfl
 | ty _=>cases r;rfl
theorem RelV.inj{x y:V}{u:Value}(r:RelV x u)(q:RelV y u):x=y:=j7 (r.abs.symm.trans q.abs)
theorem Vals.inj:∀ {xs ys:List V} {us:List Value},Vals xs us→Vals ys us→xs=ys
 | _,_,_,.nil,.nil=>rfl
 | _,_,_,.cons r t,.cons r' t'=>by rw[r.inj r',Vals.inj t t']
section
variable {X:Cx}{pins:List (Addr×Obj)}{σ:St}{H:Hp}{s:Shared}{a:Addr}{xs ys:List V}
theorem SqL.of{K:b9}(h:H a=some (.lst xs)):SqL K H a xs:=.inl (.inl h)
theorem SqT.of{K:b9}(h:H a=some (.tup xs)):SqT K H a xs:=.inl (.inl h)
theorem Inv.list(I:Inv X pins σ H s)(h:SqL X.K H a xs):∃ its:List Value,Vals xs its∧PlainL s.heap a its.toArray∧xs.length≤sizeLine:=by
 rcases h with h | ⟨o,its,n,hk,hc,hd,hs,hz,r⟩
 ·obtain⟨z,its,n,r,e⟩:=h.ok I.hok
  exact⟨its,r,⟨_,n,e,rfl,rfl,rfl⟩,z⟩
 ·refine⟨its.toList,r,⟨o,n,I.kIn a o hk,hc,hd,by simpa using hs⟩,?_⟩
  have e:=r.length
  simp only [aQG] at e
  omega
theorem Inv.tuple(I:Inv X pins σ H s)(h:SqT X.K H a xs):∃ its:List Value,Vals xs its∧IsTup s.heap a its.toArray∧xs.length≤sizeLine:=by
 rcases h with h | ⟨o,its,n,hk,hc,hs,hz,r⟩
 ·obtain⟨z,its,r,p,_⟩:=h.ok I.hok
  exact⟨its,r,p,z⟩
 ·refine⟨its.toList,r,⟨o,I.kIn a o hk,hc,n,by simpa using hs⟩,?_⟩
  have e:=r.length
  simp only [aQG] at e
  omega
theorem Inv.list_inj(I:Inv X pins σ H s)(h:SqL X.K H a xs)(h':SqL X.K H a ys):xs=ys:=by
 obtain⟨its,r,⟨o,n,e,_,_,d⟩,_⟩:=I.list h
 obtain⟨its',r',⟨o',n',e',_,_,d'⟩,_⟩:=I.list h'
 rw[e] at e';cases e'
 rw[d] at d'
 injection d' with d1 _
 have:its=its':=by simpa using congrArg Array.toList d1
 subst this
 exact r.inj r'
theorem Inv.tuple_inj(I:Inv X pins σ H s)(h:SqT X.K H a xs)(h':SqT X.K H a ys):xs=ys:=by
 obtain⟨its,r,⟨o,e,_,n,d⟩,_⟩:=I.tuple h
 obtain⟨its',r',⟨o',e',_,n',d'⟩,_⟩:=I.tuple h'
 rw[e] at e';cases e'
 rw[d] at d'
 injection d' with d1 _
 have:its=its':=by simpa using congrArg Array.toList d1
 subst this
 exact r.inj r'
end
abbrev Cx.wish(X:Cx)(E:Value→Shared→Prop):Cx:={ X with xe:=E }
abbrev Cx.nox(X:Cx):Cx:=X.wish fun _ _=>False
theorem Cx.Ok.wish{X:Cx}(ok:X.Ok)(E:Value→Shared→Prop):(X.wish E).Ok :=
 ⟨ok.mod,ok.kind,ok.glob,ok.blt,ok.above,ok.inj,ok.has,ok.cab,ok.hd,ok.frames,ok.stk,ok.exf,ok.bs,ok.bsz,ok.noex,ok.exfs,ok.funs,ok.frf⟩
theorem Cx.Ok.unwish{X:Cx}{E:Value→Shared→Prop}(ok:(X.wish E).Ok):X.Ok :=
 ⟨ok.mod,ok.kind,ok.glob,ok.blt,ok.above,ok.inj,ok.has,ok.cab,ok.hd,ok.frames,ok.stk,ok.exf,ok.bs,ok.bsz,ok.noex,ok.exfs,ok.funs,ok.frf⟩
section
variable {X:Cx}{pins:List (Addr×Obj)}{σ:St}{H:Hp}{s:Shared}{E:Value→Shared→Prop}
theorem Inv.wish(I:Inv X pins σ H s)(E:Value→Shared→Prop):Inv (X.wish E) pins σ H s:=⟨I.ok.wish E,I.os,I.bare,I.base,I.loc,I.cell,I.free,I.freeC,I.pin,I.hok,I.len⟩
theorem Inv.unwish(I:Inv (X.wish E) pins σ H s):Inv X pins σ H s:=⟨I.ok.unwish,I.os,I.bare,I.base,I.loc,I.cell,I.free,I.freeC,I.pin,I.hok,I.len⟩
theorem SP.unwish{D:Ends}{f:Flow}{s':Shared}(h:SP (X.wish E) pins D f s'):SP X pins D f s':=by
 cases f with
 | next=>obtain⟨σ',H',I,q⟩:=h;exact⟨σ',H',I.unwish,q⟩
 | brk=>obtain⟨σ',H',I,q⟩:=h;exact⟨σ',H',I.unwish,q⟩
 | cont=>obtain⟨σ',H',I,q⟩:=h;exact⟨σ',H',I.unwish,q⟩
 | ret u=>obtain⟨v,σ',H',I,r,q⟩:=h;exact⟨v,σ',H',I.unwish,r,q⟩
theorem PSs.nox{st:List Stmt}{t:TS}(h:PSs X.nox st t):PSs X st t:=fun pins s σ H D I hw =>
 wpAny_mono (h pins s σ H D (I.wish _) hw) (fun _ _ q=>q.unwish) fun _ _ z=>False.elim z
end
section
variable {X:Cx}{st:Stmt}{rest:List Stmt}{t u:TS}{e:Expr}{te:TE}{pos:Pos}
def Cz:TS:=fun D σ H=>D.nx σ H
def BS(t u:TS):TS:=fun D σ H=>t { D with nx:=u D } σ H
theorem cS:PSs X [] Cz:=fun _ _ σ H _ I h=>wpAny_execs_nil ⟨σ,H,I,h⟩
theorem aD(h1:PS X st t)(h2:PSs X rest u):PSs X (st::rest) (BS t u):=by
 intro pins s σ H D I h
 refine wpAny_execs_cons (bP (h1 pins s σ H { D with nx:=u D } I h) fun f s1 q=>?_)
 cases f with
 | next =>
  obtain⟨σ',H',I',q⟩:=q
  exact h2 pins s1 σ' H' D I' q
 | ret v=>exact q
 | brk=>exact q
 | cont=>exact q
theorem aH(h1:PS X st t):PSs X [st] t:=by
 intro pins s σ H D I h
 refine wpAny_execs_cons (bP (h1 pins s σ H D I h) fun f s1 q=>?_)
 cases f with
 | next=>exact wpAny_execs_nil q
 | ret v=>exact q
 | brk=>exact q
 | cont=>exact q
def Cw:TS:=fun D σ H=>D.ct σ H
theorem pY:PS X (.Continue pos) Cw:=fun _ _ σ H _ I h=>wpAny_Continue ⟨σ,H,I,h⟩
theorem Inv.quiet{pins:List (Addr×Obj)}{σ:St}{H:Hp}{s:Shared}(I:Inv X pins σ H s):interactive X.env=false:=by simp[interactive,I.ok.kind]
def BX(te:TE):TS:=fun D σ H=>te σ H fun _ H1=>D.nx σ H1
theorem gG(he:PE X e te)(hs:swapsWith e none pos.line X.env=pure false:=by rfl):PS X (.Expr e pos) (BX te):=by
 intro pins s σ H D I h
 exact wpAny_Expr_any (bP (he pins s σ H _ I h) fun v s1 ⟨x,H1,I1,r1,q1⟩=>⟨σ,H1,I1,q1⟩) I.quiet hs
def DA(te:TE):TS:=fun D σ H=>te σ H D.rt
theorem aV(he:PE X e te):PS X (.Return (some e) pos) (DA te):=by
 intro pins s σ H D I h
 exact wpAny_Return_some (bP (he pins s σ H _ I h) fun v s1 ⟨x,H1,I1,r1,q1⟩=>⟨x,σ,H1,I1,r1,q1⟩)
def Ds(c:TT)(t u:TS):TS:=fun D σ H=>c σ H fun b H1=>if b=true then t D σ H1 else u D σ H1
theorem dR{c:Expr}{a b:List Stmt}{tc:TT}(hc:PT X c tc)(ha:PSs X a t)(hb:PSs X b u):PS X (.If c a b pos) (Ds tc t u):=by
 intro pins s σ H D I h
 refine wpAny_If (bP (hc pins s σ H _ I h) fun d s1 ⟨H1,I1,q1⟩=>?_)
 cases d with
 | true=>exact ha pins s1 σ H1 D I1 q1
 | false=>exact hb pins s1 σ H1 D I1 q1
end
abbrev TG:=V→St→Hp→(St→Hp→Prop)→Prop
abbrev A1:=List V→St→Hp→(St→Hp→Prop)→Prop
def PG(X:Cx)(target:Expr)(t:TG):Prop :=
 ∀ (pins:List (Addr×Obj)) (s:Shared) (σ:St) (H:Hp) (v:V) (u:Value) (Q:St→Hp→Prop),Inv X pins σ H s→RelV v u→t v σ H Q →
  wpAny (model X.prog X.w) X.A (assign target X.env u) (fun _ s'=>∃ σ' H',Inv X pins σ' H' s'∧Q σ' H') X.xe s
def De(X:Cx)(ts:List Expr)(t:A1):Prop :=
 ∀ (pins:List (Addr×Obj)) (s:Shared) (σ:St) (H:Hp) (vs:List V) (us:List Value) (Q:St→Hp→Prop),Inv X pins σ H s→Vals vs us→t vs σ H Q →
  wpAny (model X.prog X.w) X.A (assignInOrder ((assignEach ts X.env).map (·.2)) us) (fun _ s'=>∃ σ' H',Inv X pins σ' H' s'∧Q σ' H') X.xe s
abbrev Bc:=V→V→V→Hp→(Hp→Prop)→Prop
def Cq(X:Cx)(t:Bc):Prop :=
 ∀ (pins:List (Addr×Obj)) (s:Shared) (σ:St) (H:Hp) (o i v:V) (ov iv u:Value) (Q:Hp→Prop),Inv X pins σ H s→RelV o ov→RelV i iv→RelV v u→t o i v H Q →
  wpAny (model X.prog X.w) X.A (setItem ov iv u) (fun _ s'=>∃ H',Inv X pins σ H' s'∧Q H') X.xe s
abbrev CP:=V→V→Hp→VK→Prop
def DR(X:Cx)(op:Operator)(t:CP):Prop :=
 ∀ (pins:List (Addr×Obj)) (s:Shared) (σ:St) (H:Hp) (x y:V) (v u:Value) (Q:VK),Inv X pins σ H s→RelV x v→RelV y u→t x y H Q →
  wpAny (model X.prog X.w) X.A (inplaceOp op v u) (EP X pins σ Q) X.xe s
section
variable {X:Cx}{pos:Pos}
def Ax(i:Nat):TG:=fun v σ H Q=>Q (σ.set i (some v)) H
theorem cB{i:Nat}{x:Str}(hN:X.N.Nodup)(hi:X.N[i]?=some x)(hx:BO X.env.scope x)(hf:X.fn x=true∨X.env.scope.names.lookup x=some .local:=by first | exact .inl rfl | exact .inr rfl | assumption):PG X (.Name x pos) (Ax i):=by
 intro pins s σ H v u Q I r h
 exact wpAny_assign_Name (eM I hN hi hx r (fun s' I'=>⟨_,H,I',h⟩) hf)
def DC:A1:=fun vs σ H Q=>vs=[]∧Q σ H
def C5(t:TG)(u:A1):A1:=fun vs σ H Q=>∃ v r,vs=v::r∧t v σ H fun σ' H'=>u r σ' H' Q
theorem sP:De X [] DC:=by
 intro pins s σ H vs us Q I r h
 obtain⟨e,h⟩:=h
 subst e
 cases r
 exact assignInOrder_nil ⟨σ,H,I,h⟩
theorem iI{e:Expr}{es:List Expr}{t:TG}{u:A1}(h1:PG X e t)(h2:De X es u)
  (hs:(assignEach (e::es) X.env).map (·.2)=assign e X.env::(assignEach es X.env).map (·.2):=by rfl):De X (e::es) (C5 t u):=by
 intro pins s σ H vs us Q I r h
 obtain⟨v,vr,e1,h⟩:=h
 subst e1
 cases r with
 | cons r rr =>
  rw[hs]
  refine assignInOrder_cons (bP (h1 pins s σ H _ _ _ I r h) fun _ s1 ⟨σ1,H1,I1,q1⟩=>?_)
  exact h2 pins s1 σ1 H1 _ _ Q I1 rr q1
def Dw(to ti:TE)(t:Bc):TG:=fun v σ H Q=>to σ H fun o H1=>ti σ H1 fun i H2=>t o i v H2 fun H3=>Q σ H3
theorem jD{o i:Expr}{to ti:TE}{t:Bc}(ho:PE X o to)(hi:PE X i ti)(hs:Cq X t)
  (ha:∀ v,assign (.Subscript o i pos) X.env v=(do
   let ov ← holding [v] (eval o X.env)
   let iv ← holding [v,ov] (eval i X.env)
   standAt pos
   holding [v,ov,iv] (setItem ov iv v)
   release [v,ov,iv] []):=by intro _;rfl):PG X (.Subscript o i pos) (Dw to ti t):=by
 intro pins s σ H v u Q I r h
 rw[ha]
 refine wpAny_bind (wpAny_holding (bP (ho pins s σ H _ I h) fun ov s1 ⟨x,H1,I1,r1,q1⟩=>?_))
 refine wpAny_bind (wpAny_holding (bP (hi pins s1 σ H1 _ I1 q1) fun iv s2 ⟨y,H2,I2,r2,q2⟩=>?_))
 refine wpAny_bind (wpAny_standAt (wpAny_bind (wpAny_holding (bP (hs pins s2 σ H2 x y v ov iv u _ I2 r1 r2 r q2) fun _ s3 ⟨H3,I3,q3⟩=>?_))))
 exact wpAny_release ⟨σ,H3,I3,q3⟩
def BY(te:TE)(g:TG):TS:=fun D σ H=>te σ H fun x H1=>g x σ H1 D.nx
theorem jC{tg e:Expr}{te:TE}{g:TG}(he:PE X e te)(hg:PG X tg g)(hs:swapsWithSole [tg] e pos.line X.env=pure false:=by rfl)(hw:swappedStores [tg] e X.env=pure none:=by rfl)
  (h1:(assignEach [tg] X.env).map (·.2)=[assign tg X.env]:=by rfl):PS X (.Assign [tg] e pos) (BY te g):=by
 intro pins s σ H D I h
 refine wpAny_Assign_stores (bP (he pins s σ H _ I h) fun v s1 ⟨x,H1,I1,r1,q1⟩=>?_) hs hw
 rw[h1]
 exact bP (hg pins s1 σ H1 x v _ I1 r1 q1) fun _ s2 q=>q
theorem aQ{i:Nat}{x:Str}{e:Expr}{te:TE}{pos':Pos}(hN:X.N.Nodup)(hi:X.N[i]?=some x)(hx:BO X.env.scope x)(he:PE X e te)(hs:swapsWith e (some (.Name x pos')) pos.line X.env=pure false:=by rfl)(hf:X.fn x=true∨X.env.scope.names.lookup x=some .local:=by first | exact .inl rfl | exact .inr rfl | assumption) :
  PS X (.Assign [.Name x pos'] e pos) (BY te (Ax i)):=by
 intro pins s σ H D I h
 refine wpAny_Assign_Name (bP (he pins s σ H _ I h) fun v s1 ⟨y,H1,I1,r1,q1⟩=>?_) hs
 exact eM I1 hN hi hx r1 (fun s2 I2=>⟨_,H1,I2,q1⟩) hf
inductive tAugI(i:Nat)(te:TE)(ti:CP)(D:Ends)(σ:St)(H:Hp):Prop
 | mk (x:_) (_:σ[i]?=some (some x)) (_:te σ H fun y H1=>ti x y H1 fun z H2=>D.nx (σ.set i (some z)) H2):tAugI i te ti D σ H
def Du(i:Nat)(te:TE)(ti:CP):TS:=fun D σ H=>tAugI i te ti D σ H
theorem lF{i:Nat}{x:Str}{e:Expr}{te:TE}{op:Operator}{ti:CP}{pos':Pos}(hN:X.N.Nodup)(hi:X.N[i]?=some x)(hx:BO X.env.scope x)(he:PE X e te)(ho:DR X op ti)(hf:X.fn x=true∨X.env.scope.names.lookup x=some .local:=by first | exact .inl rfl | exact .inr rfl | assumption) :
  PS X (.AugAssign (.Name x pos') op e pos) (Du i te ti):=by
 intro pins s σ H D I h
 obtain⟨v,e1,h⟩:=h
 obtain⟨m,hn,hl⟩:=I.loc
 have vis:BD X.env.scope x:=by rcases hx with k | k;exact .inl k;exact .inr (.inl k)
 obtain⟨u,r,l⟩:=hl i x v hi e1 vis
 refine wpAny_AugAssign_Name ?_
 have go:wpAny (model X.prog X.w) X.A (eval e X.env) (fun w s₂=>wpAny (model X.prog X.w) X.A (inplaceOp op u w) (fun r s₃=>wpAny (model X.prog X.w) X.A (storeName X.env x r) (fun _=>SP X pins D .next) X.xe s₃) X.xe s₂) X.xe s:=by
  refine bP (he pins s σ H _ I h) fun w s1 ⟨y,H1,I1,r1,q1⟩=>?_
  refine bP (ho pins s1 σ H1 v y u w _ I1 r r1 q1) fun z s2 ⟨zv,H2,I2,r2,q2⟩=>?_
  exact eM I2 hN hi hx r2 (fun s3 I3=>⟨_,H2,I3,q2⟩) hf
 rcases l with ⟨hk,hm⟩ | ⟨hk,c,hc,hcell⟩
 ·exact wpAny_loadName_local I.ok.kind hk hn hm go
 ·rcases hk with hk | hk
  ·exact wpAny_loadName_cell I.ok.kind hk hc hcell go
  ·rcases hx with k | k
   ·have:X.env.scope.names.lookup x=some .free:=hk
    rw[k] at this;cases this
   ·have:X.env.scope.names.lookup x=some .free:=hk
    rw[k] at this;cases this
def D6(f:Int→Int→Int):CP:=fun x y H Q=>∃ i j,x=.int i∧y=.int j∧Q (.int (f i j)) H
theorem kL:DR X .Add (D6 fun i j=>i+j):=by
 intro pins s σ H x y v u Q I r1 r2 h
 obtain⟨i,j,e1,e2,q⟩:=h
 subst e1;subst e2
 obtain⟨t,rfl⟩:=r1
 obtain⟨t',rfl⟩:=r2
 exact iadd_int ⟨.int _,H,I.tok _,⟨_,rfl⟩,q⟩
end
section
variable {X:Cx}{pos:Pos}
def Bd(c:TT)(tb:TS):TS:=fun D σ H=>∃ W:Nat→St→Hp→Prop,(∃ m,W m σ H)∧∀ m σ H,W m σ H →
 c σ H fun b H1=>if b=true then ∃ N:St→Hp→Prop,(∀ σ' H',N σ' H'→∃ m',m' < m∧W m' σ' H')∧tb { D with nx:=N,ct:=N,bk:=D.nx } σ H1 else D.nx σ H1
theorem lD{c:Expr}{body:List Stmt}{tc:TT}{tb:TS}(hp:PassesOwn (model X.prog X.w) X.A X.env X.xe)(hc:PT X c tc)(hb:PSs X body tb):PS X (.While c body [] pos) (Bd tc tb):=by
 intro pins s σ H D I h
 obtain⟨W,⟨m0,w0⟩,turn⟩:=h
 refine wpAny_While (codeAny_whileLoop (fun n s'=>∃ σ' H',Inv X pins σ' H' s'∧W n σ' H') ?_ m0 ⟨σ,H,I,w0⟩)
 rintro n s1 ⟨σ1,H1,I1,w1⟩
 refine wpAny_passesOwn hp (bP (hc pins s1 σ1 H1 _ I1 (turn n σ1 H1 w1)) fun b s2 ⟨H2,I2,q2⟩=>?_)
 cases b with
 | true =>
  obtain⟨N,hN,q2⟩:=q2
  rw[if_pos rfl]
  refine wpAny_passesOwn hp (bP (hb pins s2 σ1 H2 _ I2 q2) fun f s3 q3=>?_)
  cases f with
  | next =>
   obtain⟨σ3,H3,I3,n3⟩:=q3
   obtain⟨m',hm,w3⟩:=hN σ3 H3 n3
   exact⟨m',hm,σ3,H3,I3,w3⟩
  | cont =>
   obtain⟨σ3,H3,I3,n3⟩:=q3
   obtain⟨m',hm,w3⟩:=hN σ3 H3 n3
   exact⟨m',hm,σ3,H3,I3,w3⟩
  | brk=>exact q3
  | ret v=>exact q3
 | false =>
  rw[if_neg k6]
  exact wpAny_execs_nil ⟨σ1,H2,I2,q2⟩
end
structure It where
 go:Nat→Hp→Prop
 yld:Nat→Hp→V→Hp→Prop
 stop:Nat→Hp→Prop
def cU(X:Cx)(pins:List (Addr×Obj))(H:Hp)(b:Addr):Prop :=
 H b=none∧b≠X.env.locals∧b ∉ X.fs∧(b∈X.ex∨X.s₀.heap.objs.size≤b)∧(∀ x c,X.env.cells.lookup x=some c→c≠b)∧∀ p∈X.pn++pins,p.1≠b
theorem Inv.fpOk{X:Cx}{pins:List (Addr×Obj)}{σ:St}{H H':Hp}{s:Shared}{b:Addr}(I:Inv X pins σ H s)(hb:s.heap.objs.size≤b)(hn:H' b=none):cU X pins H' b:=by
 refine⟨hn,x8 (k0 I.lt hb),I.nofs hb,.inr (m7 I.sz hb),fun x c e z=>?_,fun p hp z=>?_⟩
 ·obtain⟨v,q⟩:=I.cell x c e
  exact absurd (k0 q.lt (by rw[z];exact hb)) (r9 _)
 ·exact absurd (k0 (d6 (I.pin p hp).1) (by rw[z];exact hb)) (r9 _)
structure Turn(P:Program)(w:World)(K:b9)(tg:Expr)(J:It)(fp:List Addr)(it:Addr)(tn:Nat→Heap→Prop):Prop where
 mem:it∈fp
 obj:∀ i h,tn i h→∀ b∈fp,∃ o,h.get? b=some o∧∀ v,o.data≠.cell v
 keep:∀ i h h',tn i h→(∀ b∈fp,∀ o,h.get? b=some o→h'.get? b=some o)→tn i h'
 item:∀ (X:Cx),X.prog=P→X.w=w→X.K=K→X.calm=true→∀ (i:Nat) (pins:List (Addr×Obj)) (s:Shared) (σ:St) (H:Hp) (E:Value→Shared→Prop),Inv X pins σ H s→(∀ b∈fp,cU X pins H b)→tn i s.heap→J.go i H →
  wpAny (model P w) X.A (pyNext (.ref it)) (fun r s1=>∃ u,r=some u ∧
   wpAny (model P w) X.A (letOwnedTupleGo tg (.ref it) u) (fun _ s2=>∃ x H',Inv X pins σ H' s2∧RelV x u∧J.yld i H x H'∧tn (i+1) s2.heap∧∀ b∈fp,H' b=none) E s1) E s
 done:∀ (X:Cx),X.prog=P→X.w=w→X.K=K→X.calm=true→∀ (i:Nat) (pins:List (Addr×Obj)) (s:Shared) (σ:St) (H:Hp) (E:Value→Shared→Prop),Inv X pins σ H s→(∀ b∈fp,cU X pins H b)→tn i s.heap→J.stop i H →
  wpAny (model P w) X.A (pyNext (.ref it)) (fun r s1=>r=none∧Inv X pins σ H s1) E s
 self:∀ (A:Around) (i:Nat) (s:Shared) (Q:Value→Shared→Prop) (E:Value→Shared→Prop),tn i s.heap→Q (.ref it) s→wpAny (model P w) A (pyIter (.ref it)) Q E s
abbrev TI:=St→Hp→(It→Hp→Prop)→Prop
def DT(X:Cx)(pins:List (Addr×Obj))(σ:St)(tg:Expr)(R:It→Hp→Prop)(itv:Value)(s2:Shared):Prop :=
 ∃ (it:Addr) (fp:List Addr) (tn:Nat→Heap→Prop) (J:It) (H':Hp),itv=.ref it∧Inv X pins σ H' s2∧Turn X.prog X.w X.K tg J fp it tn∧tn 0 s2.heap∧(∀ b∈fp,cU X pins H' b)∧R J H'
def PI(X:Cx)(tg iter:Expr)(wi:TI):Prop :=
 ∀ (pins:List (Addr×Obj)) (s:Shared) (σ:St) (H:Hp) (R:It→Hp→Prop),Inv X pins σ H s→wi σ H R →
  wpAny (model X.prog X.w) X.A (eval iter X.env) (fun v s1=>wpAny (model X.prog X.w) X.A (pyIter v) (DT X pins σ tg R) X.xe s1) X.xe s
theorem oJ{M:Model}{A:Around}{E:Value→Shared→Prop}{s:Shared}{tg:Expr}{it:Addr}{u:Value}{o:Obj}{n:String}{vs:Array Value}{Q:Unit→Shared→Prop}(ho:s.heap.get? it=some o)(hc:o.cls=.type n)(hd:o.data=.fields vs)
  (hn:["enumerate","zip","dict_itemiterator","dict_reverseitemiterator","odict_iterator","itertools.zip_longest","itertools.pairwise"].contains n=false) (hQ:Q () s):wpAny M A (letOwnedTupleGo tg (.ref it) u) Q E s:=by
 unfold letOwnedTupleGo
 cases tg <;> first
  | exact wpAny_pure hQ
  | (cases u <;> first
    | exact wpAny_pure hQ
    | (refine wpAny_bind (wpAny_load ho ?_)
       rw[hc,hd]
       show wpAny M A (if (["enumerate","zip","dict_itemiterator","dict_reverseitemiterator","odict_iterator","itertools.zip_longest","itertools.pairwise"].contains n && vs[0]? == some (rawInt _))=true then _ else _) Q E s
       rw[if_neg (by intro h;rw[hn,Bool.false_and] at h;cases h)]
       exact wpAny_pure hQ))
def BC(K:b9)(a:Addr):It :=
 ⟨fun i H=>∃ xs x,SqL K H a xs∧xs[i]?=some x,fun i H x H'=>H'=H∧∀ xs,SqL K H a xs→xs[i]?=some x,fun i H=>∃ xs,SqL K H a xs∧xs.length≤i⟩
def BE(K:b9)(a:Addr):It :=
 ⟨fun i H=>∃ xs x,SqT K H a xs∧xs[i]?=some x,fun i H x H'=>H'=H∧∀ xs,SqT K H a xs→xs[i]?=some x,fun i H=>∃ xs,SqT K H a xs∧xs.length≤i⟩
def Ba(lo:Int)(n:Nat):It:=⟨fun i _=>i<n,fun i H x H'=>H'=H∧x=.int (lo+i),fun i _=>n≤i⟩
theorem uD{P:Program}{w:World}{K:b9}{tg:Expr}(a it:Addr):Turn P w K tg (BC K a) [it] it (fun i h=>h.IsListIter it a i) where
 mem:=by simp
 obj:=fun i h st b hb=>by
  have e:b=it:=by simpa using hb
  subst e
  obtain⟨o,e,c,d⟩:=st
  exact⟨o,e,fun v z=>by rw[d] at z;cases z⟩
 keep:=fun i h h' st k=>st.at fun o e=>k it (by simp) o e
 item:=by
  intro X hP hw hK hc i pins s σ H E I hf st hg
  subst hP hw hK
  obtain⟨xs,x,hq,hx⟩:=hg
  obtain⟨its,rv,p,hz⟩:=I.list hq
  obtain⟨u,hu,ru⟩:=rv.get hx
  obtain⟨f0,f1,f2,f3,f4,f5⟩:=hf it (by simp)
  refine wpAny_pyNext_list_item st p.isList (x:=u) (by simpa using hu) fun h' st' sb=>?_
  have I1:Inv X pins σ H { s with heap:=h' }:=I.turned (t':=s.toks) (fun b o hb e=>(sb.2 b hb).trans e) f0 f1 f3 f4 f5
  obtain⟨o,e,c,d⟩:=id st'
  exact⟨u,rfl,oJ (s:={ s with heap:=h' }) e c d (by decide) ⟨x,H,I1,ru,⟨rfl,fun ys hy=>by rw[I.list_inj hy hq];exact hx⟩,st',fun b hb=>(hf b hb).1⟩⟩
 done:=by
  intro X hP hw hK hc i pins s σ H E I hf st hg
  subst hP hw hK
  obtain⟨xs,hq,hx⟩:=hg
  obtain⟨its,rv,p,hz⟩:=I.list hq
  obtain⟨f0,f1,f2,f3,f4,f5⟩:=hf it (by simp)
  have hl:=rv.length
  exact wpAny_pyNext_list_end (I.ok.hd hc) st p.isList (by simp;omega) fun h' eb=>⟨rfl,I.turned (t':=s.toks) (fun b o hb e=>eb b o hb e) f0 f1 f3 f4 f5⟩
 self:=fun _ _ _ _ _ st h=>wpAny_pyIter_listiter st h
theorem qL{P:Program}{w:World}{K:b9}{tg:Expr}(a it:Addr):Turn P w K tg (BE K a) [it] it (fun i h=>h.IsTupleIter it a i) where
 mem:=by simp
 obj:=fun i h st b hb=>by
  have e:b=it:=by simpa using hb
  subst e
  obtain⟨o,e,c,d⟩:=st
  exact⟨o,e,fun v z=>by rw[d] at z;cases z⟩
 keep:=fun i h h' st k=>st.at fun o e=>k it (by simp) o e
 item:=by
  intro X hP hw hK hc i pins s σ H E I hf st hg
  subst hP hw hK
  obtain⟨xs,x,hq,hx⟩:=hg
  obtain⟨its,rv,p,hz⟩:=I.tuple hq
  obtain⟨u,hu,ru⟩:=rv.get hx
  obtain⟨f0,f1,f2,f3,f4,f5⟩:=hf it (by simp)
  refine wpAny_pyNext_tuple_item st (show s.heap.IsTuple a its.toArray from p) (x:=u) (by simpa using hu) fun h' st' sb=>?_
  have I1:Inv X pins σ H { s with heap:=h' }:=I.turned (t':=s.toks) (fun b o hb e=>(sb.2 b hb).trans e) f0 f1 f3 f4 f5
  obtain⟨o,e,c,d⟩:=id st'
  exact⟨u,rfl,oJ (s:={ s with heap:=h' }) e c d (by decide) ⟨x,H,I1,ru,⟨rfl,fun ys hy=>by rw[I.tuple_inj hy hq];exact hx⟩,st',fun b hb=>(hf b hb).1⟩⟩
 done:=by
  intro X hP hw hK hc i pins s σ H E I hf st hg
  subst hP hw hK
  obtain⟨xs,hq,hx⟩:=hg
  obtain⟨its,rv,p,hz⟩:=I.tuple hq
  obtain⟨f0,f1,f2,f3,f4,f5⟩:=hf it (by simp)
  have hl:=rv.length
  exact wpAny_pyNext_tuple_end (I.ok.hd hc) st (show s.heap.IsTuple a its.toArray from p) (by simp;omega) fun h' eb=>⟨rfl,I.turned (t':=s.toks) (fun b o hb e=>eb b o hb e) f0 f1 f3 f4 f5⟩
 self:=fun _ _ _ _ _ st h=>wpAny_pyIter_tupleiter st h
theorem rH{P:Program}{w:World}{K:b9}{tg:Expr}(it:Addr)(lo:Int)(n:Nat):Turn P w K tg (Ba lo n) [it] it (fun i h=>IsRangeIter h it (lo+(i:Nat) * 1) ((n:Int) - (i:Nat)) 1) where
 mem:=by simp
 obj:=fun i h st b hb=>by
  have e:b=it:=by simpa using hb
  subst e
  exact⟨_,st,fun v z=>by
   have z':Data.fields _=Data.cell v:=z
   cases z'⟩
 keep:=fun i h h' st k=>k it (by simp) _ st
 item:=by
  intro X hP hw hK hc i pins s σ H E I hf st hg
  subst hP hw hK
  obtain⟨f0,f1,f2,f3,f4,f5⟩:=hf it (by simp)
  have W:=Walks.range (prog:=X.prog) (w:=X.w) (I.ok.hd hc) it lo 1 n
  refine W.item i s _ _ hg st fun v h' tk hv st' kk=>?_
  obtain⟨t,rfl⟩:=hv
  have I1:Inv X pins σ H { s with heap:=h',toks:=tk }:=I.turned (fun b o hb e=>kk b o (by simpa using hb) e) f0 f1 f3 f4 f5
  refine⟨_,rfl,oJ (s:={ s with heap:=h',toks:=tk }) (n:="range_iterator") st' rfl rfl (by decide) ⟨.int (lo+i),H,I1,⟨t,?_⟩,⟨rfl,rfl⟩,st',fun b hb=>(hf b hb).1⟩⟩
  rw[Int.mul_one]
 done:=by
  intro X hP hw hK hc i pins s σ H E I hf st hg
  subst hP hw hK
  obtain⟨f0,f1,f2,f3,f4,f5⟩:=hf it (by simp)
  exact wpAny_pyNext_range_end (I.ok.hd hc) st (by have:n≤i:=hg;omega) fun h' eb=>⟨rfl,I.turned (t':=s.toks) (fun b o hb e=>eb b o hb e) f0 f1 f3 f4 f5⟩
 self:=fun _ _ _ _ _ st h=>wpAny_pyIter_rangeiter st h
section
variable {X:Cx}{tg:Expr}
def AE(K:b9)(tl:TE):TI:=fun σ H R=>tl σ H fun x H1=>∃ a,x=.ref a∧(∃ xs,SqL K H1 a xs)∧R (BC K a) H1
def BF(K:b9)(tl:TE):TI:=fun σ H R=>tl σ H fun x H1=>∃ a,x=.ref a∧(∃ xs,SqT K H1 a xs)∧R (BE K a) H1
theorem Ab{l:Expr}{tl:TE}(hl:PE X l tl):PI X tg l (AE X.K tl):=by
 intro pins s σ H R I h
 refine bP (hl pins s σ H _ I h) fun v s1 ⟨x,H1,I1,r1,q1⟩=>?_
 obtain⟨a,e,⟨xs,hq⟩,q⟩:=q1
 subst e
 cases r1
 obtain⟨its,rv,p,hz⟩:=I1.list hq
 refine wpAny_pyIter_list p.isList ?_
 refine⟨s1.heap.objs.size,[s1.heap.objs.size],_,_,H1,rfl,I1.kept (t':=s1.toks) fun b o e=>a9 _ e,uD a _,⟨_,d8 _ rfl,rfl,rfl⟩,fun b hb=>?_,q⟩
 have e:b=s1.heap.objs.size:=by simpa using hb
 subst e
 exact I1.fpOk (c8 _) (I1.hok.fresh (c8 _))
theorem Be{l:Expr}{tl:TE}(hl:PE X l tl):PI X tg l (BF X.K tl):=by
 intro pins s σ H R I h
 refine bP (hl pins s σ H _ I h) fun v s1 ⟨x,H1,I1,r1,q1⟩=>?_
 obtain⟨a,e,⟨xs,hq⟩,q⟩:=q1
 subst e
 cases r1
 obtain⟨its,rv,p,hz⟩:=I1.tuple hq
 refine wpAny_pyIter_tuple (show s1.heap.IsTuple a its.toArray from p) ?_
 refine⟨s1.heap.objs.size,[s1.heap.objs.size],_,_,H1,rfl,I1.kept (t':=s1.toks) fun b o e=>a9 _ e,qL a _,⟨_,d8 _ rfl,rfl,rfl⟩,fun b hb=>?_,q⟩
 have e:b=s1.heap.objs.size:=by simpa using hb
 subst e
 exact I1.fpOk (c8 _) (I1.hok.fresh (c8 _))
theorem vC{pins:List (Addr×Obj)}{σ:St}{H:Hp}{s:Shared}{R:It→Hp→Prop}{E:Value→Shared→Prop}{lo hi:Int}{t u v:Tok}{tk:Nat}(I:Inv X pins σ H s)(h1:-(2 ^ 62)≤lo)(h2:lo<2 ^ 62)(h3:-(2 ^ 62)≤hi)(h4:hi<2 ^ 62)
  (q:R (Ba lo (hi - lo).toNat) H):wpAny (model X.prog X.w) X.A (pyIter (.ref s.heap.objs.size)) (DT X pins σ tg R) E { s with heap:=s.heap.push { cls:=.type "range",data:=.fields #[.int lo t,.int hi u,.int 1 v] },toks:=tk }:=by
 refine wpAny_pyIter_range (IsRange.new ..) (small_one h1 h2 h3 h4) ?_
 have I1:Inv X pins σ H { s with heap:=s.heap.push { cls:=.type "range",data:=.fields #[.int lo t,.int hi u,.int 1 v] },toks:=tk }:=I.kept fun b o e=>a9 _ e
 refine⟨(s.heap.push { cls:=.type "range",data:=.fields #[.int lo t,.int hi u,.int 1 v] }).objs.size,[(s.heap.push { cls:=.type "range",data:=.fields #[.int lo t,.int hi u,.int 1 v] }).objs.size],_,_,H,rfl,
  I1.kept (t':=tk) fun b o e=>a9 _ e,rH _ lo (hi - lo).toNat,?_,fun b hb=>?_,q⟩
 ·have e1:lo+((0:Nat):Int) * 1=lo:=by simp
  have e2:(((hi - lo).toNat:Nat):Int) - ((0:Nat):Int)=Builtin.Range.rangeSize lo hi 1:=by rw[rangeSize_one];split <;> omega
  show IsRangeIter _ _ (lo+((0:Nat):Int) * 1) ((((hi - lo).toNat:Nat):Int) - ((0:Nat):Int)) 1
  rw[e1,e2]
  exact d8 _ rfl
 ·have e:b=(s.heap.push { cls:=.type "range",data:=.fields #[.int lo t,.int hi u,.int 1 v] }).objs.size:=by simpa using hb
  subst e
  exact I1.fpOk (c8 _) (I1.hok.fresh (c8 _))
def Cs(ta:TA):TI:=fun σ H R=>ta σ H fun vs H1=>∃ j:Int,vs=[.int j]∧-(2 ^ 62)≤j∧j<2 ^ 62∧R (Ba 0 j.toNat) H1
theorem gB{a:Expr}{ta:TA}{p pos:Pos}(hg:Gl X "range")(hm:X.mg "range"=none)(ha:PA X [a] ta)(hs:starEach [a] X.env=[(false,eval a X.env)]:=by rfl):PI X tg (.Call (.Name "range" p) [a] [] pos) (Cs ta):=by
 intro pins s σ H R I h
 refine Call_ (eX I hg hm boot_range (w4 (bP (ha pos pins s σ H _ I h) fun us s1 ⟨vs,H1,I1,r1,q1⟩=>?_) hs rfl))
 obtain⟨j,e,q1,q2,q⟩:=q1
 subst e
 cases r1 with
 | cons r rr =>
  cases rr
  obtain⟨t,rfl⟩:=r
  exact call_range_1 (vC I1 (by omega) (by omega) q1 q2 (by simpa using q))
def Dr(wi:TI)(g:TG)(tb:TS):TS:=fun D σ H=>wi σ H fun J H1=>∃ W:Nat→Nat→St→Hp→Prop,(∃ m,W 0 m σ H1)∧∀ i m σ H,W i m σ H →
 (J.stop i H∧D.nx σ H)∨(J.go i H∧∃ N:St→Hp→Prop,(∀ σ' H',N σ' H'→∃ m',m' < m∧W (i+1) m' σ' H')∧∀ x H',J.yld i H x H'→g x σ H' fun σ2 H2=>tb { D with nx:=N,ct:=N,bk:=D.nx } σ2 H2)
def gO(fp:List Addr)(h:Heap):List (Addr×Obj):=fp.filterMap fun b=>(h.get? b).map fun o=>(b,o)
theorem bO{fp:List Addr}{h:Heap}{b:Addr}{o:Obj}(hb:b∈fp)(e:h.get? b=some o):(b,o)∈gO fp h:=aX8.mpr ⟨b,hb,by rw[e];rfl⟩
theorem uH{fp:List Addr}{h:Heap}{p:Addr×Obj}(hp:p∈gO fp h):p.1∈fp∧h.get? p.1=some p.2:=by
 obtain⟨b,hb,e⟩:=aX8.mp hp
 cases q:h.get? b with
 | none=>rw[q] at e;cases e
 | some o =>
  rw[q] at e
  have e':(b,o)=p:=j7 e
  subst e'
  exact⟨hb,q⟩
theorem Inv.pinned{pins:List (Addr×Obj)}{σ:St}{H:Hp}{s:Shared}{fp:List Addr}(I:Inv X pins σ H s)(hf:∀ b∈fp,cU X pins H b)(ho:∀ b∈fp,∃ o,s.heap.get? b=some o∧∀ v,o.data≠.cell v):Inv X (pins++gO fp s.heap) σ H s :=
 I.pins_of fun p hp=>(j8.mp hp).elim (fun z=>I.pin p (e9 _ z)) fun z=>by
  obtain⟨hb,e⟩:=uH z
  obtain⟨f0,f1,f2,_⟩:=hf p.1 hb
  obtain⟨o,e',d⟩:=ho p.1 hb
  rw[e] at e';cases e'
  exact⟨e,f0,f1,f2,d⟩
theorem Inv.unpinned{pins pl:List (Addr×Obj)}{σ:St}{H:Hp}{s:Shared}(I:Inv X (pins++pl) σ H s):Inv X pins σ H s:=I.pins_of fun p hp=>I.pin p (e9 _ (n9 _ hp))
theorem dD{iter:Expr}{body:List Stmt}{wi:TI}{g:TG}{tb:TS}{pos:Pos}(hp:PassesOwn (model X.prog X.w) X.A X.env X.xe)(hc:X.calm=true)(hi:PI X tg iter wi)(hg:PG X tg g)(hb:PSs X body tb)
  (hs:∀ x,foldedSetIterable iter X.env x=pure x:=by intro _;rfl):PS X (.For tg iter body [] pos) (Dr wi g tb):=by
 intro pins s σ H D I h
 refine wpAny_For (bP (hi pins s σ H _ I h) fun v s1 h1=>bP h1 fun itv s2 h2=>?_) hs
 obtain⟨it,fp,tn,J,H2,e,I2,T,st2,f2,W,⟨m0,w0⟩,turn⟩:=h2
 subst e
 -- what stays true of the iterator's objects through the loop
 have stat:∀ {H':Hp},(∀ b∈fp,H' b=none)→∀ b∈fp,cU X pins H' b:=fun hn b hb=>⟨hn b hb,(f2 b hb).2⟩
 refine codeAny_forLoop_any (fun n s'=>∃ i σ' H',Inv X pins σ' H' s'∧tn i s'.heap∧(∀ b∈fp,H' b=none)∧W i n σ' H') ?_ m0 ⟨0,σ,H2,I2,st2,fun b hb=>(f2 b hb).1,w0⟩
 rintro n s3 ⟨i,σ3,H3,I3,st3,fr3,w3⟩
 rcases turn i n σ3 H3 w3 with ⟨stop,qn⟩ | ⟨go,N,hN,step⟩
 ·refine wpAny_passesOwn hp (bP (T.done X rfl rfl rfl hc i pins s3 σ3 H3 X.xe I3 (stat fr3) st3 stop) fun r s4 ⟨hr,I4⟩=>?_)
  subst hr
  exact wpAny_execs_nil ⟨σ3,H3,I4,qn⟩
 ·refine wpAny_passesOwn hp (bP (T.item X rfl rfl rfl hc i pins s3 σ3 H3 X.xe I3 (stat fr3) st3 go) fun r s4 ⟨u,hr,h4⟩=>?_)
  subst hr
  refine wpAny_passesOwn hp (bP h4 fun _ s5 ⟨x,H5,I5,r5,y5,st5,fr5⟩=>?_)
  have I5':=I5.pinned (stat fr5) (T.obj _ _ st5)
  refine wpAny_passesOwn hp (bP (hg _ s5 σ3 H5 x u _ I5' r5 (step x H5 y5)) fun _ s6 ⟨σ6,H6,I6,q6⟩=>?_)
  refine wpAny_passesOwn hp (bP (hb _ s6 σ6 H6 _ I6 q6) fun f s7 q7=>?_)
  have again:∀ {σ7:St} {H7:Hp},Inv X (pins++gO fp s5.heap) σ7 H7 s7→N σ7 H7→∃ m,m<n∧∃ i σ' H',Inv X pins σ' H' s7∧tn i s7.heap∧(∀ b∈fp,H' b=none)∧W i m σ' H':=fun {σ7 H7} I7 n7=>by
   obtain⟨m',hm,w7⟩:=hN σ7 H7 n7
   refine⟨m',hm,i+1,σ7,H7,I7.unpinned,T.keep _ _ _ st5 fun b hb o e=>(I7.pin (b,o) (e9 _ (e9 _ (bO hb e)))).1,fun b hb=>?_,w7⟩
   obtain⟨o,e,d⟩:=T.obj _ _ st5 b hb
   exact(I7.pin (b,o) (e9 _ (e9 _ (bO hb e)))).2.1
  cases f with
  | next=>obtain⟨σ7,H7,I7,n7⟩:=q7;exact again I7 n7
  | cont=>obtain⟨σ7,H7,I7,n7⟩:=q7;exact again I7 n7
  | brk=>obtain⟨σ7,H7,I7,q7⟩:=q7;exact⟨σ7,H7,I7.unpinned,q7⟩
  | ret v=>obtain⟨x7,σ7,H7,I7,r7,q7⟩:=q7;exact⟨x7,σ7,H7,I7.unpinned,r7,q7⟩
end
theorem vM{K:b9}{a:Addr}{xs:List V}{g:TG}{tb:TS}{D:Ends}{σ:St}{H:Hp}(Pv:Nat→St→Hp→Prop)(h0:Pv 0 σ H)(hl:∀ i σ H,i≤xs.length→Pv i σ H→SqL K H a xs)
  (hs:∀ i x σ H,xs[i]?=some x→Pv i σ H→g x σ H fun σ2 H2=>tb { D with nx:=Pv (i+1),ct:=Pv (i+1),bk:=D.nx } σ2 H2) (hd:∀ σ H,Pv xs.length σ H→D.nx σ H) :
  ∃ W:Nat→Nat→St→Hp→Prop,(∃ m,W 0 m σ H)∧∀ i m σ H,W i m σ H →
   ((BC K a).stop i H∧D.nx σ H)∨((BC K a).go i H∧∃ N:St→Hp→Prop,(∀ σ' H',N σ' H'→∃ m',m' < m∧W (i+1) m' σ' H')∧∀ x H',(BC K a).yld i H x H'→g x σ H' fun σ2 H2=>tb { D with nx:=N,ct:=N,bk:=D.nx } σ2 H2):=by
 refine⟨fun i m σ H=>m=xs.length - i∧i≤xs.length∧Pv i σ H,⟨xs.length,by simp,l5 _,h0⟩,?_⟩
 rintro i m σ H ⟨rfl,hi,p⟩
 have q:=hl i σ H hi p
 by_cases hlt:i<xs.length
 ·refine .inr ⟨⟨xs,xs[i],q,by simp[hlt]⟩,Pv (i+1),fun σ' H' p'=>⟨xs.length - (i+1),by omega,rfl,hlt,p'⟩,fun x H' y=>?_⟩
  obtain⟨e,y⟩:=y
  subst e
  exact hs i x σ _ (y xs q) p
 ·have e:i=xs.length:=by omega
  subst e
  exact .inl ⟨⟨xs,q,c8 _⟩,hd σ H p⟩
theorem zV{K:b9}{a:Addr}{xs:List V}{g:TG}{tb:TS}{D:Ends}{σ:St}{H:Hp}(Pv:Nat→St→Hp→Prop)(h0:Pv 0 σ H)(hl:∀ i σ H,i≤xs.length→Pv i σ H→SqT K H a xs)
  (hs:∀ i x σ H,xs[i]?=some x→Pv i σ H→g x σ H fun σ2 H2=>tb { D with nx:=Pv (i+1),ct:=Pv (i+1),bk:=D.nx } σ2 H2) (hd:∀ σ H,Pv xs.length σ H→D.nx σ H) :
  ∃ W:Nat→Nat→St→Hp→Prop,(∃ m,W 0 m σ H)∧∀ i m σ H,W i m σ H →
   ((BE K a).stop i H∧D.nx σ H)∨((BE K a).go i H∧∃ N:St→Hp→Prop,(∀ σ' H',N σ' H'→∃ m',m' < m∧W (i+1) m' σ' H')∧∀ x H',(BE K a).yld i H x H'→g x σ H' fun σ2 H2=>tb { D with nx:=N,ct:=N,bk:=D.nx } σ2 H2):=by
 refine⟨fun i m σ H=>m=xs.length - i∧i≤xs.length∧Pv i σ H,⟨xs.length,by simp,l5 _,h0⟩,?_⟩
 rintro i m σ H ⟨rfl,hi,p⟩
 have q:=hl i σ H hi p
 by_cases hlt:i<xs.length
 ·refine .inr ⟨⟨xs,xs[i],q,by simp[hlt]⟩,Pv (i+1),fun σ' H' p'=>⟨xs.length - (i+1),by omega,rfl,hlt,p'⟩,fun x H' y=>?_⟩
  obtain⟨e,y⟩:=y
  subst e
  exact hs i x σ _ (y xs q) p
 ·have e:i=xs.length:=by omega
  subst e
  exact .inl ⟨⟨xs,q,c8 _⟩,hd σ H p⟩
theorem iV{lo:Int}{n:Nat}{g:TG}{tb:TS}{D:Ends}{σ:St}{H:Hp}(Pv:Nat→St→Hp→Prop)(h0:Pv 0 σ H)
  (hs:∀ i σ H,i<n→Pv i σ H→g (.int (lo+i)) σ H fun σ2 H2=>tb { D with nx:=Pv (i+1),ct:=Pv (i+1),bk:=D.nx } σ2 H2) (hd:∀ σ H,Pv n σ H→D.nx σ H) :
  ∃ W:Nat→Nat→St→Hp→Prop,(∃ m,W 0 m σ H)∧∀ i m σ H,W i m σ H →
   ((Ba lo n).stop i H∧D.nx σ H)∨((Ba lo n).go i H∧∃ N:St→Hp→Prop,(∀ σ' H',N σ' H'→∃ m',m' < m∧W (i+1) m' σ' H')∧∀ x H',(Ba lo n).yld i H x H'→g x σ H' fun σ2 H2=>tb { D with nx:=N,ct:=N,bk:=D.nx } σ2 H2):=by
 refine⟨fun i m σ H=>m=n - i∧i≤n∧Pv i σ H,⟨n,by simp,l5 _,h0⟩,?_⟩
 rintro i m σ H ⟨rfl,hi,p⟩
 by_cases hlt:i<n
 ·refine .inr ⟨hlt,Pv (i+1),fun σ' H' p'=>⟨n - (i+1),by omega,rfl,hlt,p'⟩,fun x H' y=>?_⟩
  obtain⟨e,y⟩:=y
  subst e y
  exact hs i σ _ hlt p
 ·have e:i=n:=by omega
  subst e
  exact .inl ⟨c8 _,hd σ H p⟩
abbrev R2:=V→V→Hp→VK→Prop
def gC(X:Cx)(f:Value→Value→Sem Value)(r:R2):Prop :=
 ∀ (pins:List (Addr×Obj)) (s:Shared) (σ:St) (H:Hp) (x y:V) (v u:Value) (Q:VK),Inv X pins σ H s→RelV x v→RelV y u→r x y H Q →
  wpAny (model X.prog X.w) X.A (f v u) (EP X pins σ Q) X.xe s
def Do(X:Cx)(f:Value→Sem Value)(r:V→Hp→VK→Prop):Prop :=
 ∀ (pins:List (Addr×Obj)) (s:Shared) (σ:St) (H:Hp) (x:V) (v:Value) (Q:VK),Inv X pins σ H s→RelV x v→r x H Q →
  wpAny (model X.prog X.w) X.A (f v) (EP X pins σ Q) X.xe s
def dC(X:Cx)(f:Value)(r:List V→Hp→VK→Prop):Prop :=
 ∀ (pins:List (Addr×Obj)) (s:Shared) (σ:St) (H:Hp) (xs:List V) (us:List Value) (Q:VK),Inv X pins σ H s→Vals xs us→r xs H Q →
  wpAny (model X.prog X.w) X.A (call f us) (EP X pins σ Q) X.xe s
def Da(r:R2)(ta tb:TE):TE:=fun σ H Q=>ta σ H fun x H1=>tb σ H1 fun y H2=>r x y H2 Q
def DZ(r:V→Hp→VK→Prop)(ta:TE):TE:=fun σ H Q=>ta σ H fun x H1=>r x H1 Q
inductive rII(C:Int→Int→Prop)(g:Int→Int→V)(x:V)(y:V)(H:Hp)(Q:VK):Prop
 | mk (i j:_) (_:x=.int i) (_:y=.int j) (_:C i j) (_:Q (g i j) H):rII C g x y H Q
def rI(C:Int→Int→Prop)(g:Int→Int→V):R2:=fun x y H Q=>rII C g x y H Q
inductive rI0I(g:Int→Int→V)(x:V)(y:V)(H:Hp)(Q:VK):Prop
 | mk (i j:_) (_:x=.int i) (_:y=.int j) (_:Q (g i j) H):rI0I g x y H Q
def Bb(g:Int→Int→V):R2:=fun x y H Q=>rI0I g x y H Q
inductive rUI(g:Int→V)(x:V)(H:Hp)(Q:VK):Prop
 | mk (i:_) (_:x=.int i) (_:Q (g i) H):rUI g x H Q
def rU(g:Int→V):V→Hp→VK→Prop:=fun x H Q=>rUI g x H Q
section
variable {X:Cx}{a b c:Expr}{ta tb tc:TE}{pos:Pos}
theorem A6(ha:PE X a ta)(hb:PE X b tb){pins:List (Addr×Obj)}{s:Shared}{σ:St}{H:Hp}{R:V→V→Hp→Prop}(I:Inv X pins σ H s)
  (h:ta σ H fun x H1=>tb σ H1 fun y H2=>R x y H2) {Q:Value→Shared→Prop} {f:Value→Value→Sem Value}
  (hf:∀ v u s2 x y H2,Inv X pins σ H2 s2→RelV x v→RelV y u→R x y H2→wpAny (model X.prog X.w) X.A (f v u) Q X.xe s2) :
  wpAny (model X.prog X.w) X.A (eval a X.env) (fun v s₁=>wpAny (model X.prog X.w) X.A (eval b X.env) (fun u s₂=>wpAny (model X.prog X.w) X.A (f v u) Q X.xe s₂) X.xe s₁) X.xe s:=by
 refine bP (ha pins s σ H _ I h) fun v s1 ⟨x,H1,I1,r1,q1⟩=>?_
 refine bP (hb pins s1 σ H1 _ I1 q1) fun u s2 ⟨y,H2,I2,r2,q2⟩=>?_
 exact hf v u s2 x y H2 I2 r1 r2 q2
theorem aY{op:Operator}{r:R2}(ho:gC X (binaryOp op) r)(ha:PE X a ta)(hb:PE X b tb):PE X (.BinOp a op b pos) (Da r ta tb):=by
 intro pins s σ H Q I h
 exact wpAny_BinOp (A6 ha hb I h fun v u s2 x y H2 I2 rx ry q=>ho pins s2 σ H2 x y v u Q I2 rx ry q)
theorem oT{op:UnaryOp}{r:V→Hp→VK→Prop}(ho:Do X (unaryOp op) r)(ha:PE X a ta):PE X (.UnaryOp op a pos) (DZ r ta):=by
 intro pins s σ H Q I h
 exact UnaryOp_ (bP (ha pins s σ H _ I h) fun v s1 ⟨x,H1,I1,r1,q1⟩=>ho pins s1 σ H1 x v Q I1 r1 q1)
theorem C8{f:Value→Value→Sem Value}{C:Int→Int→Prop}{g:Int→Int→Int}
  (rule:∀ (i j:Int) (t u:Tok) (s:Shared) (Q:Value→Shared→Prop) (E:Value→Shared→Prop),C i j→Q (.int (g i j) s.toks) { s with toks:=s.toks+1 }→wpAny (model X.prog X.w) X.A (f (.int i t) (.int j u)) Q E s) :
  gC X f (rI C fun i j=>.int (g i j)):=by
 intro pins s σ H x y v u Q I rx ry h
 obtain⟨i,j,rfl,rfl,hc,q⟩:=h
 obtain⟨t,rfl⟩:=rx
 obtain⟨t',rfl⟩:=ry
 exact rule i j t t' s _ _ hc ⟨.int (g i j),H,I.tok _,⟨_,rfl⟩,q⟩
theorem Ch{f:Value→Value→Sem Value}{g:Int→Int→Int}
  (rule:∀ (i j:Int) (t u:Tok) (s:Shared) (Q:Value→Shared→Prop) (E:Value→Shared→Prop),Q (.int (g i j) s.toks) { s with toks:=s.toks+1 }→wpAny (model X.prog X.w) X.A (f (.int i t) (.int j u)) Q E s) :
  gC X f (Bb fun i j=>.int (g i j)):=by
 intro pins s σ H x y v u Q I rx ry h
 obtain⟨i,j,rfl,rfl,q⟩:=h
 obtain⟨t,rfl⟩:=rx
 obtain⟨t',rfl⟩:=ry
 exact rule i j t t' s _ _ ⟨.int (g i j),H,I.tok _,⟨_,rfl⟩,q⟩
theorem AH{f:Value→Value→Sem Value}{g:Int→Int→Bool}
  (rule:∀ (i j:Int) (t u:Tok) (s:Shared) (Q:Value→Shared→Prop) (E:Value→Shared→Prop),Q (.bool (g i j)) s→wpAny (model X.prog X.w) X.A (f (.int i t) (.int j u)) Q E s) :
  gC X f (Bb fun i j=>.bl (g i j)):=by
 intro pins s σ H x y v u Q I rx ry h
 obtain⟨i,j,rfl,rfl,q⟩:=h
 obtain⟨t,rfl⟩:=rx
 obtain⟨t',rfl⟩:=ry
 exact rule i j t t' s _ _ ⟨.bl (g i j),H,I,rfl,q⟩
def DK(i j:Int):Prop:=0<j∧j<1073741824
def Dm(i j:Int):Prop:=0≤j∧j≤1000000∧i.natAbs<2 ^ 64
def CMul(i j:Int):Prop:=(-(2 ^ 64)<i∧i<2 ^ 64)∨(-(2 ^ 64)<j∧j<2 ^ 64)
theorem CMul.ok{i j:Int}(h:CMul i j):IntMulOk i j:=by
 rcases h with ⟨h1,h2⟩ | ⟨h1,h2⟩
 ·exact .of_left (intBits_le_64 h1 h2)
 ·exact .of_right (intBits_le_64 h1 h2)
theorem cN:gC X (binaryOp .Add) (Bb fun i j=>.int (i+j)):=Ch fun _ _ _ _ _ _ _ q=>add_int q
theorem kM:gC X (binaryOp .Sub) (Bb fun i j=>.int (i - j)):=Ch fun _ _ _ _ _ _ _ q=>sub_int q
theorem jW:gC X (binaryOp .Mult) (rI CMul fun i j=>.int (i * j)):=C8 fun _ _ _ _ _ _ _ hc q=>mul_int q hc.ok
theorem nY:gC X (binaryOp .FloorDiv) (rI DK fun i j=>.int (i / j)):=C8 fun i j _ _ _ _ _ hc q=>by
 have h1:(0:Int)<j:=hc.1
 have h2:j<1073741824:=hc.2
 exact floordiv_int (by omega) (by rw[Int.fdiv_eq_ediv_of_nonneg i (by omega)];exact q) (.inl (PyProof.noPylong_small (by omega)))
theorem fA:gC X (binaryOp .Mod) (rI (fun _ j=>0<j) fun i j=>.int (i % j)):=C8 fun i j _ _ _ _ _ hc q=>by
 have h1:(0:Int)<j:=hc
 exact mod_int' (by omega) (by rw[Int.fmod_eq_emod_of_nonneg i (by omega)];exact q)
theorem AN:gC X (binaryOp .Pow) (rI Dm fun i j=>.int (i ^ j.toNat)):=C8 fun _ _ _ _ _ _ _ hc q=>pow_int_small hc.1 hc.2.1 hc.2.2 q
theorem D4{f:Value→Sem Value}{g:Int→Int}
  (rule:∀ (i:Int) (t:Tok) (s:Shared) (Q:Value→Shared→Prop) (E:Value→Shared→Prop),Q (.int (g i) s.toks) { s with toks:=s.toks+1 }→wpAny (model X.prog X.w) X.A (f (.int i t)) Q E s) :
  Do X f (rU fun i=>.int (g i)):=by
 intro pins s σ H x v Q I rx h
 obtain⟨i,rfl,q⟩:=h
 obtain⟨t,rfl⟩:=rx
 exact rule i t s _ _ ⟨.int (g i),H,I.tok _,⟨_,rfl⟩,q⟩
theorem kQ:Do X (unaryOp .USub) (rU fun i=>.int (-i)):=D4 fun _ _ _ _ _ q=>neg_int q
end
def Cg:V→V→Bool
 | .non,.non=>true | .non,.int _=>true | .int _,.non=>true | .non,.bl _=>true | .bl _,.non=>true | .non,.str _=>true | .str _,.non=>true
 | .int _,.int _=>true | .bl _,.bl _=>true | .str _,.str _=>true | .byt _,.byt _=>true
 | .int _,.str _=>true | .str _,.int _=>true | .bl _,.str _=>true | .str _,.bl _=>true
 | _,_=>false
def D0:R2:=fun x y H Q=>Cg x y=true∧Q (.bl (decide (x=y))) H
def D5:R2:=fun x y H Q=>Cg x y=true∧Q (.bl (!decide (x=y))) H
theorem rZ{i j:Int}:decide (V.int i=V.int j)=(i == j):=by
 rw[y3]
 simp
theorem xN{i j:Bool}:decide (V.bl i=V.bl j)=(i == j):=by
 rw[y3]
 simp
theorem rX{i j:Str}:decide (V.str i=V.str j)=(i == j):=by
 rw[y3]
 simp
theorem sL{i j:Array UInt8}:decide (V.byt i=V.byt j)=(i.toList == j.toList):=by
 rw[y3]
 cases i
 cases j
 simp
section
variable {X:Cx}{a b c:Expr}{ta tb tc:TE}{pos:Pos}
theorem bC{pins:List (Addr×Obj)}{σ:St}{H:Hp}{s:Shared}{Q:VK}{k k':Bool}(I:Inv X pins σ H s)(q:Q (.bl k) H)(e:k=k'):EP X pins σ Q (.bool k') s:=by
 subst e
 exact⟨.bl k,H,I,rfl,q⟩
theorem iU:gC X (compareOp .Eq) D0:=by
 intro pins s σ H x y v u Q I rx ry h
 obtain⟨hs,q⟩:=h
 cases x with
 | non =>
  cases rx
  cases y with
  | non=>cases ry;exact aZW (bC I q (by simp))
  | bl j=>cases ry;exact aZX (bC I q (by simp))
  | int j=>obtain⟨t',rfl⟩:=ry;exact aZ6 (bC I q (by simp))
  | str j=>obtain⟨t',rfl⟩:=ry;exact aZ7 (bC I q (by simp))
  | _=>exact absurd (show false=true from hs) k6
 | bl i =>
  cases rx
  cases y with
  | non=>cases ry;exact aZY (bC I q (by simp))
  | bl j=>cases ry;exact eq_bool (bC I q xN)
  | str j=>obtain⟨t',rfl⟩:=ry;exact aZZ (bC I q (by simp))
  | _=>exact absurd (show false=true from hs) k6
 | int i =>
  obtain⟨t,rfl⟩:=rx
  cases y with
  | non=>cases ry;exact aZ8 (bC I q (by simp))
  | int j=>obtain⟨t',rfl⟩:=ry;exact eq_int (bC I q rZ)
  | str j=>obtain⟨t',rfl⟩:=ry;exact aZ9 (bC I q (by simp))
  | _=>exact absurd (show false=true from hs) k6
 | str i =>
  obtain⟨t,rfl⟩:=rx
  cases y with
  | non=>cases ry;exact aZa (bC I q (by simp))
  | bl j=>cases ry;exact aZ0 (bC I q (by simp))
  | int j=>obtain⟨t',rfl⟩:=ry;exact aZb (bC I q (by simp))
  | str j=>obtain⟨t',rfl⟩:=ry;exact eq_str (bC I q rX)
  | _=>exact absurd (show false=true from hs) k6
 | byt i =>
  obtain⟨t,rfl⟩:=rx
  cases y with
  | byt j=>obtain⟨t',rfl⟩:=ry;exact PySem.W.eq_bytes (bC I q sL)
  | _=>exact absurd (show false=true from hs) k6
 | _=>cases y <;> exact absurd (show false=true from hs) k6
theorem mR:gC X (compareOp .NotEq) D5:=by
 intro pins s σ H x y v u Q I rx ry h
 obtain⟨hs,q⟩:=h
 cases x with
 | non =>
  cases rx
  cases y with
  | non=>cases ry;exact aZ1 (bC I q (by simp))
  | bl j=>cases ry;exact aZ2 (bC I q (by simp))
  | int j=>obtain⟨t',rfl⟩:=ry;exact aZc (bC I q (by simp))
  | str j=>obtain⟨t',rfl⟩:=ry;exact aZd (bC I q (by simp))
  | _=>exact absurd (show false=true from hs) k6
 | bl i =>
  cases rx
  cases y with
  | non=>cases ry;exact aZ3 (bC I q (by simp))
  | bl j=>cases ry;exact ne_bool (bC I q (congrArg not xN))
  | str j=>obtain⟨t',rfl⟩:=ry;exact aZ4 (bC I q (by simp))
  | _=>exact absurd (show false=true from hs) k6
 | int i =>
  obtain⟨t,rfl⟩:=rx
  cases y with
  | non=>cases ry;exact aZe (bC I q (by simp))
  | int j=>obtain⟨t',rfl⟩:=ry;exact ne_int (bC I q (congrArg not rZ))
  | str j=>obtain⟨t',rfl⟩:=ry;exact aZf (bC I q (by simp))
  | _=>exact absurd (show false=true from hs) k6
 | str i =>
  obtain⟨t,rfl⟩:=rx
  cases y with
  | non=>cases ry;exact aZg (bC I q (by simp))
  | bl j=>cases ry;exact aZ5 (bC I q (by simp))
  | int j=>obtain⟨t',rfl⟩:=ry;exact aZh (bC I q (by simp))
  | str j=>obtain⟨t',rfl⟩:=ry;exact ne_str (bC I q (congrArg not rX))
  | _=>exact absurd (show false=true from hs) k6
 | byt i =>
  obtain⟨t,rfl⟩:=rx
  cases y with
  | byt j=>obtain⟨t',rfl⟩:=ry;exact PySem.W.ne_bytes (bC I q (congrArg not sL))
  | _=>exact absurd (show false=true from hs) k6
 | _=>cases y <;> exact absurd (show false=true from hs) k6
theorem pD:gC X (compareOp .Lt) (Bb fun i j=>.bl (decide (i<j))):=AH fun _ _ _ _ _ _ _ q=>lt_int q
theorem pO:gC X (compareOp .Gt) (Bb fun i j=>.bl (decide (j<i))):=AH fun _ _ _ _ _ _ _ q=>gt_int q
theorem Ca:gC X (compareOp .GtE) (Bb fun i j=>.bl (decide (j≤i))):=AH fun _ _ _ _ _ _ _ q=>ge_int q
theorem bG(b:Expr){op:CmpOp}(h:op≠.In:=by decide)(h2:op≠.NotIn:=by decide):behindInMarks op b=false:=by
 have e1:(op == CmpOp.In)=false:=by cases op <;> first | rfl | exact absurd rfl h
 have e2:(op == CmpOp.NotIn)=false:=by cases op <;> first | rfl | exact absurd rfl h2
 cases b <;> simp[behindInMarks,e1,e2]
theorem zT{op:CmpOp}{r:R2}(ho:gC X (compareOp op) r)(ha:PE X a ta)(hb:PE X b tb)(hm:behindInMarks op b=false):PE X (.Compare a [op] [b] pos) (Da r ta tb):=by
 intro pins s σ H Q I h
 exact wpAny_Compare1 (A6 ha hb I h fun v u s2 x y H2 I2 rx ry q=>ho pins s2 σ H2 x y v u Q I2 rx ry q) hm
inductive tTestI(Q:Bool→Hp→Prop)(x:V)(H':Hp):Prop
 | mk (k:_) (_:x=.bl k) (_:Q k H'):tTestI Q x H'
def Ci(t:TE):TT:=fun σ H Q=>t σ H fun x H'=>tTestI Q x H'
theorem aT{op:CmpOp}{r:R2}(ho:gC X (compareOp op) r)(ha:PE X a ta)(hb:PE X b tb)(hm:behindInMarks op b=false):PT X (.Compare a [op] [b] pos) (Ci (Da r ta tb)):=by
 intro pins s σ H Q I h
 refine wpAny_isTrue_Compare1 (bP (ha pins s σ H _ I h) fun v s1 ⟨x,H1,I1,r1,q1⟩=>bP (hb pins s1 σ H1 _ I1 q1) fun u s2 ⟨y,H2,I2,r2,q2⟩ =>
  bP (ho pins s2 σ H2 x y v u _ I2 r1 r2 q2) fun c s3 ⟨z,H3,I3,r3,k,e,q3⟩=>?_) hm
 subst e
 cases r3
 exact wpAny_truthy_bool ⟨H3,I3,q3⟩
theorem jA:(sizeLine:Nat)<2 ^ 63:=by rw[sizeLine_eq];decide
inductive Rop_add_str(x:V)(y:V)(H:Hp)(Q:VK):Prop
 | mk (i j:_) (_:x=.str i) (_:y=.str j) (_:i.length+j.length≤sizeLine) (_:Q (.str (i++j)) H):Rop_add_str x y H Q
theorem dP:gC X (binaryOp .Add) (fun x y H Q=>Rop_add_str x y H Q):=by
 intro pins s σ H x y v u Q I rx ry h
 obtain⟨i,j,rfl,rfl,hz,q⟩:=h
 obtain⟨t,rfl⟩:=rx
 obtain⟨t',rfl⟩:=ry
 exact add_str (fun t' tk=>⟨.str (i++j),H,I.tok _,⟨_,rfl⟩,q⟩) hz
theorem iS{x:V}{us:List Value}(r:Vals [x] us):∃ u,us=[u]∧RelV x u:=by
 cases r with
 | cons r1 r2=>cases r2;exact⟨_,rfl,r1⟩
theorem rV{x y:V}{us:List Value}(r:Vals [x,y] us):∃ u w',us=[u,w']∧RelV x u∧RelV y w':=by
 cases r with
 | cons r1 r2 =>
  cases r2 with
  | cons r3 r4=>cases r4;exact⟨_,_,rfl,r1,r3⟩
inductive Rcall_max2(xs:List V)(H:Hp)(Q:VK):Prop
 | mk (i j:_) (_:xs=[.int i,.int j]) (_:Q (.int (if j > i then j else i)) H):Rcall_max2 xs H Q
theorem uN(hc:X.calm=true):dC X (.builtin "max") (fun xs H Q=>Rcall_max2 xs H Q):=by
 intro pins s σ H xs us Q I r h
 obtain⟨i,j,rfl,q⟩:=h
 obtain⟨u,w',rfl,⟨t,rfl⟩,⟨t',rfl⟩⟩:=rV r
 refine max_two_ints (I.ok.hd hc) fun h' tk k=>⟨_,H,I.kept k,?_,q⟩
 by_cases hj:j > i
 ·rw[if_pos hj,if_pos hj];exact⟨_,rfl⟩
 ·rw[if_neg hj,if_neg hj];exact⟨_,rfl⟩
inductive Rcall_min2(xs:List V)(H:Hp)(Q:VK):Prop
 | mk (i j:_) (_:xs=[.int i,.int j]) (_:Q (.int (if j<i then j else i)) H):Rcall_min2 xs H Q
theorem mE(hc:X.calm=true):dC X (.builtin "min") (fun xs H Q=>Rcall_min2 xs H Q):=by
 intro pins s σ H xs us Q I r h
 obtain⟨i,j,rfl,q⟩:=h
 obtain⟨u,w',rfl,⟨t,rfl⟩,⟨t',rfl⟩⟩:=rV r
 refine min_two_ints (I.ok.hd hc) fun h' tk k=>⟨_,H,I.kept k,?_,q⟩
 by_cases hj:j<i
 ·rw[if_pos hj,if_pos hj];exact⟨_,rfl⟩
 ·rw[if_neg hj,if_neg hj];exact⟨_,rfl⟩
end
theorem RelO.some_of{v:V}{o:Option Value}(r:RelO (some v) o):∃ u,o=some u∧RelV v u:=by
 cases o with
 | none=>exact(show False from r).elim
 | some u=>exact⟨u,rfl,r⟩
structure Room(k:Nat)(A:Around):Prop where
 hd:A.handled=none
 dp:A.depth+3 * k+5<recursionLimit
 un:A.units+16 * k+200<cLine
theorem Room.mono{j k:Nat}{A:Around}(r:Room k A)(h:j≤k):Room j A:=⟨r.hd,by have:=r.dp;omega,by have:=r.un;omega⟩
theorem Room.deeper{k:Nat}{A:Around}(r:Room (k+1) A)(env:Env):Room k (A.deeper env) :=
 ⟨r.hd,by have:=r.dp;show A.depth+1+3 * k+5<_;omega,by have:=r.un;show A.units+3+16 * k+200<_;omega⟩
theorem Room.in1{k:Nat}{A:Around}(r:Room (k+1) A):Room k A.in1 :=
 ⟨r.hd,by have:=r.dp;show A.depth+3 * k+5<_;omega,by have:=r.un;show A.units+1+16 * k+200<_;omega⟩
theorem Room.depth{k:Nat}{A:Around}(r:Room k A):A.depth<recursionLimit:=by have:=r.dp;omega
theorem Room.units{k:Nat}{A:Around}(r:Room k A):A.units+64<cLine:=by have:=r.un;omega
theorem Room.units0{k:Nat}{A:Around}(r:Room k A):A.units<cLine:=by have:=r.un;omega
def zL:TA:=fun _ H Q=>Q [] H
def vH(ta:TE)(tr:TA):TA:=fun σ H Q=>ta σ H fun x H1=>tr σ H1 fun xs H2=>Q (x::xs) H2
section
variable {X:Cx}{e:Expr}{es:List Expr}{te:TE}{t:TA}{pos:Pos}
theorem aC:PA X [] zL:=fun _ _ _ _ H Q I h=>Calls.spliced_nil ⟨[],H,I,.nil,h⟩
theorem aA(ha:PE X e te)(hr:PA X es t)(hs:starEach (e::es) X.env=(false,eval e X.env)::starEach es X.env:=by rfl):PA X (e::es) (vH te t):=by
 intro pos pins s σ H Q I h
 rw[hs]
 show wpAny _ _ (spliced ((false,eval e X.env)::backTo pos (starEach es X.env))) _ _ s
 refine Calls.spliced_cons (bP (ha pins s σ H _ I h) fun u s1 ⟨x,H1,I1,r1,q1⟩=>?_)
 exact bP (hr pos pins s1 σ H1 _ I1 q1) fun us s2 ⟨xs,H2,I2,r2,q2⟩=>⟨x::xs,H2,I2,.cons r1 r2,q2⟩
def Dl(t:TA):TE:=fun σ H Q=>t σ H fun xs H1=>xs.length≤sizeLine∧∀ p,H1 p=none→Q (.ref p) (upd H1 p (.tup xs))
def Dt(t:TA):TE:=fun σ H Q=>t σ H fun xs H1=>xs.length≤sizeLine∧∀ p,H1 p=none→Q (.ref p) (upd H1 p (.lst xs))
theorem eZ{x1}(h:PA X es t):PE X (.Tuple es x1 pos) (Dl t):=by
 intro pins s σ H Q I hq
 refine wpAny_Tuple_spliced (bP (h pos pins s σ H _ I hq) fun us s1 ⟨xs,H1,I1,r,z,q⟩=>⟨by rw[← r.length];exact z,?_⟩)
 have hf:H1 s1.heap.objs.size=none:=I1.hok.fresh (c8 _)
 refine⟨.ref s1.heap.objs.size,upd H1 s1.heap.objs.size (.tup xs),I1.laid (t':=s1.toks) (fun b u e=>a9 _ e) (c8 _) ?_,rfl,q _ hf⟩
 exact⟨z,us,r,⟨_,d8 _ rfl,rfl,_,rfl⟩,NoD.new _ _⟩
theorem fO(h:PA X es t):PE X (.List es pos) (Dt t):=by
 intro pins s σ H Q I hq
 refine wpAny_List_spliced (bP (h pos pins s σ H _ I hq) fun us s1 ⟨xs,H1,I1,r,z,q⟩=>⟨by rw[← r.length];exact z,?_⟩)
 have hf:H1 s1.heap.objs.size=none:=I1.hok.fresh (c8 _)
 refine⟨.ref s1.heap.objs.size,upd H1 s1.heap.objs.size (.lst xs),I1.laid (t':=s1.toks) (fun b u e=>a9 _ e) (c8 _) ?_,rfl,q _ hf⟩
 exact⟨z,us,0,r,d8 _ rfl⟩
end
abbrev Sp:=List V→Hp→VK→XK→Prop
abbrev yK:=List Env→Hp→Shared→XK→Value→Shared→Prop
structure Env0(P:Program)(w:World)(K:b9)(mg:Str→Option Value)(base:Heap)(A:Around)(outer:List Env)(s:Shared)(H:Hp):Prop where
 frames:A.frames=some outer
 mod:Mod K mg base
 bs:∀ b o,base.get? b=some o→s.heap.get? b=some o∧H b=none
 bsz:base.objs.size≤s.heap.objs.size
 funs:s.heap.FunFrames base outer
 frf:∀ b∈tE outer,H b=none
 hok:HOk P w H s.heap
 bare:AllBare s.gens
def CE(outer:List Env)(P:Program)(w:World)(H:Hp)(s:Shared)(Q:VK)(u:Value)(s':Shared):Prop :=
 ∃ v H',s'.os=s.os∧AllBare s'.gens∧Un (tE outer) [] H H' s.heap s'.heap∧HOk P w H' s'.heap∧RelV v u∧Q v H'
def CR(CX:yK)(outer:List Env)(P:Program)(w:World)(H:Hp)(s:Shared)(Q:VK)(E:XK)(r:Result)(s':Shared):Prop :=
 match r with
 | .ok (.ret u)=>CE outer P w H s Q u s'
 | .ok _=>False
 | .error e=>CX outer H s E e s'
structure FnOk(P:Program)(w:World)(K:b9)(mg:Str→Option Value)(base:Heap)(CX:yK)(k:Nat)(f:Addr)(fd:FuncData)(ps:List Str)(sp:Sp):Prop where
 len:∀ vs H Q E,sp vs H Q E→vs.length=ps.length
 run:∀ (A:Around) (outer:List Env) (s:Shared) (H:Hp) (args:Args) (us:List Value) (vs:List V) (Q:VK) (E:XK),Room k A→Env0 P w K mg base A outer s H→BindsTo s fd args (ps.zip us)→Vals vs us→sp vs H Q E →
  codeAny (model P w) A (.call (.ref f) args) (CR CX outer P w H s Q E) s
theorem FnOk.mono{P:Program}{w:World}{K:b9}{mg:Str→Option Value}{base:Heap}{CX:yK}{j k:Nat}{f:Addr}{fd:FuncData}{ps:List Str}{sp:Sp}(F:FnOk P w K mg base CX j f fd ps sp)(h:j≤k) :
  FnOk P w K mg base CX k f fd ps sp:=⟨F.len,fun A outer s H args us vs Q E hr=>F.run A outer s H args us vs Q E (hr.mono h)⟩
section
variable {X:Cx}{pins:List (Addr×Obj)}{σ:St}{H:Hp}{s s':Shared}
theorem Inv.env0(I:Inv X pins σ H s):Env0 X.prog X.w X.K X.mg X.base X.A X.stack s H :=
 ⟨I.ok.frames,I.ok.mod,I.bs,m7 I.ok.bsz I.sz,I.stack,I.stkFree,I.hok,I.bare⟩
theorem Inv.after{Q:VK}{u:Value}(I:Inv X pins σ H s)(h:CE X.stack X.prog X.w H s Q u s'):EP X pins σ Q u s':=by
 obtain⟨v,H',os,bare,un,hok,r,q⟩:=h
 obtain⟨hh,g,d,t,os'⟩:=s'
 obtain rfl:os'=s.os:=os
 exact⟨v,H',I.call (h':=hh) (g':=g) (d':=d) (t':=t) (ch:=[]) un hok bare (fun b z=>absurd z (by simp)),r,q⟩
end
def AG(sp:Sp)(dvs:List V)(E:XK)(t:TA):TE:=fun σ H Q=>t σ H fun vs H1=>sp (vs++dvs) H1 Q E
def Binds(K:b9)(fd:FuncData)(ps:List Str)(ds:List Value):Prop :=
 ∀ (s:Shared) (us:List Value),K.In s.heap→(us++ds).length=ps.length→BindsTo s fd ⟨us,[]⟩ (ps.zip (us++ds))
theorem Binds.all{K:b9}{fd:FuncData}{ps:List Str}(h:∀ us:List Value,us.length=ps.length→bindArgs fd ⟨us,[]⟩=pure (ps.zip us)):Binds K fd ps []:=fun s us _ hl=>by
 rw[w5] at hl ⊢
 exact .of_eq (h us hl)
def oG(CX:yK)(X:Cx)(E:XK):Prop:=∀ (pins:List (Addr×Obj)) (σ:St) (H:Hp) (s:Shared) (e:Value) (s':Shared),Inv X pins σ H s→CX X.stack H s E e s'→X.xe e s'
section
variable {X:Cx}{CX:yK}{k:Nat}{f C:Addr}{fd:FuncData}{ps:List Str}{sp:Sp}{dvs:List V}{ds:List Value}{E:XK}{x m:Str}{p pos apos:Pos}{e o:Expr}{es:List Expr}{ta:TE}{t:TA}
theorem nL{pins:List (Addr×Obj)}{σ:St}{H:Hp}{s:Shared}{Q:VK}{us:List Value}{vs:List V}(F:FnOk X.prog X.w X.K X.mg X.base CX k f fd ps sp)(hr:Room k X.A)(hb:Binds X.K fd ps ds)(hd:Vals dvs ds)(hx:oG CX X E)
  (I:Inv X pins σ H s) (r:Vals vs us) (h:sp (vs++dvs) H Q E):wpAny (model X.prog X.w) X.A (call (.ref f) us) (EP X pins σ Q) X.xe s:=by
 have r2:Vals (vs++dvs) (us++ds):=r.append hd
 have hl:(us++ds).length=ps.length:=by rw[← r2.length];exact F.len _ _ _ _ h
 refine wpAny_call (codeAny_mono (F.run X.A X.stack s H ⟨us,[]⟩ (us++ds) (vs++dvs) Q E hr I.env0 (hb s us I.kIn hl) r2 h) fun r s' hq=>?_)
 cases r with
 | error e=>exact hx pins σ H s e s' I hq
 | ok fl =>
  cases fl with
  | ret u=>exact I.after hq
  | next=>exact False.elim hq
  | brk=>exact False.elim hq
  | cont=>exact False.elim hq
theorem aJ(F:FnOk X.prog X.w X.K X.mg X.base CX k f fd ps sp)(hr:Room k X.A)(hg:Gl X x)(hm:X.mg x=some (.ref f))(hk:PySem.W.keepIn X.K (.ref f)=true)(hb:Binds X.K fd ps ds)(hd:Vals dvs ds)(hx:oG CX X E)
  (ha:PA X (e::es) t) (hdb:(x == ("__debug__":Str))=false:=by decide) (he:starEach (e::es) X.env=(false,eval e X.env)::starEach es X.env:=by rfl) (hpl:(backTo pos (starEach es X.env)).any (·.1)=false:=by rfl) :
  PE X (.Call (.Name x p) (e::es) [] pos) (AG sp dvs E t):=by
 intro pins s σ H Q I h
 refine wpAny_Call_Name_kw (jM I hg hm ?_ hdb)
 refine PySem.W.callWith_K (h₀:=X.base) I.ok.mod.kin hk (bP (ha pos pins s σ H _ I h) fun us s1 ⟨vs,H1,I1,r,q⟩=>⟨I1.kIn,?_⟩) he hpl
 exact nL F hr hb hd hx I1 r q
theorem wF(F:FnOk X.prog X.w X.K X.mg X.base CX k f fd ps sp)(hr:Room k X.A)(hg:Gl X x)(hm:X.mg x=some (.ref f))(hk:PySem.W.keepIn X.K (.ref f)=true)(hb:Binds X.K fd ps ds)(hd:Vals dvs ds)(hx:oG CX X E)
  (hdb:(x == ("__debug__":Str))=false:=by decide):PE X (.Call (.Name x p) [] [] pos) (AG sp dvs E zL):=by
 intro pins s σ H Q I h
 refine wpAny_Call_Name_kw (jM I hg hm ?_ hdb)
 exact PySem.W.callWith_K0 I.kIn hk (nL (us:=[]) F hr hb hd hx I .nil h)
end
def PK(X:Cx)(kws:List Keyword)(t:TA):Prop :=
 ∀ (pos:Pos) (pins:List (Addr×Obj)) (s:Shared) (σ:St) (H:Hp) (Q:List V→Hp→Prop),Inv X pins σ H s→t σ H Q→wpAny (model X.prog X.w) X.A (evalAll ((backToKw pos (keywordEach kws X.env)).map (·.2))) (AP X pins σ Q) X.xe s
section
variable {X:Cx}{CX:yK}{k:Nat}{f C:Addr}{fd:FuncData}{ps ks:List Str}{sp:Sp}{E:XK}{x m:Str}{p pos apos kpos:Pos}{e o:Expr}{es:List Expr}{kws:List Keyword}{te ta:TE}{t tk:TA}{nm:Option Str}
theorem Bf:PK X [] zL:=fun _ _ _ _ H Q I h=>wpAny_evalAll_nil ⟨[],H,I,.nil,h⟩
theorem yS(ha:PE X e te)(hr:PK X kws t):PK X (⟨nm,e,kpos⟩::kws) (vH te t):=by
 intro pos pins s σ H Q I h
 show wpAny _ _ (evalAll ((do let v ← eval e X.env;standAt pos;pure v)::(backToKw pos (keywordEach kws X.env)).map (·.2))) _ _ s
 refine wpAny_evalAll_cons (wpAny_bind (bP (ha pins s σ H _ I h) fun u s1 ⟨x,H1,I1,r1,q1⟩=>wpAny_bind (wpAny_standAt (wpAny_pure ?_))))
 exact bP (hr pos pins s1 σ H1 _ I1 q1) fun us s2 ⟨xs,H2,I2,r2,q2⟩=>⟨x::xs,H2,I2,.cons r1 r2,q2⟩
variable {g:List Value→List Value→List Value}{gV:List V→List V→List V}
end
structure FnScope(N P:List Str)(sc:Scope):Prop where
 kind:sc.kind=.function
 co:sc.isCoroutine=false
 gen:sc.isGenerator=false
 nd:N.Nodup
 pre:N.take P.length=P
 par:∀ x∈P,sc.names.lookup x=some .local∨sc.names.lookup x=some .cell
 nofree:∀ y∈sc.names,y.2≠.free
theorem lX{kindOf:Str→Option NameKind}{x:Str}:∀ {binds:List (Str×Value)} {m:Str→Option Value},(∀ v,(x,v) ∉ binds)→bindL kindOf binds m x=m x
 | [],_,_=>rfl
 | (n,v)::r,m,h=>by
  unfold bindL
  rw[lX fun w hw=>h w (i9 _ hw)]
  split
  ·have:x≠n:=by rintro rfl;exact h v j6
   simp[this]
  ·rfl
theorem mN{kindOf:Str→Option NameKind}{x:Str}:∀ {binds:List (Str×Value)} {m:Str→Option Value},(∀ v,(x,v) ∉ binds)→bindC kindOf binds m x=m x
 | [],_,_=>rfl
 | (n,v)::r,m,h=>by
  unfold bindC
  rw[mN fun w hw=>h w (i9 _ hw)]
  split
  ·rfl
  ·have:x≠n:=by rintro rfl;exact h v j6
   simp[this]
theorem lV{kindOf:Str→Option NameKind}{x:Str}{v:Value}:∀ {P:List Str} {vs:List Value} {i:Nat} {m:Str→Option Value},P.Nodup→P[i]?=some x→vs[i]?=some v→kindOf x=some .local →
  bindL kindOf (P.zip vs) m x=some v
 | [],_,_,_,_,h,_,_=>by simp at h
 | _::_,[],_,_,_,_,h,_=>by simp at h
 | p::P,w::vs,0,m,nd,h1,h2,hk=>by
  simp at h1 h2;subst h1;subst h2
  show bindL kindOf ((p,w)::P.zip vs) m p=_
  unfold bindL
  rw[lX fun v hv=>(x9.mp nd).1 (aXR hv).1,if_pos hk]
  simp
 | p::P,w::vs,i+1,m,nd,h1,h2,hk=>by
  show bindL kindOf ((p,w)::P.zip vs) m x=_
  unfold bindL
  exact lV (i:=i) (x9.mp nd).2 (by simpa using h1) (by simpa using h2) hk
theorem mF{kindOf:Str→Option NameKind}{x:Str}{v:Value}:∀ {P:List Str} {vs:List Value} {i:Nat} {m:Str→Option Value},P.Nodup→P[i]?=some x→vs[i]?=some v→kindOf x≠some .local →
  bindC kindOf (P.zip vs) m x=some v
 | [],_,_,_,_,h,_,_=>by simp at h
 | _::_,[],_,_,_,_,h,_=>by simp at h
 | p::P,w::vs,0,m,nd,h1,h2,hk=>by
  simp at h1 h2;subst h1;subst h2
  show bindC kindOf ((p,w)::P.zip vs) m p=_
  unfold bindC
  rw[mN fun v hv=>(x9.mp nd).1 (aXR hv).1,if_neg hk]
  simp
 | p::P,w::vs,i+1,m,nd,h1,h2,hk=>by
  show bindC kindOf ((p,w)::P.zip vs) m x=_
  unfold bindC
  exact mF (i:=i) (x9.mp nd).2 (by simpa using h1) (by simpa using h2) hk
def hG(N:List Str)(vs:List V):St:=vs.map some++List.replicate (N.length - vs.length) none
def rB(CX:yK)(P:Program)(w:World)(K:b9)(mg:Str→Option Value)(base:Heap)(N:List Str)(qual:Str)(scope:Scope)(f:Addr)(cd:Value)(A:Around)(outer:List Env)(s:Shared)(H:Hp)(E:XK):Cx where
 prog:=P
 w:=w
 K:=K
 mg:=mg
 base:=base
 A:=A.deeper (envOfC qual scope s.heap.objs.size f cd)
 N:=N
 s₀:=s
 H₀:=H
 env:=envOfC qual scope s.heap.objs.size f cd
 outer:=outer
 stack:=envOfC qual scope s.heap.objs.size f cd::outer
 ex:=[]
 calm:=true
 fn:=fun _=>true
 pn:=[]
 xe:=fun e s'=>wpAny (model P w) (A.deeper (envOfC qual scope s.heap.objs.size f cd)) (leaving (envOfC qual scope s.heap.objs.size f cd) e) (fun _ s''=>CX outer H s E e s'') (fun e' s''=>CX outer H s E e' s'') s'
theorem oM{sc:Scope}{n:Nat}{x:Str}(h:sc.names.lookup x=some .cell):∃ c,(cellsFrom n sc.names []).lookup x=some c:=by
 have q:=aXT sc.names n [] (.inl h)
 exact v0.mp q
theorem uL{CX:yK}{P:Program}{w:World}{K:b9}{mg:Str→Option Value}{base:Heap}{N ps:List Str}{qual:Str}{scope:Scope}{f:Addr}{cd:Value}{A:Around}{outer:List Env}{s s1:Shared}{H:Hp}{E:XK}{us:List Value}{vs:List V}
  (S:FnScope N ps scope) (hd:A.handled=none) (e0:Env0 P w K mg base A outer s H) (hl:vs.length=ps.length) (r:Vals vs us)
  (x:InCallC s s.heap.objs.size (bindL (envOfC qual scope s.heap.objs.size f cd).kindOf (ps.zip us) fun _=>none) (cellsFrom (s.heap.objs.size+1) scope.names []) (bindC (envOfC qual scope s.heap.objs.size f cd).kindOf (ps.zip us) fun _=>none) s1) :
  Inv (rB CX P w K mg base N qual scope f cd A outer s H E) [] (hG N vs) H s1:=by
 have hpl:ps.length≤N.length:=by have:=congrArg List.length S.pre;rw[k9] at this;omega
 obtain⟨h1,tk,rfl,hk⟩:=x.done
 have noA:∀ b:Addr,b ∉ (rB CX P w K mg base N qual scope f cd A outer s H E).ex:=fun b z=>absurd (show b∈([]:List Addr) from z) (by simp)
 refine⟨⟨e0.mod,S.kind,rfl,rfl,c8 _,fun y z c h1 h2=>?_,fun y hy=>?_,fun y c _ h=>?_,fun _=>hd,aXZ e0.frames,.inr ⟨rfl,rfl⟩,fun b z=>absurd z (noA b),e0.bs,e0.bsz,fun b _ _=>noA b,fun b z=>absurd z (noA b),e0.funs,e0.frf⟩,
  rfl,e0.bare,Un.kept hk,⟨_,x.toInCall.ns,fun i y v h1 h2 h3=>?_⟩,fun y c h=>⟨_,x.cell y c h⟩,e0.hok.fresh (c8 _),fun y c h=>?_,fun p hp=>absurd (show p∈([]:List (Addr×Obj)) from hp) (by simp),e0.hok.kept hk,?_⟩
 ·exact name_of_addr x.apart (l7 h1) (l7 h2)
 ·have hy:scope.names.lookup y=some .cell∨scope.names.lookup y=some .free:=hy
  rcases hy with hy | hy
  ·exact oM hy
  ·exact absurd rfl (S.nofree _ (l7 hy))
 ·exact aQW (x.above y c (l7 h))
 ·have hi:i<vs.length:=by
   unfold hG at h2
   by_cases hi:i<vs.length
   ·exact hi
   ·rw[z0 (by simpa using hi)] at h2
    rw[List.getElem?_replicate] at h2
    split at h2 <;> cases h2
  have ha:vs[i]?=some v:=by
   unfold hG at h2
   rw[t6 (by simpa using hi),f6] at h2
   cases e:vs[i]? with
   | none=>rw[e] at h2;cases h2
   | some a=>rw[e] at h2;cases h2;rfl
  obtain⟨u,hu,rv⟩:=r.get ha
  have hp:ps[i]?=some y:=by
   rw[← S.pre,aQC (by omega)];exact h1
  have ndP:ps.Nodup:=by rw[← S.pre];exact S.nd.sublist (List.take_sublist _ _)
  refine⟨u,rv,?_⟩
  rcases S.par y (d7 hp) with k | k
  ·exact .inl ⟨k,lV ndP hp hu k⟩
  ·obtain⟨c,e⟩:=oM (n:=s.heap.objs.size+1) k
   refine .inr ⟨.inl k,c,e,?_⟩
   have q:=x.cell y c e
   rw[mF ndP hp hu (by show scope.names.lookup y≠_;rw[k];decide)] at q
   exact q
 ·exact e0.hok.fresh (aQW (x.above y c (l7 h)))
 ·unfold hG
  show _=N.length
  rw[g9,c6,List.length_replicate]
  omega
theorem Ay{CX:yK}{P:Program}{w:World}{K:b9}{mg:Str→Option Value}{base:Heap}{k:Nat}{f:Addr}{name qual:Str}{params:Arguments}{body:List Stmt}{scope:Scope}{dV kV doc pm cdv ct oc:Value}{an od:Option Addr}
  {osl:Array (Option Value)} {N ps:List Str} {sp:Sp} (lk:K.lookup f=some ⟨oc,od,.func (PySem.W.fnOf name qual params body scope dV kV doc pm an cdv ct),osl⟩) (hcd:PySem.W.codeIn K cdv qual=true) (S:FnScope N ps scope)
  (len:∀ vs H Q E,sp vs H Q E→vs.length=ps.length)
  (hbody:∀ (A:Around) (outer:List Env) (s:Shared) (H:Hp) (vs:List V) (Q:VK) (E:XK),Room k (A.deeper (envOfC qual scope s.heap.objs.size f cdv))→sp vs H Q E →
   ∃ t,PSs (rB CX P w K mg base N qual scope f cdv A outer s H E) body t∧t { nx:=fun _ H'=>Q .non H',rt:=Q } (hG N vs) H) :
  FnOk P w K mg base CX (k+1) f (PySem.W.fnOf name qual params body scope dV kV doc pm an cdv ct) ps sp:=by
 refine⟨len,fun A outer s H args us vs Q E hr e0 hb r hsp=>?_⟩
 have hl:=len _ _ _ _ hsp
 have KX:K.In s.heap:=e0.mod.kin.keeps fun b o e=>(e0.bs b o e).1
 have lim:s.heap.NoLimit:=e0.mod.nolimit.keeps fun b o e=>(e0.bs b o e).1
 have hkind:∀ y∈ps.zip us,scope.names.lookup y.1=some .local∨(scope.names.lookup y.1=some .cell∧((cellsFrom (s.heap.objs.size+1) scope.names []).lookup y.1).isSome=true):=fun ⟨n,v⟩ hy=>by
  rcases S.par n (aXR hy).1 with q | q
  ·exact .inl q
  ·exact .inr ⟨q,aXT _ _ _ (.inl q)⟩
 refine codeAny_call_function hr.depth (KX _ _ lk) rfl S.co S.gen rfl (PySem.W.codeRec_of KX hcd) (hb _ _ _ _ ?_)
 refine wpAny_newFunctionEnv_cells S.kind hkind fun env he s1 x=>?_
 subst he
 refine⟨lim.keeps x.toInCall.keep,codeAny_func ?_⟩
 obtain⟨t,ht,hq⟩:=hbody A outer s H vs Q E (hr.deeper _) hsp
 have I:Inv (rB CX P w K mg base N qual scope f cdv A outer s H E) [] (hG N vs) H s1:=uL S hr.hd e0 hl r x
 refine wpAny_mono (ht [] s1 (hG N vs) H _ I hq) (fun fl s' hs=>?_) fun e s' hs=>hs
 have fin:∀ {σ':St} {H':Hp} {v:V} {u:Value},Inv (rB CX P w K mg base N qual scope f cdv A outer s H E) [] σ' H' s'→RelV v u→Q v H'→CE outer P w H s Q u s' :=
  fun {σ' H' v u} J rv q=>⟨v,H',J.os,J.bare,J.base,J.hok,rv,q⟩
 cases fl with
 | ret u =>
  obtain⟨v,σ',H',J,rv,q⟩:=hs
  exact fin J rv q
 | next =>
  obtain⟨σ',H',J,q⟩:=hs
  exact fin (v:=V.non) (u:=Value.none) J rfl q
 | brk =>
  obtain⟨_,_,_,q⟩:=hs
  exact False.elim q
 | cont =>
  obtain⟨_,_,_,q⟩:=hs
  exact False.elim q
section
variable {X:Cx}{x:Str}{p pos:Pos}{e:Expr}{es:List Expr}{t:TA}{id T:String}{r:List V→Hp→VK→Prop}
def DV(r:List V→Hp→VK→Prop)(t:TA):TE:=fun σ H Q=>t σ H fun vs H1=>r vs H1 Q
theorem bB(hc:dC X (.builtin id) r)(hg:Gl X x)(hm:X.mg x=none)(hv:bootBuiltins x=some (.builtin id))(ha:PA X (e::es) t)(hn:x≠"__name__":=by decide)(hdb:(x == ("__debug__":Str))=false:=by decide)
  (he:starEach (e::es) X.env=(false,eval e X.env)::starEach es X.env:=by rfl) (hpl:(backTo pos (starEach es X.env)).any (·.1)=false:=by rfl):PE X (.Call (.Name x p) (e::es) [] pos) (DV r t):=by
 intro pins s σ H Q I h
 refine wpAny_Call_Name_kw (eX I hg hm hv ?_ hn hdb)
 exact aZE (bP (ha pos pins s σ H _ I h) fun us s1 ⟨vs,H1,I1,r1,q1⟩=>hc pins s1 σ H1 vs us Q I1 r1 q1) he hpl
theorem bY(hc:dC X (.type T) r)(hg:Gl X x)(hm:X.mg x=none)(hv:bootBuiltins x=some (.type T))(ha:PA X (e::es) t)(hn:x≠"__name__":=by decide)(hdb:(x == ("__debug__":Str))=false:=by decide)
  (he:starEach (e::es) X.env=(false,eval e X.env)::starEach es X.env:=by rfl) (hpl:(backTo pos (starEach es X.env)).any (·.1)=false:=by rfl):PE X (.Call (.Name x p) (e::es) [] pos) (DV r t):=by
 intro pins s σ H Q I h
 refine wpAny_Call_Name_kw (eX I hg hm hv ?_ hn hdb)
 exact w4 (bP (ha pos pins s σ H _ I h) fun us s1 ⟨vs,H1,I1,r1,q1⟩=>hc pins s1 σ H1 vs us Q I1 r1 q1) he hpl
end
end L2
namespace HT
open PySem PyProof.Rows
def lexLt:List Int→List Int→Bool
 | [],[]=>false
 | [],_::_=>true
 | _::_,[]=>false
 | x::xs,y::ys=>if x=y then lexLt xs ys else decide (x<y)
theorem lexLt_cons(x y:Int)(xs ys:List Int):lexLt (x::xs) (y::ys)=if x=y then lexLt xs ys else decide (x<y):=rfl
theorem xL(A:Around)(s:Shared)(a:Int)(t:Tok)(c:Int)(u:Tok)(prog:Program)(w:World)(E:Value→Shared→Prop)(Q:Value→Shared→Prop)(h:Q (.bool (decide (a<c))) s) :
  wpAny (model prog w) A (richCompare .Lt (.int a t) (.int c u)) Q E s :=
 (aZt h:wpAny (model prog w) A (compareOp .Lt (.int a t) (.int c u)) Q E s)
section
variable {prog:Program}{w:World}{A:Around}{E:Value→Shared→Prop}{s:Shared}
theorem cat_tup{t b:Addr}{vs ws:List Value}{Q:Value→Shared→Prop}(ht:IsTup s.heap t vs.toArray)(hb:IsTup s.heap b ws.toArray)(hv:vs≠[])
  (h1:ws=[]→Q (.ref t) s) (h2:ws≠[]→Q (.ref s.heap.objs.size) { s with heap:=s.heap.push { cls:=.type "tuple",data:=.seq (vs++ws).toArray } })
  (hsz:vs.length+ws.length≤sizeLine):wpAny (model prog w) A (binaryOp .Add (.ref t) (.ref b)) Q E s:=by
 obtain⟨⟨cls,dd,data,sl⟩,ho,hc,n,hd⟩:=id ht
 obtain⟨⟨cls2,dd2,data2,sl2⟩,ho2,hc2,n2,hd2⟩:=id hb
 simp only at hc hd hc2 hd2
 subst hc hd hc2 hd2
 have e:vs.toArray++ws.toArray=(vs++ws).toArray:=by simp
 by_cases hw:ws=[]
 ·exact concat_meets ⟨_,ho,rfl⟩ ⟨_,ho2,rfl⟩ noFill_tuple_add seq_tuple_add aQ7 aQ0 (aQX _ _)
   (tuple_addW1 t b vs.toArray ws.toArray n n2 dd dd2 sl sl2 (by simpa using hv) (by simp[hw])) ⟨ho,ho2,h1 hw⟩
 ·refine concat_meets ⟨_,ho,rfl⟩ ⟨_,ho2,rfl⟩ noFill_tuple_add seq_tuple_add aQ7 aQ0 (aQX _ _)
   (tuple_addW2 t b vs.toArray ws.toArray n n2 dd dd2 sl sl2 (by simpa using hv) (by simpa using hw) (by rw[f9,f9];exact hsz)) ⟨ho,ho2,?_⟩
  rw[e]
  exact h2 hw
def sIx(n d:Nat):Option Int→Nat
 | none=>d
 | some v=>if v<0 then (v+(n:Int)).toNat else min v.toNat n
theorem slicePart_{v:Value}{o:Option Int}{Q:Option Int→Shared→Prop}(p:IsPart v o)(h:Q o s):wpAny (model prog w) A (Builtin.Slice.slicePartIndex v) Q E s:=by
 cases p with
 | none=>exact slicePart_none h
 | int i t=>exact slicePart_int h
end
end HT
namespace L2
open PySem PySem.Spec PyProof.Rows
abbrev TO:=St→Hp→(Option Int→Hp→Prop)→Prop
def PO(X:Cx)(e:Option Expr)(t:TO):Prop :=
 ∀ (pins:List (Addr×Obj)) (s:Shared) (σ:St) (H:Hp) (Q:Option Int→Hp→Prop),Inv X pins σ H s→t σ H Q →
  wpAny (model X.prog X.w) X.A (evalPart e X.env) (fun u s'=>∃ o H',Inv X pins σ H' s'∧IsPart u o∧Q o H') X.xe s
def zX:TO:=fun _ H Q=>Q none H
inductive tPartI(Q:Option Int→Hp→Prop)(x:V)(H1:Hp):Prop
 | mk (i:_) (_:x=.int i) (_:Q (some i) H1):tPartI Q x H1
def CU(t:TE):TO:=fun σ H Q=>t σ H fun x H1=>tPartI Q x H1
theorem kO{ns:List Int}:∀ {us:List Value},Vals (ns.map V.int) us→IntsAre us ns:=by
 induction ns with
 | nil=>intro us r;rw[aX9] at r;cases r;exact .nil
 | cons n ns ih =>
  intro us r
  rw[k7] at r
  cases r with
  | cons r1 r2 =>
   obtain⟨t,e⟩:=r1
   subst e
   exact .cons n t (ih r2)
section
variable {X:Cx}{e:Expr}{te:TE}{lo hi:Option Expr}{tl th:TO}{pos p2:Pos}
theorem dJ:PO X none zX:=by
 intro pins s σ H Q I h
 rw[evalPart_none]
 exact wpAny_pure ⟨none,H,I,.none,h⟩
theorem cA(h:PE X e te):PO X (some e) (CU te):=by
 intro pins s σ H Q I hw
 rw[evalPart_some]
 refine bP (h pins s σ H _ I hw) fun u s1 ⟨x,H1,I1,r1,q1⟩=>?_
 obtain⟨i,rfl,q⟩:=q1
 obtain⟨t,rfl⟩:=r1
 exact⟨some i,H1,I1,.int i t,q⟩
def Dk(X:Cx)(r:V→Option Int→Option Int→Hp→VK→Prop):Prop :=
 ∀ (pins:List (Addr×Obj)) (s:Shared) (σ:St) (H:Hp) (x:V) (v vl vu:Value) (lo hi:Option Int) (sl:Addr) (Q:VK),Inv X pins σ H s→RelV x v→s.heap.IsSliceOf sl vl vu .none→IsPart vl lo→IsPart vu hi→r x lo hi H Q →
  ∃ T id,typeLookup (.type T) "__getitem__"=pure (some (.builtin id))∧s.TypeIs v T∧wpAny (model X.prog X.w) X.A (getItem v (.ref sl)) (EP X pins σ Q) X.xe s
def DX(r:V→Option Int→Option Int→Hp→VK→Prop)(te:TE)(tl th:TO):TE:=fun σ H Q=>te σ H fun x H1=>tl σ H1 fun l H2=>th σ H2 fun u H3=>r x l u H3 Q
theorem cJ{r:V→Option Int→Option Int→Hp→VK→Prop}(hr:Dk X r)(he:PE X e te)(hl:PO X lo tl)(hu:PO X hi th):PE X (.Subscript e (.Slice lo hi none p2) pos) (DX r te tl th):=by
 intro pins s σ H Q I h
 refine Subscript_ (bP (he pins s σ H _ I h) fun v s1 ⟨x,H1,I1,r1,q1⟩=>?_)
 refine wpAny_Slice (bP (hl pins s1 σ H1 _ I1 q1) fun vl s2 ⟨l,H2,I2,pl,q2⟩=>bP (hu pins s2 σ H2 _ I2 q2) fun vu s3 ⟨u,H3,I3,pu,q3⟩=>?_)
 rw[evalPart_none]
 refine wpAny_pure ?_
 have I4:Inv X pins σ H3 { s3 with heap:=s3.heap.push { cls:=.type "slice",data:=.fields #[vl,vu,.none] } }:=I3.kept (t':=s3.toks) fun b ob q=>a9 _ q
 obtain⟨T,id,hT,ht,hg⟩:=hr pins { s3 with heap:=s3.heap.push { cls:=.type "slice",data:=.fields #[vl,vu,.none] } } σ H3 x v vl vu l u s3.heap.objs.size Q I4 r1 (aXa ..) pl pu q3
 show wpAny (model X.prog X.w) X.A (subscriptTail e (.Slice lo hi none p2) v (.ref s3.heap.objs.size)) (EP X pins σ Q) X.xe { s3 with heap:=s3.heap.push { cls:=.type "slice",data:=.fields #[vl,vu,.none] } }
 exact tail_any (ops:=[.ref s3.heap.objs.size,v]) ht hT hg (by with_unfolding_all rfl)
def Av(xs:List V)(lo hi:Option Int):List V:=(xs.drop (HT.sIx xs.length 0 lo)).take (HT.sIx xs.length xs.length hi - HT.sIx xs.length 0 lo)
theorem pI(xs:List V)(lo hi:Option Int):(Av xs lo hi).length≤xs.length:=by
 unfold Av
 rw[k9,u5]
 omega
inductive rCatTI(K:b9)(x:V)(y:V)(H:Hp)(Q:VK):Prop
 | mk (a b xs ys:_) (_:x=.ref a) (_:y=.ref b) (_:SqT K H a xs) (_:SqT K H b ys) (_:xs≠[]) (_:xs.length+ys.length≤sizeLine) (_:(ys=[]→Q (.ref a) H)) (_:(ys≠[]→∀ p,H p=none→Q (.ref p) (upd H p (.tup (xs++ys))))):rCatTI K x y H Q
def Cv(K:b9):R2:=fun x y H Q=>rCatTI K x y H Q
theorem Vals.nil_iff{xs:List V}{us:List Value}(r:Vals xs us):us=[]↔xs=[]:=by
 cases r with
 | nil=>simp
 | cons _ _=>simp
theorem zB:gC X (binaryOp .Add) (Cv X.K):=by
 intro pins s σ H x y v u Q I rx ry h
 obtain⟨a,b,xs,ys,rfl,rfl,ha,hb,hx,hz,q1,q2⟩:=h
 cases rx
 cases ry
 obtain⟨its,r1,p1,_⟩:=I.tuple ha
 obtain⟨its2,r2,p2,_⟩:=I.tuple hb
 refine HT.cat_tup p1 p2 (fun z=>hx (r1.nil_iff.mp z)) (fun z=>⟨.ref a,H,I,rfl,q1 (r2.nil_iff.mp z)⟩) (fun z=>?_) (by rw[← r1.length,← r2.length];exact hz)
 refine⟨.ref s.heap.objs.size,_,I.laid (t':=s.toks) (o:=.tup (xs++ys)) (fun b ob q=>a9 _ q) (c8 _) ?_,rfl,q2 (fun w=>z (r2.nil_iff.mpr w)) _ (I.hok.fresh (c8 _))⟩
 exact⟨by rw[g9];exact hz,_,r1.append r2,aZQ _ _,NoD.new _ _⟩
end
def zN(n:Nat)(i:Int):Option Nat:=if 0≤i then (if i<n then some i.toNat else none) else if -(n:Int)≤i then some (i+n).toNat else none
def nQ{α:Type}(xs:List α)(i:Int):Option α:=(zN xs.length i).bind fun j=>xs[j]?
theorem sB{n:Nat}{i:Int}{j:Nat}(h:zN n i=some j):seqIndex? i n=some j∧j<n∧-(n:Int)≤i∧i<n:=by
 unfold zN at h
 by_cases h0:0≤i
 ·rw[if_pos h0] at h
  by_cases h1:i<n
  ·rw[if_pos h1] at h
   have e:i.toNat=j:=j7 h
   exact⟨by rw[seqIndex_of h0 h1,e],by omega,by omega,h1⟩
  ·rw[if_neg h1] at h;cases h
 ·rw[if_neg h0] at h
  by_cases h1:-(n:Int)≤i
  ·rw[if_pos h1] at h
   have e:(i+n).toNat=j:=j7 h
   exact⟨by rw[seqIndex_neg (by omega) h1,e],by omega,h1,by omega⟩
  ·rw[if_neg h1] at h;cases h
theorem mW{α:Type}{xs:List α}{i:Int}{v:α}(h:nQ xs i=some v):∃ j,seqIndex? i xs.length=some j∧xs[j]?=some v∧j<xs.length∧-(xs.length:Int)≤i∧i<xs.length:=by
 unfold nQ at h
 cases e:zN xs.length i with
 | none=>rw[e] at h;cases h
 | some j =>
  rw[e] at h
  obtain⟨h1,h2,h3,h4⟩:=sB e
  exact⟨j,h1,h,h2,h3,h4⟩
theorem fX{α:Type}{xs:List α}{j:Nat}{v:α}(h:xs[j]?=some v):nQ xs (j:Int)=some v:=by
 have hj:j<xs.length:=(c5.mp h).1
 have e:zN xs.length (j:Int)=some j:=by
  unfold zN
  rw[if_pos (by omega),if_pos (by omega)];simp
 unfold nQ;rw[e];exact h
theorem iH{α:Type}(xs:List α)(v:α):nQ (xs++[v]) (-1)=some v:=by
 have hl:(xs++[v]).length=xs.length+1:=by simp
 have e:zN (xs++[v]).length (-1)=some xs.length:=by
  unfold zN
  rw[hl,if_neg (by decide),if_pos (by omega)]
  congr 1
  omega
 unfold nQ
 rw[e]
 show (xs++[v])[xs.length]?=some v
 simp
def Au(b:Expr):Prop:=∀ o i,subscripted b false o i=operate [o,i] (getItem o i)
def Bu(X:Cx)(r:R2):Prop :=
 ∀ (value slice:Expr) (pins:List (Addr×Obj)) (s:Shared) (σ:St) (H:Hp) (x y:V) (v u:Value) (Q:VK),Inv X pins σ H s→RelV x v→RelV y u→r x y H Q →
  subscripted slice false v u=operate [v,u] (getItem v u)→wpAny (model X.prog X.w) X.A (subscriptTail value slice v u) (EP X pins σ Q) X.xe s
def uY(X:Cx)(id:String)(r:V→List V→Hp→VK→Prop):Prop :=
 ∀ (pins:List (Addr×Obj)) (s:Shared) (σ:St) (H:Hp) (x:V) (xs:List V) (v:Value) (us:List Value) (Q:VK),Inv X pins σ H s→RelV x v→Vals xs us→r x xs H Q →
  wpAny (model X.prog X.w) X.A (call (.builtin id) (v::us)) (EP X pins σ Q) X.xe s
section
variable {X:Cx}{a b:Expr}{ta tb:TE}{pos:Pos}
theorem bL{r:R2}(hr:Bu X r)(ha:PE X a ta)(hb:PE X b tb)(hs:Au b):PE X (.Subscript a b pos) (Da r ta tb):=by
 intro pins s σ H Q I h
 exact Subscript_ (A6 ha hb I h fun v u s2 x y H2 I2 rx ry q=>hr a b pins s2 σ H2 x y v u Q I2 rx ry q (hs _ _))
inductive rIxLI(K:b9)(x:V)(y:V)(H:Hp)(Q:VK):Prop
 | mk (p xs i v:_) (_:x=.ref p) (_:y=.int i) (_:SqL K H p xs) (_:nQ xs i=some v) (_:Q v H):rIxLI K x y H Q
def CJ(K:b9):R2:=fun x y H Q=>rIxLI K x y H Q
inductive rIxTI(K:b9)(x:V)(y:V)(H:Hp)(Q:VK):Prop
 | mk (p xs i v:_) (_:x=.ref p) (_:y=.int i) (_:SqT K H p xs) (_:nQ xs i=some v) (_:Q v H):rIxTI K x y H Q
def BL(K:b9):R2:=fun x y H Q=>rIxTI K x y H Q
inductive rIxSI(x:V)(y:V)(H:Hp)(Q:VK):Prop
 | mk (z i c:_) (_:x=.str z) (_:y=.int i) (_:z.length≤sizeLine) (_:nQ z.cps.toList i=some c) (_:Q (.str ⟨#[c]⟩) H):rIxSI x y H Q
def DL:R2:=fun x y H Q=>rIxSI x y H Q
theorem Ap:Bu X (CJ X.K):=by
 intro value slice pins s σ H x y v u Q I rx ry h hs
 obtain⟨p,xs,i,z,rfl,rfl,hq,he,q⟩:=h
 cases rx
 obtain⟨t,rfl⟩:=ry
 obtain⟨its,r,pl,hz⟩:=I.list hq
 obtain⟨j,h1,h2,h3,h4,h5⟩:=mW he
 obtain⟨w,ew,rw'⟩:=r.get h2
 have hl:=r.length
 have hn:=jA
 have fin:EP X pins σ Q w s:=⟨z,H,I,rw',q⟩
 by_cases h0:0≤i
 ·have hj:i.toNat=j:=by
   rw[seqIndex_of h0 h5] at h1
   exact j7 h1
  exact item_listR pl.isList h0 (by omega) (by rw[hj];simpa using ew) fin hs
 ·have hj:(i+(its.toArray.size:Int)).toNat=j:=by
   rw[seqIndex_neg (by omega) h4] at h1
   rw[f9,← hl]
   exact j7 h1
  exact subscriptTail_builtinR (x:=w) pl.isList.typeIs slot_list_getitem.lookup
   (wpAny_getItem_list_neg (Q:=fun r s'=>r=w∧EP X pins σ Q r s') pl.isList (by omega) (by rw[f9] <;> omega) (by omega) (by rw[hj];simpa using ew) ⟨rfl,fin⟩) hs
theorem Bg:Bu X (BL X.K):=by
 intro value slice pins s σ H x y v u Q I rx ry h hs
 obtain⟨p,xs,i,z,rfl,rfl,hq,he,q⟩:=h
 cases rx
 obtain⟨t,rfl⟩:=ry
 obtain⟨its,r,pl,hz⟩:=I.tuple hq
 obtain⟨j,h1,h2,h3,h4,h5⟩:=mW he
 obtain⟨w,ew,rw'⟩:=r.get h2
 have hl:=r.length
 have hn:=jA
 have fin:EP X pins σ Q w s:=⟨z,H,I,rw',q⟩
 exact subscriptTail_builtinR (x:=w) pl.typeIs slot_tuple_getitem.lookup
  (getItem_tuple (j:=j) (Q:=fun r s'=>r=w∧EP X pins σ Q r s') pl (by omega) (by omega) (by rw[f9,← hl];exact h1) (by simpa using ew) ⟨rfl,fin⟩) hs
theorem kY:Bu X DL:=by
 intro value slice pins s σ H x y v u Q I rx ry h hs
 obtain⟨z,i,c,rfl,rfl,hz,he,q⟩:=h
 obtain⟨t,rfl⟩:=rx
 obtain⟨t',rfl⟩:=ry
 obtain⟨j,h1,h2,h3,h4,h5⟩:=mW he
 have hl:z.cps.toList.length=z.length:=by simp[Str.length]
 rw[hl] at h1 h4 h5
 have hn:=jA
 exact tail_any (typeIs_str s z t) slot_str_getitem.lookup (getItem_str (c:=c) (by
  have e1:decide (i < -(2 ^ 63:Int))=false:=decide_eq_false (by omega)
  have e2:decide (i ≥ 2 ^ 63)=false:=decide_eq_false (by omega)
  rw[e1,e2,aZR]) (by rw[h1];simpa using h2) ⟨.str ⟨#[c]⟩,H,I.tok _,⟨_,rfl⟩,q⟩) hs
theorem qK(its:List Value)(n j:Nat)(u:Value):Obj.mapSeq (·.setIfInBounds j u) { cls:=.type "list",data:=.seq its.toArray n }={ cls:=.type "list",data:=.seq (its.set j u).toArray n }:=by
 simp[Obj.mapSeq]
theorem Inv.lst{pins:List (Addr×Obj)}{σ:St}{H:Hp}{s:Shared}{p:Addr}{xs:List V}(I:Inv X pins σ H s)(h:H p=some (.lst xs)) :
  ∃ (its:List Value) (n:Nat),Vals xs its∧s.heap.get? p=some { cls:=.type "list",data:=.seq its.toArray n }∧xs.length≤sizeLine:=by
 obtain⟨z,its,n,r,e⟩:=I.hok p _ h
 exact⟨its,n,r,e,z⟩
theorem Inv.lstUpd{pins:List (Addr×Obj)}{σ:St}{H:Hp}{s:Shared}{p:Addr}{xs ys:List V}{its its':List Value}{n n':Nat}{f:Obj→Obj}(I:Inv X pins σ H s)(h:H p=some (.lst xs))
  (ho:s.heap.get? p=some { cls:=.type "list",data:=.seq its.toArray n }) (hf:f { cls:=.type "list",data:=.seq its.toArray n }={ cls:=.type "list",data:=.seq its'.toArray n' }) (r:Vals ys its') (hz:ys.length≤sizeLine) (t:Nat) :
  Inv X pins σ (upd H p (.lst ys)) { s with heap:=s.heap.update p f,toks:=t }:=by
 have e:(s.heap.update p f).get? p=some { cls:=.type "list",data:=.seq its'.toArray n' }:=by
  rw[y4 f ho (by rw[hf] <;> rfl),hf]
 refine I.write (x:=p) (e:=p) (by rw[h];trivial) (.inl rfl) (fun b u hb q=>(aQL _ _ (aQM hb)).trans q) ⟨_,e⟩ ?_
 exact⟨hz,its',n',r,e⟩
inductive rSetLI(o:V)(i:V)(v:V)(H:Hp)(Q:Hp→Prop):Prop
 | mk (p xs k j:_) (_:o=.ref p) (_:i=.int k) (_:H p=some (.lst xs)) (_:zN xs.length k=some j) (_:Q (upd H p (.lst (xs.set j v)))):rSetLI o i v H Q
def CW:V→V→V→Hp→(Hp→Prop)→Prop:=fun o i v H Q=>rSetLI o i v H Q
theorem eO:Cq X CW:=by
 intro pins s σ H o i v ov iv u Q I ro ri rv h
 obtain⟨p,xs,k,j,rfl,rfl,hp,hj,q⟩:=h
 cases ro
 obtain⟨t,rfl⟩:=ri
 obtain⟨its,n,r,ho,hz⟩:=I.lst hp
 obtain⟨h1,h2,h3,h4⟩:=sB hj
 have hl:=r.length
 have hn:=jA
 have I':Inv X pins σ (upd H p (.lst (xs.set j v))) { s with heap:=s.heap.update p (Obj.mapSeq (·.setIfInBounds j u)) } :=
  I.lstUpd hp ho (qK its n j u) (r.set rv j) (by rw[List.length_set];exact hz) s.toks
 by_cases h0:0≤k
 ·have hk:k.toNat=j:=by
   rw[seqIndex_of h0 h4] at h1
   exact j7 h1
  exact PySem.W.ki_setAt ho h0 (by omega) (by rw[f9,← hl];exact h4) (by rw[hk];exact⟨_,I',q⟩)
 ·have hk:(k+(its.toArray.size:Int)).toNat=j:=by
   rw[seqIndex_neg (by omega) h3] at h1
   rw[f9,← hl]
   exact j7 h1
  exact PySem.W.ki_setBack ho (by omega) (by rw[f9,← hl];exact h3) (by omega) (by rw[hk];exact⟨_,I',q⟩)
theorem nK(lo hi:Option Int)(n:Nat):(sliceBounds lo hi none n).1=((HT.sIx n 0 lo:Nat):Int)∧(sliceBounds lo hi none n).2.1=((HT.sIx n n hi:Nat):Int)∧(sliceBounds lo hi none n).2.2=1:=by
 refine⟨?_,?_,rfl⟩
 ·cases lo with
  | none=>simp[sliceBounds,HT.sIx]
  | some i =>
   simp only [sliceBounds,HT.sIx,aXs,show (1:Int) > 0 by decide,if_true]
   by_cases h:i<0
   ·simp only [h,if_true] <;> omega
   ·simp only [h,if_false] <;> omega
 ·cases hi with
  | none=>simp[sliceBounds,HT.sIx]
  | some i =>
   simp only [sliceBounds,HT.sIx,aXs,show (1:Int) > 0 by decide,if_true]
   by_cases h:i<0
   ·simp only [h,if_true] <;> omega
   ·simp only [h,if_false] <;> omega
theorem lO(its:List Value)(lo hi:Option Int):slicePick its.toArray lo hi none=((its.drop (HT.sIx its.length 0 lo)).take (HT.sIx its.length its.length hi - HT.sIx its.length 0 lo)).toArray:=by
 obtain⟨h1,h2,h3⟩:=nK lo hi its.toArray.size
 unfold slicePick
 rw[h1,h2,h3]
 simp only [sliceRange_one,pick_run,f9] <;> rfl
inductive rSlLI(K:b9)(x:V)(lo:Option Int)(hi:Option Int)(H:Hp)(Q:VK):Prop
 | mk (a xs:_) (_:x=.ref a) (_:SqL K H a xs) (_:∀ p,H p=none→Q (.ref p) (upd H p (.lst (Av xs lo hi)))):rSlLI K x lo hi H Q
def DJ(K:b9):V→Option Int→Option Int→Hp→VK→Prop:=fun x lo hi H Q=>rSlLI K x lo hi H Q
theorem Dc:Dk X (DJ X.K):=by
 intro pins s σ H x v vl vu lo hi sl Q I rx hs pl pu h
 obtain⟨a,xs,rfl,hx,q⟩:=h
 cases rx
 obtain⟨its,r,ht,hz⟩:=I.list hx
 have hlen:=r.length
 refine⟨"list",_,slot_list_getitem.lookup,ht.isList.typeIs,?_⟩
 refine wpAny_getItem_list_slice ht.isList hs pl pu .none (by simp) ?_ (by rw[f9] <;> omega)
 rw[lO,← hlen]
 refine⟨.ref s.heap.objs.size,_,I.laid (t':=s.toks) (o:=.lst (Av xs lo hi)) (fun b ob q=>a9 _ q) (c8 _) ?_,rfl,q _ (I.hok.fresh (c8 _))⟩
 exact⟨m7 (pI xs lo hi) hz,_,0,(r.drop (HT.sIx xs.length 0 lo)).take (HT.sIx xs.length xs.length hi - HT.sIx xs.length 0 lo),d8 _ rfl⟩
def dZ:V→Bool
 | .non=>true
 | .bl _=>true
 | .int _=>true
 | .str _=>true
 | _=>false
def qE:V→V→Bool
 | .non,.non=>true
 | .bl a,.bl b=>a == b
 | .bl a,.int b=>(if a then 1 else 0) == b
 | .int a,.bl b=>a == (if b then 1 else 0)
 | .int a,.int b=>a == b
 | .str a,.str b=>a == b
 | _,_=>false
theorem yD{A:Around}{s:Shared}{y x:V}{u v:Value}(ry:RelV y u)(rx:RelV x v)(fy:dZ y=true)(fx:dZ x=true):SeqAt.EqAt A s u v (qE y x):=by
 cases y with
 | non =>
  cases ry
  cases x with
  | non=>cases rx;exact SeqAt.EqAt.same _
  | bl b=>cases rx;exact SeqAt.EqAt.none_bool b
  | int b=>obtain⟨t,rfl⟩:=rx;exact SeqAt.EqAt.none_int b t
  | str b=>obtain⟨t,rfl⟩:=rx;exact SeqAt.EqAt.none_str b t
  | _=>exact absurd (show false=true from fx) k6
 | bl a =>
  cases ry
  cases x with
  | non=>cases rx;exact SeqAt.EqAt.bool_none a
  | bl b=>cases rx;exact SeqAt.EqAt.bool_bool a b
  | int b=>obtain⟨t,rfl⟩:=rx;exact SeqAt.EqAt.bool_int a b t
  | str b=>obtain⟨t,rfl⟩:=rx;exact SeqAt.EqAt.bool_str a b t
  | _=>exact absurd (show false=true from fx) k6
 | int a =>
  obtain⟨t',rfl⟩:=ry
  cases x with
  | non=>cases rx;exact SeqAt.EqAt.int_none a t'
  | bl b=>cases rx;exact SeqAt.EqAt.int_bool a t' b
  | int b=>obtain⟨t,rfl⟩:=rx;exact aQy a t' b t
  | str b=>obtain⟨t,rfl⟩:=rx;exact aX6 a t' b t
  | _=>exact absurd (show false=true from fx) k6
 | str a =>
  obtain⟨t',rfl⟩:=ry
  cases x with
  | non=>cases rx;exact SeqAt.EqAt.str_none a t'
  | bl b=>cases rx;exact SeqAt.EqAt.str_bool a t' b
  | int b=>obtain⟨t,rfl⟩:=rx;exact aX7 a t' b t
  | str b=>obtain⟨t,rfl⟩:=rx;exact SeqAt.EqAt.str_str a t' b t
  | _=>exact absurd (show false=true from fx) k6
 | _=>exact absurd (show false=true from fy) k6
def An(x:V)(u:Value):Bool:=match u with
 | .none=>qE .non x
 | .bool b=>qE (.bl b) x
 | .int i _=>qE (.int i) x
 | .str z _=>qE (.str z) x
 | _=>false
theorem xH{x y:V}{u:Value}(r:RelV y u)(f:dZ y=true):An x u=qE y x:=by
 cases y with
 | non=>cases r;rfl
 | bl b=>cases r;rfl
 | int i=>obtain⟨t,rfl⟩:=r;rfl
 | str z=>obtain⟨t,rfl⟩:=r;rfl
 | _=>exact absurd (show false=true from f) k6
theorem nE{x:V}:∀ {xs:List V} {us:List Value},Vals xs us→xs.all dZ=true→us.any (An x)=xs.any fun y=>qE y x
 | _,_,.nil,_=>rfl
 | y::xs,u::us,.cons r t,f=>by
  rw[aX1,w8] at f
  rw[aQf,aQf,xH r f.1,nE t f.2]
theorem lE{A:Around}{s:Shared}{x:V}{v:Value}(rx:RelV x v)(fx:dZ x=true):∀ {xs:List V} {us:List Value},Vals xs us→xs.all dZ=true→∀ u∈us,SeqAt.EqAt A s u v (An x u)
 | _,_,.nil,_=>fun u hu=>by cases hu
 | y::xs,u::us,.cons r t,f=>fun u' hu=>by
  rw[aX1,w8] at f
  rcases d9.mp hu with rfl | hu
  ·rw[xH r f.1];exact yD r rx f.1 fx
  ·exact lE rx fx t f.2 u' hu
def Di(x:V)(xs:List V):Bool:=xs.any fun y=>qE y x
inductive rInI(K:b9)(neg:Bool)(x:V)(y:V)(H:Hp)(Q:VK):Prop
 | mk (p xs:_) (_:y=.ref p) (_:(SqL K H p xs∨SqT K H p xs)) (_:dZ x=true) (_:xs.all dZ=true) (_:Q (.bl (if neg then !Di x xs else Di x xs)) H):rInI K neg x y H Q
def DS(K:b9)(neg:Bool):R2:=fun x y H Q=>rInI K neg x y H Q
theorem mU:gC X (compareOp .NotIn) (DS X.K true):=by
 intro pins s σ H x y v u Q I rx ry h
 obtain⟨p,xs,rfl,hq,fx,fs,q⟩:=h
 cases ry
 rcases hq with hq | hq
 ·obtain⟨its,r,pl,hz⟩:=I.list hq
  refine SeqAt.notIn_listAt (An x) pl.isList (fun w hw=>lE rx fx r fs w (by simpa using hw)) ⟨.bl _,H,I,rfl,?_⟩
  rw[show its.toArray.any (An x)=its.any (An x) by simp,nE r fs]
  exact q
 ·obtain⟨its,r,pl,hz⟩:=I.tuple hq
  refine SeqAt.notIn_tupleAt (An x) pl (fun w hw=>lE rx fx r fs w (by simpa using hw)) ⟨.bl _,H,I,rfl,?_⟩
  rw[show its.toArray.any (An x)=its.any (An x) by simp,nE r fs]
  exact q
inductive Rcall_len_seq(K:b9)(xs:List V)(H:Hp)(Q:VK):Prop
 | mk (p ys:_) (_:xs=[.ref p]) (_:(SqL K H p ys∨SqT K H p ys)) (_:Q (.int ys.length) H):Rcall_len_seq K xs H Q
theorem oC:dC X (.builtin "len") (fun xs H Q=>Rcall_len_seq X.K xs H Q):=by
 intro pins s σ H xs us Q I r h
 obtain⟨p,ys,rfl,hq,q⟩:=h
 obtain⟨u,rfl,rx⟩:=iS r
 cases rx
 have hn:=jA
 rcases hq with hq | hq
 ·obtain⟨its,r',pl,hz⟩:=I.list hq
  have hlen:=r'.length
  exact Calls.call_len_list pl.isList (by simp only [f9] <;> omega) ⟨.int ys.length,H,I.tok _,⟨s.toks+1,by rw[f9,hlen]⟩,q⟩
 ·obtain⟨its,r',pl,hz⟩:=I.tuple hq
  have hlen:=r'.length
  exact len_tuple pl (by simp only [f9] <;> omega) ⟨.int ys.length,H,I.tok _,⟨s.toks+1,by rw[f9,hlen]⟩,q⟩
inductive Rcall_len_str(xs:List V)(H:Hp)(Q:VK):Prop
 | mk (z:_) (_:xs=[.str z]) (_:z.length≤sizeLine) (_:Q (.int z.length) H):Rcall_len_str xs H Q
theorem cF:dC X (.builtin "len") (fun xs H Q=>Rcall_len_str xs H Q):=by
 intro pins s σ H xs us Q I r h
 obtain⟨z,rfl,hz,q⟩:=h
 obtain⟨u,rfl,t,rfl⟩:=iS r
 have hn:=jA
 exact len_str (by omega) ⟨.int z.length,H,I.tok _,⟨_,rfl⟩,q⟩
inductive Rcall_list_of(K:b9)(xs:List V)(H:Hp)(Q:VK):Prop
 | mk (p ys:_) (_:xs=[.ref p]) (_:(SqL K H p ys∨SqT K H p ys)) (_:∀ l,H l=none→Q (.ref l) (upd H l (.lst ys))):Rcall_list_of K xs H Q
theorem nI:dC X (.type "list") (fun xs H Q=>Rcall_list_of X.K xs H Q):=by
 intro pins s σ H xs us Q I r h
 obtain⟨p,ys,rfl,hq,q⟩:=h
 obtain⟨u,rfl,rx⟩:=iS r
 cases rx
 have fin:∀ (its:List Value),Vals ys its→ys.length≤sizeLine→∀ (h':Heap) (c':Nat),(∀ b o',s.heap.get? b=some o'→h'.get? b=some o') →
   h'.get? s.heap.objs.size=some { cls:=.type "list",dict:=none,data:=.seq its.toArray c',slots:=#[] }→EP X pins σ Q (.ref s.heap.objs.size) { s with heap:=h' }:=fun its r' hz h' c' kp e =>
  ⟨.ref s.heap.objs.size,_,I.laid (t':=s.toks) kp (c8 _) (show ObjOk X.prog X.w _ h' _ (.lst ys) from ⟨hz,its,c',r',e⟩),rfl,q _ (I.hok.fresh (c8 _))⟩
 rcases hq with hq | hq
 ·obtain⟨its,r',pl,hz⟩:=I.list hq
  have hlen:=r'.length
  obtain⟨o,ho,hc,n,hd⟩:=pl.isList
  exact call_list_seq p (.inl rfl) ho hc hd (fun h' c' kp e=>fin its r' hz h' c' kp e) (by simp only [f9] <;> omega)
 ·obtain⟨its,r',pl,hz⟩:=I.tuple hq
  have hlen:=r'.length
  obtain⟨o,ho,hc,n,hd⟩:=pl
  exact call_list_seq p (.inr rfl) ho hc hd (fun h' c' kp e=>fin its r' hz h' c' kp e) (by simp only [f9] <;> omega)
inductive Rcall_tuple_of(K:b9)(xs:List V)(H:Hp)(Q:VK):Prop
 | mk (p ys:_) (_:xs=[.ref p]) (_:((SqL K H p ys∧∀ l,H l=none→Q (.ref l) (upd H l (.tup ys)))∨(SqT K H p ys∧Q (.ref p) H))):Rcall_tuple_of K xs H Q
theorem lM:dC X (.type "tuple") (fun xs H Q=>Rcall_tuple_of X.K xs H Q):=by
 intro pins s σ H xs us Q I r h
 obtain⟨p,ys,rfl,h⟩:=h
 obtain⟨u,rfl,rx⟩:=iS r
 cases rx
 rcases h with ⟨hq,q⟩ | ⟨hq,q⟩
 ·obtain⟨its,r',pl,hz⟩:=I.list hq
  have hlen:=r'.length
  refine call_tuple_list pl.isList (fun h' kp=>?_) (by simp only [f9] <;> omega)
  have I1:Inv X pins σ H { s with heap:=h' }:=I.kept (t':=s.toks) kp
  have I2:Inv X pins σ (upd H h'.objs.size (.tup ys)) { s with heap:=h'.push { cls:=.type "tuple",data:=.seq its.toArray } } :=
   I1.laid (t':=s.toks) (fun b o e=>a9 _ e) (c8 _) (show ObjOk X.prog X.w _ _ _ (.tup ys) from ⟨hz,its,r',aZQ _ _,NoD.new _ _⟩)
  exact⟨.ref h'.objs.size,_,I2,rfl,q _ (I1.hok.fresh (c8 _))⟩
 ·obtain⟨its,r',pl,hz⟩:=I.tuple hq
  exact call_tuple_same pl ⟨.ref p,H,I,rfl,q⟩
def Dn(K:b9)(T:String)(x:V)(H:Hp):Prop:=match x with
 | .str _=>T="str"
 | .int _=>T="int"
 | .ref p=>(T="list"∧∃ xs,SqL K H p xs)∨(T="tuple"∧∃ o,K.lookup p=some o∧o.cls=.type "tuple"∧o.dict=none) ∨
   (T="dict"∧((∃ kvs,H p=some (.dK kvs))∨∃ kvs,H p=some (.dT kvs)))∨(T="set"∧∃ S n,H p=some (.set S n))
 | _=>False
theorem wZ{pins:List (Addr×Obj)}{σ:St}{H:Hp}{s:Shared}{T:String}{x:V}{v:Value}(I:Inv X pins σ H s)(r:RelV x v)(ty:Dn X.K T x H) :
  s.TypeIs v T∧∀ a,v=.ref a→∃ ob,s.heap.get? a=some ob∧ob.dict=none:=by
 cases x with
 | str z =>
  obtain⟨t,rfl⟩:=r
  cases (show T="str" from ty)
  exact⟨typeIs_str s z t,fun _ e=>nomatch e⟩
 | int i =>
  obtain⟨t,rfl⟩:=r
  cases (show T="int" from ty)
  exact⟨typeIs_int s i t,fun _ e=>nomatch e⟩
 | ref p =>
  cases r
  rcases ty with ⟨rfl,xs,hq⟩ | ⟨rfl,o,hk,hc,hd⟩ | ⟨rfl,hk⟩ | ⟨rfl,S,n,hk⟩
  ·obtain⟨its,_,pl,_⟩:=I.list hq
   refine⟨pl.isList.typeIs,fun a e=>?_⟩
   cases e
   obtain⟨o,n,e,c,hd,_⟩:=pl
   exact⟨o,e,hd⟩
  ·refine⟨⟨o,I.kIn p o hk,hc⟩,fun a e=>?_⟩
   cases e
   exact⟨o,I.kIn _ o hk,hd⟩
  ·have z:∃ o,s.heap.get? p=some o∧o.ExactDict:=by
    rcases hk with ⟨kvs,hk⟩ | ⟨kvs,hk⟩
    ·obtain⟨_,_,_,_,o,_,_,e,ex,_⟩:=I.hok p _ hk
     exact⟨o,e,ex⟩
    ·obtain⟨_,_,_,_,o,_,_,e,ex,_⟩:=I.hok p _ hk
     exact⟨o,e,ex⟩
   obtain⟨o,e,ex⟩:=z
   refine⟨⟨o,e,ex.1⟩,fun a e2=>?_⟩
   cases e2
   exact⟨o,e,ex.2.1⟩
  ·obtain⟨o,_,_,_,e,ex,_⟩:=I.hok p _ hk
   refine⟨⟨o,e,ex.1⟩,fun a e2=>?_⟩
   cases e2
   exact⟨o,e,ex.2.1⟩
 | _=>exact False.elim ty
def Cn(K:b9)(T:String)(r:V→List V→Hp→VK→Prop)(to:TE):TE:=fun σ H Q=>to σ H fun x H1=>Dn K T x H1∧r x [] H1 Q
def DW(K:b9)(T:String)(r:V→List V→Hp→VK→Prop)(to:TE)(t:TA):TE:=fun σ H Q=>to σ H fun x H1=>Dn K T x H1∧t σ H1 fun xs H2=>r x xs H2 Q
variable {o e:Expr}{es:List Expr}{to:TE}{t:TA}{name:Str}{apos cpos:Pos}{T id:String}{r:V→List V→Hp→VK→Prop}
theorem A2(pa:PlainAttrs T)(slot:Slot T name id)(hty:typeOf (.builtin id)=pure (.type "method_descriptor"))(hm:uY X id r)(ho:PE X o to)
  (hbase:attributeBase o name X.env (eval o X.env)=eval o X.env:=by rfl) (hline:(apos.endLine == cpos.line)=true:=by rfl):PE X (.Call (.Attribute o name apos) [] [] cpos) (Cn X.K T r to):=by
 intro pins s σ H Q I h
 refine wpAny_Call_method0_late hbase hline (bP (ho pins s σ H _ I h) fun v s1 ⟨x,H1,I1,r1,ty,q1⟩=>?_)
 obtain⟨h1,h2⟩:=wZ I1 r1 ty
 exact⟨T,id,pa,slot,hty,h1,h2,aQ8 rfl (aX2 (hm pins s1 σ H1 x [] v [] Q I1 r1 .nil q1))⟩
theorem Cf(pa:PlainAttrs T)(slot:Slot T name id)(hty:typeOf (.builtin id)=pure (.type "method_descriptor"))(hm:uY X id r)(ho:PE X o to)(ha:PA X (e::es) t)
  (hbase:attributeBase o name X.env (eval o X.env)=eval o X.env:=by rfl)
  (hfew:((backTo cpos (starEach (e::es) X.env)).all (fun x=>!x.1) && (backToKw cpos (keywordEach [] X.env)).all (fun x=>x.1.isSome)
   && decide ((e::es).length+([]:List Keyword).length+(if ([]:List Keyword).isEmpty then 0 else 1)<30))=true:=by rfl)
  (hline:(apos.endLine == cpos.line)=true:=by rfl) (hs:starEach (e::es) X.env=(false,eval e X.env)::starEach es X.env:=by rfl) (hplain:(backTo cpos (starEach es X.env)).any (·.1)=false:=by rfl) :
  PE X (.Call (.Attribute o name apos) (e::es) [] cpos) (DW X.K T r to t):=by
 intro pins s σ H Q I h
 refine wpAny_Call_method_late hbase hfew hline rfl (bP (ho pins s σ H _ I h) fun v s1 ⟨x,H1,I1,r1,ty,q1⟩=>?_)
 obtain⟨h1,h2⟩:=wZ I1 r1 ty
 refine⟨T,id,pa,slot,hty,h1,h2,?_⟩
 have hA:=ha cpos pins s1 σ H1 _ I1 q1
 rw[hs] at hA ⊢
 refine aQ8 (by show (false || (backTo cpos (starEach es X.env)).any (·.1))=false;rw[hplain] <;> rfl) (Calls.evalArgs_plain ?_)
 exact bP hA fun us s2 ⟨vs,H2,I2,r2,q2⟩=>hm pins s2 σ H2 x vs v us Q I2 r1 r2 q2
/- xs.append(e),list.index on a module's tuple .. are uY facts of 06m -/
end
def Dj(X:Cx)(id:String)(r:V→List V→Hp→VK→Prop):Prop :=
 ∀ (pins:List (Addr×Obj)) (s:Shared) (σ:St) (H:Hp) (x:V) (xs:List V) (v:Value) (us:List Value) (Q:VK),Inv X pins σ H s→RelV x v→Vals xs us→r x xs H Q →
  wpAny (model X.prog X.w) X.A (call (.builtin id) (v::us)) (EP X pins σ Q) X.xe s
theorem Vals.one:∀ {x:V} {us:List Value},Vals [x] us→∃ u,us=[u]∧RelV x u
 | _,_,.cons r .nil=>⟨_,rfl,r⟩
theorem Vals.two:∀ {x y:V} {us:List Value},Vals [x,y] us→∃ u v,us=[u,v]∧RelV x u∧RelV y v
 | _,_,_,.cons r (.cons q .nil)=>⟨_,_,rfl,r,q⟩
theorem Vals.zero:∀ {us:List Value},Vals [] us→us=[]
 | _,.nil=>rfl
theorem Vals.dropLast{xs:List V}{us:List Value}(h:Vals xs us):Vals xs.dropLast us.dropLast:=by
 induction h with
 | nil=>exact .nil
 | cons r t ih =>
  cases t with
  | nil=>exact .nil
  | cons q t'=>exact .cons r ih
theorem Vals.eraseIdx:∀ {xs:List V} {us:List Value} (i:Nat),Vals xs us→Vals (xs.eraseIdx i) (us.eraseIdx i)
 | _,_,_,.nil=>.nil
 | _,_,0,.cons _ t=>t
 | _,_,i+1,.cons r t=>.cons r (Vals.eraseIdx i t)
theorem qU{α:Type}(l:List α):l.eraseIdx (l.length - 1)=l.dropLast:=by
 induction l with
 | nil=>rfl
 | cons a r ih =>
  cases r with
  | nil=>rfl
  | cons b r =>
   have e:(a::b::r).length - 1=((b::r).length - 1)+1:=by
    have h1:(a::b::r).length=r.length+2:=rfl
    have h2:(b::r).length=r.length+1:=rfl
    omega
   rw[e,List.eraseIdx_cons_succ,ih]
   all_goals rfl
theorem mP{α:Type}:∀ (l:List α) (i:Nat),(l.eraseIdx i).length≤l.length
 | [],_=>c8 _
 | _::_,0=>aQw _
 | _::r,i+1=>Nat.succ_le_succ (mP r i)
section
variable {X:Cx}{pins:List (Addr×Obj)}{σ:St}{H:Hp}{s:Shared}{l b:Addr}{xs ys zs:List V}
theorem Inv.lset{its its':List Value}{n:Nat}{f:Array Value→Array Value}{t':Nat}(I:Inv X pins σ H s)(hH:H l=some (.lst xs))
  (e:s.heap.get? l=some { cls:=.type "list",data:=.seq its.toArray n }) (hf:f its.toArray=its'.toArray) (hv:Vals ys its') (hz:ys.length≤sizeLine) :
  Inv X pins σ (upd H l (.lst ys)) { s with heap:=s.heap.update l (Obj.mapSeq f),toks:=t' }:=by
 have q:=PySem.IsL.update e f
 rw[hf] at q
 refine I.write (x:=l) (e:=l) (by rw[hH];exact trivial) (.inl rfl) (fun b' u hb hu=>(aQL s.heap (Obj.mapSeq f) (aQM hb)).trans hu) ⟨_,q⟩ ?_
 exact⟨hz,its',_,hv,q⟩
theorem Inv.lnew{its:List Value}{t':Nat}(I:Inv X pins σ H s)(hv:Vals ys its)(hz:ys.length≤sizeLine) :
  Inv X pins σ (upd H s.heap.objs.size (.lst ys)) { s with heap:=s.heap.push { cls:=.type "list",data:=.seq its.toArray },toks:=t' } :=
 I.laid (fun _ _ q=>a9 _ q) (c8 _) ⟨hz,its,0,hv,d8 _ rfl⟩
theorem Inv.fresh(I:Inv X pins σ H s):H s.heap.objs.size=none:=I.hok.fresh (c8 _)
theorem Inv.lstM(I:Inv X pins σ H s)(hH:H l=some (.lst xs)):xs.length≤sizeLine∧∃ (its:List Value) (n:Nat),Vals xs its∧xs.length=its.length∧s.heap.get? l=some { cls:=.type "list",data:=.seq its.toArray n }:=by
 obtain⟨z,its,n,r,e⟩:=I.hok l _ hH
 exact⟨z,its,n,r,r.length,e⟩
end
section
variable {X:Cx}
inductive rAppendI(x:V)(vs:List V)(H:Hp)(Q:VK):Prop
 | mk (l xs y:_) (_:x=.ref l) (_:vs=[y]) (_:H l=some (.lst xs)) (_:xs.length<sizeLine) (_:Q .non (upd H l (.lst (xs++[y])))):rAppendI x vs H Q
def yR:V→List V→Hp→VK→Prop:=fun x vs H Q=>rAppendI x vs H Q
theorem dL:Dj X "list.append" yR:=by
 intro pins s σ H x vs v us Q I rx rv h
 obtain⟨l,xs,y,rfl,rfl,hH,hz,q⟩:=h
 cases rx
 obtain⟨u,rfl,ru⟩:=rv.one
 obtain⟨z,its,n,r,hl,e⟩:=I.lstM hH
 refine call_meets F.slot_list_append ⟨_,e,rfl⟩ F.entry_list_append (F.args_list_append_2 _ _) (PySem.list_append l its.toArray n u (by rw[f9];omega)) ⟨e,?_⟩
 refine⟨.non,_,I.lset (its':=its++[u]) hH e (by simp) (r.append (.cons ru .nil)) ?_,rfl,q⟩
 rw[g9,y6]
 omega
inductive rPopI(x:V)(vs:List V)(H:Hp)(Q:VK):Prop
 | mk (l xs y:_) (_:x=.ref l) (_:vs=[]) (_:H l=some (.lst xs)) (_:xs[xs.length - 1]?=some y) (_:Q y (upd H l (.lst xs.dropLast))):rPopI x vs H Q
def DQ:V→List V→Hp→VK→Prop:=fun x vs H Q=>rPopI x vs H Q
theorem wR:Dj X "list.pop" DQ:=by
 intro pins s σ H x vs v us Q I rx rv h
 obtain⟨l,xs,y,rfl,rfl,hH,hy,q⟩:=h
 cases rx
 have hus:=rv.zero
 subst hus
 obtain⟨z,its,n,r,hl,e⟩:=I.lstM hH
 obtain⟨u,hu,ru⟩:=r.get hy
 have hy':its.toArray[its.toArray.size - 1]?=some u:=by
  show its.toArray[its.length - 1]?=some u
  rw[← y7,← hl]
  exact hu
 refine call_meets aZF ⟨_,e,rfl⟩ aXt (F.args_list_pop_1 _) (MeetsSeq.list_pop_last l its.toArray n u hy' (by rw[f9];omega)) ⟨e,?_⟩
 refine⟨y,_,I.lset (its':=its.dropLast) hH e ?_ r.dropLast ?_,ru,q⟩
 ·show its.toArray.eraseIdxIfInBounds (its.toArray.size - 1)=its.dropLast.toArray
  rw[f9,aQj,qU]
 ·rw[List.length_dropLast]
  omega
inductive rPopAtI(x:V)(vs:List V)(H:Hp)(Q:VK):Prop
 | mk (l xs i k y:_) (_:x=.ref l) (_:vs=[.int i]) (_:H l=some (.lst xs)) (_:-(2 ^ 63)≤i) (_:i<2 ^ 63) (_:seqIndex? i xs.length=some k) (_:xs[k]?=some y) (_:Q y (upd H l (.lst (xs.eraseIdx k)))):rPopAtI x vs H Q
def AO:V→List V→Hp→VK→Prop:=fun x vs H Q=>rPopAtI x vs H Q
theorem vJ:Dj X "list.pop" AO:=by
 intro pins s σ H x vs v us Q I rx rv h
 obtain⟨l,xs,i,k,y,rfl,rfl,hH,h1,h2,hk,hy,q⟩:=h
 cases rx
 obtain⟨u,rfl,ru⟩:=rv.one
 obtain⟨t,rfl⟩:=ru
 obtain⟨z,its,n,r,hl,e⟩:=I.lstM hH
 obtain⟨w,hw,rw'⟩:=r.get hy
 refine call_meets aZF ⟨_,e,rfl⟩ aXt (F.args_list_pop_2 _ _)
  (MeetsSeq.list_pop_at l its.toArray n i t k w (fitsIndex_both h1 h2) (by rw[f9,← hl];exact hk) (by rw[← y7];exact hw) (by rw[f9];omega)) ⟨e,?_⟩
 refine⟨y,_,I.lset (its':=its.eraseIdx k) hH e ?_ (r.eraseIdx k) ?_,rw',q⟩
 ·show its.toArray.eraseIdxIfInBounds k=(its.eraseIdx k).toArray
  rw[aQj]
 ·have:=mP xs k
  omega
end
end L2
namespace Att
open PySem PySem.W PySem.Calls PyProof.Rows
theorem jH{P:Params}{h:Heap}:∀ (ns:List Int) (vs:List Value),WellAll P h vs (ns.map WData.int)→IntsAre vs ns:=by
 intro ns
 induction ns with
 | nil =>
  intro vs w
  rw[aX9] at w
  cases w
  exact .nil
 | cons n ns ih =>
  intro vs w
  rw[k7] at w
  cases w with
  | cons a b =>
   cases a
   exact .cons _ _ (ih _ b)
theorem sX{l:OpenLaw}{n:Nat}(hn:l.most=some n){P:Params}{h:Heap}{args:List WData}{vals:List Value}
  (hpre:l.row.toRowW.claim.pre args=true) (hwl:WellAll P h vals args) :
  ∃ a vs ns,vals=[Value.ref a]∧args=[WData.list (ns.map WData.int)]∧h.get? a=some { cls:=.type "list",data:=.seq vs.toArray }∧IntsAre vs ns∧ns.length≤n:=by
 have hsh:WShape.hasAll [] args [.list .int]=true:=(pre_splitW hpre).1
 have hc:l.pre.holds [] { args:=args }=true:=(pre_splitW hpre).2
 obtain⟨d,r,rfl,h1,h2⟩:=hasAllW_cons hsh
 obtain rfl:=hasAllW_nil h2
 obtain⟨xs,rfl,h3⟩:=hasW_list h1
 obtain⟨ns,rfl⟩:=items_int h3
 have hlen:ns.length≤n:=by
  unfold OpenLaw.pre at hc
  have h4:(WTm.not (.lt (.lit (.int (n:Int))) (.len (.arg 0)))).holds [] { args:=[.list (ns.map .int)] }=true:=by
   have h4:=(holds_andW hc).1
   rw[hn] at h4
   exact h4
  have h5:=condW_of h4 (w_not (w_lt w_lit (w_len_list (w_arg rfl))))
  rw[c6] at h5
  refine aXu fun q=>?_
  have q':(n:Int)<((ns.length:Nat):Int):=by omega
  first
   | (rw[decide_eq_true q'] at h5;exact absurd h5 (by decide))
   | (simp at h5;omega)
 cases hwl with
 | cons w1 w2 =>
  cases w2
  cases w1 with
  | list ho hall=>exact⟨_,_,ns,rfl,rfl,ho,jH ns _ hall,hlen⟩
theorem tK(l:OpenLaw)(args:List WData):l.row.toRowW.claim.post args (.bool true) args=true :=
 postW_of (r:=l.row.toRowW) (X:=(true == true))
  (show WShape.has [] (.bool true) .bool=true by first | rfl | decide | simp[WShape.has,WShape.arms,WShape.armsAll])
  (show (WTm.eq .res (.lit (.bool true))).value [] { args:=args,res:=some (.bool true),after:=args }=some (.bool (true == true)) from w_eq_bool (w_res rfl) w_lit) rfl
theorem attach_call{l:OpenLaw}{n:Nat}{q:Program}{loose:List Str}{XP:(Str→Option Value)→Heap→Prop}{YP:World→Heap→Prop}{d:DefRec}
  (hn:l.most=some n) (hdf:d.params.defaults=[])
  (call:∀ (w:World) (s₀ s₁:Shared) (mg mb:Str→Option Value) (fa:Addr) (o:Obj) (pm cd doc:Value) (a:Addr) (vs:List Value) (ns:List Int),
   Ground q loose [] XP w s₀ mg mb s₁.heap→YP w s₁.heap →
   s₁.heap.get? fa=some o→o.data=.func (docDef d.name d.params d.body d.scope pm cd doc)→s₁.heap.CodeRec cd d.name→mg d.name=some (.ref fa) →
   s₁.heap.get? a=some { cls:=.type "list",data:=.seq vs.toArray }→IntsAre vs ns→ns.length≤n→s₁.gens=#[] →
   codeAny (model l.prog w) callerA (.call (.ref fa) ⟨[.ref a],[]⟩) (fun r s'=>r=.ok (.ret (.bool true))∧OldK s₁.heap s'.heap∧s'.os=s₁.os∧AllBare s'.gens) s₁) :
  WalkO q loose XP YP l.row.toRowW d [] (fun f vs=>PySem.call f vs):=by
 intro w s₀ s₁ mg mb G Y fa o pm cd doc dV kV ho hd hcd hD hmg hg args vals as hpre hlay hrd hwl hlo
 obtain rfl:dV=.none:=Dflts.none hD hdf
 obtain rfl:kV=.none:=Dflts.noKw hD
 obtain⟨a,vs,ns,rfl,rfl,hobj,hints,hlen⟩:=sX hn hpre hwl
 refine enter_call (codeAny_mono (call w s₀ s₁ mg mb fa o pm cd doc a vs ns G Y ho (fd_plain hd) hcd hmg hobj hints hlen hg) fun r s' hq=>?_)
 obtain⟨rfl,h2,h3,h4⟩:=hq
 exact⟨.inl ⟨.bool true,.bool true,[],rfl,fun _=>rfl,.bool true,tK l _,fun _=>⟨List.Pairwise.nil,fun _ hm=>(nomatch hm)⟩⟩,h2,h3,h4⟩
end Att
namespace L2
open PySem PySem.Spec PyProof.Rows
theorem mG:∀ {vs:List Value} {ns:List Int},IntsAre vs ns→Vals (ns.map V.int) vs
 | _,_,.nil=>.nil
 | _,_,.cons n t h=>.cons ⟨t,rfl⟩ (mG h)
end L2
/- THE LAST THEOREM (shape;LID,My.* are yours):
   My.Adr: a structure of the addresses that your layer names (classes,functions);My.Txt K t: a structure (Prop) of the equations over K;
   My.txt_mk:{K} {implicit addresses ..} (e1:nsIn K mainGlobals "law"=some (some (.ref f))) (e2:K.lookup f=some ⟨oc,od,.func (fnOf "law" "law" params body scope dV kV doc pm an cdv ct),sl⟩) (e3:codeIn K cdv "law"=true) ..:∃ t,My.Txt K t
set_option maxRecDepth 100000 in
set_option maxHeartbeats 0 in
theorem PySem.Challenge.cw_LID_holds : PySem.Challenge.rw_LID.Holds := by
 w_on;o_law;k_head;(case hw=>w_witness2)
 k_fill
 refine L2.walk_of (l:=PySem.Challenge.rw_LID) (n:=63) (k:=40) (x:="script") (CX:=fun w=>..) (sp:=fun _=>My.sp_law) rfl (by decide) rfl ⟨rfl,by decide,by decide⟩ (fun w h Y=>PySem.W.kIn_of Y) ?F ?S ?C
 case F =>
  intro w mg fa h KX G hmg
  have T:∃ t,My.Txt (L2.KOf KX) t:=by
   dsimp only [L2.KOf]                          -- K must stand as «<heap const> w.params» for k_is
   refine' My.txt_mk ?e1 ?e2 ?e3 ..
   (case e1=>PySem.W.k_is)                    -- in the order: a name -> its address -> its object -> its parts
   (case e2=>PySem.W.k_is)
   ..
  obtain⟨t,T⟩:=T
  have e0:=hmg.symm.trans (i8 KX G T.law)
  cases e0                                       -- fa is the law's own address
  exact⟨_,fun s u=>.of_eq rfl,fun base kb nb=>My.law_fn T kb nb⟩     -- if «.of_eq rfl» comes too early: refine' ⟨_,?b,fun base kb nb=>My.law_fn T kb nb⟩;exact fun s u=>.of_eq rfl
 case S=>exact fun w H a ns hl hO hS=>..
 case C=>exact ..
(the tactic k_is has no namespace: write k_is) -/
namespace L2
open PySem PySem.Spec PyProof.Rows
def iK(s:Stmt):Arguments:=match s with
 | .FunctionDef _ a _ _ _ _ _ _ _ _=>a
 | _=>{ posonlyargs:=[],args:=[],vararg:=none,kwonlyargs:=[],kw_defaults:=[],kwarg:=none,defaults:=[] }
def eB(s:Stmt):List Stmt:=match s with
 | .FunctionDef _ _ b _ _ _ _ _ _ _=>b
 | _=>[]
def aF(s:Stmt):Scope:=match s with
 | .FunctionDef _ _ _ _ _ _ sc _ _ _=>sc
 | _=>{ kind:=.function,names:=[],isGenerator:=false,isCoroutine:=false }
abbrev qF:yK:=fun _ _ _ _ _ _=>False
abbrev E0:XK:=fun _ _ _=>False
theorem aR{X:Cx}:oG qF X E0:=fun _ _ _ _ _ _ _ h=>h.elim
structure Fun(K:b9)(x qual:Str)(st:Stmt)(f:Addr)(fd:FuncData):Prop where
 ex:∃ (oc:Value) (od:Option Addr) (kV doc pm:Value) (an:Option Addr) (cdv ct:Value) (osl:Array (Option Value)),
  fd=PySem.W.fnOf x qual (iK st) (eB st) (aF st) .none kV doc pm an cdv ct∧K.lookup f=some ⟨oc,od,.func fd,osl⟩∧PySem.W.codeIn K cdv qual=true
 kp:PySem.W.keepIn K (.ref f)=true
section
variable {P:Program}{w:World}{K:b9}{mg:Str→Option Value}{base:Heap}
theorem Fun.ok{x qual:Str}{st:Stmt}{f:Addr}{fd:FuncData}{N ps:List Str}{k:Nat}{sp:Sp}(F:Fun K x qual st f fd)(S:FnScope N ps (aF st))(len:∀ vs H Q E,sp vs H Q E→vs.length=ps.length)
  (hbody:∀ (cdv:Value) (A:Around) (outer:List Env) (s:Shared) (H:Hp) (vs:List V) (Q:VK) (E:XK),Room k (A.deeper (envOfC qual (aF st) s.heap.objs.size f cdv))→sp vs H Q E →
   ∃ t,PSs (rB qF P w K mg base N qual (aF st) f cdv A outer s H E).nox (eB st) t∧t { nx:=fun _ H'=>Q .non H',rt:=Q } (hG N vs) H):FnOk P w K mg base qF (k+1) f fd ps sp:=by
 obtain⟨oc,od,kV,doc,pm,an,cdv,ct,osl,rfl,lk,hcd⟩:=F.ex
 refine Ay lk hcd S len fun A outer s H vs Q E hr hsp=>?_
 obtain⟨t,h,q⟩:=hbody cdv A outer s H vs Q E hr hsp
 exact⟨t,h.nox,q⟩
theorem Fun.binds{x qual:Str}{st:Stmt}{f:Addr}{fd:FuncData}{ps:List Str}(F:Fun K x qual st f fd)
  (h:∀ (kV doc pm:Value) (an:Option Addr) (cdv ct:Value) (us:List Value),us.length=ps.length→bindArgs (PySem.W.fnOf x qual (iK st) (eB st) (aF st) .none kV doc pm an cdv ct) ⟨us,[]⟩=pure (ps.zip us)):Binds K fd ps []:=by
 obtain⟨oc,od,kV,doc,pm,an,cdv,ct,osl,rfl,lk,hcd⟩:=F.ex
 exact .all (h kV doc pm an cdv ct)
theorem yB{x qual:Str}{st:Stmt}{f:Addr}{oc:Value}{od an:Option Addr}{osl:Array (Option Value)}{kV doc pm cdv ct:Value}(l:K.lookup f=some ⟨oc,od,.func (PySem.W.fnOf x qual (iK st) (eB st) (aF st) .none kV doc pm an cdv ct),osl⟩)
  (c:PySem.W.codeIn K cdv qual=true) (k:PySem.W.keepIn K (.ref f)=true):Fun K x qual st f (PySem.W.fnOf x qual (iK st) (eB st) (aF st) .none kV doc pm an cdv ct):=⟨⟨oc,od,kV,doc,pm,an,cdv,ct,osl,rfl,l,c⟩,k⟩
end
theorem aU{n:Nat}(h:n≤1000):n<sizeLine:=o6 h (by decide)
section
variable {X:Cx}
theorem pv(i:Nat){x:Str}{pos:Pos}(hN:X.N[i]?=some x:=by rfl)(hv:BD X.env.scope x:=by first | exact Or.inl rfl | exact Or.inr (Or.inl rfl) | exact Or.inr (Or.inr rfl))(hd:(x == ("__debug__":Str))=false:=by decide)
  (hcd:(x == ("__classdict__":Str))=false:=by decide):PE X (.Name x pos) (C6 i):=AQ hN hv hd hcd
end
theorem gJ{A B:Prop}(h:B):if false=true then A else B:=by
 rw[if_neg k6]
 exact h
theorem pE{A B:Prop}(h:A):if true=true then A else B:=by
 rw[if_pos rfl]
 exact h
theorem dW{c A B:Prop}[Decidable c](h1:c→A)(h2:¬ c→B):if c then A else B:=by
 by_cases h:c
 ·rw[if_pos h]
  exact h1 h
 ·rw[if_neg h]
  exact h2 h
def Same(H H':Hp):Prop:=∀ b o,H b=some o→H' b=some o
theorem Same.refl(H:Hp):Same H H:=fun _ _ h=>h
theorem Same.trans{H H1 H2:Hp}(a:Same H H1)(b:Same H1 H2):Same H H2:=fun c o h=>b c o (a c o h)
theorem Same.free{H H':Hp}(e:Same H H'){l:Addr}(h:H' l=Option.none):H l=Option.none:=by
 cases q:H l with
 | none=>rfl
 | some o =>
  rw[e l o q] at h
  cases h
def cW(cells:List (Str×Addr))(acc:List (Str×Addr))(p:Str×NameKind):List (Str×Addr) :=
 if p.2 == .free then (match cells.lookup p.1 with | some c=>(p.1,c)::acc | none=>acc) else acc
def fP(names:List (Str×NameKind))(cells:List (Str×Addr)):List (Str×Addr):=names.foldl (cW cells) []
theorem hJ{env:Env}:∀ (names:List (Str×NameKind)) (acc:List (Str×Addr)),(∀ y∈names,y.2=.free→∃ c,env.cells.lookup y.1=some c) →
  (forIn names acc (fun (p:Str×NameKind) (cs:List (Str×Addr))=>(match p with
   | (name,kind)=>if (kind == .free)=true then (do let c ← cellOf env name;pure (ForInStep.yield ((name,c)::cs))) else pure (ForInStep.yield cs):Sem (ForInStep (List (Str×Addr))))))=pure (names.foldl (cW env.cells) acc)
 | [],acc,_=>rfl
 | (n,k)::r,acc,h=>by
  have ih:=fun acc=>hJ (env:=env) r acc fun y hy=>h y (i9 _ hy)
  rw[aQl,List.foldl_cons]
  by_cases e:(k == NameKind.free)=true
  ·obtain⟨c,hc⟩:=h (n,k) j6 (by simpa using e)
   have hc':env.cells.lookup n=some c:=hc
   have e1:cW env.cells acc (n,k)=(n,c)::acc:=by unfold cW;rw[if_pos e];simp only [hc']
   rw[e1,← ih]
   have e2:cellOf env n=pure c:=by unfold cellOf;rw[hc']
   simp only [e,if_true,e2]
   rfl
  ·have e1:cW env.cells acc (n,k)=acc:=by unfold cW;rw[if_neg e]
   rw[e1,← ih]
   simp only [e,if_false]
   rfl
theorem cX{scope:Scope}{env:Env}(h:∀ y∈scope.names,y.2=.free→∃ c,env.cells.lookup y.1=some c):closureFor scope env=pure (fP scope.names env.cells):=by
 unfold closureFor
 have q:=hJ (env:=env) scope.names [] h
 unfold fP
 exact(congrArg (fun (m:Sem (List (Str×Addr)))=>m >>= fun cs=>pure cs) q).trans rfl
theorem kX{cells:List (Str×Addr)}:∀ (names:List (Str×NameKind)) (acc:List (Str×Addr)),(∀ y c,acc.lookup y=some c→cells.lookup y=some c)→∀ y c,(names.foldl (cW cells) acc).lookup y=some c→cells.lookup y=some c
 | [],acc,h,y,c,e=>h y c e
 | p::r,acc,h,y,c,e=>by
  refine kX r (cW cells acc p) (fun z d q=>?_) y c e
  unfold cW at q
  split at q
  ·split at q
   ·rename_i c' hc'
    rw[q5] at q
    split at q
    ·rename_i hz
     have hz':z=p.1:=by simpa using hz
     cases q
     rw[hz'];exact hc'
    ·exact h z d q
   ·exact h z d q
  ·exact h z d q
theorem pG{cells:List (Str×Addr)}:∀ (names:List (Str×NameKind)) (acc:List (Str×Addr)) (y:Str),(acc.lookup y).isSome=true→((names.foldl (cW cells) acc).lookup y).isSome=true
 | [],_,_,h=>h
 | p::r,acc,y,h=>by
  refine pG r _ y ?_
  unfold cW
  split
  ·split
   ·rw[q5]
    split
    ·rfl
    ·exact h
   ·exact h
  ·exact h
theorem kS{cells:List (Str×Addr)}:∀ (names:List (Str×NameKind)) (acc:List (Str×Addr)) (y:Str) (c:Addr),(y,NameKind.free)∈names→cells.lookup y=some c→((names.foldl (cW cells) acc).lookup y).isSome=true
 | [],_,_,_,h,_=>by simp at h
 | p::r,acc,y,c,h,hc=>by
  rcases d9.mp h with e | e
  ·refine pG r _ y ?_
   subst e
   unfold cW
   simp only [hc]
   simp[q5]
  ·exact kS r _ y c e hc
theorem iQ{env:Env}:∀ {names:List (Str×NameKind)} {x:Str},names.lookup x=some .free →
  (names.map fun (n,k)=>if (k == NameKind.free && env.scope.kind == .function && env.kindOf n == some .cell) then (n,NameKind.cell) else (n,k)).lookup x=some .cell ∨
  (names.map fun (n,k)=>if (k == NameKind.free && env.scope.kind == .function && env.kindOf n == some .cell) then (n,NameKind.cell) else (n,k)).lookup x=some .free
 | [],_,h=>by simp at h
 | (n,k)::r,x,h=>by
  have ih:=@iQ env r x
  rw[k7]
  cases hx:x == n with
  | true =>
   simp only [q5,hx] at h
   cases h
   by_cases hc:(NameKind.free == NameKind.free && env.scope.kind == .function && env.kindOf n == some .cell)=true
   ·left;dsimp only;rw[if_pos hc];simp[q5,hx]
   ·right;dsimp only;rw[if_neg hc];simp[q5,hx]
  | false =>
   simp only [q5,hx] at h
   have e:∀ z:Str×NameKind,z.1=n→((z::(r.map fun (n,k)=>if (k == NameKind.free && env.scope.kind == .function && env.kindOf n == some .cell) then (n,NameKind.cell) else (n,k))).lookup x=(r.map fun (n,k)=>if (k == NameKind.free && env.scope.kind == .function && env.kindOf n == some .cell) then (n,NameKind.cell) else (n,k)).lookup x):=fun z hz=>by
    obtain⟨z1,z2⟩:=z
    cases hz
    rw[q5,hx]
   dsimp only
   split
   ·rw[e _ rfl];exact ih h
   ·rw[e _ rfl];exact ih h
theorem iT{env:Env}:∀ {names:List (Str×NameKind)} {x:Str},(∀ y∈names,y.2≠.cell) →
  ((names.map fun (n,k)=>if (k == NameKind.free && env.scope.kind == .function && env.kindOf n == some .cell) then (n,NameKind.cell) else (n,k)).lookup x=some .cell ∨
  (names.map fun (n,k)=>if (k == NameKind.free && env.scope.kind == .function && env.kindOf n == some .cell) then (n,NameKind.cell) else (n,k)).lookup x=some .free)→names.lookup x=some .free
 | [],_,_,h=>by simp at h
 | (n,k)::r,x,hn,h=>by
  have ih:=@iT env r x fun y hy=>hn y (i9 _ hy)
  have hk:k≠.cell:=hn (n,k) j6
  rw[k7] at h
  cases hx:x == n with
  | true =>
   by_cases hc:(k == NameKind.free && env.scope.kind == .function && env.kindOf n == some .cell)=true
   ·have:k=.free:=by
     cases k <;> simp at hc ⊢
    subst this
    simp[q5,hx]
   ·dsimp only at h;rw[if_neg hc] at h
    simp only [q5,hx] at h ⊢
    rcases h with h | h
    ·cases h;exact absurd rfl hk
    ·exact h
  | false =>
   have e:∀ z:Str×NameKind,z.1=n→((z::(r.map fun (n,k)=>if (k == NameKind.free && env.scope.kind == .function && env.kindOf n == some .cell) then (n,NameKind.cell) else (n,k))).lookup x=(r.map fun (n,k)=>if (k == NameKind.free && env.scope.kind == .function && env.kindOf n == some .cell) then (n,NameKind.cell) else (n,k)).lookup x):=fun z hz=>by
    obtain⟨z1,z2⟩:=z
    cases hz
    rw[q5,hx]
   dsimp only at h
   have h':(r.map fun (n,k)=>if (k == NameKind.free && env.scope.kind == .function && env.kindOf n == some .cell) then (n,NameKind.cell) else (n,k)).lookup x=some .cell∨(r.map fun (n,k)=>if (k == NameKind.free && env.scope.kind == .function && env.kindOf n == some .cell) then (n,NameKind.cell) else (n,k)).lookup x=some .free:=by
    split at h
    ·rw[e _ rfl] at h;exact h
    ·rw[e _ rfl] at h;exact h
   rw[q5,hx]
   exact ih h'
structure CompSc(X:Cx)(scope:Scope)(x:Str)(ix:List Nat):Prop where
 kind:scope.kind=.function
 nocell:∀ y∈scope.names,y.2≠.cell
 loc:∀ y∈scope.names,y.2=.local→scope.names.lookup y.1=some .local
 x:scope.names.lookup x=some .local
 free:∀ y∈scope.names,y.2=.free→X.env.scope.names.lookup y.1=some .cell∨X.env.scope.names.lookup y.1=some .free
 cap:∀ i∈ix,i<X.N.length∧scope.names.lookup (X.N.getD i "")=some .free
def fL(X:Cx)(x:Str)(ix:List Nat):List Str:=x::ix.map fun i=>X.N.getD i ""
def kR(σ:St)(ix:List Nat):St:=none::ix.map fun i=>σ.getD i none
def bF(X:Cx)(scope:Scope)(x:Str)(ix:List Nat)(ex:List Addr)(s:Shared)(H:Hp):Cx where
 prog:=X.prog
 w:=X.w
 K:=X.K
 mg:=X.mg
 base:=X.base
 A:=X.A
 N:=fL X x ix
 s₀:=s
 H₀:=H
 env:=compEnvC scope (fP scope.names X.env.cells) s.heap.objs.size X.env
 outer:=X.stack
 stack:=X.stack
 ex:=ex
 fn:=fun _=>false
 calm:=X.calm
 pn:=[]
 xe:=fun _ _=>False
section
variable {X:Cx}{scope:Scope}{x:Str}{ix:List Nat}
theorem CompSc.cells(S:CompSc X scope x ix)(ok:X.Ok):∀ y∈scope.names,y.2=.free→∃ c,X.env.cells.lookup y.1=some c:=fun y hy hf=>ok.has y.1 (S.free y hy hf)
theorem pM{pins:List (Addr×Obj)}{σ:St}{H:Hp}{s:Shared}{h':Heap}{t':Nat}{fp:List Addr}(S:CompSc X scope x ix)(I:Inv X pins σ H s)(hf:∀ b∈fp,cU X pins H b)(hlt:∀ b∈fp,b<s.heap.objs.size)
  (ns:h'.Ns s.heap.objs.size (fun y=>([]:List (Str×Value)).reverse.lookup y)) (sb:Heap.SameBut s.heap.objs.size (s.heap.push { cls:=.type "dict",data:=.dict #[] }) h') :
  Inv (bF X scope x ix fp s H) [] (kR σ ix) H { s with heap:=h',toks:=t' }:=by
 have hk:∀ b u,s.heap.get? b=some u→h'.get? b=some u:=fun b u e=>(sb.2 b (i7 (d6 e))).trans (a9 _ e)
 have sound:∀ y c,(fP scope.names X.env.cells).lookup y=some c→X.env.cells.lookup y=some c:=kX scope.names [] (fun _ _ q=>by simp at q)
 have cellLt:∀ y c,X.env.cells.lookup y=some c→c<s.heap.objs.size:=fun y c e=>by
  obtain⟨v,q⟩:=I.cell y c e
  exact q.lt
 have cellK:∀ y c v,X.env.cells.lookup y=some c→s.heap.IsCell c v→h'.IsCell c v:=fun y c v _ ⟨o,ho,hd⟩=>⟨o,hk c o ho,hd⟩
 refine⟨⟨I.ok.mod,S.kind,I.ok.glob,I.ok.blt,c8 _,fun y z c h1 h2=>I.ok.inj y z c (sound y c h1) (sound z c h2),fun y hy=>?_,fun y c hf _=>(by cases hf),I.ok.hd,I.ok.frames,.inl rfl,fun b hb=>⟨i7 (hlt b hb),fun y c e=>(hf b hb).2.2.2.2.1 y c (sound y c e)⟩,I.bs,m7 I.ok.bsz I.sz,fun b o e hb=>?_,fun b hb hs=>?_,I.stack,I.stkFree⟩,
  rfl,I.bare,Un.kept hk,⟨_,ns,fun i y v h1 h2 h3=>?_⟩,fun y c e=>?_,I.hok.fresh (c8 _),fun y c e=>I.freeC y c (sound y c e),fun p hp=>absurd (show p∈([]:List (Addr×Obj)) from hp) (by simp),I.hok.kept hk,?_⟩
 ·have hy':scope.names.lookup y=some .free:=iT (env:=X.env) S.nocell hy
  obtain⟨c,hc⟩:=S.cells I.ok (y,.free) (l7 hy') rfl
  exact v0.mp (kS scope.names [] y c (l7 hy') hc)
 ·obtain⟨_,_,_,f3,_⟩:=hf b hb
  rcases f3 with f3 | f3
  ·exact I.ok.noex b o e f3
  ·exact absurd (k0 (d6 e) (m7 I.ok.bsz f3)) (r9 _)
 ·rcases d9.mp (I.stkSub b hs) with e | e
  ·exact(hf b hb).2.1 e
  ·exact(hf b hb).2.2.1 e
 ·cases i with
  | zero =>
   have h2':(none:Option V)=some v:=by simpa [kR] using h2
   cases h2'
  | succ i =>
   have h1':(ix.map fun i=>X.N.getD i "")[i]?=some y:=by simpa [bF,fL] using h1
   have h2':(ix.map fun i=>σ.getD i none)[i]?=some (some v):=by simpa [kR] using h2
   rw[f6] at h1' h2'
   cases ei:ix[i]? with
   | none=>rw[ei] at h1';cases h1'
   | some j =>
    rw[ei] at h1' h2'
    have h1'':X.N.getD j ""=y:=j7 h1'
    have h2'':σ.getD j none=some v:=j7 h2'
    obtain⟨hj,hfr⟩:=S.cap j (d7 ei)
    rw[h1''] at hfr
    have e1:X.N[j]?=some y:=by
     rw[c7 hj]
     rw[d5,c7 hj] at h1''
     exact congrArg some h1''
    have e2:σ[j]?=some (some v):=by
     have hj':j<σ.length:=by rw[I.len];exact hj
     rw[c7 hj']
     rw[d5,c7 hj'] at h2''
     exact congrArg some h2''
    have vis:BD X.env.scope y:=by
     rcases S.free (y,.free) (l7 hfr) rfl with q | q
     ·exact .inr (.inl q)
     ·exact .inr (.inr q)
    obtain⟨m,hn,hl⟩:=I.loc
    obtain⟨u,r,q⟩:=hl j y v e1 e2 vis
    refine⟨u,r,.inr ⟨?_,?_⟩⟩
    ·exact iQ (env:=X.env) hfr
    ·rcases q with ⟨k,_⟩ | ⟨_,c,hc,z⟩
     ·rcases S.free (y,.free) (l7 hfr) rfl with q | q
      ·rw[show X.env.kindOf y=X.env.scope.names.lookup y from rfl,q] at k;cases k
      ·rw[show X.env.kindOf y=X.env.scope.names.lookup y from rfl,q] at k;cases k
     ·obtain⟨c',hc'⟩:=v0.mp (kS scope.names [] y c (l7 hfr) hc)
      have e3:=sound y c' hc'
      rw[hc] at e3;cases e3
      exact⟨c,hc',cellK y c _ hc z⟩
 ·obtain⟨v,q⟩:=I.cell y c (sound y c e)
  exact⟨v,cellK y c v (sound y c e) q⟩
 ·simp[kR,bF,fL]
theorem oI{pins:List (Addr×Obj)}{σ σ':St}{H H':Hp}{s s':Shared}{fp:List Addr}{h'':Heap}(I:Inv X pins σ H s)(hf:∀ b∈fp,cU X pins H b)(J:Inv (bF X scope x ix fp s H) [] σ' H' s')
  (sb:Heap.SameBut s.heap.objs.size s'.heap h''):Inv X pins σ H' { s' with heap:=h'' }:=by
 have neC:∀ b o,s.heap.get? b=some o→b≠s.heap.objs.size:=fun b o e=>i7 (d6 e)
 have B:Un (tE X.stack) fp H H' s.heap s'.heap:=J.base
 have hC:H' s.heap.objs.size=none:=J.free
 refine I.call' (ch:=fp) J.os ?_ ?_ J.bare fun b hb=>⟨(hf b hb).2.2.2.1,(hf b hb).2.1,(hf b hb).2.2.2.2.1,(hf b hb).2.2.2.2.2⟩
 ·refine⟨fun b o e n hb hx=>(sb.2 b (neC b o e)).trans (B.keep b o e n hb hx),fun b o e n hb hx=>?_,B.free,fun b o e hx=>?_,B.tups,B.frzs,B.tbls⟩
  ·obtain⟨sl,q⟩:=B.slot b o e n hb hx
   exact⟨sl,(sb.2 b (neC b o e)).trans q⟩
  ·obtain⟨o',q⟩:=B.there b o e hx
   exact⟨o',(sb.2 b (neC b o e)).trans q⟩
 ·intro b ob e
  refine(J.hok b ob e).stay (fun c w' hc q=>(sb.2 c ?_).trans q) (fun _ q=>q) fun _ _ q=>q
  rintro rfl
  rcases hc with hc | hc
  ·rw[← hc,hC] at e;cases e
  ·rw[hC] at hc;cases hc
end
theorem lP{α β:Type}{M:Model}{A:Around}{a:α}{t:Sem β}{P:α→Shared→Prop}{Q:β→Shared→Prop}{E E':Value→Shared→Prop}{s:Shared}(h:wpAny M A (pure a:Sem α) P E s)(k:P a s→wpAny M A t Q E' s):wpAny M A t Q E' s:=fun Γ p hΓ=>k (h Γ p hΓ) Γ p hΓ
def lN(X:Cx)(ifs:List Expr)(t:TT):Prop :=
 ∀ (pins:List (Addr×Obj)) (s:Shared) (σ:St) (H:Hp) (Q:Bool→Hp→Prop),Inv X pins σ H s→t σ H Q →
  wpAny (model X.prog X.w) X.A (forIn ifs true fun c r=>if r=true then do let ok ← isTrue c X.env (eval c X.env);pure (ForInStep.yield ok) else pure (ForInStep.yield r)) (TP X pins σ Q) X.xe s
def B8:TT:=fun _ H Q=>Q true H
theorem bR{X:Cx}:lN X [] B8:=fun _ _ _ H _ I h=>wpAny_tests_nil ⟨H,I,h⟩
theorem jS{X:Cx}{c:Expr}{t:TT}(h:PT X c t):lN X [c] t:=fun pins s σ H Q I q=>wpAny_tests_one (h pins s σ H Q I q)
def dE(σ:St)(ix:List Nat):St:=ix.map fun i=>σ.getD i none
def gS(J:It)(D:Addr)(Q:VK)(ti:TT)(te:TE)(c:St)(H0:Hp):Prop :=
 ∃ W:Nat→Nat→Hp→Prop,(∃ m,W 0 m H0)∧∀ i m H,W i m H →
  (J.stop i H∧Q (.ref D) H)∨(J.go i H∧∃ N:Hp→Prop,(∀ H',N H'→∃ m',m' < m∧W (i+1) m' H')∧∀ v H',J.yld i H v H' →
   ti (some v::c) H' fun b H2=>if b=true then te (some v::c) H2 fun y H3=>∃ ys,H3 D=some (.lst ys)∧ys.length<sizeLine∧N (upd H3 D (.lst (ys++[y]))) else N H2)
def wW(wi:TI)(ix:List Nat)(ti:TT)(te:TE):TE:=fun σ H Q=>wi σ H fun J H1=>∀ D,H1 D=none→gS J D Q ti te (dE σ ix) (upd H1 D (.lst []))
section
variable {X:Cx}{scope:Scope}{x:Str}{px pos:Pos}{ix:List Nat}{elt iter:Expr}{ifs:List Expr}{wi:TI}{ti:TT}{te:TE}
theorem lA{pins:List (Addr×Obj)}{σ:St}{H:Hp}{s:Shared}{fp:List Addr}{it D:Addr}{tn:Nat→Heap→Prop}{J:It}{Q:VK}{E:Value→Shared→Prop}{RR:Result→Shared→Prop}(S:CompSc X scope x ix)(hc:X.calm=true)
  (he:∀ s H,PE (bF X scope x ix fp s H) elt te) (hi:∀ s H,lN (bF X scope x ix fp s H) ifs ti)
  (I:Inv X pins σ H s) (T:Turn X.prog X.w X.K (.Name x px) J fp it tn) (st:tn 0 s.heap) (hf:∀ b∈fp,cU X pins H b) (go:gS J D Q ti te (dE σ ix) H)
  (nd:(fL X x ix).Nodup)
  (hR:∀ σ' H' s',Inv (bF X scope x ix fp s H) [] σ' H' s'→Q (.ref D) H'→RR (.ok .next) s') :
  wpAny (model X.prog X.w) X.A (newFunctionEnv scope X.env.globals (fP scope.names X.env.cells) [] X.env.qual none .none (some X.env)) (fun cenv s₄=>cenv.locals=s.heap.objs.size ∧
   codeAny (model X.prog X.w) X.A (.compStart (.ListComp elt [⟨.Name x px,iter,ifs,0⟩] scope pos) 0 (.ref it) (.ref D) { cenv with scope:=relabel scope X.env }) RR s₄) E s:=by
 refine wpAny_newFunctionEnv S.nocell (by intro y hy;simp at hy) (fun h' ns sb=>⟨rfl,?_⟩) S.kind
 have hlt:∀ b∈fp,b<s.heap.objs.size:=fun b hb=>by
  obtain⟨o,e,_⟩:=T.obj 0 _ st b hb
  exact d6 e
 have I0:Inv (bF X scope x ix fp s H) [] (kR σ ix) H { s with heap:=h',toks:=s.toks+([]:List (Str×Value)).length }:=pM S I hf hlt ns sb
 have st0:tn 0 h':=T.keep 0 _ _ st fun b hb o e=>(sb.2 b (i7 (d6 e))).trans (a9 _ e)
 obtain⟨W,⟨m0,w0⟩,turn⟩:=go
 have stat:∀ {H':Hp},(∀ b∈fp,H' b=none)→∀ b∈fp,cU (bF X scope x ix fp s H) [] H' b:=fun hn b hb=>by
  refine⟨hn b hb,i7 (hlt b hb),fun z=>?_,.inl hb,fun y c e=>(I0.ok.exf b hb).2 y c e,fun p hp=>absurd (show p∈([]:List (Addr×Obj)) from hp) (by simp)⟩
  exact I0.ok.exfs b hb z
 have loop:codeAny (model X.prog X.w) X.A (.compLoop (.ListComp elt [⟨.Name x px,iter,ifs,0⟩] scope pos) 0 (.ref it) (.ref D) (bF X scope x ix fp s H).env) RR { s with heap:=h',toks:=s.toks+([]:List (Str×Value)).length }:=by
  refine codeAny_compLoop_tests (fun n s'=>∃ i o H',Inv (bF X scope x ix fp s H) [] (o::dE σ ix) H' s'∧tn i s'.heap∧(∀ b∈fp,H' b=none)∧W i n H') ?_ m0 ⟨0,none,H,I0,st0,fun b hb=>(hf b hb).1,w0⟩
  rintro n s3 ⟨i,o3,H3,I3,st3,fr3,w3⟩
  rcases turn i n H3 w3 with ⟨stop,qn⟩ | ⟨gone,N,hN,step⟩
  ·refine bP (T.done (bF X scope x ix fp s H) rfl rfl rfl hc i [] s3 _ H3 _ I3 (stat fr3) st3 stop) fun r s4 ⟨hr,I4⟩=>?_
   subst hr
   exact hR _ H3 s4 I4 qn
  ·refine bP (T.item (bF X scope x ix fp s H) rfl rfl rfl hc i [] s3 _ H3 (fun _ _=>False) I3 (stat fr3) st3 gone |> fun z=>wpAny_mono z (fun _ _ q=>q) fun _ _ f=>f.elim) fun r s4 ⟨u,hr,h4⟩=>?_
   subst hr
   refine lP (a:=()) h4 fun ⟨y,H5,I5,r5,y5,st5,fr5⟩=>?_
   have I5':=I5.pinned (stat fr5) (T.obj _ _ st5)
   have hx0:(bF X scope x ix fp s H).N[0]?=some x:=rfl
   refine wpAny_assign_Name (eM I5' nd hx0 (.inl (lookup_relabel_local S.x)) r5 (fun s6 I6=>?_) (.inr (lookup_relabel_local S.x)))
   refine wpAny_mono (hi s H _ s6 _ H5 _ I6 (step y H5 y5)) (fun ok s7 ⟨H7,I7,q7⟩=>?_) fun _ _ f=>f.elim
   have again:∀ {o7:Option V} {H7:Hp} {s7:Shared},Inv (bF X scope x ix fp s H) ([]++gO fp s4.heap) (o7::dE σ ix) H7 s7→N H7→∃ m,m<n∧∃ i o H',Inv (bF X scope x ix fp s H) [] (o::dE σ ix) H' s7∧tn i s7.heap∧(∀ b∈fp,H' b=none)∧W i m H':=fun {o7 H7 s7} I7 n7=>by
    obtain⟨m',hm,w7⟩:=hN H7 n7
    refine⟨m',hm,i+1,o7,H7,I7.unpinned,T.keep _ _ _ st5 fun b hb o e=>(I7.pin (b,o) (e9 _ (e9 _ (bO hb e)))).1,fun b hb=>?_,w7⟩
    obtain⟨o,e,d⟩:=T.obj _ _ st5 b hb
    exact(I7.pin (b,o) (e9 _ (e9 _ (bO hb e)))).2.1
   cases ok with
   | false =>
    rw[if_neg (by simp)] at q7
    exact again I7 q7
   | true =>
    rw[if_pos rfl] at q7
    refine wpAny_mono (he s H _ s7 _ H7 _ I7 q7) (fun v s8 ⟨y8,H8,I8,r8,ys,hD,hz,n8⟩=>?_) fun _ _ f=>f.elim
    obtain⟨z,its,k,rv,e⟩:=I8.hok D _ hD
    have hl:s8.heap.IsList D its.toArray:=⟨_,e,rfl,k,rfl⟩
    refine dL _ s8 _ H8 (.ref D) [y8] (.ref D) [v] _ I8 rfl (.cons r8 .nil) ⟨D,ys,y8,rfl,rfl,hD,hz,n8⟩ |> fun z=>wpAny_mono z (fun _ s9 ⟨_,H9,I9,_,q9⟩=>again I9 q9) fun _ _ f=>f.elim
 exact codeAny_compStart_list loop (T.self _ 0 _ _ _ st0 loop)
end
section
variable {X:Cx}{scope:Scope}{x:Str}{px pos:Pos}{ix:List Nat}{elt iter:Expr}{ifs:List Expr}{wi:TI}{ti:TT}{te:TE}
theorem Inv.fp_upd{pins:List (Addr×Obj)}{H:Hp}{D:Addr}{o:HO}{fp:List Addr}(hf:∀ b∈fp,cU X pins H b)(hD:∀ b∈fp,b≠D):∀ b∈fp,cU X pins (upd H D o) b:=fun b hb =>
 ⟨by rw[aG (hD b hb)];exact(hf b hb).1,(hf b hb).2⟩
theorem Aj(S:CompSc X scope x ix)(nd:(fL X x ix).Nodup)(hc:X.calm=true)(hi:PI X (.Name x px) iter wi)(hif:∀ fp s H,lN (bF X scope x ix fp s H) ifs ti)(he:∀ fp s H,PE (bF X scope x ix fp s H) elt te)
  (hs:∀ z,foldedSetIterable iter X.env z=pure z:=by intro _;rfl):PE X (.ListComp elt [⟨.Name x px,iter,ifs,0⟩] scope pos) (wW wi ix ti te):=by
 intro pins s σ H Q I h
 rw[eval_ListComp]
 refine wpAny_comprehension_free (use:=none) rfl hs (cX (S.cells I.ok)) S.kind S.loc (bP (hi pins s σ H _ I h) fun v s1 h1=>bP h1 fun itv s2 h2=>?_)
 obtain⟨it,fp,tn,J,H2,rfl,I2,T,st2,f2,q⟩:=h2
 refine wpAny_newObj_type ?_
 have fr:=I2.fresh
 have I3:Inv X pins σ (upd H2 s2.heap.objs.size (.lst [])) { s2 with heap:=s2.heap.push { cls:=.type "list",data:=.seq ([]:List Value).toArray } }:=I2.lnew (t':=s2.toks) .nil (l5 _)
 have hD:∀ b∈fp,b≠s2.heap.objs.size:=fun b hb=>by
  obtain⟨o,e,_⟩:=T.obj 0 _ st2 b hb
  exact i7 (d6 e)
 have f3:=Inv.fp_upd (o:=.lst []) f2 hD
 have st3:tn 0 (s2.heap.push { cls:=.type "list",data:=.seq ([]:List Value).toArray }):=T.keep 0 _ _ st2 fun b hb o e=>a9 _ e
 refine bP (lA (px:=px) (pos:=pos) (iter:=iter) (E:=X.xe) (RR:=compPost (model X.prog X.w) X.A X.xe none (EP X pins σ Q) (.ref s2.heap.objs.size) (s2.heap.push { cls:=.type "list",data:=.seq ([]:List Value).toArray }).objs.size) S hc (he fp) (hif fp) I3 T st3 f3 (q _ fr) nd ?_) fun cenv s4 ⟨e,z⟩=>?_
 ·intro σ' H' s' J' q'
  obtain⟨m,hn,_⟩:=J'.loc
  exact⟨m,hn,fun h'' sb=>⟨_,H',oI I3 f3 J' sb,(show RelV (.ref s2.heap.objs.size) _ from rfl),q'⟩⟩
 ·rw[← show cenv.locals=(s2.heap.push { cls:=.type "list",data:=.seq ([]:List Value).toArray }).objs.size from e] at z;exact z
def AC(i:Nat)(wi:TI)(ix:List Nat)(ti:TT)(te:TE):TS:=fun D σ H=>wW wi ix ti te σ H fun v H1=>D.nx (σ.set i (some v)) H1
theorem zH{i:Nat}{y:Str}{py spos:Pos}(hN:X.N.Nodup)(hy:X.N[i]?=some y)(hyl:X.env.scope.names.lookup y=some .local)(S:CompSc X scope x ix)(nd:(fL X x ix).Nodup)(hc:X.calm=true)(hi:PI X (.Name x px) iter wi)
  (hif:∀ fp s H,lN (bF X scope x ix fp s H) ifs ti) (he:∀ fp s H,PE (bF X scope x ix fp s H) elt te)
  (hsw:swapsWith (.ListComp elt [⟨.Name x px,iter,ifs,0⟩] scope pos) (some (.Name y py)) spos.line X.env=pure true:=by rfl)
  (hs:∀ z,foldedSetIterable iter X.env z=pure z:=by intro _;rfl):PS X (.Assign [.Name y py] (.ListComp elt [⟨.Name x px,iter,ifs,0⟩] scope pos) spos) (AC i wi ix ti te):=by
 intro pins s σ H D I h
 rw[exec_Assign_Name_used _ _ _ _ hsw]
 refine wpAny_bind (wpAny_standAt (wpAny_bind ?_))
 show wpAny _ X.A (do let _ ← comprehension (.ListComp elt [⟨.Name x px,iter,ifs,0⟩] scope pos) scope X.env _ (newList []) false (eval iter X.env) (some (assign (.Name y py) X.env))) _ _ s
 refine wpAny_bind (wpAny_mono (wpAny_comprehension_free (use:=some (assign (.Name y py) X.env)) (Q:=fun _ s'=>SP X pins D .next s') rfl hs (cX (S.cells I.ok)) S.kind S.loc (bP (hi pins s σ H _ I h) fun v s1 h1=>bP h1 fun itv s2 h2=>?_)) (fun _ s' hq=>wpAny_pure (wpAny_pure hq)) fun _ _ e=>e)
 obtain⟨it,fp,tn,J,H2,rfl,I2,T,st2,f2,q⟩:=h2
 refine wpAny_newObj_type ?_
 have fr:=I2.fresh
 have I3:Inv X pins σ (upd H2 s2.heap.objs.size (.lst [])) { s2 with heap:=s2.heap.push { cls:=.type "list",data:=.seq ([]:List Value).toArray } }:=I2.lnew (t':=s2.toks) .nil (l5 _)
 have hD:∀ b∈fp,b≠s2.heap.objs.size:=fun b hb=>by
  obtain⟨o,e,_⟩:=T.obj 0 _ st2 b hb
  exact i7 (d6 e)
 have f3:=Inv.fp_upd (o:=.lst []) f2 hD
 have st3:tn 0 (s2.heap.push { cls:=.type "list",data:=.seq ([]:List Value).toArray }):=T.keep 0 _ _ st2 fun b hb o e=>a9 _ e
 refine bP (lA (px:=px) (pos:=pos) (iter:=iter) (E:=X.xe) (RR:=compPost (model X.prog X.w) X.A X.xe (some (assign (.Name y py) X.env)) (fun _ s'=>SP X pins D .next s') (.ref s2.heap.objs.size) (s2.heap.push { cls:=.type "list",data:=.seq ([]:List Value).toArray }).objs.size) S hc (he fp) (hif fp) I3 T st3 f3 (q _ fr) nd ?_) fun cenv s4 ⟨e,z⟩=>?_
 ·intro σ' H' s' J' q'
  have neL:(s2.heap.push { cls:=.type "list",data:=.seq ([]:List Value).toArray }).objs.size≠X.env.locals:=x8 I3.lt
  have I4:Inv X pins σ H' { s' with heap:=s'.heap }:=oI I3 f3 J' (.refl ..)
  show wpAny (model X.prog X.w) X.A (assign (.Name y py) X.env (.ref s2.heap.objs.size)) _ X.xe s'
  refine wpAny_assign_Name (lR (s:=s') I4 hN hy (.inl hyl) (show RelV (.ref s2.heap.objs.size) _ from rfl) (fun s6 I6 ⟨a,sb,ha⟩=>?_) (.inr hyl))
  have ha':a≠(s2.heap.push { cls:=.type "list",data:=.seq ([]:List Value).toArray }).objs.size:=by
   rcases ha with ha | ha
   ·rw[ha];exact aQM neL
   ·obtain⟨v,z⟩:=I3.cell y a ha
    exact i7 z.lt
  obtain⟨m,hn,_⟩:=J'.loc
  refine⟨m,hn.sameBut sb (aQM ha'),fun h'' sb2=>⟨σ.set i (some (.ref s2.heap.objs.size)),H',?_,q'⟩⟩
  -- the block's dict is not ours: its change is no matter
  have I7:Inv X pins (σ.set i (some (.ref s2.heap.objs.size))) H' s6:=I6
  have hCn:H' (s2.heap.push { cls:=.type "list",data:=.seq ([]:List Value).toArray }).objs.size=none:=J'.free
  refine I7.turned (s:=s6) (t':=s6.toks) (it:=(s2.heap.push { cls:=.type "list",data:=.seq ([]:List Value).toArray }).objs.size) (fun b o hb e=>(sb2.2 b hb).trans e) hCn neL (.inr (m7 I3.sz (c8 _))) (fun y c e z=>?_) fun p hp z=>?_
  ·obtain⟨v,q⟩:=I3.cell y c e
   exact absurd z (i7 q.lt)
  ·exact absurd z (i7 (d6 (I3.pin p hp).1))
 ·rw[← show cenv.locals=(s2.heap.push { cls:=.type "list",data:=.seq ([]:List Value).toArray }).objs.size from e] at z;exact z
end
theorem qN{lo:Int}{n:Nat}{D:Addr}{Q:VK}{te:TE}{c:St}{H0:Hp}(Pv:Nat→Hp→Prop)(h0:Pv 0 H0)
  (hs:∀ i H,i<n→Pv i H→te (some (.int (lo+i))::c) H fun y H2=>∃ ys,H2 D=some (.lst ys)∧ys.length<sizeLine∧Pv (i+1) (upd H2 D (.lst (ys++[y])))) (hd:∀ H,Pv n H→Q (.ref D) H) :
  gS (Ba lo n) D Q B8 te c H0:=by
 refine⟨fun i m H'=>m=n - i∧i≤n∧Pv i H',⟨n,by simp,l5 _,h0⟩,?_⟩
 rintro i m H' ⟨rfl,hi,p⟩
 by_cases hlt:i<n
 ·refine .inr ⟨hlt,Pv (i+1),fun H'' p=>⟨n - (i+1),by omega,rfl,hlt,p⟩,fun v H2 y=>?_⟩
  obtain⟨e,y⟩:=y
  subst e y
  exact pE (B:=Pv (i+1) H2) (hs i H2 hlt p)
 ·have e:i=n:=by omega
  subst e
  exact .inl ⟨c8 _,hd H' p⟩
theorem fQ{K:b9}{a:Addr}{xs:List V}{D:Addr}{Q:VK}{ti:TT}{te:TE}{c:St}{H0:Hp}(Pv:Nat→Hp→Prop)(h0:Pv 0 H0)(hl:∀ i H,i≤xs.length→Pv i H→SqL K H a xs)
  (hs:∀ i x H,xs[i]?=some x→Pv i H→ti (some x::c) H fun b H1=>if b=true then te (some x::c) H1 fun y H2=>∃ ys,H2 D=some (.lst ys)∧ys.length<sizeLine∧Pv (i+1) (upd H2 D (.lst (ys++[y]))) else Pv (i+1) H1) (hd:∀ H,Pv xs.length H→Q (.ref D) H) :
  gS (BC K a) D Q ti te c H0:=by
 refine⟨fun i m H'=>m=xs.length - i∧i≤xs.length∧Pv i H',⟨xs.length,by simp,l5 _,h0⟩,?_⟩
 rintro i m H' ⟨rfl,hi,p⟩
 have q:=hl i H' hi p
 by_cases hlt:i<xs.length
 ·refine .inr ⟨⟨xs,xs[i],q,by simp[hlt]⟩,Pv (i+1),fun H'' p=>⟨xs.length - (i+1),by omega,rfl,hlt,p⟩,fun v H2 y=>?_⟩
  obtain⟨e,y⟩:=y
  subst e
  exact hs i v H2 (y xs q) p
 ·have e:i=xs.length:=by omega
  subst e
  exact .inl ⟨⟨xs,q,c8 _⟩,hd H' p⟩
theorem fF{K:b9}{a:Addr}{xs:List V}{D:Addr}{Q:VK}{ti:TT}{te:TE}{c:St}{H0:Hp}(Pv:Nat→Hp→Prop)(h0:Pv 0 H0)(hl:∀ i H,i≤xs.length→Pv i H→SqT K H a xs)
  (hs:∀ i x H,xs[i]?=some x→Pv i H→ti (some x::c) H fun b H1=>if b=true then te (some x::c) H1 fun y H2=>∃ ys,H2 D=some (.lst ys)∧ys.length<sizeLine∧Pv (i+1) (upd H2 D (.lst (ys++[y]))) else Pv (i+1) H1) (hd:∀ H,Pv xs.length H→Q (.ref D) H) :
  gS (BE K a) D Q ti te c H0:=by
 refine⟨fun i m H'=>m=xs.length - i∧i≤xs.length∧Pv i H',⟨xs.length,by simp,l5 _,h0⟩,?_⟩
 rintro i m H' ⟨rfl,hi,p⟩
 have q:=hl i H' hi p
 by_cases hlt:i<xs.length
 ·refine .inr ⟨⟨xs,xs[i],q,by simp[hlt]⟩,Pv (i+1),fun H'' p=>⟨xs.length - (i+1),by omega,rfl,hlt,p⟩,fun v H2 y=>?_⟩
  obtain⟨e,y⟩:=y
  subst e
  exact hs i v H2 (y xs q) p
 ·have e:i=xs.length:=by omega
  subst e
  exact .inl ⟨⟨xs,q,c8 _⟩,hd H' p⟩
def wS(x:Str):It:=⟨fun i _=>i<x.cps.size,fun i H v H'=>H'=H∧∃ c,x.cps[i]?=some c∧v=.str ⟨#[c]⟩,fun i _=>i=x.cps.size⟩
theorem wD{P:Program}{w:World}{K:b9}{tg:Expr}(x:Str)(t:Tok)(T:String)(it:Addr)(hT:T="str_ascii_iterator"∨T="str_iterator"):Turn P w K tg (wS x) [it] it (fun i h=>h.IsStrIter it T x t i) where
 mem:=by simp
 obj:=fun i h st b hb=>by
  have e:b=it:=by simpa using hb
  subst e
  obtain⟨o,e,c,d⟩:=st
  exact⟨o,e,fun v z=>by rw[d] at z;cases z⟩
 keep:=fun i h h' st k=>by
  obtain⟨o,e,r⟩:=st
  exact⟨o,k it (by simp) o e,r⟩
 item:=by
  intro X hP hw hK hc i pins s σ H E I hf st hg
  subst hP hw hK
  obtain⟨f0,f1,f2,f3,f4,f5⟩:=hf it (by simp)
  have hn:["enumerate","zip","dict_itemiterator","dict_reverseitemiterator","odict_iterator","itertools.zip_longest","itertools.pairwise"].contains T=false:=by rcases hT with rfl | rfl <;> decide
  have fin:∀ (v:Value) (h':Heap) (tk:Nat),SignAt x i v→h'.IsStrIter it T x t (i+1)→(∀ b o,b ∉ [it]→s.heap.get? b=some o→h'.get? b=some o) →
    ∃ u,some v=some u∧wpAny (model X.prog X.w) X.A (letOwnedTupleGo tg (.ref it) u) (fun _ s2=>∃ y H',Inv X pins σ H' s2∧RelV y u∧(wS x).yld i H y H'∧s2.heap.IsStrIter it T x t (i+1)∧∀ b∈[it],H' b=none) E { s with heap:=h',toks:=tk }:=fun v h' tk hv st' kk=>by
   obtain⟨c,u,hc',rfl⟩:=hv
   have I1:Inv X pins σ H { s with heap:=h',toks:=tk }:=I.turned (fun b o hb e=>kk b o (by simpa using hb) e) f0 f1 f3 f4 f5
   obtain⟨o,e,c2,d⟩:=id st'
   exact⟨_,rfl,oJ (s:={ s with heap:=h',toks:=tk }) e c2 d hn ⟨.str ⟨#[c]⟩,H,I1,⟨u,rfl⟩,⟨rfl,c,hc',rfl⟩,st',fun b hb=>(hf b hb).1⟩⟩
  rcases hT with rfl | rfl
  ·exact(aZM (prog:=X.prog) (w:=X.w) (I.ok.hd hc) it x t).item i s _ _ hg st fin
  ·exact(aZS (prog:=X.prog) (w:=X.w) (I.ok.hd hc) it x t).item i s _ _ hg st fin
 done:=by
  intro X hP hw hK hc i pins s σ H E I hf st hg
  subst hP hw hK
  obtain⟨f0,f1,f2,f3,f4,f5⟩:=hf it (by simp)
  have hi:i=x.cps.size:=hg
  subst hi
  have fin:∀ (h':Heap) (tk:Nat),(∀ b o,b ∉ [it]→s.heap.get? b=some o→h'.get? b=some o)→(none:Option Value)=none∧Inv X pins σ H { s with heap:=h',toks:=tk }:=fun h' tk kk =>
   ⟨rfl,I.turned (fun b o hb e=>kk b o (by simpa using hb) e) f0 f1 f3 f4 f5⟩
  rcases hT with rfl | rfl
  ·exact(aZM (prog:=X.prog) (w:=X.w) (I.ok.hd hc) it x t).done s _ _ st fin
  ·exact(aZS (prog:=X.prog) (w:=X.w) (I.ok.hd hc) it x t).done s _ _ st fin
 self:=fun A i s Q E st h=>by
  rcases hT with rfl | rfl
  ·exact wpAny_pyIter_striter_ascii st h
  ·exact wpAny_pyIter_striter_wide st h
section
variable {X:Cx}{tg:Expr}
def DB(tl:TE):TI:=fun σ H R=>tl σ H fun x H1=>∃ z,x=.str z∧R (wS z) H1
theorem fD{l:Expr}{tl:TE}(hl:PE X l tl):PI X tg l (DB tl):=by
 intro pins s σ H R I h
 refine bP (hl pins s σ H _ I h) fun v s1 ⟨x,H1,I1,r1,q1⟩=>?_
 obtain⟨z,e,q⟩:=q1
 subst e
 obtain⟨t,rfl⟩:=r1
 refine wpAny_pyIter_strU ?_
 refine⟨s1.heap.objs.size,[s1.heap.objs.size],_,_,H1,rfl,I1.kept (t':=s1.toks) fun b o e=>a9 _ e,wD z t (strIterType z) _ (by unfold strIterType;split <;> simp),⟨_,d8 _ rfl,rfl,rfl⟩,fun b hb=>?_,q⟩
 have e:b=s1.heap.objs.size:=by simpa using hb
 subst e
 exact I1.fpOk (c8 _) (I1.hok.fresh (c8 _))
end
abbrev S(w:List Nat):Str:=⟨w.toArray⟩
theorem jP{w:List Nat}{g:TG}{tb:TS}{D:Ends}{σ:St}{H:Hp}(Pv:Nat→St→Hp→Prop)(h0:Pv 0 σ H)
  (hs:∀ i c σ H,w[i]?=some c→Pv i σ H→g (.str (S [c])) σ H fun σ2 H2=>tb { D with nx:=Pv (i+1),ct:=Pv (i+1),bk:=D.nx } σ2 H2) (hd:∀ σ H,Pv w.length σ H→D.nx σ H) :
  ∃ W:Nat→Nat→St→Hp→Prop,(∃ m,W 0 m σ H)∧∀ i m σ H,W i m σ H →
   ((wS (S w)).stop i H∧D.nx σ H)∨((wS (S w)).go i H∧∃ N:St→Hp→Prop,(∀ σ' H',N σ' H'→∃ m',m' < m∧W (i+1) m' σ' H')∧∀ x H',(wS (S w)).yld i H x H'→g x σ H' fun σ2 H2=>tb { D with nx:=N,ct:=N,bk:=D.nx } σ2 H2):=by
 refine⟨fun i m σ H=>m=w.length - i∧i≤w.length∧Pv i σ H,⟨w.length,by simp,l5 _,h0⟩,?_⟩
 rintro i m σ H ⟨rfl,hi,p⟩
 by_cases hlt:i<w.length
 ·refine .inr ⟨by simpa [wS] using hlt,Pv (i+1),fun σ' H' p'=>⟨w.length - (i+1),by omega,rfl,hlt,p'⟩,fun x H' y=>?_⟩
  obtain⟨e,c,hc,rfl⟩:=y
  subst e
  exact hs i c σ _ (by simpa using hc) p
 ·have e:i=w.length:=by omega
  subst e
  exact .inl ⟨by simp[wS],hd σ H p⟩
theorem dU{w:List Nat}{D:Addr}{Q:VK}{ti:TT}{te:TE}{c:St}{H0:Hp}(Pv:Nat→Hp→Prop)(h0:Pv 0 H0)
  (hs:∀ i k H,w[i]?=some k→Pv i H→ti (some (.str (S [k]))::c) H fun b H1=>if b=true then te (some (.str (S [k]))::c) H1 fun y H2=>∃ ys,H2 D=some (.lst ys)∧ys.length<sizeLine∧Pv (i+1) (upd H2 D (.lst (ys++[y]))) else Pv (i+1) H1) (hd:∀ H,Pv w.length H→Q (.ref D) H) :
  gS (wS (S w)) D Q ti te c H0:=by
 refine⟨fun i m H'=>m=w.length - i∧i≤w.length∧Pv i H',⟨w.length,by simp,l5 _,h0⟩,?_⟩
 rintro i m H' ⟨rfl,hi,p⟩
 by_cases hlt:i<w.length
 ·refine .inr ⟨by simpa [wS] using hlt,Pv (i+1),fun H'' p=>⟨w.length - (i+1),by omega,rfl,hlt,p⟩,fun v H2 y=>?_⟩
  obtain⟨e,k,hk,rfl⟩:=y
  subst e
  exact hs i k H2 (by simpa using hk) p
 ·have e:i=w.length:=by omega
  subst e
  exact .inl ⟨by simp[wS],hd H' p⟩
section
variable {X:Cx}
def DG(a:Addr)(D:List (PyData×PyData)):R2:=fun x y H Q=>x=.ref a∧∃ z,y=.str z∧((∃ v,lookup (.str z) D=some (.str v)∧Q (.str v) H)∨∃ i,lookup (.str z) D=some (.int i)∧Q (.int i) H)
theorem vA{a:Addr}{D:List (PyData×PyData)}(T:∀ h,X.K.In h→StrTab X.prog X.w h a D):Bu X (DG a D):=by
 intro value slice pins s σ H x y v u Q I rx ry h hs
 obtain⟨rfl,z,rfl,q⟩:=h
 cases rx
 obtain⟨t,rfl⟩:=ry
 obtain⟨lo,kvs,hd,hf⟩:=T s.heap I.kIn
 rcases q with ⟨y,hl,q⟩ | ⟨y,hl,q⟩
 ·obtain⟨v,hv,hfl⟩:=hf.of_lookup (enc:=PyData.str) aXb hl
  exact tail_any hd.typeIs slot_dict_getitem.lookup (wpAny_getItem_of (strKind_is X.prog X.w z t) hd.mapOf hv ⟨.str y,H,I.tok _,aZo hfl,q⟩) hs
 ·obtain⟨v,hv,hfl⟩:=hf.of_lookup (enc:=PyData.str) aXb hl
  exact tail_any hd.typeIs slot_dict_getitem.lookup (wpAny_getItem_of (strKind_is X.prog X.w z t) hd.mapOf hv ⟨.int y,H,I.tok _,aZp hfl,q⟩) hs
inductive rSlSI(x:V)(lo:Option Int)(hi:Option Int)(H:Hp)(Q:VK):Prop
 | mk (z:_) (_:x=.str z) (_:z.length≤sizeLine) (_:Q (.str (Txt.slice z lo hi)) H):rSlSI x lo hi H Q
def Dy:V→Option Int→Option Int→Hp→VK→Prop:=fun x lo hi H Q=>rSlSI x lo hi H Q
theorem eJ:Dk X Dy:=by
 intro pins s σ H x v vl vu lo hi sl Q I rx hs pl pu h
 obtain⟨z,rfl,hz,q⟩:=h
 obtain⟨t,rfl⟩:=rx
 refine⟨"str",_,aQz.lookup,typeIs_str _ _ _,?_⟩
 obtain⟨o,ho,hc,hd⟩:=hs
 have fin:∀ t' k,EP X pins σ Q (.str (Txt.slice z lo hi) t') { s with toks:=k }:=fun t' k=>⟨.str (Txt.slice z lo hi),H,I.tok _,⟨t',rfl⟩,q⟩
 cases pl with
 | none =>
  cases pu with
  | none=>exact wpAny_getItem_str_slice (l:=none) (u:=none) (st:=none) ⟨o,ho,hc,hd⟩ rfl (post_val_or_str ⟨m7 (aXL z _ _) hz,fin⟩)
  | int j uj=>exact wpAny_getItem_str_slice (l:=none) (u:=some (j,uj)) (st:=none) ⟨o,ho,hc,hd⟩ rfl (post_val_or_str ⟨m7 (aXL z _ _) hz,fin⟩)
 | int i ui =>
  cases pu with
  | none=>exact wpAny_getItem_str_slice (l:=some (i,ui)) (u:=none) (st:=none) ⟨o,ho,hc,hd⟩ rfl (post_val_or_str ⟨m7 (aXL z _ _) hz,fin⟩)
  | int j uj=>exact wpAny_getItem_str_slice (l:=some (i,ui)) (u:=some (j,uj)) (st:=none) ⟨o,ho,hc,hd⟩ rfl (post_val_or_str ⟨m7 (aXL z _ _) hz,fin⟩)
theorem rG:uY X "str.islower" (fun x xs H Q=>∃ z,x=.str z∧xs=[]∧Q (.bl (Txt.islower z)) H):=by
 intro pins s σ H x xs v us Q I rx rs h
 obtain⟨z,rfl,rfl,q⟩:=h
 obtain⟨t,rfl⟩:=rx
 cases rs
 exact SC.islower ⟨.bl _,H,I,rfl,q⟩
theorem rP:uY X "str.isupper" (fun x xs H Q=>∃ z,x=.str z∧xs=[]∧Q (.bl (Txt.isupper z)) H):=by
 intro pins s σ H x xs v us Q I rx rs h
 obtain⟨z,rfl,rfl,q⟩:=h
 obtain⟨t,rfl⟩:=rx
 cases rs
 exact SC.isupper ⟨.bl _,H,I,rfl,q⟩
theorem jU:uY X "str.upper" (fun x xs H Q=>∃ z,x=.str z∧xs=[]∧Builtin.Str.tooLong (Txt.upper z).length=false∧Q (.str (Txt.upper z)) H):=by
 intro pins s σ H x xs v us Q I rx rs h
 obtain⟨z,rfl,rfl,hf,q⟩:=h
 obtain⟨t,rfl⟩:=rx
 cases rs
 exact SC.upper hf ⟨.str _,H,I.tok _,⟨_,rfl⟩,q⟩
theorem kH:uY X "str.lower" (fun x xs H Q=>∃ z,x=.str z∧xs=[]∧Builtin.Str.tooLong (Txt.lower z).length=false∧Q (.str (Txt.lower z)) H):=by
 intro pins s σ H x xs v us Q I rx rs h
 obtain⟨z,rfl,rfl,hf,q⟩:=h
 obtain⟨t,rfl⟩:=rx
 cases rs
 exact SC.lower hf ⟨.str _,H,I.tok _,⟨_,rfl⟩,q⟩
theorem gU:∀ {zs:List Str} {us:List Value},Vals (zs.map V.str) us→StrsAre us zs
 | [],_,r=>by
  cases r
  exact .nil
 | z::zs,_,r=>by
  rw[k7] at r
  cases r with
  | cons r1 r2 =>
   obtain⟨t,rfl⟩:=r1
   exact .cons z t (gU r2)
theorem Ar:uY X "str.join" (fun x xs H Q=>∃ z a zs,x=.str z∧xs=[.ref a]∧SqL X.K H a (zs.map V.str)∧(zs.map (·.length)).sum+zs.length * z.length≤16777216∧Q (.str (Txt.join z zs)) H):=by
 intro pins s σ H x xs v us Q I rx rs h
 obtain⟨z,a,zs,rfl,rfl,hq,hz,q⟩:=h
 obtain⟨t,rfl⟩:=rx
 obtain⟨u,rfl,ru⟩:=rs.one
 cases ru
 obtain⟨its,r,pl,_⟩:=I.list hq
 exact join_list pl.isList (by simpa using gU r) hz fun t' k=>⟨.str _,H,I.tok _,⟨t',rfl⟩,q⟩
end
def jQ:List String:=["str","int","bool","list","tuple","NoneType","dict"]
def bD:List String:=["list","tuple","bool","str","int"]
def fN(t c:String):Bool:=t == c || (t == "bool" && c == "int")
theorem Ac(K:b9)(c:String)(h:c∈bD):PySem.W.kitOne K (.type "str") (.type c)=some (fN "str" c):=by
 simp only [bD,d9,j9,or_false] at h
 rcases h with rfl | rfl | rfl | rfl | rfl <;> kernel_rfl
theorem Am(K:b9)(c:String)(h:c∈bD):PySem.W.kitOne K (.type "int") (.type c)=some (fN "int" c):=by
 simp only [bD,d9,j9,or_false] at h
 rcases h with rfl | rfl | rfl | rfl | rfl <;> kernel_rfl
theorem vL(K:b9)(c:String)(h:c∈bD):PySem.W.kitOne K (.type "bool") (.type c)=some (fN "bool" c):=by
 simp only [bD,d9,j9,or_false] at h
 rcases h with rfl | rfl | rfl | rfl | rfl <;> kernel_rfl
theorem wC(K:b9)(c:String)(h:c∈bD):PySem.W.kitOne K (.type "list") (.type c)=some (fN "list" c):=by
 simp only [bD,d9,j9,or_false] at h
 rcases h with rfl | rfl | rfl | rfl | rfl <;> kernel_rfl
theorem tM(K:b9)(c:String)(h:c∈bD):PySem.W.kitOne K (.type "tuple") (.type c)=some (fN "tuple" c):=by
 simp only [bD,d9,j9,or_false] at h
 rcases h with rfl | rfl | rfl | rfl | rfl <;> kernel_rfl
theorem wA(K:b9)(c:String)(h:c∈bD):PySem.W.kitOne K (.type "NoneType") (.type c)=some (fN "NoneType" c):=by
 simp only [bD,d9,j9,or_false] at h
 rcases h with rfl | rfl | rfl | rfl | rfl <;> kernel_rfl
theorem vY(K:b9)(c:String)(h:c∈bD):PySem.W.kitOne K (.type "dict") (.type c)=some (fN "dict" c):=by
 simp only [bD,d9,j9,or_false] at h
 rcases h with rfl | rfl | rfl | rfl | rfl <;> kernel_rfl
theorem nX(K:b9)(t c:String)(ht:t∈jQ)(h:c∈bD):PySem.W.kitOne K (.type t) (.type c)=some (fN t c):=by
 simp only [jQ,d9,j9,or_false] at ht
 rcases ht with rfl | rfl | rfl | rfl | rfl | rfl | rfl
 ·exact Ac K c h
 ·exact Am K c h
 ·exact vL K c h
 ·exact wC K c h
 ·exact tM K c h
 ·exact wA K c h
 ·exact vY K c h
section
variable {X:Cx}
inductive BTy(K:b9)(H:Hp):V→String→Prop where
 | non:BTy K H .non "NoneType"
 | bl (x:Bool):BTy K H (.bl x) "bool"
 | int (i:Int):BTy K H (.int i) "int"
 | str (x:Str):BTy K H (.str x) "str"
 | lst {a:Addr} {xs:List V} (e:SqL K H a xs):BTy K H (.ref a) "list"
 | tup {a:Addr} {xs:List V} (e:SqT K H a xs):BTy K H (.ref a) "tuple"
theorem BTy.mem{K:b9}{H:Hp}{x:V}{t:String}(h:BTy K H x t):t∈jQ:=by cases h <;> decide
theorem Al{pins:List (Addr×Obj)}{σ:St}{H:Hp}{s:Shared}{A:Around}{E:Value→Shared→Prop}{Q:Value→Shared→Prop}{x:V}{u:Value}{t c:String}(I:Inv X pins σ H s)(rx:RelV x u)(ty:BTy X.K H x t)(hc:c∈bD)
  (h:∀ tk,Q (.bool (fN t c)) { s with toks:=tk }):wpAny (model X.prog X.w) A (call (.builtin "isinstance") [u,.type c]) Q E s:=by
 have e:=nX X.K t c ty.mem hc
 cases ty with
 | non=>cases (show u=Value.none from rx);exact aQI aXi I.kIn True.intro e (fun z=>nomatch z) h
 | bl y=>cases (show u=Value.bool y from rx);exact aQI aXj I.kIn True.intro e (fun z=>nomatch z) h
 | int i=>obtain⟨t,q⟩:=(show ∃ t,u=Value.int i t from rx);cases q;exact aQI aXv I.kIn True.intro e (fun z=>nomatch z) h
 | str y=>obtain⟨t,q⟩:=(show ∃ t,u=Value.str y t from rx);cases q;exact aQI aXw I.kIn True.intro e (fun z=>nomatch z) h
 | @lst a xs ea =>
  cases (show u=Value.ref a from rx)
  obtain⟨its,_,⟨o,n,h1,h2,_⟩,_⟩:=I.list ea
  exact aQI aXk I.kIn ⟨o,h1,h2⟩ e (fun z=>nomatch z) h
 | @tup a xs ea =>
  cases (show u=Value.ref a from rx)
  obtain⟨its,_,⟨o,h1,h2,_⟩,_⟩:=I.tuple ea
  exact aQI aXc I.kIn ⟨o,h1,h2⟩ e (fun z=>nomatch z) h
theorem qM{K:b9}{t c d:String}(ht:t∈jQ)(hc:c∈bD)(hd:d∈bD):PySem.W.kitAny K (.type t) [.type c,.type d]=some (fN t c || fN t d):=by
 unfold PySem.W.kitAny
 rw[nX K t c ht hc]
 cases fN t c with
 | true=>rfl
 | false =>
  dsimp only
  unfold PySem.W.kitAny
  rw[nX K t d ht hd]
  cases fN t d <;> rfl
theorem zR{pins:List (Addr×Obj)}{σ:St}{H:Hp}{s:Shared}{A:Around}{E:Value→Shared→Prop}{Q:Value→Shared→Prop}{x:V}{u:Value}{t c d:String}{p:Addr}(I:Inv X pins σ H s)(rx:RelV x u)(ty:BTy X.K H x t)(hp:H p=some (.tup [.ty c,.ty d]))(hc:c∈bD)(hd:d∈bD)
  (h:∀ tk,Q (.bool (fN t c || fN t d)) { s with toks:=tk }):wpAny (model X.prog X.w) A (call (.builtin "isinstance") [u,.ref p]) Q E s:=by
 have e:=qM (K:=X.K) ty.mem hc hd
 obtain⟨_,its,r,⟨ot,h1,h2,n,h3⟩,_⟩:=I.hok p _ hp
 obtain⟨u1,u2,rfl,r1,r2⟩:=r.two
 cases (show u1=Value.type c from r1)
 cases (show u2=Value.type d from r2)
 obtain⟨cl,dd,dt,sl⟩:=ot
 have h2':cl=.type "tuple":=h2
 have h3':dt=.seq [Value.type c,Value.type d].toArray n:=h3
 subst h2' h3'
 cases ty with
 | non=>cases (show u=Value.none from rx);exact aQJ aXi I.kIn True.intro h1 e (fun z=>nomatch z) h
 | bl y=>cases (show u=Value.bool y from rx);exact aQJ aXj I.kIn True.intro h1 e (fun z=>nomatch z) h
 | int i=>obtain⟨t,q⟩:=(show ∃ t,u=Value.int i t from rx);cases q;exact aQJ aXv I.kIn True.intro h1 e (fun z=>nomatch z) h
 | str y=>obtain⟨t,q⟩:=(show ∃ t,u=Value.str y t from rx);cases q;exact aQJ aXw I.kIn True.intro h1 e (fun z=>nomatch z) h
 | @lst a xs ea =>
  cases (show u=Value.ref a from rx)
  obtain⟨its,_,⟨o,n,g1,g2,_⟩,_⟩:=I.list ea
  exact aQJ aXk I.kIn ⟨o,g1,g2⟩ h1 e (fun z=>nomatch z) h
 | @tup a xs ea =>
  cases (show u=Value.ref a from rx)
  obtain⟨its,_,⟨o,g1,g2,_⟩,_⟩:=I.tuple ea
  exact aQJ aXc I.kIn ⟨o,g1,g2⟩ h1 e (fun z=>nomatch z) h
inductive rIsiI(K:b9)(xs:List V)(H:Hp)(Q:VK):Prop
 | mk (x t:_) (_:BTy K H x t) (_:((∃ c,xs=[x,.ty c]∧c∈bD∧Q (.bl (fN t c)) H)∨∃ c d p,xs=[x,.ref p]∧H p=some (.tup [.ty c,.ty d])∧c∈bD∧d∈bD∧Q (.bl (fN t c || fN t d)) H)):rIsiI K xs H Q
def BK(K:b9):List V→Hp→VK→Prop:=fun xs H Q=>rIsiI K xs H Q
theorem yE:dC X (.builtin "isinstance") (BK X.K):=by
 intro pins s σ H xs us Q I r h
 obtain⟨x,t,ty,⟨c,rfl,hc,q⟩ | ⟨c,d,p,rfl,hp,hc,hd,q⟩⟩:=h
 ·obtain⟨u,v,rfl,r1,r2⟩:=r.two
  cases (show v=Value.type c from r2)
  exact Al I r1 ty hc fun tk=>⟨.bl _,H,I.tok _,rfl,q⟩
 ·obtain⟨u,v,rfl,r1,r2⟩:=r.two
  cases (show v=Value.ref p from r2)
  exact zR I r1 ty hp hc hd fun tk=>⟨.bl _,H,I.tok _,rfl,q⟩
theorem CI{x:Str}{T:String}{pos:Pos}(hg:Gl X x)(hm:X.mg x=none)(hv:bootBuiltins x=some (.type T))(hn:x≠"__name__":=by decide)(hd:(x == ("__debug__":Str))=false:=by decide):PE X (.Name x pos) (tC (.ty T)):=yT hg hm hv rfl hn hd
end
end L2
namespace PySem
open Sem (wp)
namespace F
theorem lT:Manifest.owners.lookup (String.ofList ['d','e','s','r','e','v','e','r'].reverse)=some Manifest.sig_reversed:=by kernel_rfl
theorem slot_rvd_next:Slot "reversed" "__next__" "reversed.__next__" :=
 .of (owner:="reversed") (n:="__next__") (by rw[typeLookup_type,builtinLookup_eq_fast];kernel_rfl) (by decide +kernel) (by decide +kernel) (by decide +kernel)
  (by first | exact .inl (by decide +kernel) | exact .inr (by decide +kernel)) (by rw[isSubtype_type];kernel_rfl)
theorem entry_rvd_next:entryFor table "reversed.__next__"=some Builtin.«reversed.__next__»:=entryFor_of_tree (by kernel_rfl)
theorem args_rvd_next_1(a:Value):argsOk "reversed.__next__" ⟨[a],[]⟩:=by
 unfold argsOk;rw[signature?_of (id:="reversed.__next__") (n:=['_','_','t','x','e','n','_','_']) (o:=['d','e','s','r','e','v','e','r']) (by kernel_rfl) lT];kernel_rfl
theorem slot_rvd_iter:Slot "reversed" "__iter__" "reversed.__iter__" :=
 .of (owner:="reversed") (n:="__iter__") (by rw[typeLookup_type,builtinLookup_eq_fast];kernel_rfl) (by decide +kernel) (by decide +kernel) (by decide +kernel)
  (by first | exact .inl (by decide +kernel) | exact .inr (by decide +kernel)) (by rw[isSubtype_type];kernel_rfl)
theorem args_rvd_iter_1(a:Value):argsOk "reversed.__iter__" ⟨[a],[]⟩:=by
 unfold argsOk;rw[signature?_of (id:="reversed.__iter__") (n:=['_','_','r','e','t','i','_','_']) (o:=['d','e','s','r','e','v','e','r']) (by kernel_rfl) lT];kernel_rfl
theorem entry_rvd_iter:entryFor table "reversed.__iter__"=some Builtin.«dict_keyiterator.__iter__» :=
 entryFor_alias (id':="dict_keyiterator.__iter__") (by kernel_rfl) (by first | rfl | decide +kernel | (unfold String.splitOn;simp +decide [String.splitOnAux])) (by decide +kernel) (by kernel_rfl)
theorem lL:Slot "reversed" "__init__" "object.__init__" :=
 .of (owner:="object") (n:="__init__") (by rw[typeLookup_type,builtinLookup_eq_fast];kernel_rfl) (by decide +kernel) (by decide +kernel) (by decide +kernel)
  (by first | exact .inl (by decide +kernel) | exact .inr (by decide +kernel)) (by rw[isSubtype_type];kernel_rfl)
theorem called_reversed:TypeCalled "reversed" "reversed.__new__" "object.__init__" :=
 ⟨by decide +kernel,by decide +kernel,⟨_,_,mro_reversed⟩,madeBy_type mro_reversed lookup_reversed_new (by decide +kernel),by decide +kernel,by rw[isSubtype_type];kernel_rfl,lL⟩
theorem str_norev:typeLookup (.type "str") "__reversed__"=pure none:=by rw[typeLookup_type,builtinLookup_eq_fast];kernel_rfl
end F
theorem gL(x:Str)(t:Tok)(hx:¬ (x.length:Int) ≥ 2 ^ 63) :
  Meets (Builtin.«reversed.__new__» ⟨[.type "reversed",.str x t],[]⟩) (fun _ R s=>∀ tk,
   R (.ok (.ret (.ref s.heap.objs.size))) { s with heap:=s.heap.push { cls:=.type "reversed",data:=.fields #[.str x t,rawInt ((x.length:Int) - 1)] },toks:=tk }) :=
 .of_wp fun prog w A R s h=>by
  obtain⟨hp,g,d,tk,os⟩:=s
  have hsub:=F.sub_reversed_self
  have hnr:=F.str_norev
  have hsd:isSubtype (.type "str") (.type "dict")=pure false:=by rw[isSubtype_type];kernel_rfl
  have hgi:=aQz.lookup
  unfold Builtin.«reversed.__new__»
  refine wpAny_bind (wpAny_of_eq (newClass_reversed _) ?_)
  dsimp only
  refine wpAny_bind (wpAny_of_eq (a:=()) (by first | rfl | kernel_rfl) ?_)
  refine wpAny_bind (wpAny_of_eq (a:=()) (by first | rfl | kernel_rfl) ?_)
  try dsimp only
  wp_walk using P.len_str
  case hfit=>exact hx
  all_goals
   refine wpAny_bind (m:=asInt? _) (wpAny_of_eq (a:=some (x.length:Int)) rfl ?_)
   dsimp only
   refine wpAny_bind ?_
   show wpAny _ _ (newObj (.type "reversed") (.fields #[Value.str x t,rawInt ((x.length:Int) - 1)])) _ _ _
   exact wpAny_newObj_type (wpAny_pure ⟨_,rfl,h _⟩)
def Heap.IsRvd(h:Heap)(a:Addr)(x:Str)(t:Tok)(i:Int):Prop:=∃ o,h.get? a=some o∧o.cls=.type "reversed"∧o.data=.fields #[.str x t,rawInt i]
section
variable {prog:Program}{w:World}{A:Around}{E:Value→Shared→Prop}{s:Shared}
theorem Heap.IsRvd.typeIs{a:Addr}{x:Str}{t:Tok}{i:Int}(h:s.heap.IsRvd a x t i):s.TypeIs (.ref a) "reversed":=let ⟨o,ho,hc,_⟩:=h;⟨o,ho,hc⟩
theorem iB{x:Str}{t:Tok}{Q:Value→Shared→Prop}(hx:¬ (x.length:Int) ≥ 2 ^ 63)
  (h:∀ tk,Q (.ref s.heap.objs.size) { s with heap:=s.heap.push { cls:=.type "reversed",data:=.fields #[.str x t,rawInt ((x.length:Int) - 1)] },toks:=tk }):wpAny (model prog w) A (call (.type "reversed") [.str x t]) Q E s :=
 callType_new F.called_reversed (by decide) (F.typeCall_reversed_1 _) (F.newCall_reversed_1 _) (fun obj=>F.args_object_init_2 obj _) F.entry_reversed_new (gL x t hx) fun tk=>⟨⟨_,d8 _ rfl,rfl⟩,h tk⟩
theorem eL{it:Addr}{x:Str}{t:Tok}{i:Int}{Q:Value→Shared→Prop}(hit:s.heap.IsRvd it x t i)(h:Q (.ref it) s):wpAny (model prog w) A (pyIter (.ref it)) Q E s:=by
 refine wpAny_pyIter_slot hit.typeIs F.slot_rvd_iter (wpAny_call_entry F.slot_rvd_iter hit.typeIs F.entry_rvd_iter ?_ (F.args_rvd_iter_1 _))
 show wpAny _ _ (ret (.ref it)) _ _ s
 exact wpAny_pure ⟨_,rfl,"reversed",_,hit.typeIs,F.slot_rvd_next.lookup,h⟩
theorem fM{it:Addr}{x:Str}{t:Tok}{i c:Nat}{Q:Option Value→Shared→Prop}(hit:s.heap.IsRvd it x t (i:Int))(hc:x.cps[i]?=some c)(hx:(x.length:Int)<2 ^ 63)
  (hQ:∀ h' tk u,h'.IsRvd it x t ((i:Int) - 1)→Heap.SameBut it s.heap h'→Q (some (.str ⟨#[c]⟩ u)) { s with heap:=h',toks:=tk }):wpAny (model prog w) A (pyNext (.ref it)) Q E s:=by
 obtain⟨o,ho,hcl,hd⟩:=id hit
 have hi:i<x.length:=by
  have:=(Array.getElem?_eq_some_iff.mp hc).1
  exact this
 unfold pyNext
 refine wpAny_bind (wpAny_attempt (wpAny_callSpecial?_slot (name:=Str.ofString "__next__") hit.typeIs F.slot_rvd_next
  (wpAny_call_entry F.slot_rvd_next hit.typeIs F.entry_rvd_next ?_ (F.args_rvd_next_1 _))))
 unfold Builtin.«reversed.__next__»
 refine wpAny_bind (wpAny_of_eq (a:=(Value.ref it,[])) rfl ?_)
 try dsimp only
 refine wpAny_bind (wpAny_field ho hd (x:=.str x t) rfl ?_)
 refine wpAny_bind (wpAny_field ho hd (x:=rawInt (i:Int)) rfl ?_)
 show wpAny _ _ (if (i:Int)<0 then _ else _) _ _ s
 rw[if_neg (by omega)]
 have hgi:=aQz.lookup
 refine wpAny_bind (wpAny_specialOf (T:="str") (typeIs_str _ _ _) hgi ?_)
 show wpAny _ _ (if (some (Value.builtin "str.__getitem__")).isNone=true then _ else _) _ _ _
 rw[if_neg (by simp)]
 refine wpAny_bind (m:=mkInt _) (wpAny_mkInt ?_)
 refine wpAny_bind (wpAny_attempt (P.getItem_str (c:=c) (by
  have e1:decide ((i:Int) < -(2 ^ 63:Int))=false:=decide_eq_false (by omega)
  have e2:decide ((i:Int) ≥ 2 ^ 63)=false:=decide_eq_false (by omega)
  rw[e1,e2,aZR]) (by rw[seqIndex_of (by omega) (by omega)];simpa using hc) ?_))
 dsimp only
 refine wpAny_bind (wpAny_field ho hd (x:=rawInt (i:Int)) rfl ?_)
 refine wpAny_bind (wpAny_setField ho hd (by simp) ?_)
 refine wpAny_pure ⟨_,rfl,wpAny_pure (hQ _ _ _ ?_ (p7 ..))⟩
 exact⟨_,y4 _ ho (aQN (v8 hd _)),(aXG ..).trans hcl,by
  rw[v8 hd];simp⟩
theorem fT{it:Addr}{x:Str}{t:Tok}{Q:Option Value→Shared→Prop}(hh:A.handled=none)(hit:s.heap.IsRvd it x t (-1))
  (hQ:∀ h',Heap.ExtBut it s.heap h'→Q none { s with heap:=h' }):wpAny (model prog w) A (pyNext (.ref it)) Q E s:=by
 obtain⟨o,ho,hcl,hd⟩:=id hit
 unfold pyNext
 refine wpAny_bind (wpAny_attempt (wpAny_callSpecial?_slot (name:=Str.ofString "__next__") hit.typeIs F.slot_rvd_next
  (wpAny_call_entry F.slot_rvd_next hit.typeIs F.entry_rvd_next ?_ (F.args_rvd_next_1 _))))
 unfold Builtin.«reversed.__next__»
 refine wpAny_bind (wpAny_of_eq (a:=(Value.ref it,[])) rfl ?_)
 try dsimp only
 refine wpAny_bind (wpAny_field ho hd (x:=.str x t) rfl ?_)
 refine wpAny_bind (wpAny_field ho hd (x:=rawInt (-1)) rfl ?_)
 show wpAny _ _ (if (-1:Int)<0 then _ else _) _ _ s
 rw[if_pos (by decide)]
 refine wpAny_bind (wpAny_rule ?_)
 refine wpAny_bind ?_
 show wpAny _ _ (setField (.ref it) 1 (rawInt (-1)) >>= fun _=>setField (.ref it) 0 .none) _ _ _
 refine wpAny_bind (wpAny_setField ho hd (by simp) ?_)
 have ho':(s.heap.update it (Obj.mapFields fun xs=>xs.setIfInBounds 1 (rawInt (-1)))).get? it=some _:=y4 _ ho (aQN (v8 hd (fun xs=>xs.setIfInBounds 1 (rawInt (-1)))))
 have hd':=v8 hd (fun xs=>xs.setIfInBounds 1 (rawInt (-1)))
 refine wpAny_setField (s:={ s with heap:=s.heap.update it (Obj.mapFields fun xs=>xs.setIfInBounds 1 (rawInt (-1))) }) ho' hd' (by simp) ?_
 have eb:Heap.ExtBut it s.heap ((s.heap.update it (Obj.mapFields fun xs=>xs.setIfInBounds 1 (rawInt (-1)))).update it (Obj.mapFields fun xs=>xs.setIfInBounds 0 .none)):=fun b ob hb e =>
  (aQL _ _ (aQM hb)).trans ((aQL _ _ (aQM hb)).trans e)
 refine wpAny_bind ?_
 show wpAny _ _ (newExc (.type "StopIteration") [] >>= _) _ _ _
 refine wpAny_bind ?_
 simp only [newExc,newTuple]
 refine wpAny_bind (wpAny_newObj_type ?_ (by size_fits))
 refine wpAny_bind (m:=firstArgMember _ _) (wpAny_of_eq (a:=Value.none) (by first | rfl | (simp only [firstArgMember];rfl)) ?_)
 refine wpAny_newObj_type ?_ (by size_fits)
 simp only [raiseNew]
 refine wpAny_bind (wpAny_handled ?_)
 first | rw[show A.in1.handled=none from hh] | rw[hh]
 refine wpAny_bind (wpAny_pure (wpAny_throw ?_))
 refine wpAny_bind (wpAny_isInstance (T:="StopIteration") (b:=true) ⟨_,d8 _ rfl,rfl⟩ isSubtype_stop ?_)
 exact wpAny_pure (hQ _ ((eb.push _).push _))
end
end PySem
namespace L2
open PySem PySem.Spec PyProof.Rows
def yJ(x:Str):It:=⟨fun i _=>i<x.cps.size,fun i H v H'=>H'=H∧∃ c,x.cps[x.cps.size - 1 - i]?=some c∧v=.str ⟨#[c]⟩,fun i _=>i=x.cps.size⟩
theorem vX{P:Program}{w:World}{K:b9}{tg:Expr}(x:Str)(t:Tok)(it:Addr)(hx:(x.length:Int)<2 ^ 63):Turn P w K tg (yJ x) [it] it (fun i h=>i≤x.cps.size∧h.IsRvd it x t ((x.cps.size:Int) - 1 - (i:Int))) where
 mem:=by simp
 obj:=fun i h st b hb=>by
  have e:b=it:=by simpa using hb
  subst e
  obtain⟨_,o,e,c,d⟩:=st
  exact⟨o,e,fun v z=>by rw[d] at z;cases z⟩
 keep:=fun i h h' st k=>by
  obtain⟨hi,o,e,r⟩:=st
  exact⟨hi,o,k it (by simp) o e,r⟩
 item:=by
  intro X hP hw hK hc i pins s σ H E I hf st hg
  subst hP hw hK
  obtain⟨f0,f1,f2,f3,f4,f5⟩:=hf it (by simp)
  obtain⟨hi,st⟩:=st
  have hg':i<x.cps.size:=hg
  have e1:(x.cps.size:Int) - 1 - (i:Int)=((x.cps.size - 1 - i:Nat):Int):=by omega
  rw[e1] at st
  have hcx:x.cps[x.cps.size - 1 - i]?=some (x.cps[x.cps.size - 1 - i]'(by omega)):=x5 (by omega)
  refine fM st hcx hx fun h' tk u st' sb=>?_
  have e2:((x.cps.size - 1 - i:Nat):Int) - 1=(x.cps.size:Int) - 1 - ((i+1:Nat):Int):=by omega
  rw[e2] at st'
  have I1:Inv X pins σ H { s with heap:=h',toks:=tk }:=I.turned (fun b o hb e=>(sb.2 b hb).trans e) f0 f1 f3 f4 f5
  obtain⟨o,e,c,d⟩:=id st'
  exact⟨_,rfl,oJ (s:={ s with heap:=h',toks:=tk }) e c d (by decide) ⟨.str ⟨#[_]⟩,H,I1,⟨u,rfl⟩,⟨rfl,_,hcx,rfl⟩,⟨hg',st'⟩,fun b hb=>(hf b hb).1⟩⟩
 done:=by
  intro X hP hw hK hc i pins s σ H E I hf st hg
  subst hP hw hK
  obtain⟨f0,f1,f2,f3,f4,f5⟩:=hf it (by simp)
  have hi:i=x.cps.size:=hg
  subst hi
  have e1:(x.cps.size:Int) - 1 - ((x.cps.size:Nat):Int)=-1:=by omega
  have st':=st.2
  rw[e1] at st'
  exact fT (I.ok.hd hc) st' fun h' eb=>⟨rfl,I.turned (t':=s.toks) (fun b o hb e=>eb b o hb e) f0 f1 f3 f4 f5⟩
 self:=fun A i s Q E st h=>eL st.2 h
section
variable {X:Cx}{tg:Expr}
def DI(ta:TA):TI:=fun σ H R=>ta σ H fun vs H1=>∃ z:Str,vs=[.str z]∧z.length≤1000∧R (yJ z) H1
theorem rO{a:Expr}{ta:TA}{p pos:Pos}(hg:Gl X "reversed")(hm:X.mg "reversed"=none)(ha:PA X [a] ta)(hs:starEach [a] X.env=[(false,eval a X.env)]:=by rfl):PI X tg (.Call (.Name "reversed" p) [a] [] pos) (DI ta):=by
 intro pins s σ H R I h
 refine Call_ (eX I hg hm boot_reversed (w4 (bP (ha pos pins s σ H _ I h) fun us s1 ⟨vs,H1,I1,r1,q1⟩=>?_) hs rfl))
 obtain⟨z,e,hz,q⟩:=q1
 subst e
 obtain⟨u,rfl,ru⟩:=r1.one
 obtain⟨t,rfl⟩:=ru
 refine iB (by omega) fun tk=>?_
 have I2:Inv X pins σ H1 { s1 with heap:=s1.heap.push { cls:=.type "reversed",data:=.fields #[.str z t,rawInt ((z.length:Int) - 1)] },toks:=tk }:=I1.kept fun b o e=>a9 _ e
 have st:(s1.heap.push { cls:=.type "reversed",data:=.fields #[.str z t,rawInt ((z.length:Int) - 1)] }).IsRvd s1.heap.objs.size z t ((z.length:Int) - 1):=⟨_,d8 _ rfl,rfl,rfl⟩
 refine eL st ?_
 refine⟨s1.heap.objs.size,[s1.heap.objs.size],_,_,H1,rfl,I2,vX z t _ (by omega),⟨l5 _,?_⟩,fun b hb=>?_,q⟩
 ·have e0:(z.cps.size:Int) - 1 - ((0:Nat):Int)=(z.length:Int) - 1:=by show (z.cps.size:Int) - 1 - ((0:Nat):Int)=(z.cps.size:Int) - 1;omega
  rw[e0];exact st
 ·have e:b=s1.heap.objs.size:=by simpa using hb
  subst e
  exact I1.fpOk (c8 _) (I1.hok.fresh (c8 _))
end
theorem jZ{w:List Nat}{D:Addr}{Q:VK}{ti:TT}{te:TE}{c:St}{H0:Hp}(Pv:Nat→Hp→Prop)(h0:Pv 0 H0)
  (hs:∀ i k H,w.reverse[i]?=some k→Pv i H→ti (some (.str (S [k]))::c) H fun b H1=>if b=true then te (some (.str (S [k]))::c) H1 fun y H2=>∃ ys,H2 D=some (.lst ys)∧ys.length<sizeLine∧Pv (i+1) (upd H2 D (.lst (ys++[y]))) else Pv (i+1) H1) (hd:∀ H,Pv w.length H→Q (.ref D) H) :
  gS (yJ (S w)) D Q ti te c H0:=by
 refine⟨fun i m H'=>m=w.length - i∧i≤w.length∧Pv i H',⟨w.length,by simp,l5 _,h0⟩,?_⟩
 rintro i m H' ⟨rfl,hi,p⟩
 by_cases hlt:i<w.length
 ·refine .inr ⟨by simpa [yJ] using hlt,Pv (i+1),fun H'' p=>⟨w.length - (i+1),by omega,rfl,hlt,p⟩,fun v H2 y=>?_⟩
  obtain⟨e,k,hk,rfl⟩:=y
  subst e
  refine hs i k H2 ?_ p
  rw[w9 hlt]
  simpa using hk
 ·have e:i=w.length:=by omega
  subst e
  exact .inl ⟨by simp[yJ],hd H' p⟩
def fE:List V→List V→Bool
 | [],[]=>true
 | x::xs,y::ys=>qE x y && fE xs ys
 | _,_=>false
theorem lI:∀ {xs ys:List V},xs.length≠ys.length→fE xs ys=false
 | [],[],h=>absurd rfl h
 | [],_::_,_=>rfl
 | _::_,[],_=>rfl
 | x::xs,y::ys,h=>by unfold fE;rw[lI (by simpa using h),Bool.and_false]
theorem kB(n:Nat)(e:Nat→Bool):(List.range (n+1)).all e=(e 0 && (List.range n).all fun i=>e (i+1)):=by
 rw[List.range_succ_eq_map,aX1,aZi];rfl
theorem fJ:∀ {xs ys:List V},xs.length=ys.length→(List.range xs.length).all (fun i=>match xs[i]?,ys[i]? with | some x,some y=>qE x y | _,_=>true)=fE xs ys
 | [],[],_=>rfl
 | [],_::_,h=>by simp at h
 | _::_,[],h=>by simp at h
 | x::xs,y::ys,h=>by
  have h':xs.length=ys.length:=by simpa using h
  rw[l9,kB]
  unfold fE
  rw[← fJ h']
  simp
theorem oK:∀ (a b:List Str),fE (a.map V.str) (b.map V.str)=decide (a=b)
 | [],[]=>by simp[fE]
 | [],_::_=>by simp[fE]
 | _::_,[]=>by simp[fE]
 | x::xs,y::ys=>by
  have e:qE (V.str x) (V.str y)=decide (x=y):=by
   unfold qE;by_cases h:x=y <;> simp[h]
  rw[k7,k7]
  unfold fE
  rw[oK xs ys,e]
  by_cases h:x=y <;> by_cases h2:xs=ys <;> simp[h,h2]
section
variable {X:Cx}
theorem kF{A:Around}{s:Shared}{xs ys:List V}{us vs:List Value}(rx:Vals xs us)(ry:Vals ys vs)(fx:xs.all dZ=true)(fy:ys.all dZ=true) :
  ∀ (j:Nat) (h1:j<us.toArray.size) (h2:j<vs.toArray.size),SeqAt.EqAt A s us.toArray[j] vs.toArray[j] (match xs[j]?,ys[j]? with | some x,some y=>qE x y | _,_=>true):=fun j h1 h2=>by
 have hx:j<xs.length:=by rw[rx.length];simpa using h1
 have hy:j<ys.length:=by rw[ry.length];simpa using h2
 obtain⟨u,hu,ru⟩:=rx.get (c7 hx)
 obtain⟨v,hv,rv⟩:=ry.get (c7 hy)
 have eu:us.toArray[j]=u:=by
  have:us[j]?=some us.toArray[j]:=by rw[c7 (by simpa using h1)];simp
  rw[hu] at this;exact(j7 this).symm
 have ev:vs.toArray[j]=v:=by
  have:vs[j]?=some vs.toArray[j]:=by rw[c7 (by simpa using h2)];simp
  rw[hv] at this;exact(j7 this).symm
 rw[eu,ev,c7 hx,c7 hy]
 exact yD ru rv (aQP.mp fx _ (q8 hx)) (aQP.mp fy _ (q8 hy))
inductive rEqLI(K:b9)(neg:Bool)(x:V)(y:V)(H:Hp)(Q:VK):Prop
 | mk (a b xs ys:_) (_:x=.ref a) (_:y=.ref b) (_:((SqL K H a xs∧SqL K H b ys)∨(SqT K H a xs∧SqT K H b ys))) (_:xs.all dZ=true) (_:ys.all dZ=true) (_:Q (.bl (if neg then !fE xs ys else fE xs ys)) H):rEqLI K neg x y H Q
def Ck(K:b9)(neg:Bool):R2:=fun x y H Q=>rEqLI K neg x y H Q
theorem A4(hu:X.A.units<cLine):gC X (compareOp .NotEq) (Ck X.K true):=by
 intro pins s σ H x y v u Q I rx ry h
 obtain⟨a,b,xs,ys,rfl,rfl,hq,fx,fy,q⟩:=h
 cases rx
 cases ry
 rcases hq with ⟨ha,hb⟩ | ⟨ha,hb⟩
 ·obtain⟨us,r1,p1,_⟩:=I.list ha
  obtain⟨vs,r2,p2,_⟩:=I.list hb
  by_cases hl:xs.length=ys.length
  ·refine aXH (aZv p1.isList p2.isList (by simp;rw[← r1.length,← r2.length];exact hl) hu (kF r1 r2 fx fy)) ?_
   rw[f9,← r1.length,fJ hl]
   exact⟨.bl _,H,I,rfl,q⟩
  ·refine aXH (aZT p1.isList p2.isList (by simp;rw[← r1.length,← r2.length];exact hl) hu) ?_
   rw[lI hl] at q
   exact⟨.bl _,H,I,rfl,q⟩
 ·obtain⟨us,r1,p1,_⟩:=I.tuple ha
  obtain⟨vs,r2,p2,_⟩:=I.tuple hb
  refine aXH (aZu (show s.heap.IsTuple a us.toArray from p1) (show s.heap.IsTuple b vs.toArray from p2) hu (kF r1 r2 fx fy)) ?_
  refine⟨.bl _,H,I,rfl,?_⟩
  have e:((List.range (min us.toArray.size vs.toArray.size)).all (fun i=>match xs[i]?,ys[i]? with | some x,some y=>qE x y | _,_=>true) && us.toArray.size == vs.toArray.size)=fE xs ys:=by
   rw[f9,f9,← r1.length,← r2.length]
   by_cases hl:xs.length=ys.length
   ·rw[← hl,aZj,fJ hl];simp
   ·rw[lI hl];simp[hl]
  rw[e]
  exact q
inductive Rcall_listStr(xs:List V)(H:Hp)(Q:VK):Prop
 | mk (w:List Nat) (_:xs=[.str (S w)]) (_:w.length≤1000) (_:∀ l,H l=none→Q (.ref l) (upd H l (.lst (w.map fun c=>V.str (S [c]))))):Rcall_listStr xs H Q
theorem fB(hc:X.calm=true):dC X (.type "list") (fun xs H Q=>Rcall_listStr xs H Q):=by
 intro pins s σ H xs us Q I r h
 obtain⟨w,rfl,hz,q⟩:=h
 obtain⟨u,rfl,ru⟩:=r.one
 obtain⟨t,rfl⟩:=ru
 have hz2:w.length≤sizeLine:=aQW (aU hz)
 refine call_list_str (I.ok.hd hc) (S w) t (fun h' tk acc c hk hl hit=>?_) (by simpa using hz2)
 have hv:Vals (w.map fun c=>V.str (S [c])) acc.toList:=by
  have hn:acc.size=w.length:=by simpa using hit.1
  have:∀ (n:Nat) (w:List Nat) (l:List Value),w.length=n→l.length=n→(∀ (j:Nat) (v:Value),l[j]?=some v→∃ (c:Nat) (u:Tok),w[j]?=some c∧v=Value.str ⟨#[c]⟩ u)→Vals (w.map fun c=>V.str (S [c])) l:=by
   intro n
   induction n with
   | zero =>
    intro w l h1 h2 _
    have e1:=l8.mp h1
    have e2:=l8.mp h2
    subst e1 e2
    exact .nil
   | succ n ih =>
    intro w l h1 h2 h3
    cases w with
    | nil=>simp at h1
    | cons c w =>
     cases l with
     | nil=>simp at h2
     | cons v l =>
      obtain⟨c',u,hc',rfl⟩:=h3 0 v rfl
      have hc'':c=c':=by simpa using hc'
      subst hc''
      exact .cons ⟨u,rfl⟩ (ih w l (by simpa using h1) (by simpa using h2) fun j v hv=>by simpa using h3 (j+1) v (by simpa using hv))
  refine this w.length w acc.toList rfl (by simpa using hn) fun j v hv=>?_
  obtain⟨c,u,hc,hv'⟩:=hit.2 j v (by simpa using hv)
  exact⟨c,u,by simpa using hc,hv'⟩
 refine⟨.ref s.heap.objs.size,_,I.laid (t':=tk) (o:=.lst (w.map fun c=>V.str (S [c]))) hk (c8 _) ⟨by rw[c6];exact hz2,acc.toList,c,hv,?_⟩,rfl,q _ I.fresh⟩
 simpa using hl
end
def gI(sc0 scope:Scope)(N:List Str)(x:Str)(ix:List Nat):Bool :=
 decide (scope.kind=.function) && scope.names.all (fun y=>decide (y.2≠.cell)) && scope.names.all (fun y=>decide (y.2=.local→scope.names.lookup y.1=some .local)) && decide (scope.names.lookup x=some .local) &&
 scope.names.all (fun y=>decide (y.2=.free→sc0.names.lookup y.1=some .cell∨sc0.names.lookup y.1=some .free)) && ix.all (fun i=>decide (i<N.length) && decide (scope.names.lookup (N.getD i "")=some .free)) && decide ((x::ix.map fun i=>N.getD i "").Nodup)
theorem dM{X:Cx}{sc0 scope:Scope}{N:List Str}{x:Str}{ix:List Nat}(h:gI sc0 scope N x ix=true)(e1:X.env.scope=sc0)(e2:X.N=N):CompSc X scope x ix∧(fL X x ix).Nodup:=by
 subst e1 e2
 simp only [gI,w8,aQP,decide_eq_true_eq] at h
 obtain⟨⟨⟨⟨⟨⟨h1,h2⟩,h3⟩,h4⟩,h5⟩,h6⟩,h7⟩:=h
 exact⟨⟨h1,h2,h3,h4,h5,h6⟩,h7⟩
section
variable {prog:Program}{w:World}{A:Around}{E:Value→Shared→Prop}{s:Shared}
theorem lS{it t:Addr}{items:Array Value}(hne:t≠it):∀ (n i:Nat) (s:Shared) (Q:List Value→Shared→Prop),s.heap.IsListIter it t i→s.heap.IsList t items→i+n≤items.size →
  (∀ h',h'.IsListIter it t (i+n)→Heap.SameBut it s.heap h'→Q ((items.toList.drop i).take n) { s with heap:=h' })→wpAny (model prog w) A (draw (.ref it) n) Q E s
 | 0,i,s,Q,hit,_,_,hQ=>by
  show wpAny _ _ (pure []) Q E s
  exact wpAny_pure (by simpa using hQ s.heap hit (aZw ..))
 | n+1,i,s,Q,hit,ht,hle,hQ=>by
  have hlt:i<items.size:=by omega
  show wpAny _ _ (pyNext (.ref it) >>= _) Q E s
  refine wpAny_bind (wpAny_pyNext_list_item hit ht (x:=items[i]) (by simp[hlt]) fun h₁ hit₁ hs₁=>?_)
  refine wpAny_bind (wpAny_holding (lS hne n (i+1) _ _ hit₁ (ht.extBut hs₁.extBut hne) (by omega) fun h₂ hit₂ hs₂=>wpAny_pure ?_))
  have hd:items.toList.drop i=items[i]::items.toList.drop (i+1):=by simp[aQT,hlt]
  have:=hQ h₂ (by rw[show i+(n+1)=i+1+n by omega];exact hit₂) (hs₁.trans hs₂)
  rw[hd,List.take_succ_cons] at this
  exact this
theorem iW{t:Addr}{items:Array Value}{Q:List Value→Shared→Prop}(hh:A.handled=none)(ht:s.heap.IsList t items)
  (hQ:∀ h',Heap.ExtBut s.heap.objs.size s.heap h'→Q items.toList { s with heap:=h' }):wpAny (model prog w) A (unpackItems (.ref t) items.size none) Q E s:=by
 have hlt:t≠s.heap.objs.size:=by obtain⟨o,ho,_⟩:=ht;exact i7 (d6 ho)
 unfold unpackItems
 refine wpAny_bind ?_
 ·unfold notIterableAtAll
  refine wpAny_bind (wpAny_specialOf ht.typeIs slot_list_iter.lookup ?_)
  refine wpAny_pure ?_
  simp only [aXd,if_false]
  refine wpAny_bind (wpAny_holding (wpAny_pyIter_list ht ?_))
  refine wpAny_bind (wpAny_holding (lS hlt items.size 0 _ _ ⟨_,d8 _ rfl,rfl,rfl⟩ (ht.push _) (by omega) fun h₁ hit₁ hs₁=>?_))
  have hall:List.take items.size (List.drop 0 items.toList)=items.toList:=by
   rw[aZN];exact u8 (by simp)
  rw[hall]
  rw[if_neg (by simp)]
  have ht₁:h₁.IsList t items:=(ht.push _).extBut hs₁.extBut hlt
  refine wpAny_bind (wpAny_holding (wpAny_pyNext_list_end hh hit₁ ht₁ (by simp) fun h₂ he₂=>?_))
  simp only [Option.isSome_none,aXd,if_false]
  refine wpAny_pure (hQ h₂ fun b o hb e=>he₂ b o hb (hs₁.extBut b o hb (a9 _ e)))
theorem iF{env:Env}{elts:List Expr}{x1}{pos:Pos}{t:Addr}{items:Array Value}{Q:Unit→Shared→Prop}(hh:A.handled=none)(ht:s.heap.IsList t items)
  (hn:(assignEach elts env).length=items.size) (hstar:(assignEach elts env).findIdx? (·.1)=none)
  (h:∀ h',Heap.ExtBut s.heap.objs.size s.heap h'→wpAny (model prog w) A (assignInOrder ((assignEach elts env).map (·.2)) items.toList) Q E { s with heap:=h' }) :
  wpAny (model prog w) A (assign (.Tuple elts x1 pos) env (.ref t)) Q E s:=by
 rw[assign_Tuple]
 refine wpAny_bind (wpAny_standAt ?_)
 unfold unpack
 rw[hn,hstar]
 exact wpAny_bind (wpAny_holding (iW hh ht h))
end
section
variable {X:Cx}{pos:Pos}{K:b9}
def DH(K:b9)(n:Nat)(t:A1):TG:=fun v σ H Q=>∃ a xs,v=.ref a∧(SqL K H a xs∨SqT K H a xs)∧xs.length=n∧t xs σ H Q
theorem vF{es:List Expr}{k:Nat}{t:A1}{n:Nat}(hK:X.K=K)(hc:X.calm=true)(h:De X es t)
  (hn:(assignEach es X.env).length=n:=by rfl) (hst:(assignEach es X.env).findIdx? (·.1)=none:=by rfl):PG X (.Tuple es k pos) (DH K n t):=by
 subst hK
 intro pins s σ H v u Q I r hw
 obtain⟨a,xs,e1,hq,hl,hw⟩:=hw
 subst e1
 cases r
 rcases hq with hq | hq
 ·obtain⟨its,rv,ht,hz⟩:=I.list hq
  refine iF (I.ok.hd hc) ht.isList (by simp[hn,← hl,rv.length]) hst fun h' hx=>?_
  have I1:Inv X pins σ H { s with heap:=h' }:=I.kept (t':=s.toks) fun b o e=>hx b o (i7 (d6 e)) e
  exact h pins _ σ H xs _ Q I1 (by simpa using rv) hw
 ·obtain⟨its,rv,ht,hz⟩:=I.tuple hq
  refine assign_Tuple_tuple (I.ok.hd hc) ht (by simp[hn,← hl,rv.length]) hst fun h' hx=>?_
  have I1:Inv X pins σ H { s with heap:=h' }:=I.kept (t':=s.toks) fun b o e=>hx b o (i7 (d6 e)) e
  exact h pins _ σ H xs _ Q I1 (by simpa using rv) hw
end
end L2
namespace Ma
def aZ(c:Nat):Nat:=if 96<c then c - 32 else c+32
def bS(c:Nat):Prop:=(97≤c∧c≤100)∨(65≤c∧c≤68)
theorem bA{c:Nat}(h:bS c):aZ (aZ c)=c:=by unfold aZ;unfold bS at h;split <;> split <;> omega
theorem nN{c:Nat}(h:bS c):bS (aZ c):=by unfold aZ;unfold bS at *;split <;> omega
theorem xI{c:Nat}(h:bS c):aZ c≠c:=by unfold aZ;unfold bS at h;split <;> omega
def push(k:List Nat)(c:Nat):List Nat:=match k with
 | []=>[c]
 | x::r=>if x=aZ c then r else c::x::r
def PlainR:List Nat→Prop
 | []=>True
 | [_]=>True
 | a::b::r=>b≠aZ a∧PlainR (b::r)
def AllL(w:List Nat):Prop:=∀ c∈w,bS c
def gK(k:List Nat)(w:List Nat):List Nat:=w.foldl push k
def lay(w:List Nat):List Nat:=(gK [] w).reverse
def bZ(w:List Nat):Prop:=PlainR w.reverse
def back(w:List Nat):List Nat:=(w.map aZ).reverse
theorem AllL.cons{c:Nat}{w:List Nat}:AllL (c::w)↔bS c∧AllL w:=by unfold AllL;simp
theorem AllL.nil:AllL []:=by unfold AllL;simp
theorem AllL.app{u w:List Nat}:AllL (u++w)↔AllL u∧AllL w:=by
 unfold AllL;constructor
 ·intro h;exact⟨fun c hc=>h c (n9 _ hc),fun c hc=>h c (e9 _ hc)⟩
 ·rintro⟨h1,h2⟩ c hc;rcases j8.mp hc with h | h;exact h1 c h;exact h2 c h
theorem AllL.rev{w:List Nat}:AllL w.reverse↔AllL w:=by unfold AllL;simp
theorem PlainR.tail{a:Nat}{r:List Nat}(h:PlainR (a::r)):PlainR r:=by
 cases r with
 | nil=>trivial
 | cons b r=>exact h.2
theorem qG{k:List Nat}{c:Nat}(hk:PlainR k):PlainR (push k c):=by
 cases k with
 | nil=>trivial
 | cons x r =>
  unfold push
  dsimp only
  split
  ·exact hk.tail
  ·rename_i h;exact⟨h,hk⟩
theorem wT{k:List Nat}{c:Nat}(hk:AllL k)(hc:bS c):AllL (push k c):=by
 cases k with
 | nil=>exact AllL.cons.mpr ⟨hc,hk⟩
 | cons x r =>
  unfold push
  dsimp only
  split
  ·exact(AllL.cons.mp hk).2
  ·exact AllL.cons.mpr ⟨hc,hk⟩
theorem lU:∀ {w k:List Nat},PlainR k→PlainR (gK k w)
 | [],_,h=>h
 | c::w,k,h=>lU (w:=w) (qG h)
theorem sJ:∀ {w k:List Nat},AllL k→AllL w→AllL (gK k w)
 | [],_,h,_=>h
 | c::w,k,h,hw=>sJ (w:=w) (wT h (AllL.cons.mp hw).1) (AllL.cons.mp hw).2
theorem Ae(k u w:List Nat):gK k (u++w)=gK (gK k u) w:=by unfold gK;rw[List.foldl_append]
theorem oW(k u:List Nat)(c:Nat):gK k (u++[c])=push (gK k u) c:=by rw[Ae];rfl
theorem pV(k w:List Nat)(c:Nat):gK k (c::w)=gK (push k c) w:=rfl
theorem yY{w:List Nat}(h:AllL w):AllL (lay w):=AllL.rev.mpr (sJ AllL.nil h)
theorem sV(w:List Nat):bZ (lay w):=by unfold bZ lay;rw[List.reverse_reverse];exact lU trivial
theorem xC(k:List Nat)(c:Nat):(push k c).length≤k.length+1:=by
 cases k with
 | nil=>simp[push]
 | cons x r =>
  unfold push
  dsimp only
  split
  ·simp;omega
  ·simp
theorem jO:∀ (w k:List Nat),(gK k w).length≤k.length+w.length
 | [],k=>by simp[gK]
 | c::w,k=>by
  have h1:=jO w (push k c)
  have h2:=xC k c
  rw[pV,l9]
  omega
theorem nA(w:List Nat):(lay w).length≤w.length:=by
 unfold lay;rw[t9];have:=jO w [];simpa using this
theorem iL:∀ (w k:List Nat),PlainR (w.reverse++k)→gK k w=w.reverse++k
 | [],k,_=>rfl
 | c::w,k,h=>by
  have h0:PlainR (w.reverse++(c::k)):=by simpa using h
  have e:push k c=c::k:=by
   cases k with
   | nil=>rfl
   | cons x r =>
    have h1:x≠aZ c:=by
     have:∀ (l:List Nat),PlainR (l++(c::x::r))→x≠aZ c:=by
      intro l
      induction l with
      | nil=>intro h;exact h.1
      | cons y l ih =>
       intro h
       exact ih (PlainR.tail h)
     exact this _ h0
    unfold push
    dsimp only
    rw[if_neg h1]
  rw[pV,e,iL w (c::k) h0]
  simp
theorem Bo{w:List Nat}(h:bZ w):lay w=w:=by
 unfold lay
 rw[iL w [] (by rw[w5];exact h)]
 simp
theorem kE(w:List Nat):(back w).length=w.length:=by unfold back;simp
theorem vZ{w:List Nat}(h:AllL w):AllL (back w):=by
 unfold back AllL
 intro c hc
 simp only [y2,i4] at hc
 obtain⟨a,ha,rfl⟩:=hc
 exact nN (h a ha)
end Ma
namespace Lw
open PySem PySem.Spec PyProof.Rows L2 Ma
theorem aX(w:List Nat):(S w).length=w.length:=by simp[Str.length]
theorem lH(u w:List Nat):(S u++S w:Str)=S (u++w):=by
 show Str.append (S u) (S w)=S (u++w)
 unfold Str.append;simp
theorem pP{u w:List Nat}(h:S u=S w):u=w:=by
 have h':u.toArray=w.toArray:=congrArg Str.cps h
 simpa using congrArg Array.toList h'
theorem eY(u w:List Nat):decide (V.str (S u)=V.str (S w))=decide (u=w):=by
 by_cases h:u=w
 ·subst h;simp
 ·rw[decide_eq_false h,decide_eq_false fun e=>h (pP (V.str.inj e))]
theorem iG:(Str.ofString "":Str)=S []:=by decide +kernel
theorem yG(w:List Nat):(S w).cps.toList=w:=by simp
theorem aK{n:Nat}(h:n≤100000):n≤sizeLine:=m7 h (by decide)
theorem Bl{n:Nat}(h:n≤99999):n<sizeLine:=k0 (show n<100000 by omega) (aK (c8 _))
theorem dA(w:List Nat){j:Int}(h0:0≤j)(h2:j≤w.length):Txt.slice (S w) none (some j)=S (w.take j.toNat):=by
 have:=slice_closes_toL (x:=S w) h0 (by rw[aX];exact h2)
 rw[beq_iff_eq.mp this]
 simp
theorem fI(w:List Nat){i:Int}(h0:0≤i)(h2:i≤w.length):Txt.slice (S w) (some i) none=S (w.drop i.toNat):=by
 have:=slice_closes_fromL (x:=S w) (b:=(S w).length) h0 (by rw[aX];exact h2) rfl
 rw[beq_iff_eq.mp this]
 congr 1
 rw[yG,aX,u8 (by rw[u5];omega)]
theorem mT:∀ (zs:List (List Nat)),Txt.join (S []) (zs.map S)=S zs.flatten
 | []=>by unfold Txt.join;rw[aQg];rfl
 | [z]=>by unfold Txt.join;rw[aQg];simp[Str.join]
 | z::y::r=>by
  have ih:=mT (y::r)
  unfold Txt.join at ih ⊢
  rw[aQg] at ih ⊢
  rw[k7,k7]
  show (S z++S [])++Str.join (S []) (S y::r.map S)=_
  rw[k7] at ih
  rw[ih,lH,lH]
  simp
theorem rY(zs:List (List Nat)):((zs.map S).map (·.length)).sum=zs.flatten.length:=by
 induction zs with
 | nil=>rfl
 | cons z zs ih=>simp only [k7,aZU,aXI,g9,ih,aX]
def bJ(c:Nat):Bool:=decide (96<c)
theorem aM{c:Nat}(h:bS c):c=97∨c=98∨c=99∨c=100∨c=65∨c=66∨c=67∨c=68:=by unfold bS at h;omega
theorem uQ{c:Nat}(h:bS c):Txt.islower (S [c])=bJ c:=by
 rcases aM h with rfl | rfl | rfl | rfl | rfl | rfl | rfl | rfl <;> decide +kernel
theorem tY{c:Nat}(h:bS c):Txt.isupper (S [c])=!bJ c:=by
 rcases aM h with rfl | rfl | rfl | rfl | rfl | rfl | rfl | rfl <;> decide +kernel
theorem fZ{c:Nat}(h:bS c)(hl:bJ c=true):Txt.upper (S [c])=S [aZ c]:=by
 rcases aM h with rfl | rfl | rfl | rfl | rfl | rfl | rfl | rfl <;> first | (decide +kernel) | (exact absurd hl (by decide))
theorem sU{c:Nat}(h:bS c)(hl:bJ c=false):Txt.lower (S [c])=S [aZ c]:=by
 rcases aM h with rfl | rfl | rfl | rfl | rfl | rfl | rfl | rfl <;> first | (decide +kernel) | (exact absurd hl (by decide))
theorem mY(c:Nat):Builtin.Str.tooLong (S [c]).length=false:=by rw[aX];show Builtin.Str.tooLong 1=false;decide +kernel
def conTab_rows:List (Str×PyData):=[("a",.str "A"),("A",.str "a"),("b",.str "B"),("B",.str "b"),("c",.str "C"),("C",.str "c"),("d",.str "D"),("D",.str "d")]
def wQ:List (PyData×PyData):=conTab_rows.map fun p=>(PyData.str p.1,p.2)
theorem pA{c:Nat}(h:bS c):lookup (.str (S [c])) wQ=some (.str (S [aZ c])):=by
 rcases aM h with rfl | rfl | rfl | rfl | rfl | rfl | rfl | rfl <;> kernel_rfl
def Kp(fl:Addr)(H H':Hp):Prop:=∀ b o,H b=some o→b≠fl→H' b=some o
theorem Kp.refl(fl:Addr)(H:Hp):Kp fl H H:=fun _ _ h _=>h
theorem Kp.trans{fl:Addr}{H H1 H2:Hp}(a:Kp fl H H1)(b:Kp fl H1 H2):Kp fl H H2:=fun c o h n=>b c o (a c o h n) n
theorem _root_.L2.Same.kp{fl:Addr}{H H':Hp}(h:Same H H'):Kp fl H H':=fun b o e _=>h b o e
theorem _root_.L2.Same.new{H:Hp}{l:Addr}{o:HO}(h:H l=none):Same H (upd H l o):=fun b u e=>by rw[aG (aN e h)];exact e
theorem _root_.L2.Same.upd{H H':Hp}{l:Addr}{o:HO}(s:Same H H')(h:H l=none):Same H (upd H' l o):=fun b u e=>by rw[aG (aN e h)];exact s b u e
theorem _root_.L2.Same.upd'{H H':Hp}{l:Addr}{o:HO}(s:Same H H')(h:H' l=none):Same H (upd H' l o):=s.trans (Same.new h)
theorem Kp.upd{fl:Addr}{H H':Hp}{l:Addr}{o:HO}(s:Kp fl H H')(h:H l=none):Kp fl H (upd H' l o):=fun b u e n=>by rw[aG (aN e h)];exact s b u e n
theorem Kp.self{fl:Addr}{H H':Hp}{o:HO}(s:Kp fl H H'):Kp fl H (L2.upd H' fl o):=fun b u e n=>by rw[aG n];exact s b u e n
theorem Kp.free{fl:Addr}{H H':Hp}(k:Kp fl H H'){l:Addr}(h:H' l=none)(n:l≠fl):H l=none:=by
 cases q:H l with
 | none=>rfl
 | some o=>rw[k l o q n] at h;cases h
def IsFl(H:Hp)(fl sc:Addr):Prop:=∃ (ns:List Int) (i a b c:Int),H fl=some (.lst [.ref sc,.int i,.int a,.int b,.int c])∧H sc=some (.lst (ns.map V.int))∧ns.length≤63∧0≤i∧0≤a∧0≤b
theorem IsFl.same{H H':Hp}{fl sc:Addr}(s:Same H H')(h:IsFl H fl sc):IsFl H' fl sc:=by
 obtain⟨ns,i,a,b,c,h1,h2,r⟩:=h
 exact⟨ns,i,a,b,c,s _ _ h1,s _ _ h2,r⟩
theorem IsFl.some{H:Hp}{fl sc:Addr}(h:IsFl H fl sc):(∃ o,H fl=some o)∧∃ o,H sc=some o:=by
 obtain⟨ns,i,a,b,c,h1,h2,r⟩:=h
 exact⟨⟨_,h1⟩,⟨_,h2⟩⟩
theorem IsFl.ne{H:Hp}{fl sc l:Addr}(h:IsFl H fl sc)(n:H l=none):l≠fl:=by
 obtain⟨⟨o,e⟩,_⟩:=h.some
 exact(aN e n).symm
theorem IsFl.ne2{H:Hp}{fl sc l:Addr}(h:IsFl H fl sc)(n:H l=none):l≠sc:=by
 obtain⟨_,⟨o,e⟩⟩:=h.some
 exact(aN e n).symm
theorem IsFl.upd{H:Hp}{fl sc l:Addr}{o:HO}(h:IsFl H fl sc)(n:H l=none):IsFl (L2.upd H l o) fl sc:=h.same (Same.new n)
theorem IsFl.set{H:Hp}{fl sc l:Addr}{o:HO}(h:IsFl H fl sc)(n:l≠fl)(n2:l≠sc):IsFl (L2.upd H l o) fl sc:=by
 obtain⟨ns,i,a,b,c,h1,h2,r⟩:=h
 exact⟨ns,i,a,b,c,by rw[aG n.symm];exact h1,by rw[aG n2.symm];exact h2,r⟩
structure Df(K:b9)(mg:Str→Option Value)(x:Str)(st:Stmt)(ps:List Str)(f:Addr)(fd:FuncData):Prop where
 F:Fun K x x st f fd
 b:Binds K fd ps []
 m:mg x=some (.ref f)
def Cl(P:Program)(w:World)(K:b9)(mg:Str→Option Value)(base:Heap)(x:Str)(ps:List Str)(n:Nat)(sp:Sp):Prop :=
 ∃ f fd,FnOk P w K mg base qF n f fd ps sp∧mg x=some (.ref f)∧PySem.W.keepIn K (.ref f)=true∧Binds K fd ps []
theorem Df.cl{P:Program}{w:World}{K:b9}{mg:Str→Option Value}{base:Heap}{x:Str}{st:Stmt}{ps:List Str}{f:Addr}{fd:FuncData}{n:Nat}{sp:Sp}(D:Df K mg x st ps f fd)(h:FnOk P w K mg base qF n f fd ps sp):Cl P w K mg base x ps n sp :=
 ⟨f,fd,h,D.m,D.F.kp,D.b⟩
def lets:List Nat:=[97,65,98,66,99,67,100,68]
def aL(n:Int):List Nat:=lets.take (2 * n).toNat
def OfN(n:Int)(w:List Nat):Prop:=∀ c∈w,c∈aL n
theorem aE{n:Int}{c:Nat}(h:c∈aL n):bS c:=by
 have h2:c∈lets:=m9 h
 unfold lets at h2
 simp only [d9,j9,or_false] at h2
 unfold bS
 omega
theorem OfN.all{n:Int}{w:List Nat}(h:OfN n w):AllL w:=fun c hc=>aE (h c hc)
theorem iX{n:Int}(h1:1≤n)(h4:n≤4):(aL n).length=(2 * n).toNat:=by
 unfold aL lets
 rw[k9]
 simp
 omega
def aO(w:List Nat):List V:=w.map fun c=>V.str (S [c])
theorem fC(w:List Nat):aO w=(w.map fun c=>S [c]).map V.str:=by unfold aO;rw[m6];rfl
theorem fU:∀ (w:List Nat),(w.map fun c=>[c]).flatten=w
 | []=>rfl
 | c::w=>by rw[k7,aXI,fU w];rfl
theorem vK(w:List Nat):(w.map fun c=>[c]).map S=w.map fun c=>S [c]:=by rw[m6];rfl
theorem fY(w:List Nat):Txt.join (Str.ofString "") (w.map fun c=>S [c])=S w:=by
 have h:=mT (w.map fun c=>[c])
 rw[vK,fU] at h
 rw[iG]
 exact h
theorem fG(w:List Nat)(hw:w.length≤100000):((w.map fun c=>S [c]).map (·.length)).sum+(w.map fun c=>S [c]).length * (Str.ofString "").length≤16777216:=by
 have h:=rY (w.map fun c=>[c])
 rw[vK,fU] at h
 have e2:(Str.ofString "").length=0:=by decide +kernel
 rw[e2,Nat.mul_zero,aZk,h]
 omega
theorem cD(w:List Nat)(c:Nat):aO (w++[c])=aO w++[V.str (S [c])]:=by unfold aO;simp
theorem aP(w:List Nat):(aO w).length=w.length:=by unfold aO;simp
theorem pW{w:List Nat}{i:Nat}{c:Nat}(h:w[i]?=some c):(aO w)[i]?=some (.str (S [c])):=by unfold aO;rw[f6,h];rfl
theorem AB{w:List Nat}{i:Int}{c:Nat}(h0:0≤i)(h:w[i.toNat]?=some c):nQ (S w).cps.toList i=some c:=by
 rw[yG]
 have:=fX h
 rwa [aQt h0] at this
theorem wO{α:Type}{xs:List α}{i:Int}{v:α}(h0:0≤i)(h:xs[i.toNat]?=some v):nQ xs i=some v:=by
 have:=fX h
 rwa [aQt h0] at this
theorem bN{w:List Nat}{i c:Nat}(h:w[i]?=some c):w.take (i+1)=w.take i++[c]:=by rw[aQ1,h];rfl
inductive spFlow(K:b9)(vs:List V)(H:Hp)(Q:VK)(E:XK):Prop
 | mk (a:Addr) (ns:List Int) (_:vs=[.ref a]) (_:SqL K H a (ns.map V.int)) (_:ns.length≤63) (_:∀ (fl sc:Addr) (H':Hp),H fl=none→Same H H'→IsFl H' fl sc→Q (.ref fl) H'):spFlow K vs H Q E
inductive spPick(vs:List V)(H:Hp)(Q:VK)(E:XK):Prop
 | mk (fl sc:Addr) (m:Int) (_:vs=[.ref fl,.int m]) (_:IsFl H fl sc) (_:0<m) (_:m<1073741824) (_:∀ (d:Int) (H':Hp),0≤d→d<m→IsFl H' fl sc→Kp fl H H'→Q (.int d) H'):spPick vs H Q E
inductive spCon(vs:List V)(H:Hp)(Q:VK)(E:XK):Prop
 | mk (c:Nat) (_:vs=[.str (S [c])]) (_:bS c) (_:∀ H',Same H H'→Q (.str (S [aZ c])) H'):spCon vs H Q E
inductive spLay(vs:List V)(H:Hp)(Q:VK)(E:XK):Prop
 | mk (w:List Nat) (_:vs=[.str (S w)]) (_:AllL w) (_:w.length≤60000) (_:∀ H',Same H H'→Q (.str (S (lay w))) H'):spLay vs H Q E
inductive spBack(vs:List V)(H:Hp)(Q:VK)(E:XK):Prop
 | mk (w:List Nat) (_:vs=[.str (S w)]) (_:AllL w) (_:w.length≤1000) (_:∀ H',Same H H'→Q (.str (S (back w))) H'):spBack vs H Q E
inductive spLetters(vs:List V)(H:Hp)(Q:VK)(E:XK):Prop
 | mk (n:Int) (_:vs=[.int n]) (_:1≤n) (_:n≤4) (_:∀ (l:Addr) (H':Hp),H l=none→Same H H'→H' l=some (.lst (aO (aL n)))→Q (.ref l) H'):spLetters vs H Q E
inductive spWord(vs:List V)(H:Hp)(Q:VK)(E:XK):Prop
 | mk (fl sc:Addr) (n most:Int) (_:vs=[.ref fl,.int n,.int most]) (_:IsFl H fl sc) (_:1≤n) (_:n≤4) (_:0≤most) (_:most≤900) (_:∀ (w:List Nat) (H':Hp),OfN n w→bZ w→(w.length:Int)≤most→IsFl H' fl sc→Kp fl H H'→Q (.str (S w)) H'):spWord vs H Q E
end Lw
namespace L2
open PySem PySem.Spec PyProof.Rows
def Dp(t u:TS):TS:=fun D σ H=>∃ M:St→Hp→Prop,t { D with nx:=M } σ H∧∀ σ' H',M σ' H'→u D σ' H'
theorem iD{X:Cx}{st:Stmt}{rest:List Stmt}{t u:TS}(h1:PS X st t)(h2:PSs X rest u):PSs X (st::rest) (Dp t u):=by
 intro pins s σ H D I ⟨M,q1,q2⟩
 refine wpAny_execs_cons (bP (h1 pins s σ H { D with nx:=M } I q1) fun f s1 q=>?_)
 cases f with
 | next =>
  obtain⟨σ',H',I',q⟩:=q
  exact h2 pins s1 σ' H' D I' (q2 σ' H' q)
 | ret v=>exact q
 | brk=>exact q
 | cont=>exact q
end L2
namespace Lw
open PySem PySem.Spec PyProof.Rows L2 Ma
def jN(x:List Nat)(c:Nat):Bool:=match x.getLast? with
 | none=>true
 | some z=>!decide ([c]=[aZ z])
theorem zC{n:Int}{x:List Nat}(h1:1≤n)(h4:n≤4):0<((aL n).filter (jN x)).length:=by
 have m1:97∈aL n∧65∈aL n:=by
  have:n=1∨n=2∨n=3∨n=4:=by omega
  rcases this with rfl | rfl | rfl | rfl <;> decide
 have:jN x 97=true∨jN x 65=true:=by
  unfold jN
  cases x.getLast? with
  | none=>exact .inl rfl
  | some z =>
   by_cases e:aZ z=97
   ·right;dsimp only;rw[e];rfl
   ·left;dsimp only;simp;omega
 rcases this with h | h
 ·exact aQ9 (t5.mpr ⟨m1.1,h⟩)
 ·exact aQ9 (t5.mpr ⟨m1.2,h⟩)
theorem sW{x:List Nat}{c:Nat}(hx:AllL x)(hc:bS c)(hp:bZ x)(h:jN x c=true):bZ (x++[c]):=by
 unfold bZ at *
 rw[List.reverse_append]
 show PlainR (c::x.reverse)
 cases hq:x.reverse with
 | nil=>trivial
 | cons z r =>
  rw[hq] at hp
  refine⟨?_,hp⟩
  intro e
  have hz:x.getLast?=some z:=by
   rw[List.getLast?_eq_head?_reverse,hq];rfl
  unfold jN at h
  rw[hz] at h
  have h':¬ c=aZ z:=by simpa using h
  exact h' (by rw[e,bA hc])
end Lw
namespace L2
open PySem PySem.Spec PyProof.Rows
section
variable {X:Cx}{K:b9}
theorem aW(h:X.K=K):Bu X (CJ K):=by subst h;exact Ap
theorem nU(h:X.K=K):Bu X (BL K):=by subst h;exact Bg
theorem cE(h:X.K=K):dC X (.builtin "len") (fun xs H Q=>Rcall_len_seq K xs H Q):=by subst h;exact oC
theorem uT(h:X.K=K):dC X (.builtin "isinstance") (BK K):=by subst h;exact yE
theorem rD(h:X.K=K):dC X (.type "list") (fun xs H Q=>Rcall_list_of K xs H Q):=by subst h;exact nI
theorem dY(h:X.K=K):dC X (.type "tuple") (fun xs H Q=>Rcall_tuple_of K xs H Q):=by subst h;exact lM
theorem eN(h:X.K=K):uY X "str.join" (fun x xs H Q=>∃ z a zs,x=.str z∧xs=[.ref a]∧SqL K H a (zs.map V.str)∧(zs.map (·.length)).sum+zs.length * z.length≤16777216∧Q (.str (Txt.join z zs)) H):=by subst h;exact Ar
theorem Af(h:X.K=K)(hu:X.A.units<cLine):gC X (compareOp .NotEq) (Ck K true):=by subst h;exact A4 hu
theorem eW(h:X.K=K):gC X (compareOp .NotIn) (DS K true):=by subst h;exact mU
theorem iC{tg l:Expr}{tl:TE}(h:X.K=K)(hl:PE X l tl):PI X tg l (AE K tl):=by subst h;exact Ab hl
theorem hX{tg l:Expr}{tl:TE}(h:X.K=K)(hl:PE X l tl):PI X tg l (BF K tl):=by subst h;exact Be hl
variable {o e:Expr}{es:List Expr}{to:TE}{t:TA}{name:Str}{apos cpos:Pos}{T id:String}{r:V→List V→Hp→VK→Prop}
theorem cY(h:X.K=K)(pa:PlainAttrs T)(slot:Slot T name id)(hty:typeOf (.builtin id)=pure (.type "method_descriptor"))(hm:uY X id r)(ho:PE X o to)
  (hbase:attributeBase o name X.env (eval o X.env)=eval o X.env:=by rfl) (hline:(apos.endLine == cpos.line)=true:=by rfl):PE X (.Call (.Attribute o name apos) [] [] cpos) (Cn K T r to):=by subst h;exact A2 pa slot hty hm ho hbase hline
theorem cV(h:X.K=K)(pa:PlainAttrs T)(slot:Slot T name id)(hty:typeOf (.builtin id)=pure (.type "method_descriptor"))(hm:uY X id r)(ho:PE X o to)(ha:PA X (e::es) t)
  (hbase:attributeBase o name X.env (eval o X.env)=eval o X.env:=by rfl)
  (hfew:((backTo cpos (starEach (e::es) X.env)).all (fun x=>!x.1) && (backToKw cpos (keywordEach [] X.env)).all (fun x=>x.1.isSome)
   && decide ((e::es).length+([]:List Keyword).length+(if ([]:List Keyword).isEmpty then 0 else 1)<30))=true:=by rfl)
  (hline:(apos.endLine == cpos.line)=true:=by rfl) (hs:starEach (e::es) X.env=(false,eval e X.env)::starEach es X.env:=by rfl) (hplain:(backTo cpos (starEach es X.env)).any (·.1)=false:=by rfl) :
  PE X (.Call (.Attribute o name apos) (e::es) [] cpos) (DW K T r to t):=by subst h;exact Cf pa slot hty hm ho ha hbase hfew hline hs hplain
end
section
variable {X:Cx}{scope:Scope}{x:Str}{px pos:Pos}{ix:List Nat}{elt iter:Expr}{ifs:List Expr}{wi:TI}{ti:TT}{te:TE}
theorem bT{sc0:Scope}{N:List Str}(h:gI sc0 scope N x ix=true)(e1:X.env.scope=sc0)(e2:X.N=N)(hc:X.calm=true)(hi:PI X (.Name x px) iter wi)(hif:∀ fp s H,lN (bF X scope x ix fp s H) ifs ti)(he:∀ fp s H,PE (bF X scope x ix fp s H) elt te)
  (hs:∀ z,foldedSetIterable iter X.env z=pure z:=by intro _;rfl):PE X (.ListComp elt [⟨.Name x px,iter,ifs,0⟩] scope pos) (wW wi ix ti te) :=
 Aj (dM h e1 e2).1 (dM h e1 e2).2 hc hi hif he hs
theorem kP{i:Nat}{y:Str}{py spos:Pos}{sc0:Scope}{N:List Str}(hN:X.N.Nodup)(hy:X.N[i]?=some y)(hyl:X.env.scope.names.lookup y=some .local)(h:gI sc0 scope N x ix=true)(e1:X.env.scope=sc0)(e2:X.N=N)(hc:X.calm=true)(hi:PI X (.Name x px) iter wi)
  (hif:∀ fp s H,lN (bF X scope x ix fp s H) ifs ti) (he:∀ fp s H,PE (bF X scope x ix fp s H) elt te)
  (hsw:swapsWith (.ListComp elt [⟨.Name x px,iter,ifs,0⟩] scope pos) (some (.Name y py)) spos.line X.env=pure true:=by rfl)
  (hs:∀ z,foldedSetIterable iter X.env z=pure z:=by intro _;rfl):PS X (.Assign [.Name y py] (.ListComp elt [⟨.Name x px,iter,ifs,0⟩] scope pos) spos) (AC i wi ix ti te) :=
 zH hN hy hyl (dM h e1 e2).1 (dM h e1 e2).2 hc hi hif he hsw hs
end
end L2
namespace Lw
open PySem PySem.Spec PyProof.Rows L2 Ma
def DY(x:List Nat)(k:Nat):Prop:=∃ a b,x[k]?=some a∧x[k+1]?=some b∧a=aZ b
theorem mK:∀ (k:List Nat),(∀ i a b,k[i]?=some a→k[i+1]?=some b→b≠aZ a)→PlainR k
 | [],_=>trivial
 | [_],_=>trivial
 | a::b::r,h=>⟨h 0 a b rfl rfl,mK (b::r) fun i x y h1 h2=>h (i+1) x y (by simpa using h1) (by simpa using h2)⟩
theorem lG{x:List Nat}(h:∀ k,¬ DY x k):bZ x:=by
 unfold bZ
 refine mK _ fun i a b h1 h2 e=>?_
 have l2:i+1<x.length:=by
  have:=(c5.mp h2).1
  simpa using this
 rw[w9 (by omega)] at h1 h2
 refine h (x.length - 1 - (i+1)) ⟨b,a,h2,?_,e⟩
 rw[show x.length - 1 - (i+1)+1=x.length - 1 - i by omega]
 exact h1
theorem cP{n:Int}{c:Nat}(h1:1≤n)(h4:n≤4)(h:c∈aL n):aZ c∈aL n:=by
 have:n=1∨n=2∨n=3∨n=4:=by omega
 have hL:=aM (aE h)
 rcases this with rfl | rfl | rfl | rfl <;> rcases hL with rfl | rfl | rfl | rfl | rfl | rfl | rfl | rfl <;> revert h <;> decide
theorem vW{k:List Nat}{c d:Nat}(h:d∈push k c):d∈k∨d=c:=by
 cases k with
 | nil=>right;simpa [push] using h
 | cons x r =>
  unfold push at h
  dsimp only at h
  split at h
  ·left;exact i9 _ h
  ·rcases d9.mp h with q | q
   ·exact .inr q
   ·exact .inl q
theorem sD:∀ {w k:List Nat} {d:Nat},d∈gK k w→d∈k∨d∈w
 | [],_,_,h=>.inl h
 | c::w,k,d,h=>by
  rcases sD (w:=w) (k:=push k c) h with q | q
  ·rcases vW q with q | q
   ·exact .inl q
   ·exact .inr (by rw[q];exact j6)
  ·exact .inr (i9 _ q)
theorem zY{w:List Nat}{c:Nat}(h:c∈lay w):c∈w:=by
 rcases sD (w:=w) (k:=[]) (y2.mp h) with q | q
 ·exact nomatch q
 ·exact q
theorem OfN.back{n:Int}{w:List Nat}(h:OfN n w)(h1:1≤n)(h4:n≤4):OfN n (Ma.back w):=fun c hc=>by
 unfold Ma.back at hc
 simp only [y2,i4] at hc
 obtain⟨a,ha,rfl⟩:=hc
 exact cP h1 h4 (h a ha)
theorem OfN.lay{n:Int}{w:List Nat}(h:OfN n w):OfN n (Ma.lay w):=fun c hc=>h c (zY hc)
theorem OfN.nil{n:Int}:OfN n []:=fun c hc=>nomatch hc
end Lw
namespace LtL
open PySem PyProof.Rows HT
open PySem.SeqAt
open PySem.AutoSeq1 (wpAny_loadPart')
open PySem.MeetsSeq PySem.MeetsSeq2 PySem.MeetsSeq3
theorem nO:∀ {us:List Value} {ns:List Int},IntsAre us ns→∀ i,i<us.length→∃ a t,us[i]?=some (.int a t)∧ns[i]?=some a
 | _,_,.nil,i,h=>by simp at h
 | _,_,.cons a t r,0,_=>⟨a,t,rfl,rfl⟩
 | _,_,.cons a t r,i+1,h=>by
  obtain⟨c,u,h1,h2⟩:=nO r i (by simpa using h)
  exact⟨c,u,by simpa using h1,by simpa using h2⟩
theorem sR{ns:List Int}{i:Nat}{a:Int}(h:ns[i]?=some a):ns.drop i=a::ns.drop (i+1):=by
 obtain⟨hl,e⟩:=c5.mp h
 rw[aQT hl,e]
theorem zO(l b:Addr)(us vs:List Value)(n n2:Nat)(ns ms:List Int)(hi:IntsAre us ns)(hj:IntsAre vs ms)(k:Nat) :
  ∀ i:Nat,us.length - i=k→us.length=vs.length→Meets (Builtin.«list.__eq__.loop» ⟨[.ref l,.ref b,rawInt i,rawInt 0],[]⟩)
   (fun A R s=>s.heap.get? l=some { cls:=.type "list",data:=.seq us.toArray n }∧s.heap.get? b=some { cls:=.type "list",data:=.seq vs.toArray n2 }∧R (.ok (.ret (.bool (lexLt (ns.drop i) (ms.drop i))))) s):=by
 have ln:us.length=ns.length:=hi.length
 have lm:vs.length=ms.length:=hj.length
 induction k with
 | zero =>
  intro i hk hlen prog w A R s h
  obtain⟨hp,g,d,tk,os⟩:=s;obtain⟨hl,hb,h⟩:=h
  wp_walk using wpAny_loadPart' hl,wpAny_loadPart' hb
  have n1:us.toArray[((i:Nat):Int).toNat]?=none:=by simp;omega
  have n2':vs.toArray[((i:Nat):Int).toNat]?=none:=by simp;omega
  rw[n1,n2']
  wp_walk using wpAny_loadPart' hl,wpAny_loadPart' hb
  have d1:ns.drop i=[]:=by simp;omega
  have d2:ms.drop i=[]:=by simp;omega
  rw[d1,d2] at h
  have e:(decide (us.toArray.size<vs.toArray.size))=HT.lexLt [] []:=by rw[f9,f9,hlen];simp[HT.lexLt]
  show R (.ok (.ret (.bool (decide (us.toArray.size<vs.toArray.size))))) _
  rw[e]
  exact h
 | succ k ih =>
  intro i hk hlen prog w A R s h
  obtain⟨hp,g,d,tk,os⟩:=s;obtain⟨hl,hb,h⟩:=h
  obtain⟨a,t,ha,ha'⟩:=nO hi i (by omega)
  obtain⟨c,u,hc,hc'⟩:=nO hj i (by omega)
  have n1:us.toArray[((i:Nat):Int).toNat]?=some (.int a t):=by simpa using ha
  have n2':vs.toArray[((i:Nat):Int).toNat]?=some (.int c u):=by simpa using hc
  rw[sR ha',sR hc',lexLt_cons] at h
  wp_walk using wpAny_loadPart' hl,wpAny_loadPart' hb
  rw[n1,n2']
  have he:=aQy (A:=A.in1) (s:=⟨hp,g,d,tk,os⟩) a t c u
  refine wpAny_bind (he prog w _ _ ?_)
  cases q:(a == c) with
  | true =>
   have q':a=c:=by simpa using q
   rw[if_pos q'] at h
   wp_walk
   refine⟨plainId_quiet plain_eq_loop _,codeAny_builtin entry_eq_loop ?_⟩
   rw[q0 plain_eq_loop _]
   exact ih (i+1) (by omega) hlen prog w A R _ ⟨hl,hb,h⟩
  | false =>
   have q':¬ a=c:=by simpa using q
   rw[if_neg q'] at h
   have hri:=xL A.in1 ⟨hp,g,d,tk,os⟩ a t c u prog w
   wp_walk using wpAny_loadPart' hl,wpAny_loadPart' hb
   rw[n1,n2']
   wp_walk using hri
   exact h
theorem list_lt(l b:Addr)(us vs:List Value)(n n2:Nat)(ns ms:List Int)(hi:IntsAre us ns)(hj:IntsAre vs ms)(hlen:us.length=vs.length) :
  Meets (Builtin.«list.__lt__» ⟨[.ref l,.ref b],[]⟩)
   (fun A R s=>s.heap.get? l=some { cls:=.type "list",data:=.seq us.toArray n }∧s.heap.get? b=some { cls:=.type "list",data:=.seq vs.toArray n2 }∧R (.ok (.ret (.bool (lexLt ns ms)))) s):=by
 intro prog w A R s h
 obtain⟨hp,g,d,tk,os⟩:=s;obtain⟨hl,hb,h⟩:=h
 have f3:=AutoSeq1.sub_list_list
 wp_walk using wpAny_loadPart' hl,wpAny_loadPart' hb
 refine⟨plainId_quiet plain_eq_loop _,codeAny_builtin entry_eq_loop ?_⟩
 rw[q0 plain_eq_loop _]
 exact zO l b us vs n n2 ns ms hi hj _ 0 rfl hlen prog w A R _ ⟨hl,hb,h⟩
theorem pair_lt(l b a c:Addr)(L:Int)(t u:Tok)(n n2:Nat)(dd dd2:Option Addr)(sl sl2:Array (Option Value))(e r:Bool) :
  Meets (Builtin.«tuple.__lt__» ⟨[.ref l,.ref b],[]⟩)
   (fun A R s=>s.heap.get? l=some { cls:=.type "tuple",dict:=dd,data:=.seq #[.int L t,.ref a] n,slots:=sl }∧s.heap.get? b=some { cls:=.type "tuple",dict:=dd2,data:=.seq #[.int L u,.ref c] n2,slots:=sl2 } ∧
    SeqAt.EqAt A.in1 s (.ref a) (.ref c) e∧(e=false→∀ (prog:Program) (w:World) (E:Value→Shared→Prop) (Q:Value→Shared→Prop),Q (.bool r) s→wpAny (model prog w) A.in1 (richCompare .Lt (.ref a) (.ref c)) Q E s)∧(e=true→r=false)∧R (.ok (.ret (.bool r))) s) :=
 .of_wp fun prog w A R s h=>by
  obtain⟨hp,g,d,tk,os⟩:=s;obtain⟨hl,hb,he,hr,her,h⟩:=h
  have f2:=AutoSeq1.sub_tuple_tuple
  have e1:=aQy (A:=A.in1) (s:=⟨hp,g,d,tk,os⟩) L t L u
  rw[show (L == L)=true by simp] at e1
  have hE1:=e1 prog w
  have hE2:=he prog w
  cases e with
  | true =>
   have hr0:r=false:=her rfl
   subst hr0
   wp_walk using wpAny_loadPart' hl,wpAny_loadPart' hb,hE1,hE2
   exact⟨_,rfl,h⟩
  | false =>
   have hr1:=hr rfl prog w
   wp_walk using wpAny_loadPart' hl,wpAny_loadPart' hb,hE1,hE2,hr1
   exact⟨_,rfl,h⟩
end LtL
namespace L2
open PySem PySem.Spec PyProof.Rows
inductive rLtKeyI(x:V)(y:V)(H:Hp)(Q:VK):Prop
 | mk (p q a c:Addr) (L:Int) (ns ms:List Int) (_:x=.ref p) (_:y=.ref q) (_:H p=some (.tup [.int L,.ref a])) (_:H q=some (.tup [.int L,.ref c])) (_:H a=some (.lst (ns.map V.int))) (_:H c=some (.lst (ms.map V.int))) (_:ns.length=ms.length) (_:a≠c) (_:Q (.bl (HT.lexLt ns ms)) H):rLtKeyI x y H Q
def oA:R2:=fun x y H Q=>rLtKeyI x y H Q
theorem kW:∀ ns:List Int,HT.lexLt ns ns=false
 | []=>rfl
 | n::ns=>by rw[HT.lexLt_cons,if_pos rfl];exact kW ns
theorem qB:∀ (a b:List Int),fE (a.map V.int) (b.map V.int)=decide (a=b)
 | [],[]=>by simp[fE]
 | [],_::_=>by simp[fE]
 | _::_,[]=>by simp[fE]
 | x::xs,y::ys=>by
  have e:qE (V.int x) (V.int y)=decide (x=y):=by
   unfold qE;by_cases h:x=y <;> simp[h]
  rw[k7,k7]
  unfold fE
  rw[qB xs ys,e]
  by_cases h:x=y <;> by_cases h2:xs=ys <;> simp[h,h2]
theorem wB{X:Cx}(hu:X.A.units+8<cLine):gC X (compareOp .Lt) oA:=by
 intro pins s σ H x y v u Q I rx ry h
 obtain⟨p,q,a,c,L,ns,ms,rfl,rfl,hp,hq,ha,hc,hlen,hne,k⟩:=h
 cases rx
 cases ry
 obtain⟨_,ip,rp,⟨op,gp1,gp2,np,gp3⟩,_⟩:=I.hok p _ hp
 obtain⟨_,iq,rq,⟨oq,gq1,gq2,nq,gq3⟩,_⟩:=I.hok q _ hq
 obtain⟨u1,u2,rfl,r1,r2⟩:=rp.two
 obtain⟨w1,w2,rfl,r3,r4⟩:=rq.two
 obtain⟨t1,rfl⟩:=r1
 obtain⟨t3,rfl⟩:=r3
 cases r2
 cases r4
 obtain⟨_,us,n1,ru,gu⟩:=I.hok a _ ha
 obtain⟨_,vs,n2,rv,gv⟩:=I.hok c _ hc
 have lus:us.length=ns.length:=by rw[← ru.length,c6]
 have lvs:vs.length=ms.length:=by rw[← rv.length,c6]
 have hla:s.heap.IsList a us.toArray:=⟨_,gu,rfl,n1,rfl⟩
 have hlc:s.heap.IsList c vs.toArray:=⟨_,gv,rfl,n2,rfl⟩
 have fl:∀ zs:List Int,(zs.map V.int).all dZ=true:=fun zs=>by rw[aZi];exact aQP.mpr fun _ _=>rfl
 have hu1:X.A.in1.units<cLine:=by show X.A.in1.units<cLine;unfold Around.in1;show X.A.units+1<cLine;omega
 have hu2:X.A.in1.in1.units<cLine:=by unfold Around.in1;show X.A.units+1+1<cLine;omega
 have hu0:X.A.units<cLine:=by omega
 have hiu:=kO ru
 have hiv:=kO rv
 have heq:SeqAt.EqAt X.A.in1 s (.ref a) (.ref c) (decide (ns=ms)):=by
  have z:=SeqAt.RcAt.lists (A:=X.A.in1) hla hlc (by simp;omega) hu1 (kF (A:=X.A.in1.in1) (s:=s) ru rv (fl ns) (fl ms))
  rw[f9,← ru.length,fJ (by rw[c6,c6];exact hlen),qB] at z
  exact SeqAt.EqAt.of_refs hne z
 obtain⟨cl1,dd1,dt1,sl1⟩:=op
 obtain⟨cl2,dd2,dt2,sl2⟩:=oq
 simp only at gp2 gp3 gq2 gq3
 subst gp2 gp3 gq2 gq3
 refine richCompare_meets_room (op:=.Lt) ⟨_,gp1,rfl⟩ ⟨_,gq1,rfl⟩ PySem.F.slot_tuple_lt PySem.F.entry_tuple_lt (PySem.F.args_tuple_lt_2 _ _) (LtL.pair_lt p q a c L t1 t3 np nq dd1 dd2 sl1 sl2 (decide (ns=ms)) (HT.lexLt ns ms))
  ⟨gp1,gq1,heq,fun _ prog w E Q' hq'=>?_,fun e=>?_,show Value.bool (HT.lexLt ns ms)≠Value.notImplemented∧EP X pins σ Q (.bool (HT.lexLt ns ms)) s from ⟨(fun x=>nomatch x),⟨.bl _,H,I,rfl,k⟩⟩⟩ hu0
 ·exact richCompare_meets_room (op:=.Lt) ⟨_,gu,rfl⟩ ⟨_,gv,rfl⟩ PySem.F.slot_list_lt PySem.F.entry_list_lt (PySem.F.args_list_lt_2 _ _) (LtL.list_lt a c us vs n1 n2 ns ms hiu hiv (by omega))
   ⟨gu,gv,show Value.bool (HT.lexLt ns ms)≠Value.notImplemented∧Q' (.bool (HT.lexLt ns ms)) s from ⟨(fun x=>nomatch x),hq'⟩⟩ hu1
 ·have e':ns=ms:=of_decide_eq_true e
  rw[e'];exact kW ms
section
variable {X:Cx}
theorem pQ(hc:X.calm=true):uY X "str.index" (fun x xs H Q=>∃ z y,x=.str z∧xs=[.str y]∧(Builtin.Str.occurrences z y 0 z.length 1).isEmpty=false∧Q (.int (Txt.find z y)) H):=by
 intro pins s σ H x xs v us Q I rx rs h
 obtain⟨z,y,rfl,rfl,ho,q⟩:=h
 obtain⟨t,rfl⟩:=rx
 obtain⟨u,rfl,ru⟩:=rs.one
 obtain⟨t',rfl⟩:=ru
 exact index_or (I.ok.hd hc) (fun _ e=>by rw[e] at ho;cases ho) fun _ _=>⟨.int _,H,I.tok _,⟨_,rfl⟩,q⟩
end
end L2
namespace MaR
section
variable {g:Nat→Nat}{n:Nat}
def Lt(g:Nat→Nat)(n i j:Nat):Prop:=∃ l,l<n∧(∀ t,t<l→g (i+t)=g (j+t))∧g (i+l)<g (j+l)
theorem Lt.irrefl(i:Nat):¬ Lt g n i i:=fun ⟨l,_,_,h⟩=>r9 _ h
theorem Lt.trans{i j k:Nat}(a:Lt g n i j)(b:Lt g n j k):Lt g n i k:=by
 obtain⟨l1,h1,e1,q1⟩:=a
 obtain⟨l2,h2,e2,q2⟩:=b
 by_cases h:l1<l2
 ·refine⟨l1,h1,fun t ht=>(e1 t ht).trans (e2 t (by omega)),?_⟩
  rw[← e2 l1 h];exact q1
 ·by_cases h':l2<l1
  ·refine⟨l2,h2,fun t ht=>(e1 t (by omega)).trans (e2 t ht),?_⟩
   rw[e1 l2 h'];exact q2
  ·have e:l1=l2:=by omega
   subst e
   exact⟨l1,h1,fun t ht=>(e1 t ht).trans (e2 t ht),aXe q1 q2⟩
theorem fS:∀ m,0<m→∃ k,k<m∧∀ j,j<m→¬ Lt g n j k
 | 0,h=>absurd h (r9 _)
 | 1,_=>⟨0,Nat.one_pos,fun j hj=>by
   have:j=0:=(by omega);subst this;exact Lt.irrefl 0⟩
 | m+2,_=>by
  obtain⟨k,hk,hm⟩:=fS (m+1) (Nat.succ_pos _)
  by_cases h:Lt g n (m+1) k
  ·refine⟨m+1,aXx _,fun j hj q=>?_⟩
   by_cases e:j=m+1
   ·subst e;exact Lt.irrefl _ q
   ·exact hm j (by omega) (q.trans h)
  ·refine⟨k,by omega,fun j hj q=>?_⟩
   by_cases e:j=m+1
   ·subst e;exact h q
   ·exact hm j (by omega) q
def kK(g:Nat→Nat)(n k:Nat):Prop:=∃ j,j<n∧Lt g n j k
structure Walk(g:Nat→Nat)(n one other like:Nat):Prop where
 ne:one≠other
 out:∀ k,k<max one other→k≠one→k≠other→k<n→kK g n k
 alike:∀ t,t<like→g (one+t)=g (other+t)
theorem walk_start:Walk g n 0 1 0:=⟨by decide,fun k h1 h2 h3=>by have:max 0 1=1:=rfl;omega,fun t ht=>absurd ht (o9 _)⟩
theorem walk_like{one other like:Nat}(w:Walk g n one other like)(h:g (one+like)=g (other+like)):Walk g n one other (like+1) :=
 ⟨w.ne,w.out,fun t ht=>by
  by_cases e:t=like
  ·subst e;exact h
  ·exact w.alike t (by omega)⟩
theorem wJ(hg:∀ t,g (t % n)=g t){i j:Nat}(h:Lt g n i j):Lt g n (i % n) j:=by
 have e:∀ t,g (i % n+t)=g (i+t):=fun t=>by
  rw[← hg (i % n+t),← hg (i+t)]
  congr 1
  simp[aXr]
 obtain⟨l,h1,h2,h3⟩:=h
 exact⟨l,h1,fun t ht=>by rw[e];exact h2 t ht,by rw[e];exact h3⟩
theorem CQ(hg:∀ t,g (t % n)=g t)(hn:0<n){a b like:Nat}(hl:like<n)(h:∀ t,t<like→g (a+t)=g (b+t))(q:g (b+like)<g (a+like)):∀ k,a≤k→k≤a+like→kK g n k:=fun k h1 h2=>by
 refine⟨(b+(k - a)) % n,u0 _ hn,wJ hg ⟨like - (k - a),by omega,fun t ht=>?_,?_⟩⟩
 ·have:=h (k - a+t) (by omega)
  rw[show b+(k - a)+t=b+(k - a+t) by omega,← this]
  congr 1;omega
 ·rw[show b+(k - a)+(like - (k - a))=b+like by omega,show k+(like - (k - a))=a+like by omega]
  exact q
theorem walk_one(hg:∀ t,g (t % n)=g t)(hn:0<n){one other like:Nat}(w:Walk g n one other like)(hl:like<n)(q:g (other+like)<g (one+like)) :
  Walk g n (one+like+1) (if one+like+1=other then other+1 else other) 0:=by
 have L:=CQ hg hn hl w.alike q
 have key:∀ k,k<max (one+like+1) other→k≠one+like+1→k≠other→k<n→kK g n k:=fun k h1 h2 h3 h4=>by
  by_cases c:one≤k∧k≤one+like
  ·exact L k c.1 c.2
  ·exact w.out k (by omega) (by omega) h3 h4
 refine⟨by split <;> omega,fun k h1 h2 h3 h4=>?_,fun t ht=>absurd ht (o9 _)⟩
 split at h1 <;> rename_i e
 ·rw[if_pos e] at h3
  by_cases c:k=other
  ·exact absurd (by omega) h2
  ·exact key k (by omega) h2 c h4
 ·rw[if_neg e] at h3
  exact key k h1 h2 h3 h4
theorem walk_other(hg:∀ t,g (t % n)=g t)(hn:0<n){one other like:Nat}(w:Walk g n one other like)(hl:like<n)(q:g (one+like)<g (other+like)) :
  Walk g n one (if one=other+like+1 then other+like+1+1 else other+like+1) 0:=by
 have L:=CQ hg hn hl (fun t ht=>(w.alike t ht).symm) q
 have key:∀ k,k<max one (other+like+1)→k≠one→k≠other+like+1→k<n→kK g n k:=fun k h1 h2 h3 h4=>by
  by_cases c:other≤k∧k≤other+like
  ·exact L k c.1 c.2
  ·exact w.out k (by omega) h2 (by omega) h4
 refine⟨by split <;> omega,fun k h1 h2 h3 h4=>?_,fun t ht=>absurd ht (o9 _)⟩
 split at h1 <;> rename_i e
 ·rw[if_pos e] at h3
  by_cases c:k=other+like+1
  ·exact absurd (by omega) h2
  ·exact key k (by omega) h2 c h4
 ·rw[if_neg e] at h3
  exact key k h1 h2 h3 h4
theorem xM(hg:∀ t,g (t % n)=g t)(hn:0<n){a d:Nat}(h:∀ t,t<n→g (a+t)=g (a+d+t)):∀ t,g (t+d)=g t:=fun t=>by
 -- t is a+s round for some s below n
 obtain⟨s,hs,e⟩:∃ s,s<n∧(a+s) % n=t % n:=by
  refine⟨(t+(n - a % n)) % n,u0 _ hn,?_⟩
  have ha:a % n<n:=u0 _ hn
  rw[aQU,← aQS,Nat.add_comm a t,aQS]
  have:a+(n - a % n)=n * (a / n)+n:=by have:=aZG a n;omega
  rw[this,show t+(n * (a / n)+n)=t+n * (a / n+1) by rw[Nat.mul_add,aZq],Nat.add_mul_mod_self_left]
 have h1:=h s hs
 rw[← hg (a+s),e,hg t] at h1
 rw[h1,← hg (t+d),← hg (a+d+s)]
 congr 1
 rw[show a+d+s=a+s+d by omega,aXr (a+s),e,← aXr]
theorem jX(hp:∀ t,g (t+d)=g t):∀ q t,g (t+d * q)=g t
 | 0,t=>rfl
 | q+1,t=>by rw[Nat.mul_succ,← aQS,hp,jX hp q t]
theorem walk_end(hg:∀ t,g (t % n)=g t)(hn:0<n){one other like:Nat}(w:Walk g n one other like)(hend:¬ (one<n∧other<n∧like<n)):min one other<n∧∀ j,j<n→¬ Lt g n j (min one other):=by
 obtain⟨k,hk,hm⟩:=fS (g:=g) (n:=n) n hn
 have nb:¬ kK g n k:=fun ⟨j,hj,q⟩=>hm j hj q
 by_cases c1:n≤one
 ·have:k=other:=x6 fun e=>nb (w.out k (by omega) (by omega) e hk)
  subst this
  rw[show min one k=k by omega]
  exact⟨hk,hm⟩
 ·by_cases c2:n≤other
  ·have:k=one:=x6 fun e=>nb (w.out k (by omega) e (by omega) hk)
   subst this
   rw[show min k other=k by omega]
   exact⟨hk,hm⟩
  ·have hl:n≤like:=by omega
   have al:∀ t,t<n→g (one+t)=g (other+t):=fun t ht=>w.alike t (by omega)
   -- the difference
   obtain⟨a,d,hd,ha,hmx,hp⟩:∃ a d,0<d∧a=min one other∧a+d=max one other∧∀ t,g (t+d)=g t:=by
    by_cases c:one<other
    ·refine⟨one,other - one,by omega,by omega,by omega,xM hg hn (a:=one) fun t ht=>?_⟩
     rw[show one+(other - one)+t=other+t by omega];exact al t ht
    ·have:=w.ne
     refine⟨other,one - other,by omega,by omega,by omega,xM hg hn (a:=other) fun t ht=>?_⟩
     rw[show other+(one - other)+t=one+t by omega];exact(al t ht).symm
   have same:∀ q x j,(Lt g n j x↔Lt g n j (x+d * q)):=fun q x j=>by
    have e:∀ t,g (x+d * q+t)=g (x+t):=fun t=>by
     rw[show x+d * q+t=x+t+d * q by omega];exact jX hp q _
    constructor
    ·rintro⟨l,h1,h2,h3⟩;exact⟨l,h1,fun t ht=>by rw[e];exact h2 t ht,by rw[e];exact h3⟩
    ·rintro⟨l,h1,h2,h3⟩;exact⟨l,h1,fun t ht=>by rw[← e];exact h2 t ht,by rw[← e];exact h3⟩
   refine⟨by omega,fun j hj q=>?_⟩
   rw[← ha] at q
   by_cases c:k<max one other
   ·have:k=one∨k=other:=x6 fun e=>nb (w.out k c (fun z=>e (.inl z)) (fun z=>e (.inr z)) hk)
    have kc:k=a∨k=a+d:=by omega
    rcases kc with z | z
    ·rw[← z] at q;exact hm j hj q
    ·rw[z] at hm;exact hm j hj (by have:=(same 1 a j).mp q;rwa [aZq] at this)
   ·-- k stands behind both: it comes down by d
    have hq:k=a+(k - a) % d+d * ((k - a) / d):=by have:=aZG (k - a) d;omega
    have hr:(k - a) % d<d:=u0 _ hd
    have hm':∀ j,j<n→¬ Lt g n j (a+(k - a) % d):=fun j hj z=>hm j hj (by rw[hq];exact(same _ _ j).mp z)
    by_cases c0:(k - a) % d=0
    ·rw[c0] at hm';exact hm' j hj q
    ·exact absurd (w.out (a+(k - a) % d) (by omega) (by omega) (by omega) (by omega)) fun ⟨j,hj,z⟩=>hm' j hj z
end
end MaR
namespace Lw
open PySem PySem.Spec PyProof.Rows L2 Ma MaR
def rk(c:Nat):Nat:=if 96<c then 2 * (c - 97) else 2 * (c - 65)+1
def rankTab_rows:List (Str×PyData):=[("a",.int 0),("A",.int 1),("b",.int 2),("B",.int 3),("c",.int 4),("C",.int 5),("d",.int 6),("D",.int 7)]
def sC:List (PyData×PyData):=rankTab_rows.map fun p=>(PyData.str p.1,p.2)
theorem nZ{c:Nat}(h:bS c):lookup (.str (S [c])) sC=some (.int (rk c:Nat)):=by
 rcases aM h with rfl | rfl | rfl | rfl | rfl | rfl | rfl | rfl <;> kernel_rfl
theorem xJ{a b:Nat}(ha:bS a)(hb:bS b)(h:rk a=rk b):a=b:=by unfold rk at h;unfold bS at *;split at h <;> split at h <;> omega
def gr(x:List Nat)(t:Nat):Nat:=rk (x.getD (t % x.length) 0)
theorem kC(x:List Nat):∀ t,gr x (t % x.length)=gr x t:=fun t=>by unfold gr;rw[Nat.mod_mod]
def LeastAt(x:List Nat)(b:Nat):Prop:=(x=[]∧b=0)∨(b<x.length∧∀ j,j<x.length→¬ Lt (gr x) x.length j b)
def Ends(x:List Nat)(m:Nat):Prop:=(∀ j,j<m→2 * j+1<x.length∧x.getD j 0=aZ (x.getD (x.length - 1 - j) 0))∧¬ (2 * m+1<x.length∧x.getD m 0=aZ (x.getD (x.length - 1 - m) 0))
def iZ(x:List Nat)(m:Nat):List Nat:=(x.drop m).take (x.length - 2 * m)
def bX(x:List Nat)(b:Nat):List Nat:=x.drop b++x.take b
def RingR(x r:List Nat):Prop:=∃ m b,Ends x m∧LeastAt (iZ x m) b∧r=bX (iZ x m) b
theorem Ends.le{x:List Nat}{m:Nat}(h:Ends x m):2 * m≤x.length:=by
 cases m with
 | zero=>omega
 | succ m=>have:=(h.1 m (aXx _)).1;omega
theorem Ends.inj{x:List Nat}{m m':Nat}(h:Ends x m)(h':Ends x m'):m=m':=by
 by_cases c:m<m'
 ·exact absurd (h'.1 m c) h.2
 ·by_cases c2:m' < m
  ·exact absurd (h.1 m' c2) h'.2
  ·omega
theorem iJ{x:List Nat}{m:Nat}(h:2 * m≤x.length):(iZ x m).length=x.length - 2 * m:=by unfold iZ;rw[k9,u5];omega
theorem iP{x:List Nat}{m:Nat}(h:AllL x):AllL (iZ x m):=fun c hc=>h c (m5 (m9 hc))
theorem LeastAt.le{x:List Nat}{b:Nat}(h:LeastAt x b):b≤x.length:=by
 rcases h with ⟨e,rfl⟩ | ⟨h,_⟩
 ·exact l5 _
 ·omega
theorem pZ(w:List Nat){i j:Int}(h0:0≤i)(h1:i≤j)(h2:j≤w.length):Txt.slice (S w) (some i) (some j)=S ((w.drop i.toNat).take (j - i).toNat):=by
 have:=slice_closesL (x:=S w) h0 h1 (by rw[aX];exact h2)
 rw[beq_iff_eq.mp this]
inductive spRank(vs:List V)(H:Hp)(Q:VK)(E:XK):Prop
 | mk (c:Nat) (_:vs=[.str (S [c])]) (_:bS c) (_:∀ H',Same H H'→Q (.int (rk c:Nat)) H'):spRank vs H Q E
inductive spEnds(vs:List V)(H:Hp)(Q:VK)(E:XK):Prop
 | mk (x:List Nat) (_:vs=[.str (S x)]) (_:AllL x) (_:x.length≤60000) (_:∀ (m:Nat) (H':Hp),Ends x m→Same H H'→Q (.int (m:Nat)) H'):spEnds vs H Q E
inductive spLeast(vs:List V)(H:Hp)(Q:VK)(E:XK):Prop
 | mk (x:List Nat) (_:vs=[.str (S x)]) (_:AllL x) (_:x.length≤60000) (_:∀ (b:Nat) (H':Hp),LeastAt x b→Same H H'→Q (.int (b:Nat)) H'):spLeast vs H Q E
inductive spRingOf(vs:List V)(H:Hp)(Q:VK)(E:XK):Prop
 | mk (x:List Nat) (_:vs=[.str (S x)]) (_:AllL x) (_:x.length≤60000) (_:∀ (r:List Nat) (H':Hp),RingR x r→Same H H'→Q (.str (S r)) H'):spRingOf vs H Q E
inductive spRingL(vs:List V)(H:Hp)(Q:VK)(E:XK):Prop
 | mk (x:List Nat) (_:vs=[.str (S x)]) (_:AllL x) (_:x.length≤900) (_:∀ (r:List Nat) (H':Hp),RingR x r→Same H H'→Q (.str (S r)) H'):spRingL vs H Q E
theorem bK{x:List Nat}{b:Nat}(h:b≤x.length):(bX x b).length=x.length:=by unfold bX;rw[g9,u5,k9];omega
theorem eA{x:List Nat}{b t:Nat}(h:b<x.length)(ht:t<x.length):(bX x b)[t]?=some (x.getD ((b+t) % x.length) 0):=by
 unfold bX
 by_cases c:t<x.length - b
 ·rw[t6 (by rw[u5];omega),aXf,aQQ (by omega),d5,c7 (by omega)]
  rfl
 ·rw[z0 (by rw[u5];omega),u5,aQC (by omega)]
  have e:(b+t) % x.length=t - (x.length - b):=by
   rw[show b+t=(t - (x.length - b))+x.length by omega,aQ2,aQQ (by omega)]
  rw[e,d5,c7 (by omega)]
  rfl
theorem jG{x:List Nat}{b c:Nat}(hn:b<x.length)(hc:c<x.length)(h1:¬ Lt (gr x) x.length b c)(h2:¬ Lt (gr x) x.length c b):∀ l,l≤x.length→∀ t,t<l→gr x (b+t)=gr x (c+t)
 | 0,_,t,ht=>absurd ht (o9 _)
 | l+1,hl,t,ht=>by
  have ih:=jG hn hc h1 h2 l (by omega)
  by_cases e:t=l
  ·subst e
   refine x6 fun ne=>?_
   by_cases q:gr x (b+t)<gr x (c+t)
   ·exact h1 ⟨t,by omega,ih,q⟩
   ·exact h2 ⟨t,by omega,fun s hs=>(ih s hs).symm,by omega⟩
  ·exact ih t (by omega)
theorem rot_eq{x:List Nat}(hx:AllL x){b c:Nat}(hb:b<x.length)(hc:c<x.length)(h:∀ t,t<x.length→gr x (b+t)=gr x (c+t)):bX x b=bX x c:=by
 have isx:∀ i:Nat,i<x.length→bS (x.getD i 0):=fun i hi=>by
  rw[d5,c7 hi];exact hx _ (q8 hi)
 refine aQ3 fun t=>?_
 by_cases ht:t<x.length
 ·rw[eA hb ht,eA hc ht]
  have:=h t ht
  unfold gr at this
  rw[xJ (isx _ (u0 _ (by omega))) (isx _ (u0 _ (by omega))) this]
 ·rw[x2 (by rw[bK (by omega)];omega),x2 (by rw[bK (by omega)];omega)]
theorem LeastAt.rot_eq{x:List Nat}(hx:AllL x){b c:Nat}(h:LeastAt x b)(h':LeastAt x c):bX x b=bX x c:=by
 rcases h with ⟨rfl,rfl⟩ | ⟨hb,h⟩
 ·rcases h' with ⟨_,rfl⟩ | ⟨hc,_⟩
  ·rfl
  ·simp at hc
 ·rcases h' with ⟨rfl,rfl⟩ | ⟨hc,h'⟩
  ·simp at hb
  ·exact Lw.rot_eq hx hb hc fun t ht=>jG hb hc (h' b hb) (h c hc) x.length (c8 _) t ht
theorem RingR.inj{x r r':List Nat}(hx:AllL x)(h:RingR x r)(h':RingR x r'):r=r':=by
 obtain⟨m,b,h1,h2,rfl⟩:=h
 obtain⟨m',b',h1',h2',rfl⟩:=h'
 have e:=h1.inj h1'
 subst e
 exact LeastAt.rot_eq (iP hx) h2 h2'
def gM(x:List Nat):List Int:=x.map fun c=>((rk c:Nat):Int)
theorem cL(x:List Nat):(gM x).length=x.length:=by unfold gM;rw[c6]
theorem AF{c:Nat}(h:bS c):(Builtin.Str.occurrences (Str.ofString "aAbBcCdD") (S [c]) 0 (Str.ofString "aAbBcCdD").length 1).isEmpty=false∧Txt.find (Str.ofString "aAbBcCdD") (S [c])=((rk c:Nat):Int):=by
 rcases aM h with rfl | rfl | rfl | rfl | rfl | rfl | rfl | rfl <;> exact⟨by decide +kernel,by decide +kernel⟩
inductive spKey(vs:List V)(H:Hp)(Q:VK)(E:XK):Prop
 | mk (x:List Nat) (_:vs=[.str (S x)]) (_:AllL x) (_:x.length≤900) (_:∀ (p a:Addr) (H':Hp),H p=none→H a=none→Same H H'→H' p=some (.tup [.int (x.length:Nat),.ref a])→H' a=some (.lst ((gM x).map V.int))→Q (.ref p) H'):spKey vs H Q E
theorem dN:∀ (as bs:List Int),as.length=bs.length→(HT.lexLt as bs=true↔∃ l,l<as.length∧(∀ t,t<l→as[t]?=bs[t]?)∧∃ u v,as[l]?=some u∧bs[l]?=some v∧u<v)
 | [],[],_=>by simp[HT.lexLt]
 | [],_::_,h=>by simp at h
 | _::_,[],h=>by simp at h
 | a::as,b::bs,h=>by
  have ih:=dN as bs (by simpa using h)
  rw[HT.lexLt_cons]
  by_cases e:a=b
  ·rw[if_pos e,ih]
   constructor
   ·rintro⟨l,h1,h2,u,v,h3,h4,h5⟩
    refine⟨l+1,by simpa using h1,fun t ht=>?_,u,v,by simpa using h3,by simpa using h4,h5⟩
    cases t with
    | zero=>simp[e]
    | succ t=>simpa using h2 t (by omega)
   ·rintro⟨l,h1,h2,u,v,h3,h4,h5⟩
    cases l with
    | zero =>
     simp at h3 h4
     omega
    | succ l=>exact⟨l,by simpa using h1,fun t ht=>by simpa using h2 (t+1) (by omega),u,v,by simpa using h3,by simpa using h4,h5⟩
  ·rw[if_neg e,decide_eq_true_iff]
   constructor
   ·intro q
    exact⟨0,by simp,fun t ht=>absurd ht (o9 _),a,b,rfl,rfl,q⟩
   ·rintro⟨l,h1,h2,u,v,h3,h4,h5⟩
    cases l with
    | zero=>simp at h3 h4;omega
    | succ l =>
     have:=h2 0 (by omega)
     simp at this
     exact absurd this e
theorem qW{x:List Nat}{i j:Nat}(hi:i<x.length)(hj:j<x.length):HT.lexLt (gM (bX x i)) (gM (bX x j))=true↔Lt (gr x) x.length i j:=by
 rw[dN _ _ (by rw[cL,cL,bK (by omega),bK (by omega)])]
 have g:∀ b t,b<x.length→t<x.length→(gM (bX x b))[t]?=some ((gr x (b+t):Nat):Int):=fun b t hb ht=>by
  unfold gM gr
  rw[f6,eA hb ht];rfl
 constructor
 ·rintro⟨l,h1,h2,u,v,h3,h4,h5⟩
  rw[cL,bK (by omega)] at h1
  rw[g i l hi h1] at h3
  rw[g j l hj h1] at h4
  cases h3;cases h4
  refine⟨l,h1,fun t ht=>?_,by omega⟩
  have:=h2 t ht
  rw[g i t hi (by omega),g j t hj (by omega)] at this
  have:=j7 this
  omega
 ·rintro⟨l,h1,h2,h3⟩
  exact⟨l,by rw[cL,bK (by omega)];exact h1,fun t ht=>by rw[g i t hi (by omega),g j t hj (by omega),h2 t ht],_,_,g i l hi h1,g j l hj h1,by omega⟩
theorem nG{x:List Nat}{t i:Nat}(h:i<x.length - 2 * t):(iZ x t)[i]?=some (x.getD (t+i) 0):=by
 unfold iZ
 rw[aQC h,aXf,d5,c7 (by omega)]
 rfl
theorem cK(x:List Nat):iZ x 0=x:=by unfold iZ;simp
theorem xF{x:List Nat}{t:Nat}(h:2 * t+1<x.length):((iZ x t).drop 1).take ((x.length - 2 * t) - 2)=iZ x (t+1):=by
 unfold iZ
 rw[List.drop_take,List.drop_drop,List.take_take]
 congr 1
 omega
theorem pH(x:List Nat):bX x 0=x:=by unfold bX;simp
theorem oD{x:List Nat}{b:Nat}(h:AllL x):AllL (bX x b):=AllL.app.mpr ⟨fun c hc=>h c (m5 hc),fun c hc=>h c (m9 hc)⟩
theorem yX{ys:List Nat}{z:Nat}(h:ys[ys.length - 1]?=some z):nQ ys (-1)=some z:=by
 have hne:ys≠[]:=by intro e;subst e;simp at h
 have e:ys=ys.dropLast++[ys.getLast hne]:=(aQO hne).symm
 have hz:ys.getLast hne=z:=by
  rw[List.getLast_eq_getElem]
  have hl:ys.length - 1<ys.length:=by have:=aQu.mpr hne;omega
  rw[c7 hl] at h
  exact j7 h
 rw[e,hz]
 exact iH _ _
def C7(y:List Nat):Prop:=∀ k,k<y.length→y.getD k 0≠aZ (y.getD ((k+1) % y.length) 0)
theorem lC:∀ (k:List Nat),PlainR k→∀ i a b,k[i]?=some a→k[i+1]?=some b→b≠aZ a
 | [],_,i,a,b,h,_=>by simp at h
 | [_],_,i,a,b,_,h=>by simp at h
 | c::d::r,h,0,a,b,h1,h2=>by
  simp at h1 h2
  subst h1 h2
  exact h.1
 | c::d::r,h,i+1,a,b,h1,h2=>lC (d::r) h.2 i a b (by simpa using h1) (by simpa using h2)
theorem uC{x:List Nat}(h:bZ x){k a b:Nat}(h1:x[k]?=some a)(h2:x[k+1]?=some b):a≠aZ b:=by
 have l2:=(c5.mp h2).1
 refine lC x.reverse h (x.length - 1 - (k+1)) b a ?_ ?_
 ·rw[w9 (by omega),show x.length - 1 - (x.length - 1 - (k+1))=k+1 by omega];exact h2
 ·rw[w9 (by omega),show x.length - 1 - (x.length - 1 - (k+1)+1)=k by omega];exact h1
theorem kZ{x:List Nat}{i:Nat}(h:i<x.length):x[i]?=some (x.getD i 0):=by rw[d5,c7 h];rfl
theorem iE{x:List Nat}(hx:AllL x){i:Nat}(h:i<x.length):bS (x.getD i 0):=hx _ (d7 (kZ h))
theorem iM{x:List Nat}{t i:Nat}(h:i<x.length - 2 * t):(iZ x t).getD i 0=x.getD (t+i) 0:=by
 rw[d5,nG h];rfl
theorem nS{x:List Nat}(hx:AllL x)(hp:bZ x){t:Nat}(he:Ends x t):C7 (iZ x t):=fun k hk=>by
 have ml:=iJ he.le
 rw[ml] at hk ⊢
 by_cases c:k+1<x.length - 2 * t
 ·rw[aQQ c,iM hk,iM c]
  exact uC hp (kZ (by omega)) (by rw[show t+k+1=t+(k+1) by omega];exact kZ (by omega))
 ·have e:k+1=x.length - 2 * t:=by omega
  rw[← e,Nat.mod_self,iM hk,iM (by omega)]
  by_cases c2:k=0
  ·subst c2;exact(xI (iE hx (by omega))).symm
  ·intro q
   refine he.2 ⟨by omega,?_⟩
   rw[show x.length - 1 - t=t+k by omega,q,aZk,bA (iE hx (by omega))]
theorem iA{x:List Nat}{b t:Nat}(h:b<x.length)(ht:t<x.length):(bX x b).getD t 0=x.getD ((b+t) % x.length) 0:=by
 rw[d5,eA h ht];rfl
theorem Bw{x:List Nat}{a:Nat}(h:a<x.length)(t:Nat):gr (bX x a) t=gr x (a+t):=by
 unfold gr
 rw[bK (by omega),iA h (u0 _ (by omega)),aQU]
theorem kJ{x:List Nat}(hx:AllL x)(hc:C7 x){a:Nat}(h:a<x.length):Ends (bX x a) 0:=by
 refine⟨fun j hj=>absurd hj (o9 _),fun ⟨h1,h2⟩=>?_⟩
 rw[bK (by omega)] at h1 h2
 rw[iA h (by omega),iA h (by omega)] at h2
 have q:=hc ((a+(x.length - 1 - 0)) % x.length) (u0 _ (by omega))
 apply q
 have e:((a+(x.length - 1 - 0)) % x.length+1) % x.length=(a+0) % x.length:=by
  rw[aQm,show a+(x.length - 1 - 0)+1=a+0+x.length by omega,aQ2]
 rw[e,h2,bA (iE hx (u0 _ (by omega)))]
theorem By{x:List Nat}{a i j:Nat}(h:a<x.length):Lt (gr (bX x a)) x.length i j↔Lt (gr x) x.length (a+i) (a+j):=by
 have e:∀ i t,gr (bX x a) (i+t)=gr x (a+i+t):=fun i t=>by rw[Bw h,aQS]
 constructor
 ·rintro⟨l,h1,h2,h3⟩;exact⟨l,h1,fun t ht=>by rw[← e,← e];exact h2 t ht,by rw[← e,← e];exact h3⟩
 ·rintro⟨l,h1,h2,h3⟩;exact⟨l,h1,fun t ht=>by rw[e,e];exact h2 t ht,by rw[e,e];exact h3⟩
theorem Ai{g:Nat→Nat}{n i j:Nat}(hg:∀ t,g (t % n)=g t)(h:Lt g n i j):Lt g n i (j % n):=by
 have e:∀ t,g (j % n+t)=g (j+t):=fun t=>by rw[← hg (j % n+t),← hg (j+t),aQm]
 obtain⟨l,h1,h2,h3⟩:=h
 exact⟨l,h1,fun t ht=>by rw[e];exact h2 t ht,by rw[e];exact h3⟩
theorem mM{x:List Nat}{a b c:Nat}(ha:a<x.length)(hb:LeastAt x b)(hc:c<x.length)(e:(a+c) % x.length=b):LeastAt (bX x a) c:=by
 rcases hb with ⟨h0,_⟩ | ⟨hb,hm⟩
 ·subst h0;simp at ha
 ·refine .inr ⟨by rw[bK (by omega)];exact hc,fun j hj q=>?_⟩
  rw[bK (by omega)] at hj q
  have q1:=Ai (kC x) (wJ (kC x) ((By ha).mp q))
  rw[e] at q1
  exact hm _ (u0 _ (by omega)) q1
theorem mZ{x:List Nat}{a c b:Nat}(ha:a<x.length)(hc:c<x.length)(hb:b<x.length)(e:(a+c) % x.length=b):bX (bX x a) c=bX x b:=by
 have l1:(bX x a).length=x.length:=bK (by omega)
 refine aQ3 fun t=>?_
 by_cases ht:t<x.length
 ·rw[eA (by omega) (by omega),eA hb ht,l1,iA ha (u0 _ (by omega)),aQU,← e,aQm,aQS]
 ·rw[x2 (by rw[bK (by omega)];omega),x2 (by rw[bK (by omega)];omega)]
theorem kI:RingR [] []:=⟨0,0,⟨fun j hj=>absurd hj (o9 _),fun h=>by simp at h⟩,.inl ⟨rfl,rfl⟩,rfl⟩
theorem zG(x:List Nat):bX x x.length=x:=by unfold bX;simp
theorem xW{x r:List Nat}(hx:AllL x)(hp:bZ x)(h:RingR x r){a:Nat}(ha:a≤r.length):RingR (bX r a) r:=by
 obtain⟨m,b,he,hb,rfl⟩:=h
 have hy:=iP (m:=m) hx
 have hc:=nS hx hp he
 generalize iZ x m=y at hb hy hc ha
 rcases id hb with ⟨rfl,rfl⟩ | ⟨hbl,hm⟩
 ·have:a=0:=by simpa [bX] using ha
  subst this
  exact kI
 ·have lr:(bX y b).length=y.length:=bK (by omega)
  have key:∀ a,a<y.length→RingR (bX (bX y b) a) (bX y b):=fun a ha=>by
   rw[mZ hbl ha (u0 _ (by omega)) rfl]
   have ha':(b+a) % y.length<y.length:=u0 _ (by omega)
   generalize (b+a) % y.length=a' at ha'
   have e:(a' + (b+y.length - a') % y.length) % y.length=b:=by
    rw[aQU,show a' + (b+y.length - a')=b+y.length by omega,aQ2,aQQ hbl]
   have hcl:(b+y.length - a') % y.length<y.length:=u0 _ (by omega)
   refine⟨0,(b+y.length - a') % y.length,kJ hy hc ha',?_,?_⟩
   ·rw[cK];exact mM ha' hb hcl e
   ·rw[cK,mZ ha' hcl hbl e]
  by_cases c:a<y.length
  ·exact key a c
  ·have:a=(bX y b).length:=by omega
   rw[this,zG]
   have:=key 0 (by omega)
   rwa [pH] at this
theorem tD{x r:List Nat}(hx:AllL x)(hp:bZ x)(h:RingR x r):RingR r r:=by
 have:=xW hx hp h (a:=0) (l5 _)
 rwa [pH] at this
theorem RingR.sub{x r:List Nat}(h:RingR x r):∀ c∈r,c∈x:=by
 obtain⟨m,b,he,hb,rfl⟩:=h
 intro c hc
 unfold bX at hc
 have:c∈iZ x m:=by rcases j8.mp hc with q | q;exact m5 q;exact m9 q
 exact m5 (m9 this)
theorem RingR.len{x r:List Nat}(h:RingR x r):r.length≤x.length:=by
 obtain⟨m,b,he,hb,rfl⟩:=h
 rw[bK hb.le,iJ he.le];omega
end Lw
namespace L2
open PySem PySem.Spec PyProof.Rows
section
variable {X:Cx}{e:Expr}{te:TE}{lo hi:Option Expr}{stp:Expr}{tl th tk:TO}{pos p2:Pos}
def Cu(X:Cx)(r:V→Option Int→Option Int→Option Int→Hp→VK→Prop):Prop :=
 ∀ (pins:List (Addr×Obj)) (s:Shared) (σ:St) (H:Hp) (x:V) (v vl vu vk:Value) (lo hi st:Option Int) (sl:Addr) (Q:VK),Inv X pins σ H s→RelV x v→s.heap.IsSliceOf sl vl vu vk→IsPart vl lo→IsPart vu hi→IsPart vk st→r x lo hi st H Q →
  ∃ T id,typeLookup (.type T) "__getitem__"=pure (some (.builtin id))∧s.TypeIs v T∧wpAny (model X.prog X.w) X.A (getItem v (.ref sl)) (EP X pins σ Q) X.xe s
def Dx(r:V→Option Int→Option Int→Option Int→Hp→VK→Prop)(te:TE)(tl th tk:TO):TE:=fun σ H Q=>te σ H fun x H1=>tl σ H1 fun l H2=>th σ H2 fun u H3=>tk σ H3 fun k H4=>r x l u k H4 Q
theorem uG{r:V→Option Int→Option Int→Option Int→Hp→VK→Prop}(hr:Cu X r)(he:PE X e te)(hl:PO X lo tl)(hu:PO X hi th)(hk:PO X (some stp) tk):PE X (.Subscript e (.Slice lo hi (some stp) p2) pos) (Dx r te tl th tk):=by
 intro pins s σ H Q I h
 refine Subscript_ (bP (he pins s σ H _ I h) fun v s1 ⟨x,H1,I1,r1,q1⟩=>?_)
 refine wpAny_Slice (bP (hl pins s1 σ H1 _ I1 q1) fun vl s2 ⟨l,H2,I2,pl,q2⟩=>bP (hu pins s2 σ H2 _ I2 q2) fun vu s3 ⟨u,H3,I3,pu,q3⟩=>bP (hk pins s3 σ H3 _ I3 q3) fun vk s4 ⟨k,H4,I4,pk,q4⟩=>?_)
 have I5:Inv X pins σ H4 { s4 with heap:=s4.heap.push { cls:=.type "slice",data:=.fields #[vl,vu,vk] } }:=I4.kept (t':=s4.toks) fun b ob q=>a9 _ q
 obtain⟨T,id,hT,ht,hg⟩:=hr pins { s4 with heap:=s4.heap.push { cls:=.type "slice",data:=.fields #[vl,vu,vk] } } σ H4 x v vl vu vk l u k s4.heap.objs.size Q I5 r1 (aXa ..) pl pu pk q4
 show wpAny (model X.prog X.w) X.A (subscriptTail e (.Slice lo hi (some stp) p2) v (.ref s4.heap.objs.size)) (EP X pins σ Q) X.xe { s4 with heap:=s4.heap.push { cls:=.type "slice",data:=.fields #[vl,vu,vk] } }
 exact tail_any (ops:=[v,.ref s4.heap.objs.size]) ht hT hg rfl
end
abbrev Cx.one(X:Cx):Cx:={ X with A:=X.A.in1,xe:=fun _ _=>False }
theorem Cx.Ok.one{X:Cx}(o:X.Ok):X.one.Ok :=
 ⟨o.mod,o.kind,o.glob,o.blt,o.above,o.inj,o.has,o.cab,o.hd,o.frames,o.stk,o.exf,o.bs,o.bsz,o.noex,o.exfs,o.funs,o.frf⟩
section
variable {X:Cx}{pins:List (Addr×Obj)}{σ:St}{H:Hp}{s:Shared}
theorem Inv.one(I:Inv X pins σ H s):Inv X.one pins σ H s:=⟨I.ok.one,I.os,I.bare,I.base,I.loc,I.cell,I.free,I.freeC,I.pin,I.hok,I.len⟩
theorem Inv.unone(o:X.Ok)(I:Inv X.one pins σ H s):Inv X pins σ H s:=⟨o,I.os,I.bare,I.base,I.loc,I.cell,I.free,I.freeC,I.pin,I.hok,I.len⟩
end
def AD(K:b9)(sp:Sp)(rlt:R2)(ta:TA):TE:=fun σ H Q=>ta σ H fun vs H1=>∃ (l:Addr) (xs:List V) (Pv:Nat→V→V→Hp→Prop),vs=[.ref l]∧SqL K H1 l xs ∧
 (∀ i b kb H,Pv i b kb H→SqL K H l xs)∧(∃ x0,xs[0]?=some x0∧sp [x0] H1 (fun v H2=>Pv 1 x0 v H2) E0) ∧
 (∀ i b kb H,Pv i b kb H→∀ y,xs[i]?=some y→sp [y] H (fun v H2=>rlt v kb H2 fun c H3=>∃ t,c=.bl t∧Pv (i+1) (if t=true then y else b) (if t=true then v else kb) H3) E0) ∧
 ∀ b kb H,Pv xs.length b kb H→Q b H
section
variable {X:Cx}{k:Nat}{f:Addr}{fd:FuncData}{ps:List Str}{sp:Sp}{rlt:R2}
theorem eE:(toString "min"++toString ".loop":String)="min.loop":=by decide
abbrev Cy(X:Cx)(pins:List (Addr×Obj))(σ:St)(Q:VK):Result→Shared→Prop:=fun r s'=>match r with | .ok (.ret v)=>EP X pins σ Q v s' | .ok _=>False | .error e=>X.xe e s'
theorem Bh{pins:List (Addr×Obj)}{σ:St}{Q:VK}{l it bs:Addr}{xs:List V}{Pv:Nat→V→V→Hp→Prop}
  (F:FnOk X.prog X.w X.K X.mg X.base qF k f fd ps sp) (hr:Room (k+1) X.A) (hb:Binds X.K fd ps []) (hlt:gC X.one (compareOp .Lt) rlt) (hc:X.calm=true) (ok:X.Ok) (hne:bs≠it)
  (hsq:∀ i b kb H,Pv i b kb H→SqL X.K H l xs)
  (hst:∀ i b kb H,Pv i b kb H→∀ y,xs[i]?=some y→sp [y] H (fun v H2=>rlt v kb H2 fun c H3=>∃ t,c=.bl t∧Pv (i+1) (if t=true then y else b) (if t=true then v else kb) H3) E0)
  (hend:∀ b kb H,Pv xs.length b kb H→Q b H) :
  ∀ (r i:Nat) (s:Shared) (H:Hp) (b kb:V) (ub uk:Value) (c:Nat),xs.length - i=r→i≤xs.length→Inv X.one pins σ H s→(∀ a∈[it,bs],cU X.one pins H a)→s.heap.IsListIter it l i→s.heap.get? bs=some (seqObj "list" #[ub,uk] c)→RelV b ub→RelV kb uk→Pv i b kb H →
   codeAny (model X.prog X.w) X.A (.builtin "min.loop" ⟨[.ref it,.ref f,.ref bs],[]⟩) (Cy X pins σ Q) s:=by
 intro r
 induction r with
 | zero =>
  intro i s H b kb ub uk c hri hi I hf st gb rb rk pv
  have hin:i=xs.length:=by omega
  subst hin
  obtain⟨its,rv,pl,hz⟩:=I.list (hsq _ _ _ _ pv)
  have hlen:=rv.length
  obtain⟨f0,f1,f2,f3,f4,f5⟩:=hf it (by simp)
  obtain⟨g0,g1,g2,g3,g4,g5⟩:=hf bs (by simp)
  refine codeAny_builtin w6 ?_
  rw[q0 l6 _]
  show wpAny _ X.A.in1 (seqItems? (.ref bs) >>= _) _ _ _
  refine wpAny_bind (wpAny_seqItems gb rfl ?_)
  show wpAny _ X.A.in1 (tryCatch (pyNext (.ref it)) _ >>= _) _ _ _
  refine wpAny_bind (wpAny_tryCatch (wpAny_pyNext_list_end (I.ok.hd hc) st pl.isList (by simp;omega) fun h' eb=>?_))
  have I1:Inv X.one pins σ H { s with heap:=h' }:=I.turned (t':=s.toks) (fun a o ha e=>eb a o ha e) f0 f1 f3 f4 f5
  have gb1:=eb bs _ hne gb
  show wpAny _ X.A.in1 (updateSeq bs (fun _=>#[]) >>= _) _ _ _
  refine wpAny_bind (wpAny_updateSeq gb1 rfl (wpAny_bind (wpAny_letGo (wpAny_pure ?_))))
  have sb:=p7 h' bs (Obj.mapSeq fun _=>(#[]:Array Value))
  have I2:=I1.turned (t':=s.toks) (h':=h'.update bs (Obj.mapSeq fun _=>(#[]:Array Value))) (fun a o ha e=>(sb.2 a ha).trans e) g0 g1 g3 g4 g5
  exact⟨b,H,I2.unone ok,rb,hend _ _ _ pv⟩
 | succ r ih =>
  intro i s H b kb ub uk c hri hi I hf st gb rb rk pv
  have hlt':i<xs.length:=by omega
  obtain⟨y,hy⟩:∃ y,xs[i]?=some y:=⟨_,c7 hlt'⟩
  obtain⟨its,rv,pl,hz⟩:=I.list (hsq _ _ _ _ pv)
  obtain⟨u,hu,ru⟩:=rv.get hy
  obtain⟨f0,f1,f2,f3,f4,f5⟩:=hf it (by simp)
  obtain⟨g0,g1,g2,g3,g4,g5⟩:=hf bs (by simp)
  refine codeAny_builtin w6 ?_
  rw[q0 l6 _]
  show wpAny _ X.A.in1 (seqItems? (.ref bs) >>= _) _ _ _
  refine wpAny_bind (wpAny_seqItems gb rfl ?_)
  show wpAny _ X.A.in1 (tryCatch (pyNext (.ref it)) _ >>= _) _ _ _
  refine wpAny_bind (wpAny_tryCatch (wpAny_pyNext_list_item st pl.isList (x:=u) (by simpa using hu) fun h' st' sb=>?_))
  have I1:Inv X.one pins σ H { s with heap:=h' }:=I.turned (t':=s.toks) (fun a o ha e=>(sb.2 a ha).trans e) f0 f1 f3 f4 f5
  have gb1:h'.get? bs=some (seqObj "list" #[ub,uk] c):=(sb.2 bs hne).trans gb
  obtain⟨oi,goi,goc,god⟩:=id st'
  have hob:∀ a∈[it,bs],∃ o,h'.get? a=some o∧∀ v,o.data≠.cell v:=fun a ha=>by
   rcases d9.mp ha with rfl | ha
   ·exact⟨oi,goi,fun v z=>by rw[god] at z;cases z⟩
   ·rw[c9.mp ha];exact⟨_,gb1,fun v z=>by cases z⟩
  have I2:=I1.pinned hf hob
  show wpAny _ X.A.in1 (tryCatch (holding [u] (call (.ref f) [u])) _ >>= _) _ _ _
  refine wpAny_bind (wpAny_tryCatch (wpAny_holding (wpAny_mono (nL (X:=X.one) F hr.in1 hb .nil aR I2 (.cons ru .nil) (hst i b kb H pv y hy)) (fun z s2 he=>?_) fun _ _ hF=>hF.elim)))
  obtain⟨v,H2,I3,rz,q2⟩:=he
  show wpAny _ X.A.in1 (tryCatch (holding [u,z] (richCompare .Lt z uk >>= _)) _ >>= _) _ _ _
  refine wpAny_bind (wpAny_tryCatch (wpAny_holding (wpAny_bind (wpAny_mono (hlt _ s2 σ H2 v kb z uk _ I3 rz rk q2) (fun cv s3 hq=>?_) fun _ _ hF=>hF.elim))))
  obtain⟨cc,H3,I4,rc,t,rfl,pv'⟩:=hq
  obtain rfl:cv=.bool t:=rc
  refine wpAny_bind (wpAny_holding (wpAny_truthy_bool (wpAny_bind (wpAny_letGo (wpAny_pure ?_)))))
  have pin4:∀ a∈[it,bs],∀ o,h'.get? a=some o→s3.heap.get? a=some o∧H3 a=none:=fun a ha o e=>by
   have:=I4.pin (a,o) (e9 _ (e9 _ (bO ha e)))
   exact⟨this.1,this.2.1⟩
  obtain⟨gi4,ni4⟩:=pin4 it (by simp) oi goi
  obtain⟨gb4,nb4⟩:=pin4 bs (by simp) _ gb1
  have hf4:∀ a∈[it,bs],cU X.one pins H3 a:=fun a ha=>by
   refine⟨?_,(hf a ha).2⟩
   rcases d9.mp ha with rfl | ha
   ·exact ni4
   ·rw[c9.mp ha];exact nb4
  have I5:=I4.unpinned
  cases t with
  | true =>
   show wpAny _ X.A.in1 (updateSeq bs (fun _=>#[u,z]) >>= _) _ _ _
   refine wpAny_bind (wpAny_updateSeq gb4 rfl (wpAny_bind (wpAny_letGo ?_)))
   rw[eE]
   have sb2:=p7 s3.heap bs (Obj.mapSeq fun _=>#[u,z])
   obtain⟨n0,n1,n2,n3,n4,n5⟩:=hf4 bs (by simp)
   have I6:=I5.turned (t':=s3.toks) (h':=s3.heap.update bs (Obj.mapSeq fun _=>#[u,z])) (fun a o ha e=>(sb2.2 a ha).trans e) n0 n1 n3 n4 n5
   exact wpAny_pure ⟨plainId_quiet l6 _,ih (i+1) _ H3 y v u z _ (by omega) (by omega) I6 hf4 ⟨oi,(sb2.2 it hne.symm).trans gi4,goc,god⟩ (get?_update_seq gb4 fun _=>#[u,z]) ru rz (by simpa using pv')⟩
  | false =>
   refine wpAny_bind (wpAny_letGo ?_)
   rw[eE]
   exact wpAny_pure ⟨plainId_quiet l6 _,ih (i+1) _ H3 b kb ub uk c (by omega) (by omega) I5 hf4 ⟨oi,gi4,goc,god⟩ gb4 rb rk (by simpa using pv')⟩
theorem Aw{pins:List (Addr×Obj)}{σ:St}{Q:VK}{l:Addr}{xs:List V}{Pv:Nat→V→V→Hp→Prop}{s:Shared}{H:Hp}
  (F:FnOk X.prog X.w X.K X.mg X.base qF k f fd ps sp) (hr:Room (k+1) X.A) (hb:Binds X.K fd ps []) (hlt:gC X.one (compareOp .Lt) rlt) (hc:X.calm=true) (I:Inv X pins σ H s) (hq:SqL X.K H l xs)
  (hsq:∀ i b kb H,Pv i b kb H→SqL X.K H l xs) {x0:V} (hx0:xs[0]?=some x0) (h0:sp [x0] H (fun v H2=>Pv 1 x0 v H2) E0)
  (hst:∀ i b kb H,Pv i b kb H→∀ y,xs[i]?=some y→sp [y] H (fun v H2=>rlt v kb H2 fun c H3=>∃ t,c=.bl t∧Pv (i+1) (if t=true then y else b) (if t=true then v else kb) H3) E0)
  (hend:∀ b kb H,Pv xs.length b kb H→Q b H) :
  wpAny (model X.prog X.w) X.A (call (.builtin "min") [.ref l] [(Str.ofString "key",.ref f)]) (EP X pins σ Q) X.xe s:=by
 obtain⟨its,rv,pl,hz⟩:=I.list hq
 obtain⟨u,hu,ru⟩:=rv.get hx0
 obtain⟨ol,hol,_⟩:=id pl.isList
 have hll:=d6 hol
 refine kmk_tree aXy aXl aXm (kmk_min_key _ _) ?_
 show wpAny _ X.A.in1 (Builtin.Builtins.bindParams "min" ["key","default"] 0 ⟨[],[(Str.ofString "key",.ref f)]⟩ >>= _) _ _ s
 have ebp:Builtin.Builtins.bindParams "min" ["key","default"] 0 ⟨[],[(Str.ofString "key",.ref f)]⟩=pure [some (.ref f),none]:=rfl
 refine wpAny_bind (wpAny_of_eq ebp (wpAny_bind (wpAny_pure (wpAny_bind (wpAny_pyIter_list pl.isList (wpAny_bind (wpAny_newList ?_ (l5 _))))))))
 rw[eE]
 obtain⟨h1,e1⟩:∃ h1,h1=s.heap.push { cls:=.type "list_iterator",data:=.fields #[.ref l,.int 0 0] }:=⟨_,rfl⟩
 rw[← e1]
 have z1:h1.objs.size=s.heap.objs.size+1:=by rw[e1];exact size_push' ..
 obtain⟨h2,e2⟩:∃ h2,h2=h1.push (seqObj "list" #[] 0):=⟨_,rfl⟩
 have kp1:∀ b o,s.heap.get? b=some o→h1.get? b=some o:=fun b o e=>by rw[e1];exact a9 _ e
 have kp2:∀ b o,h1.get? b=some o→h2.get? b=some o:=fun b o e=>by rw[e2];exact a9 _ e
 have gi:h1.get? s.heap.objs.size=some { cls:=.type "list_iterator",data:=.fields #[.ref l,.int 0 0] }:=by rw[e1];exact d8 _ rfl
 have gs:h2.get? h1.objs.size=some (seqObj "list" #[] 0):=by rw[e2];exact d8 _ rfl
 have I0:Inv X.one pins σ H { s with heap:=h2 }:=I.one.kept (t':=s.toks) fun b o e=>kp2 b o (kp1 b o e)
 have hne:h1.objs.size≠s.heap.objs.size:=by omega
 have hf:∀ a∈[s.heap.objs.size,h1.objs.size],cU X.one pins H a:=fun a ha=>by
  have:s.heap.objs.size≤a:=by
   rcases d9.mp ha with rfl | ha
   ·exact c8 _
   ·rw[c9.mp ha];omega
  exact I.one.fpOk this (I.hok.fresh this)
 refine wpAny_pure ⟨plainId_quiet l6 _,?_⟩
 refine codeAny_builtin w6 ?_
 rw[q0 l6 _]
 show wpAny _ X.A.in1 (seqItems? (.ref h1.objs.size) >>= _) _ _ { s with heap:=h1.push (seqObj "list" #[] 0) }
 rw[← e2]
 refine wpAny_bind (wpAny_seqItems gs rfl ?_)
 show wpAny _ X.A.in1 (tryCatch (pyNext (.ref s.heap.objs.size)) _ >>= _) _ _ _
 obtain⟨its2,rv2,pl2,_⟩:=I0.list hq
 obtain⟨u2,hu2,ru2⟩:=rv2.get hx0
 refine wpAny_bind (wpAny_tryCatch (wpAny_pyNext_list_item (i:=0) ⟨_,kp2 _ _ gi,rfl,rfl⟩ pl2.isList (x:=u2) (by simpa using hu2) fun h' st' sb=>?_))
 obtain⟨f0,f1,f2,f3,f4,f5⟩:=hf s.heap.objs.size (by simp)
 have I1:Inv X.one pins σ H { s with heap:=h' }:=I0.turned (t':=s.toks) (fun a o ha e=>(sb.2 a ha).trans e) f0 f1 f3 f4 f5
 have gb1:h'.get? h1.objs.size=some (seqObj "list" #[] 0):=(sb.2 _ hne).trans gs
 obtain⟨oi,goi,goc,god⟩:=id st'
 have hob:∀ a∈[s.heap.objs.size,h1.objs.size],∃ o,h'.get? a=some o∧∀ v,o.data≠.cell v:=fun a ha=>by
  rcases d9.mp ha with rfl | ha
  ·exact⟨oi,goi,fun v z=>by rw[god] at z;cases z⟩
  ·rw[c9.mp ha];exact⟨_,gb1,fun v z=>by cases z⟩
 have I2:=I1.pinned hf hob
 show wpAny _ X.A.in1 (tryCatch (holding [u2] (call (.ref f) [u2])) _ >>= _) _ _ _
 refine wpAny_bind (wpAny_tryCatch (wpAny_holding (wpAny_mono (nL (X:=X.one) F hr.in1 hb .nil aR I2 (.cons ru2 .nil) h0) (fun z s2 he=>?_) fun _ _ hF=>hF.elim)))
 obtain⟨v,H2,I3,rz,pv⟩:=he
 have pin3:∀ a∈[s.heap.objs.size,h1.objs.size],∀ o,h'.get? a=some o→s2.heap.get? a=some o∧H2 a=none:=fun a ha o e=>by
  have:=I3.pin (a,o) (e9 _ (e9 _ (bO ha e)))
  exact⟨this.1,this.2.1⟩
 obtain⟨gi4,ni4⟩:=pin3 s.heap.objs.size (by simp) oi goi
 obtain⟨gb4,nb4⟩:=pin3 h1.objs.size (by simp) _ gb1
 have hf4:∀ a∈[s.heap.objs.size,h1.objs.size],cU X.one pins H2 a:=fun a ha=>by
  refine⟨?_,(hf a ha).2⟩
  rcases d9.mp ha with rfl | ha
  ·exact ni4
  ·rw[c9.mp ha];exact nb4
 show wpAny _ X.A.in1 (updateSeq h1.objs.size (fun _=>#[u2,z]) >>= _) _ _ _
 refine wpAny_bind (wpAny_updateSeq gb4 rfl ?_)
 rw[eE]
 have sb2:=p7 s2.heap h1.objs.size (Obj.mapSeq fun _=>#[u2,z])
 obtain⟨n0,n1,n2,n3,n4,n5⟩:=hf4 h1.objs.size (by simp)
 have I6:=I3.unpinned.turned (t':=s2.toks) (h':=s2.heap.update h1.objs.size (Obj.mapSeq fun _=>#[u2,z])) (fun a o ha e=>(sb2.2 a ha).trans e) n0 n1 n3 n4 n5
 have hx1:0<xs.length:=(c5.mp hx0).1
 exact wpAny_pure ⟨plainId_quiet l6 _,Bh F hr hb hlt hc I.ok hne hsq hst hend _ 1 _ H2 x0 v u2 z _ rfl (by omega) I6 hf4 ⟨oi,(sb2.2 _ hne.symm).trans gi4,goc,god⟩ (get?_update_seq gb4 fun _=>#[u2,z]) ru2 rz pv⟩
theorem zS{e:Expr}{ta:TA}{kn:Str}{p kp kpos pos:Pos}(F:FnOk X.prog X.w X.K X.mg X.base qF k f fd ps sp)(hr:Room (k+1) X.A)(hb:Binds X.K fd ps [])(hlt:gC X.one (compareOp .Lt) rlt)(hc:X.calm=true)
  (hg:Gl X "min") (hm:X.mg "min"=none) (hgk:Gl X kn) (hmk:X.mg kn=some (.ref f)) (ha:PA X [e] ta) (hkd:(kn == ("__debug__":Str))=false:=by decide)
  (hall:(backToKw pos (keywordEach [⟨some (Str.ofString "key"),.Name kn kp,kpos⟩] X.env)).all (·.1.isSome)=true:=by rfl) (hks:(backToKw pos (keywordEach [⟨some (Str.ofString "key"),.Name kn kp,kpos⟩] X.env)).filterMap (·.1)=[Str.ofString "key"]:=by rfl)
  (hs:backTo pos (starEach [e] X.env)=[(false,eval e X.env)]:=by rfl) (hkw:(backToKw pos (keywordEach [⟨some (Str.ofString "key"),.Name kn kp,kpos⟩] X.env)).any (·.1.isNone)=false:=by rfl) :
  PE X (.Call (.Name "min" p) [e] [⟨some (Str.ofString "key"),.Name kn kp,kpos⟩] pos) (AD X.K sp rlt ta):=by
 intro pins s σ H Q I h
 refine wpAny_Call_Name_kw (eX I hg hm boot_min ?_ (by decide) (by decide))
 refine callWith_kw (bP (ha pos pins s σ H _ I h) fun us s1 ⟨vs,H1,I1,r1,q1⟩=>?_) (by rw[hs];rfl) (by rw[hs];rfl) hall hkw
 obtain⟨l,xs,Pv,rfl,hq,hsq,⟨x0,hx0,h0⟩,hst,hend⟩:=q1
 have hpk:PK X [⟨some (Str.ofString "key"),.Name kn kp,kpos⟩] (vH (tC (.ref f)) zL):=yS (jK (v:=.ref f) hgk hmk rfl hkd) Bf
 refine bP (hpk pos pins s1 σ H1 (fun zs H2=>zs=[.ref f]∧H2=H1) I1 ⟨rfl,rfl⟩) fun ks s2 ⟨zs,H2,I2,r2,e2,e3⟩=>?_
 subst e2 e3
 obtain⟨u,rfl,ru⟩:=iS r1
 obtain⟨kf,rfl,rk⟩:=iS r2
 cases ru
 cases rk
 rw[hks]
 exact Aw F hr hb hlt hc I2 hq hsq hx0 h0 hst hend
end
theorem jE{X:Cx}{k:Nat}(hr:Room k X.A):gC X.one (compareOp .Lt) oA:=wB (by
 have:=hr.units
 show X.A.units+1+8<cLine
 omega)
theorem oX{X:Cx}{K:b9}{k:Nat}{f:Addr}{fd:FuncData}{ps:List Str}{sp:Sp}{rlt:R2}{e:Expr}{ta:TA}{kn:Str}{p kp kpos pos:Pos}(hK:X.K=K)(F:FnOk X.prog X.w X.K X.mg X.base qF k f fd ps sp)(hr:Room (k+1) X.A)(hb:Binds X.K fd ps [])(hlt:gC X.one (compareOp .Lt) rlt)(hc:X.calm=true)
  (hg:Gl X "min") (hm:X.mg "min"=none) (hgk:Gl X kn) (hmk:X.mg kn=some (.ref f)) (ha:PA X [e] ta) (hkd:(kn == ("__debug__":Str))=false:=by decide)
  (hall:(backToKw pos (keywordEach [⟨some (Str.ofString "key"),.Name kn kp,kpos⟩] X.env)).all (·.1.isSome)=true:=by rfl) (hks:(backToKw pos (keywordEach [⟨some (Str.ofString "key"),.Name kn kp,kpos⟩] X.env)).filterMap (·.1)=[Str.ofString "key"]:=by rfl)
  (hs:backTo pos (starEach [e] X.env)=[(false,eval e X.env)]:=by rfl) (hkw:(backToKw pos (keywordEach [⟨some (Str.ofString "key"),.Name kn kp,kpos⟩] X.env)).any (·.1.isNone)=false:=by rfl) :
  PE X (.Call (.Name "min" p) [e] [⟨some (Str.ofString "key"),.Name kn kp,kpos⟩] pos) (AD K sp rlt ta):=by
 subst hK
 exact zS F hr hb hlt hc hg hm hgk hmk ha hkd hall hks hs hkw
end L2
namespace Lw
open PySem PySem.Spec PyProof.Rows L2 Ma MaR
theorem yH(w:List Nat)(h:2≤w.length):Txt.slice (S w) (some 1) (some (-1))=S ((w.drop 1).take (w.length - 2)):=by
 have e:Txt.slice (S w) (some 1) (some (-1))=Txt.slice (S w) (some 1) (some (-1+((S w).length:Int))):=by
  unfold Txt.slice
  rw[StrLaws.sliceIdx_neg_hi (some 1) (j:=-1) (S w).length (by decide) (by rw[aX];omega)]
 rw[e,aX,pZ w (by decide) (by omega) (by omega)]
 congr 2
 omega
def lo(c:Nat):Nat:=if 96<c then c else c+32
theorem tT{c:Nat}(h:bS c):Unicode.lowerOf c=[lo c]:=by
 rcases aM h with rfl | rfl | rfl | rfl | rfl | rfl | rfl | rfl <;> decide +kernel
theorem tV{w:List Nat}{i c:Nat}(h:bS c)(e:w[i]?=some c):Unicode.lowerAt w.toArray i=[lo c]:=by
 unfold Unicode.lowerAt
 have e2:w.toArray[i]?=some c:=by simpa using e
 rw[e2]
 have e3:((c == 0x3A3 && Unicode.endsWord w.toArray i))=false:=by
  have:(c == 0x3A3)=false:=by unfold bS at h;simp;omega
  rw[this];rfl
 simp only [e3]
 exact tT h
theorem tH{α:Type}(f:Nat→α)(w:List Nat):(w.map fun c=>[f c]).flatten=w.map f:=by
 induction w with
 | nil=>rfl
 | cons a w ih=>rw[k7,aXI,ih];rfl
theorem gE{w:List Nat}(h:AllL w):Txt.lower (S w)=S (w.map lo):=by
 unfold Txt.lower placed
 show Str.mk _=Str.mk _
 congr 1
 apply Array.toList_inj.mp
 rw[Array.toList_flatten,Array.toList_mapIdx]
 have e:(List.mapIdx (fun i c=>(Unicode.lowerAt (S w).cps i).toArray) (S w).cps.toList)=w.map fun c=>#[lo c]:=by
  refine aQ3 fun i=>?_
  have e1:(S w).cps.toList=w:=by simp
  have e2:(S w).cps=w.toArray:=rfl
  rw[e1,e2,List.getElem?_mapIdx,f6]
  cases hq:w[i]? with
  | none=>rfl
  | some c =>
   show some _=some _
   rw[tV (h c (d7 hq)) hq]
 rw[e,m6]
 show (w.map fun c=>[lo c]).flatten=w.map lo
 exact tH lo w
theorem mI(w:List Nat)(h:AllL w)(hl:w.length≤1000):Builtin.Str.tooLong (Txt.lower (S w)).length=false:=by
 rw[gE h,aX,c6]
 unfold Builtin.Str.tooLong
 have h10:(1000:Nat)≤sizeLine:=aK (by decide)
 exact decide_eq_false (by omega)
theorem qZ{y:List Nat}(hc:C7 y){c:Nat}(h:c<y.length):bZ (bX y c):=by
 refine lG fun k=>?_
 rintro⟨a,b,h1,h2,e⟩
 have l2:=(c5.mp h2).1
 rw[bK (by omega)] at l2
 rw[eA h (by omega)] at h1
 rw[eA h (by omega)] at h2
 have q:=hc ((c+k) % y.length) (u0 _ (by omega))
 rw[aQm,aQS,j7 h1,j7 h2] at q
 exact q e
end Lw
namespace PySem
open Sem (wp)
section
variable {prog:Program}{w:World}{A:Around}{E:Value→Shared→Prop}{s:Shared}
theorem gR{j t:Addr}{k:Nat}{vs:Array Value}{x:Value}{Q:Value→Shared→Prop}(hj:s.heap.IsTupleIter j t k)(ht:s.heap.IsTuple t vs)(hx:vs[k]?=some x)
  (hQ:∀ g,g.IsTupleIter j t (k+1)→Heap.SameBut j s.heap g→Q x { s with heap:=g }):wpAny (model prog w) A (Builtin.SmallTypes.nextOf (.ref j)) Q E s:=by
 obtain⟨oj,goj,cj,dj⟩:=id hj
 obtain⟨ot,got,_,m,dt⟩:=ht
 unfold Builtin.SmallTypes.nextOf
 refine wpAny_bind (wpAny_callSpecial?_slot (name:=Str.ofString "__next__") hj.typeIs z9 (wpAny_call_entry z9 hj.typeIs aXA ?_ (aQv _)))
 show wpAny _ _ (field (.ref j) 0 >>= _) _ _ s
 refine wpAny_bind (wpAny_field goj dj (x:=.ref t) rfl ?_)
 show wpAny _ _ (if (Value.ref t == Value.none)=true then _ else _) _ _ s
 rw[if_neg (by intro c;cases c)]
 show wpAny _ _ (field (.ref j) 1 >>= _) _ _ s
 refine wpAny_bind (wpAny_field goj dj (x:=.int k 0) rfl ?_)
 show wpAny _ _ (seqItems? (.ref t) >>= _) _ _ s
 refine wpAny_bind (wpAny_seqItems got dt ?_)
 simp only [u9,hx]
 refine wpAny_bind (wpAny_setField goj dj (by simp) (wpAny_pure ⟨x,rfl,wpAny_pure (hQ _ ?_ (p7 ..))⟩))
 refine⟨_,y4 _ goj (aQN (v8 dj _)),(aXG ..).trans cj,?_⟩
 rw[v8 dj]
 simp[rawInt]
theorem mH{j t:Addr}{k:Nat}{vs:Array Value}{Q:Value→Shared→Prop}(hh:A.handled=none)(hj:s.heap.IsTupleIter j t k)(ht:s.heap.IsTuple t vs)(hx:vs[k]?=none)
  (hE:∀ g e,Heap.ExtBut j s.heap g→(∃ o,g.get? e=some o∧o.cls=.type "StopIteration")→E (.ref e) { s with heap:=g }):wpAny (model prog w) A (Builtin.SmallTypes.nextOf (.ref j)) Q E s:=by
 obtain⟨oj,goj,cj,dj⟩:=id hj
 obtain⟨ot,got,_,m,dt⟩:=ht
 unfold Builtin.SmallTypes.nextOf
 refine wpAny_bind (wpAny_callSpecial?_slot (name:=Str.ofString "__next__") hj.typeIs z9 (wpAny_call_entry z9 hj.typeIs aXA ?_ (aQv _)))
 show wpAny _ _ (field (.ref j) 0 >>= _) _ _ s
 refine wpAny_bind (wpAny_field goj dj (x:=.ref t) rfl ?_)
 show wpAny _ _ (if (Value.ref t == Value.none)=true then _ else _) _ _ s
 rw[if_neg (by intro c;cases c)]
 show wpAny _ _ (field (.ref j) 1 >>= _) _ _ s
 refine wpAny_bind (wpAny_field goj dj (x:=.int k 0) rfl ?_)
 show wpAny _ _ (seqItems? (.ref t) >>= _) _ _ s
 refine wpAny_bind (wpAny_seqItems got dt ?_)
 simp only [u9,hx]
 refine wpAny_bind (wpAny_rule (wpAny_bind (wpAny_setField goj dj (by simp) ?_)))
 show wpAny _ _ (newExc (.type "StopIteration") [] >>= _) _ _ _
 refine wpAny_bind ?_
 simp only [newExc,newTuple]
 refine wpAny_bind (wpAny_newObj_type ?_ (by size_fits))
 refine wpAny_bind (m:=firstArgMember _ _) (wpAny_of_eq (a:=Value.none) (by first | rfl | (simp only [firstArgMember];rfl)) ?_)
 refine wpAny_newObj_type ?_ (by size_fits)
 simp only [raiseNew]
 refine wpAny_bind (wpAny_handled ?_)
 first | rw[show A.in1.handled=none from hh] | rw[hh]
 refine wpAny_bind (wpAny_pure (wpAny_throw ?_))
 exact hE _ _ (((p7 ..).extBut.push _).push _) ⟨_,d8 _ rfl,rfl⟩
structure ZApart(z a b i j t u:Addr):Prop where
 az:a≠z
 bz:b≠z
 iz:i≠z
 jz:j≠z
 ab:a≠b
 ai:a≠i
 aj:a≠j
 bi:b≠i
 bj:b≠j
 ij:i≠j
 tz:t≠z
 tb:t≠b
 ti:t≠i
 tj:t≠j
 uz:u≠z
 ub:u≠b
 ui:u≠i
 uj:u≠j
structure ZSt(h:Heap)(z a b i j t u:Addr)(k:Nat)(f0:Value):Prop where
 zip:IsZip h z a b f0
 its:IsPair h a (.ref i) (.ref j)
 own:∃ p q,IsPair h b p q
 one:h.IsTupleIter i t k
 two:h.IsTupleIter j u k
theorem ZSt.at{h h':Heap}{z a b i j t u:Addr}{k:Nat}{f0:Value}(S:ZSt h z a b i j t u k f0)(kp:∀ c∈[z,a,b,i,j],∀ o,h.get? c=some o→h'.get? c=some o):ZSt h' z a b i j t u k f0:=by
 obtain⟨p,q,ho⟩:=S.own
 obtain⟨o1,g1,r1⟩:=S.one
 obtain⟨o2,g2,r2⟩:=S.two
 exact⟨kp z (by simp) _ S.zip,kp a (by simp) _ S.its,⟨p,q,kp b (by simp) _ ho⟩,⟨o1,kp i (by simp) _ g1,r1⟩,⟨o2,kp j (by simp) _ g2,r2⟩⟩
theorem uI{z a b i j t u:Addr}{k:Nat}{xs ys:Array Value}{x y:Value}{Q:Value→Shared→Prop}(D:ZApart z a b i j t u)(S:ZSt s.heap z a b i j t u k .none)
  (ht:s.heap.IsTuple t xs) (hu:s.heap.IsTuple u ys) (hx:xs[k]?=some x) (hy:ys[k]?=some y)
  (hQ:∀ g,ZSt g z a b i j t u (k+1) (rawInt s.heap.objs.size)→IsPair g s.heap.objs.size x y→g.objs.size=s.heap.objs.size+1→(∀ c o,c≠z→c≠b→c≠i→c≠j→s.heap.get? c=some o→g.get? c=some o)→Q (.ref s.heap.objs.size) { s with heap:=g }) :
  wpAny (model prog w) A (Builtin.«zip.__next__» ⟨[.ref z],[]⟩) (fun fin s'=>∃ v,fin=.done (.ret v)∧Q v s') E s:=by
 obtain⟨hz,hI,⟨p,q,hO⟩,h1,h2⟩:=S
 show wpAny _ _ (field (.ref z) 2 >>= _) _ _ _
 refine wpAny_bind (wpAny_field hz rfl (x:=.bool false) rfl ?_)
 show wpAny _ _ (field (.ref z) 3 >>= _) _ _ _
 refine wpAny_bind (wpAny_field hz rfl (x:=.ref a) rfl (wpAny_bind (wpAny_seqItems hI rfl ?_)))
 show wpAny _ _ (Builtin.SmallTypes.ownedTupleIsFree (.ref z) >>= _) _ _ _
 unfold Builtin.SmallTypes.ownedTupleIsFree
 refine wpAny_bind (wpAny_bind (wpAny_field hz rfl (x:=.none) rfl (wpAny_pure ?_)))
 simp only [if_true]
 refine wpAny_bind (wpAny_rule (wpAny_bind (wpAny_field hz rfl (x:=.ref b) rfl (wpAny_bind (wpAny_setField_rec hz (by simp) fun g1 z1 e1=>?_)))))
 replace z1:IsZip g1 z a b .ellipsis:=z1
 refine wpAny_bind ?_
 simp only [aXz,aZH,aQl,aXX]
 refine wpAny_bind (wpAny_bind (wpAny_onRaise ?_))
 show wpAny _ _ (Builtin.SmallTypes.nextOf (.ref i) >>= _) _ _ _
 refine wpAny_bind (gR (h1.extBut e1.extBut D.iz) (ht.extBut e1.extBut D.tz) hx fun g2 i2 e2=>wpAny_pure ?_)
 have o2:IsPair g2 b p q:=e2.extBut _ _ D.bi (e1.extBut _ _ D.bz hO)
 refine wpAny_bind (wpAny_seqItems o2 rfl (wpAny_bind (wpAny_updateSeq_pair o2 fun g3 o3 e3=>wpAny_bind (wpAny_letGo (wpAny_pure ?_)))))
 replace o3:IsPair g3 b x q:=o3
 refine wpAny_bind (wpAny_bind (wpAny_onRaise ?_))
 show wpAny _ _ (Builtin.SmallTypes.nextOf (.ref j) >>= _) _ _ _
 have j3:=((h2.extBut e1.extBut D.jz).extBut e2.extBut D.ij.symm).extBut e3.extBut D.bj.symm
 have u3:=((hu.extBut e1.extBut D.uz).extBut e2.extBut D.ui).extBut e3.extBut D.ub
 refine wpAny_bind (gR j3 u3 hy fun g4 j4 e4=>wpAny_pure ?_)
 have o4:IsPair g4 b x q:=e4.extBut _ _ D.bj o3
 refine wpAny_bind (wpAny_seqItems o4 rfl (wpAny_bind (wpAny_updateSeq_pair o4 fun g5 o5 e5=>wpAny_bind (wpAny_letGo (wpAny_pure (wpAny_pure ?_))))))
 replace o5:IsPair g5 b x y:=o5
 refine wpAny_bind (wpAny_seqItems o5 rfl (wpAny_bind (wpAny_newTuple ?_)))
 have sz:g5.objs.size=s.heap.objs.size:=by rw[e5.1,e4.1,e3.1,e2.1,e1.1]
 have z5:IsZip g5 z a b .ellipsis:=e5.extBut _ _ D.bz.symm (e4.extBut _ _ D.jz.symm (e3.extBut _ _ D.bz.symm (e2.extBut _ _ D.iz.symm z1)))
 have kp:∀ c o,c≠z→c≠b→c≠i→c≠j→s.heap.get? c=some o→g5.get? c=some o:=fun c o c1 c2 c3 c4 e=>e5.extBut _ _ c2 (e4.extBut _ _ c4 (e3.extBut _ _ c2 (e2.extBut _ _ c3 (e1.extBut _ _ c1 e))))
 have i5:g5.IsTupleIter i t (k+1):=((i2.extBut e3.extBut D.bi.symm).extBut e4.extBut D.ij).extBut e5.extBut D.bi.symm
 have j5:g5.IsTupleIter j u (k+1):=j4.extBut e5.extBut D.bj.symm
 have lz:=d6 z5
 show wpAny _ _ (Builtin.SmallTypes.ownedTupleHandOut (.ref z) (.ref g5.objs.size) >>= _) _ _ _
 unfold Builtin.SmallTypes.ownedTupleHandOut
 have z6:IsZip (g5.push { cls:=.type "tuple",data:=.seq #[x,y] }) z a b .ellipsis:=a9 _ z5
 refine wpAny_bind (wpAny_bind (wpAny_setField_rec z6 (by simp) fun g7 z7 e7=>?_))
 replace z7:IsZip g7 z a b (rawInt g5.objs.size):=z7
 refine wpAny_setField_rec z7 (by simp) fun g8 z8 e8=>wpAny_pure ⟨_,rfl,?_⟩
 replace z8:IsZip g8 z a b (rawInt g5.objs.size):=z8
 have up:∀ c o,c≠z→g5.get? c=some o→g8.get? c=some o:=fun c o c1 e=>e8.extBut _ _ c1 (e7.extBut _ _ c1 (a9 _ e))
 have T8:IsPair g8 g5.objs.size x y:=e8.extBut _ _ (x8 lz) (e7.extBut _ _ (x8 lz) (d8 _ rfl))
 have n8:g8.objs.size=g5.objs.size+1:=by rw[e8.1,e7.1,aQB]
 show Q (.ref g5.objs.size) _
 rw[sz] at z8 T8 n8 ⊢
 obtain⟨oi,goi,ri⟩:=i5
 obtain⟨oj,goj,rj⟩:=j5
 exact hQ g8 ⟨z8,up _ _ D.az (kp _ _ D.az D.ab D.ai D.aj hI),⟨x,y,up _ _ D.bz o5⟩,⟨oi,up _ _ D.iz goi,ri⟩,⟨oj,up _ _ D.jz goj,rj⟩⟩ T8 n8 fun c o c1 c2 c3 c4 e=>up c o c1 (kp c o c1 c2 c3 c4 e)
theorem wV{z a b i j t u:Addr}{k:Nat}{xs ys:Array Value}{Q:Fin→Shared→Prop}(hh:A.handled=none)(D:ZApart z a b i j t u)(S:ZSt s.heap z a b i j t u k .none)
  (ht:s.heap.IsTuple t xs) (hu:s.heap.IsTuple u ys) (hn:xs[k]?=none∨ys[k]?=none)
  (hE:∀ g e,(∀ c o,c≠z→c≠b→c≠i→c≠j→s.heap.get? c=some o→g.get? c=some o)→(∃ o,g.get? e=some o∧o.cls=.type "StopIteration")→E (.ref e) { s with heap:=g }) :
  wpAny (model prog w) A (Builtin.«zip.__next__» ⟨[.ref z],[]⟩) Q E s:=by
 obtain⟨hz,hI,⟨p,q,hO⟩,h1,h2⟩:=S
 show wpAny _ _ (field (.ref z) 2 >>= _) _ _ _
 refine wpAny_bind (wpAny_field hz rfl (x:=.bool false) rfl ?_)
 show wpAny _ _ (field (.ref z) 3 >>= _) _ _ _
 refine wpAny_bind (wpAny_field hz rfl (x:=.ref a) rfl (wpAny_bind (wpAny_seqItems hI rfl ?_)))
 show wpAny _ _ (Builtin.SmallTypes.ownedTupleIsFree (.ref z) >>= _) _ _ _
 unfold Builtin.SmallTypes.ownedTupleIsFree
 refine wpAny_bind (wpAny_bind (wpAny_field hz rfl (x:=.none) rfl (wpAny_pure ?_)))
 simp only [if_true]
 refine wpAny_bind (wpAny_rule (wpAny_bind (wpAny_field hz rfl (x:=.ref b) rfl (wpAny_bind (wpAny_setField_rec hz (by simp) fun g1 z1 e1=>?_)))))
 replace z1:IsZip g1 z a b .ellipsis:=z1
 refine wpAny_bind ?_
 simp only [aXz,aZH,aQl,aXX]
 refine wpAny_bind (wpAny_bind (wpAny_onRaise ?_))
 show wpAny _ _ (Builtin.SmallTypes.nextOf (.ref i) >>= _) _ _ _
 cases hx:xs[k]? with
 | none =>
  refine wpAny_bind (mH hh (h1.extBut e1.extBut D.iz) (ht.extBut e1.extBut D.tz) hx fun g2 e e2 he=>?_)
  obtain⟨oe,goe,ce⟩:=he
  have z2:IsZip g2 z a b .ellipsis:=e2 _ _ D.iz.symm z1
  have ne:e≠z:=fun c=>by subst c;rw[z2] at goe;cases goe;simp at ce
  exact wpAny_setField_rec z2 (by simp) fun g3 _ e3=>hE g3 e (fun c o c1 _ c3 _ v=>e3.extBut _ _ c1 (e2 _ _ c3 (e1.extBut _ _ c1 v))) ⟨oe,e3.extBut _ _ ne goe,ce⟩
 | some x =>
  have hy:ys[k]?=none:=by
   rcases hn with h | h
   ·rw[hx] at h;cases h
   ·exact h
  refine wpAny_bind (gR (h1.extBut e1.extBut D.iz) (ht.extBut e1.extBut D.tz) hx fun g2 i2 e2=>wpAny_pure ?_)
  have o2:IsPair g2 b p q:=e2.extBut _ _ D.bi (e1.extBut _ _ D.bz hO)
  refine wpAny_bind (wpAny_seqItems o2 rfl (wpAny_bind (wpAny_updateSeq_pair o2 fun g3 o3 e3=>wpAny_bind (wpAny_letGo (wpAny_pure ?_)))))
  refine wpAny_bind (wpAny_bind (wpAny_onRaise ?_))
  show wpAny _ _ (Builtin.SmallTypes.nextOf (.ref j) >>= _) _ _ _
  have j3:=((h2.extBut e1.extBut D.jz).extBut e2.extBut D.ij.symm).extBut e3.extBut D.bj.symm
  have u3:=((hu.extBut e1.extBut D.uz).extBut e2.extBut D.ui).extBut e3.extBut D.ub
  refine wpAny_bind (mH hh j3 u3 hy fun g4 e e4 he=>?_)
  obtain⟨oe,goe,ce⟩:=he
  have z4:IsZip g4 z a b .ellipsis:=e4 _ _ D.jz.symm (e3.extBut _ _ D.bz.symm (e2.extBut _ _ D.iz.symm z1))
  have ne:e≠z:=fun c=>by subst c;rw[z4] at goe;cases goe;simp at ce
  exact wpAny_setField_rec z4 (by simp) fun g5 _ e5=>hE g5 e (fun c o c1 c2 c3 c4 v=>e5.extBut _ _ c1 (e4 _ _ c4 (e3.extBut _ _ c2 (e2.extBut _ _ c3 (e1.extBut _ _ c1 v))))) ⟨oe,e5.extBut _ _ ne goe,ce⟩
theorem qR{z a b i j t u:Addr}{k:Nat}{xs ys:Array Value}{x y:Value}{Q:Option Value→Shared→Prop}(D:ZApart z a b i j t u)(S:ZSt s.heap z a b i j t u k .none)
  (ht:s.heap.IsTuple t xs) (hu:s.heap.IsTuple u ys) (hx:xs[k]?=some x) (hy:ys[k]?=some y)
  (hQ:∀ g,ZSt g z a b i j t u (k+1) (rawInt s.heap.objs.size)→IsPair g s.heap.objs.size x y→g.objs.size=s.heap.objs.size+1→(∀ c o,c≠z→c≠b→c≠i→c≠j→s.heap.get? c=some o→g.get? c=some o)→Q (some (.ref s.heap.objs.size)) { s with heap:=g }) :
  wpAny (model prog w) A (pyNext (.ref z)) Q E s:=by
 have hT:s.TypeIs (.ref z) "zip":=⟨_,S.zip,rfl⟩
 unfold pyNext
 exact wpAny_bind (wpAny_attempt (wpAny_callSpecial?_slot (name:=Str.ofString "__next__") hT aQn (wpAny_call_entry aQn hT aZA (uI D S ht hu hx hy fun g b1 b2 b3 b4=>wpAny_pure (hQ g b1 b2 b3 b4)) (aXn _))))
theorem tS{z a b i j t u:Addr}{k:Nat}{xs ys:Array Value}{Q:Option Value→Shared→Prop}(hh:A.handled=none)(D:ZApart z a b i j t u)(S:ZSt s.heap z a b i j t u k .none)
  (ht:s.heap.IsTuple t xs) (hu:s.heap.IsTuple u ys) (hn:xs[k]?=none∨ys[k]?=none)
  (hQ:∀ g,(∀ c o,c≠z→c≠b→c≠i→c≠j→s.heap.get? c=some o→g.get? c=some o)→Q none { s with heap:=g }):wpAny (model prog w) A (pyNext (.ref z)) Q E s:=by
 have hT:s.TypeIs (.ref z) "zip":=⟨_,S.zip,rfl⟩
 unfold pyNext
 refine wpAny_bind (wpAny_attempt (wpAny_callSpecial?_slot (name:=Str.ofString "__next__") hT aQn (wpAny_call_entry aQn hT aZA (wV hh D S ht hu hn fun g e kp he=>?_) (aXn _))))
 obtain⟨o,go,co⟩:=he
 exact wpAny_bind (wpAny_isInstance (T:="StopIteration") (b:=true) ⟨o,go,co⟩ isSubtype_stop (wpAny_pure (hQ _ kp)))
end
abbrev Db(h:Heap)(t:Addr):Heap:=h.push { cls:=.type "tuple_iterator",data:=.fields #[.ref t,.int 0 0] }
abbrev C_(h:Heap)(t u:Addr):Heap:=(Db h t).push { cls:=.type "tuple_iterator",data:=.fields #[.ref u,.int 0 0] }
abbrev Dh(h:Heap)(t u:Addr):Heap:=(C_ h t u).push { cls:=.type "tuple",data:=.seq #[.ref h.objs.size,.ref (Db h t).objs.size] }
abbrev C9(h:Heap)(t u:Addr):Heap:=(Dh h t u).push { cls:=.type "tuple",data:=.seq #[.none,.none] }
abbrev BB(h:Heap)(t u:Addr):Heap:=(C9 h t u).push { cls:=.type "zip",data:=.fields #[.none,.bool false,.bool false,.ref (C_ h t u).objs.size,.ref (Dh h t u).objs.size] }
theorem rM(t u:Addr)(xs ys:Array Value) :
  Meets (Builtin.«zip.__new__» ⟨[.type "zip",.ref t,.ref u],[]⟩) (fun _ R s=>s.heap.IsTuple t xs∧s.heap.IsTuple u ys∧R (.ok (.ret (.ref (C9 s.heap t u).objs.size))) { s with heap:=BB s.heap t u }) :=
 .of_wp fun prog w A R s h=>by
  obtain⟨hp,g,d,tk,os⟩:=s
  obtain⟨ht,hu,h⟩:=h
  have hsub:=sub_zip
  have hL1:Heap.IsTuple (Shared.heap ⟨hp,g,d,tk,os⟩) t xs:=ht
  have hL2:Heap.IsTuple (Shared.heap ⟨hp.push { cls:=.type "tuple_iterator",data:=.fields #[.ref t,.int 0 0] },g,d,tk,os⟩) u ys:=aZx hu _
  wp_walk using wpAny_pyIter_tuple hL1,wpAny_pyIter_tuple hL2
  exact⟨_,rfl,h⟩
end PySem
namespace L2
open PySem PySem.Spec PyProof.Rows
section
variable {X:Cx}{pins:List (Addr×Obj)}{σ:St}{H:Hp}{s:Shared}{h':Heap}
theorem Inv.turnedN{t':Nat}{ch:List Addr}{a:Addr}{xs:List V}(I:Inv X pins σ H s)(k:∀ b o,b ∉ ch→s.heap.get? b=some o→h'.get? b=some o)(hf:∀ b∈ch,cU X pins H b)(ha:s.heap.objs.size≤a)
  (new:ObjOk X.prog X.w (upd H a (.tup xs)) h' a (.tup xs)):Inv X pins σ (upd H a (.tup xs)) { s with heap:=h',toks:=t' }:=by
 have hn:H a=none:=I.hok.fresh ha
 have un:∀ {b u},H b=some u→upd H a (.tup xs) b=some u:=fun e=>by rw[aG (aN e hn)];exact e
 have nch:∀ {b u},H b=some u→b ∉ ch:=fun e hb=>by rw[(hf _ hb).1] at e;cases e
 refine I.step (g':=s.gens) (d':=s.drawn) (ch:=ch) (fun b hb=>?_) (fun b o _ _ hc e _=>k b o hc e) (fun b o _ _ hc e _=>⟨o.slots,k b o hc e⟩) (fun b o _ e n=>?_) (fun b o hc e=>⟨o,k b o hc e⟩) (fun _ _ e=>un e) (fun _ _ _ e=>un e)
  (fun b ps e=>⟨#[],by rw[un e];simp⟩) (fun m hm=>?_) (fun b u e=>?_) I.bare
 ·obtain⟨f0,f1,f2,f3,f4,f5⟩:=hf b hb
  exact⟨f3,f1,f4,f5⟩
 ·rw[aG (i7 (k0 (d6 e) ha))]
  exact n
 ·obtain⟨o,es,ep,ho,r⟩:=hm
  exact⟨o,es,ep,k _ o (fun hb=>(hf _ hb).2.1 rfl) ho,r⟩
 ·by_cases hb:b=a
  ·subst hb
   rw[aB] at e
   cases e
   exact new
  ·rw[aG hb] at e
   refine(I.hok b u e).stay (fun c v hc q=>k c v ?_ q) (fun c q=>un q) fun c ys q=>un q
   rcases hc with z | z
   ·rw[z];exact nch e
   ·exact nch z
theorem Inv.turnedM{t':Nat}{ch:List Addr}(I:Inv X pins σ H s)(k:∀ b o,b ∉ ch→s.heap.get? b=some o→h'.get? b=some o)(hf:∀ b∈ch,cU X pins H b):Inv X pins σ H { s with heap:=h',toks:=t' }:=by
 have nch:∀ {b u},H b=some u→b ∉ ch:=fun e hb=>by rw[(hf _ hb).1] at e;cases e
 refine I.step (g':=s.gens) (d':=s.drawn) (ch:=ch) (fun b hb=>?_) (fun b o _ _ hc e _=>k b o hc e) (fun b o _ _ hc e _=>⟨o.slots,k b o hc e⟩) (fun b o _ e n=>n) (fun b o hc e=>⟨o,k b o hc e⟩) (fun _ _ e=>e) (fun _ _ _ e=>e)
  (fun b ps e=>⟨#[],by rw[e];simp⟩) (fun m hm=>?_) (fun b u e=>?_) I.bare
 ·obtain⟨f0,f1,f2,f3,f4,f5⟩:=hf b hb
  exact⟨f3,f1,f4,f5⟩
 ·obtain⟨o,es,ep,ho,r⟩:=hm
  exact⟨o,es,ep,k _ o (fun hb=>(hf _ hb).2.1 rfl) ho,r⟩
 ·refine(I.hok b u e).stay (fun c v hc q=>k c v ?_ q) (fun c q=>q) fun c ys q=>q
  rcases hc with z | z
  ·rw[z];exact nch e
  ·exact nch z
end
def CG(K:b9)(t u:Addr):It :=
 ⟨fun i H=>∃ xs ys x y,SqT K H t xs∧SqT K H u ys∧xs[i]?=some x∧ys[i]?=some y,
  fun i H v H'=>∃ p x y,v=.ref p∧H p=none∧H'=upd H p (.tup [x,y])∧∀ xs ys,SqT K H t xs→SqT K H u ys→xs[i]?=some x∧ys[i]?=some y,
  fun i H=>∃ xs ys,SqT K H t xs∧SqT K H u ys∧(xs.length≤i∨ys.length≤i)⟩
theorem wE{P:Program}{w:World}{K:b9}{es:List Expr}{x1}{pos:Pos}(z a b i j t u:Addr)(D:ZApart z a b i j t u):Turn P w K (.Tuple es x1 pos) (CG K t u) [z,a,b,i,j] z (fun k h=>ZSt h z a b i j t u k .none) where
 mem:=by simp
 obj:=fun k h st c hc=>by
  obtain⟨p,q,ho⟩:=st.own
  obtain⟨o1,g1,c1,d1⟩:=st.one
  obtain⟨o2,g2,c2,d2⟩:=st.two
  simp only [d9,j9,or_false] at hc
  rcases hc with rfl | rfl | rfl | rfl | rfl
  ·exact⟨_,st.zip,fun v e=>by cases e⟩
  ·exact⟨_,st.its,fun v e=>by cases e⟩
  ·exact⟨_,ho,fun v e=>by cases e⟩
  ·exact⟨o1,g1,fun v e=>by rw[d1] at e;cases e⟩
  ·exact⟨o2,g2,fun v e=>by rw[d2] at e;cases e⟩
 keep:=fun k h h' st kp=>st.at kp
 item:=by
  intro X hP hw hK hc k pins s σ H E I hf st hg
  subst hP hw hK
  obtain⟨xs,ys,x,y,hq1,hq2,hx,hy⟩:=hg
  obtain⟨v1,r1,p1,_⟩:=I.tuple hq1
  obtain⟨v2,r2,p2,_⟩:=I.tuple hq2
  obtain⟨ux,hux,rux⟩:=r1.get hx
  obtain⟨uy,huy,ruy⟩:=r2.get hy
  refine qR D st (show s.heap.IsTuple t v1.toArray from p1) (show s.heap.IsTuple u v2.toArray from p2) (x:=ux) (y:=uy) (by simpa using hux) (by simpa using huy) fun g S1 hT hn kp=>⟨_,rfl,?_⟩
  refine wpAny_letOwnedTupleGo_zip S1.zip fun g2 z2 e2=>?_
  have kp2:∀ c o,c≠z→c≠b→c≠i→c≠j→s.heap.get? c=some o→g2.get? c=some o:=fun c o c1 c2 c3 c4 e=>(e2.2 c c1).trans (kp c o c1 c2 c3 c4 e)
  have nz:s.heap.objs.size≠z:=x8 (d6 st.zip)
  have hT2:IsPair g2 s.heap.objs.size ux uy:=(e2.2 _ nz).trans hT
  have hsub:∀ c∈[z,b,i,j],cU X pins H c:=fun c hc=>hf c (by
   simp only [d9,j9,or_false] at hc ⊢
   rcases hc with h | h | h | h <;> simp[h])
  have kpn:∀ c o,c ∉ [z,b,i,j]→s.heap.get? c=some o→g2.get? c=some o:=fun c o hn e=>kp2 c o (fun q=>hn (by simp[q])) (fun q=>hn (by simp[q])) (fun q=>hn (by simp[q])) (fun q=>hn (by simp[q])) e
  have hHn:H s.heap.objs.size=none:=I.hok.fresh (c8 _)
  refine⟨.ref s.heap.objs.size,upd H s.heap.objs.size (.tup [x,y]),?_,rfl,⟨_,x,y,rfl,hHn,rfl,fun xs' ys' h1 h2=>by rw[I.tuple_inj h1 hq1,I.tuple_inj h2 hq2];exact⟨hx,hy⟩⟩,?_,fun c hc=>?_⟩
  ·exact I.turnedN (t':=s.toks) (h':=g2) kpn hsub (c8 _) ⟨by show 2≤sizeLine;decide,[ux,uy],.cons rux (.cons ruy .nil),⟨_,hT2,rfl,0,rfl⟩,⟨_,hT2,rfl⟩⟩
  ·obtain⟨p,q,ho⟩:=S1.own
   obtain⟨o1,g1,d1⟩:=S1.one
   obtain⟨o2,gg2,d2⟩:=S1.two
   exact⟨z2,(e2.2 _ D.az).trans S1.its,⟨p,q,(e2.2 _ D.bz).trans ho⟩,⟨o1,(e2.2 _ D.iz).trans g1,d1⟩,⟨o2,(e2.2 _ D.jz).trans gg2,d2⟩⟩
  ·have hce:c≠s.heap.objs.size:=by
    obtain⟨p,q,ho⟩:=st.own
    obtain⟨o1,g1,_⟩:=st.one
    obtain⟨o2,g2',_⟩:=st.two
    simp only [d9,j9,or_false] at hc
    rcases hc with rfl | rfl | rfl | rfl | rfl
    ·exact i7 (d6 st.zip)
    ·exact i7 (d6 st.its)
    ·exact i7 (d6 ho)
    ·exact i7 (d6 g1)
    ·exact i7 (d6 g2')
   rw[aG hce]
   exact(hf c hc).1
 done:=by
  intro X hP hw hK hc k pins s σ H E I hf st hg
  subst hP hw hK
  obtain⟨xs,ys,hq1,hq2,hn⟩:=hg
  obtain⟨v1,r1,p1,_⟩:=I.tuple hq1
  obtain⟨v2,r2,p2,_⟩:=I.tuple hq2
  have l1:=r1.length
  have l2:=r2.length
  refine tS (I.ok.hd hc) D st (show s.heap.IsTuple t v1.toArray from p1) (show s.heap.IsTuple u v2.toArray from p2) (by
   rcases hn with h | h
   ·exact .inl (by simp;omega)
   ·exact .inr (by simp;omega)) fun g kp=>⟨rfl,?_⟩
  refine I.turnedM (t':=s.toks) (ch:=[z,b,i,j]) (fun c o hn e=>kp c o (fun q=>hn (by simp[q])) (fun q=>hn (by simp[q])) (fun q=>hn (by simp[q])) (fun q=>hn (by simp[q])) e) fun c hc=>hf c ?_
  simp only [d9,j9,or_false] at hc ⊢
  rcases hc with h | h | h | h <;> simp[h]
 self:=fun A k s Q E st h=>wpAny_pyIter_zip st.zip h
section
variable {X:Cx}
theorem D7(n t u:Nat)(h1:t<n)(h2:u<n):ZApart (n+4) (n+2) (n+3) n (n+1) t u :=
 ⟨(by omega:(n+2:Nat)≠n+4),(by omega:(n+3:Nat)≠n+4),(by omega:(n:Nat)≠n+4),(by omega:(n+1:Nat)≠n+4),(by omega:(n+2:Nat)≠n+3),(by omega:(n+2:Nat)≠n),(by omega:(n+2:Nat)≠n+1),(by omega:(n+3:Nat)≠n),(by omega:(n+3:Nat)≠n+1),(by omega:(n:Nat)≠n+1),
  (by omega:(t:Nat)≠n+4),(by omega:(t:Nat)≠n+3),(by omega:(t:Nat)≠n),(by omega:(t:Nat)≠n+1),(by omega:(u:Nat)≠n+4),(by omega:(u:Nat)≠n+3),(by omega:(u:Nat)≠n),(by omega:(u:Nat)≠n+1)⟩
def Dv(K:b9)(ta:TA):TI:=fun σ H R=>ta σ H fun vs H1=>∃ t u,vs=[.ref t,.ref u]∧(∃ xs,SqT K H1 t xs)∧(∃ ys,SqT K H1 u ys)∧R (CG K t u) H1
theorem tN{pins:List (Addr×Obj)}{σ:St}{H:Hp}{s:Shared}{t u:Addr}{xs ys:Array Value}{Q:Value→Shared→Prop}{E:Value→Shared→Prop}(ht:s.heap.IsTuple t xs)(hu:s.heap.IsTuple u ys)
  (h:∀ g,ZSt g (s.heap.objs.size+4) (s.heap.objs.size+2) (s.heap.objs.size+3) s.heap.objs.size (s.heap.objs.size+1) t u 0 .none→(∀ c o,s.heap.get? c=some o→g.get? c=some o)→Q (.ref (s.heap.objs.size+4)) { s with heap:=g }) :
  wpAny (model X.prog X.w) X.A (call (.type "zip") [.ref t,.ref u]) Q E s:=by
 refine callType_new F.called_zip (by decide) (F.typeCall_zip_2 _ _) (F.newCall_zip_2 _ _) (fun obj=>F.args_object_init_3 obj _ _) F.entry_zip_new (rM t u xs ys) ⟨ht,hu,?_⟩
 have n1:(Db s.heap t).objs.size=s.heap.objs.size+1:=aQB ..
 have n2:(C_ s.heap t u).objs.size=s.heap.objs.size+2:=by rw[aQB,n1]
 have n3:(Dh s.heap t u).objs.size=s.heap.objs.size+3:=by rw[aQB,n2]
 have n4:(C9 s.heap t u).objs.size=s.heap.objs.size+4:=by rw[aQB,n3]
 have g5:(BB s.heap t u).get? (C9 s.heap t u).objs.size=some _:=d8 _ rfl
 have g4:(BB s.heap t u).get? (Dh s.heap t u).objs.size=some _:=a9 _ (d8 _ rfl)
 have g3:(BB s.heap t u).get? (C_ s.heap t u).objs.size=some _:=a9 _ (a9 _ (d8 _ rfl))
 have g2:(BB s.heap t u).get? (Db s.heap t).objs.size=some _:=a9 _ (a9 _ (a9 _ (d8 _ rfl)))
 have g1:(BB s.heap t u).get? s.heap.objs.size=some _:=a9 _ (a9 _ (a9 _ (a9 _ (d8 _ rfl))))
 show _∧_
 rw[n2,n3,n4] at g5
 rw[n1,n2] at g3
 rw[n3] at g4
 rw[n1] at g2
 rw[n4]
 exact⟨⟨_,g5,rfl⟩,h _ ⟨g5,g3,⟨_,_,g4⟩,⟨_,g1,rfl,rfl⟩,⟨_,g2,rfl,rfl⟩⟩ fun c o e=>a9 _ (a9 _ (a9 _ (a9 _ (a9 _ e))))⟩
theorem AM{es:List Expr}{x1}{tpos:Pos}{a b:Expr}{ta:TA}{p pos:Pos}{K:b9}(hK:X.K=K)(hg:Gl X "zip")(hm:X.mg "zip"=none)(ha:PA X [a,b] ta)(hs:starEach [a,b] X.env=[(false,eval a X.env),(false,eval b X.env)]:=by rfl)(hs2:starEach [b] X.env=[(false,eval b X.env)]:=by rfl) :
  PI X (.Tuple es x1 tpos) (.Call (.Name "zip" p) [a,b] [] pos) (Dv K ta):=by
 subst hK
 intro pins s σ H R I h
 refine Call_ (eX I hg hm boot_zip (w4 (bP (ha pos pins s σ H _ I h) fun us s1 ⟨vs,H1,I1,r1,q1⟩=>?_) (by rw[hs,hs2]) (by rw[hs2];rfl)))
 obtain⟨t,u,e,⟨xs,hx⟩,⟨ys,hy⟩,q⟩:=q1
 subst e
 obtain⟨v1,v2,rfl,rv1,rv2⟩:=rV r1
 cases rv1
 cases rv2
 obtain⟨w1,rw1,p1,_⟩:=I1.tuple hx
 obtain⟨w2,rw2,p2,_⟩:=I1.tuple hy
 have lt:t<s1.heap.objs.size:=by obtain⟨o,e,_⟩:=p1;exact d6 e
 have lu:u<s1.heap.objs.size:=by obtain⟨o,e,_⟩:=p2;exact d6 e
 refine tN (pins:=pins) (σ:=σ) (H:=H1) (show s1.heap.IsTuple t w1.toArray from p1) (show s1.heap.IsTuple u w2.toArray from p2) fun g st kp=>?_
 have I2:Inv X pins σ H1 { s1 with heap:=g }:=I1.kept (t':=s1.toks) kp
 have D:ZApart (s1.heap.objs.size+4) (s1.heap.objs.size+2) (s1.heap.objs.size+3) s1.heap.objs.size (s1.heap.objs.size+1) t u:=by
  exact D7 _ t u lt lu
 refine wpAny_pyIter_zip st.zip ⟨s1.heap.objs.size+4,[s1.heap.objs.size+4,s1.heap.objs.size+2,s1.heap.objs.size+3,s1.heap.objs.size,s1.heap.objs.size+1],_,_,H1,rfl,I2,wE _ _ _ _ _ t u D,st,fun c hc=>?_,q⟩
 have hle:s1.heap.objs.size≤c:=by
  simp only [d9,j9,or_false] at hc
  rcases hc with h | h | h | h | h <;> rw[h]
  ·exact aQR _ _
  ·exact aQR _ _
  ·exact aQR _ _
  ·exact c8 _
  ·exact aQR _ _
 exact I1.fpOk hle (I1.hok.fresh hle)
end
theorem zW{K:b9}{t u:Addr}{xs ys:List V}{g:TG}{tb:TS}{D:Ends}{σ:St}{H:Hp}(Pv:Nat→St→Hp→Prop)(h0:Pv 0 σ H)(hl:∀ i σ H,i≤min xs.length ys.length→Pv i σ H→SqT K H t xs∧SqT K H u ys)
  (hs:∀ i x y p σ H,xs[i]?=some x→ys[i]?=some y→H p=none→Pv i σ H→g (.ref p) σ (upd H p (.tup [x,y])) fun σ2 H2=>tb { D with nx:=Pv (i+1),ct:=Pv (i+1),bk:=D.nx } σ2 H2) (hd:∀ σ H,Pv (min xs.length ys.length) σ H→D.nx σ H) :
  ∃ W:Nat→Nat→St→Hp→Prop,(∃ m,W 0 m σ H)∧∀ i m σ H,W i m σ H →
   ((CG K t u).stop i H∧D.nx σ H)∨((CG K t u).go i H∧∃ N:St→Hp→Prop,(∀ σ' H',N σ' H'→∃ m',m' < m∧W (i+1) m' σ' H')∧∀ x H',(CG K t u).yld i H x H'→g x σ H' fun σ2 H2=>tb { D with nx:=N,ct:=N,bk:=D.nx } σ2 H2):=by
 refine⟨fun i m σ H=>m=min xs.length ys.length - i∧i≤min xs.length ys.length∧Pv i σ H,⟨_,rfl,l5 _,h0⟩,?_⟩
 rintro i m σ H ⟨rfl,hi,p⟩
 obtain⟨q1,q2⟩:=hl i σ H hi p
 by_cases hlt:i<min xs.length ys.length
 ·have l1:i<xs.length:=by omega
  have l2:i<ys.length:=by omega
  refine .inr ⟨⟨xs,ys,xs[i],ys[i],q1,q2,by simp[l1],by simp[l2]⟩,Pv (i+1),fun σ' H' p'=>⟨min xs.length ys.length - (i+1),by omega,rfl,hlt,p'⟩,fun v H' hv=>?_⟩
  obtain⟨pp,x,y,rfl,hn,rfl,hxy⟩:=hv
  obtain⟨ex,ey⟩:=hxy xs ys q1 q2
  exact hs i x y pp σ H ex ey hn p
 ·have e:i=min xs.length ys.length:=by omega
  subst e
  refine .inl ⟨⟨xs,ys,q1,q2,?_⟩,hd σ H p⟩
  rcases Nat.le_total xs.length ys.length with h | h
  ·exact .inl (by omega)
  ·exact .inr (by omega)
section
variable {κ:Type}[DecidableEq κ]
def cR(kvs:List (κ×V))(k:κ):Option V:=(kvs.find? fun kv=>decide (kv.1=k)).map (·.2)
def bV(kvs:List (κ×V))(k:κ)(v:V):List (κ×V) :=
 if (kvs.any fun kv=>decide (kv.1=k))=true then kvs.map (fun kv=>if kv.1=k then (kv.1,v) else kv) else kvs++[(k,v)]
theorem bU{p:κ×V}{r:List (κ×V)}{k:κ}(e:p.1=k):cR (p::r) k=some p.2:=by simp[cR,aQK,e]
theorem bW{p:κ×V}{r:List (κ×V)}{k:κ}(e:¬ p.1=k):cR (p::r) k=cR r k:=by simp[cR,aQK,e]
theorem hU(k:κ):∀ kvs:List (κ×V),(kvs.any fun kv=>decide (kv.1=k))=(cR kvs k).isSome
 | []=>rfl
 | p::r=>by
  rw[aQf]
  by_cases e:p.1=k
  ·simp only [bU e,decide_eq_true e,Bool.true_or,Option.isSome_some]
  ·rw[bW e,decide_eq_false e,Bool.false_or];exact hU k r
theorem pF(k j:κ)(y:V):∀ kvs:List (κ×V),cR (kvs.map fun kv=>if kv.1=k then (kv.1,y) else kv) j=(cR kvs j).map fun x=>if j=k then y else x
 | []=>rfl
 | p::r=>by
  have ih:=pF k j y r
  rw[k7]
  by_cases h:p.1=k
  ·rw[if_pos h]
   by_cases e:p.1=j
   ·rw[bU (p:=(p.1,y)) e,bU e,aQo,if_pos (e.symm.trans h)]
   ·rw[bW (p:=(p.1,y)) e,bW e,ih]
  ·rw[if_neg h]
   by_cases e:p.1=j
   ·rw[bU (p:=p) e,bU e,aQo,if_neg (fun z=>h (e.trans z))]
   ·rw[bW (p:=p) e,bW e,ih]
theorem mD(k j:κ)(y:V):∀ kvs:List (κ×V),cR kvs k=none→cR (kvs++[(k,y)]) j=if j=k then some y else cR kvs j
 | [],_=>by
  by_cases e:k=j
  ·rw[if_pos e.symm];exact bU (p:=(k,y)) e
  ·rw[if_neg (fun z=>e z.symm)];exact bW (p:=(k,y)) e
 | p::r,hn=>by
  rw[aZB]
  have hk:¬ p.1=k:=fun z=>by rw[bU z] at hn;cases hn
  rw[bW hk] at hn
  have ih:=mD k j y r hn
  by_cases e:p.1=j
  ·rw[bU e,bU e,if_neg (fun z=>hk (e.trans z))]
  ·rw[bW e,bW e,ih]
theorem eS(kvs:List (κ×V))(k j:κ)(y:V):cR (bV kvs k y) j=if j=k then some y else cR kvs j:=by
 unfold bV
 by_cases a:(kvs.any fun kv=>decide (kv.1=k))=true
 ·rw[if_pos a,pF]
  rw[hU] at a
  by_cases e:j=k
  ·obtain⟨x,hx⟩:=v0.mp a
   rw[if_pos e,e,hx,aQo,if_pos rfl]
  ·rw[if_neg e]
   cases cR kvs j with
   | none=>rfl
   | some x=>rw[aQo,if_neg e]
 ·rw[if_neg a]
  refine mD k j y kvs ?_
  rw[hU] at a
  cases q:cR kvs k with
  | none=>rfl
  | some x=>rw[q] at a;exact(a rfl).elim
theorem cC(kvs:List (κ×V))(k:κ)(v:V):(bV kvs k v).length≤kvs.length+1:=by
 unfold bV
 split
 ·rw[c6];omega
 ·rw[g9,l9,aZI];omega
theorem RelO.isSome_eq{o:Option V}{u:Option Value}(r:RelO o u):o.isSome=u.isSome:=by
 cases o with
 | none=>cases u with
  | none=>rfl
  | some _=>exact(show False from r).elim
 | some _=>cases u with
  | none=>exact(show False from r).elim
  | some _=>rfl
theorem KV.val{kvs:List (κ×V)}{vs:List (κ×Value)}(r:KV kvs vs)(k:κ):RelO (cR kvs k) (valueAt vs k):=by
 unfold KV at r
 induction r with
 | nil=>exact True.intro
 | @cons p q ps qs h t ih =>
  obtain⟨h1,h2⟩:=h
  by_cases e:p.1=k
  ·have e':q.1=k:=h1.symm.trans e
   have b:valueAt (q::qs) k=some q.2:=by simp[valueAt,aQK,e']
   rw[bU e,b];exact h2
  ·have e':¬ q.1=k:=fun z=>e (h1.trans z)
   have b:valueAt (q::qs) k=valueAt qs k:=by simp[valueAt,aQK,e']
   rw[bW e,b];exact ih
theorem KV.any{kvs:List (κ×V)}{vs:List (κ×Value)}(r:KV kvs vs)(k:κ):(kvs.any fun kv=>decide (kv.1=k))=vs.any fun kv=>decide (kv.1=k):=by
 unfold KV at r
 induction r with
 | nil=>rfl
 | cons h t ih=>rw[aQf,aQf,ih,h.1]
theorem KV.repl{kvs:List (κ×V)}{vs:List (κ×Value)}(r:KV kvs vs)(k:κ){y:V}{u:Value}(ry:RelV y u) :
  KV (kvs.map fun kv=>if kv.1=k then (kv.1,y) else kv) (vs.map fun kv=>if kv.1=k then (kv.1,u) else kv):=by
 unfold KV at r ⊢
 induction r with
 | nil=>exact .nil
 | @cons p q ps qs h t ih =>
  rw[k7,k7]
  refine .cons ?_ ih
  obtain⟨h1,h2⟩:=h
  by_cases e:p.1=k
  ·rw[if_pos e,if_pos (h1.symm.trans e)];exact⟨h1,ry⟩
  ·rw[if_neg e,if_neg (fun z=>e (h1.trans z))];exact⟨h1,h2⟩
theorem KV.put{kvs:List (κ×V)}{vs:List (κ×Value)}(r:KV kvs vs)(k:κ){y:V}{u:Value}(ry:RelV y u):KV (bV kvs k y) (stored vs k u):=by
 unfold bV stored
 rw[r.any k]
 by_cases e:(vs.any fun kv=>decide (kv.1=k))=true
 ·rw[if_pos e,if_pos e];exact r.repl k ry
 ·rw[if_neg e,if_neg e];exact aZr r ⟨rfl,ry⟩
theorem KV.length{kvs:List (κ×V)}{vs:List (κ×Value)}(r:KV kvs vs):kvs.length=vs.length:=aQe r
end
theorem sE{P:Program}{w:World}{k:bI}{u:Value}(r:RelV (kV k) u):(bH P w).is k u=true:=by
 cases k with
 | inl i=>obtain⟨t,e⟩:=(show ∃ t,u=Value.int i t from r);subst e;exact pK P w i t
 | inr x=>obtain⟨t,e⟩:=(show ∃ t,u=Value.str x t from r);subst e;exact oP P w x t
theorem lW{P:Program}{w:World}:∀ {ks:List bI} {us:List Value},Vals (ks.map kV) us→ItemsAre (bH P w) ks us
 | [],_,r=>by rw[aX9] at r;cases r;exact .nil
 | k::ks,_,r=>by
  rw[k7] at r
  cases r with
  | cons h t=>exact .cons (sE h) (lW t)
abbrev KT(H:Hp):List (List bI×V)→List (List bI×Addr×Value)→Prop:=Paired fun p q=>p.1=q.1∧H q.2.1=some (.tup (p.1.map kV))∧RelV p.2 q.2.2
theorem KT.val{H:Hp}{kvs:List (List bI×V)}{xs:List (List bI×Addr×Value)}(r:KT H kvs xs)(k:List bI):RelO (cR kvs k) ((atKey xs k).map (·.2)):=by
 induction r with
 | nil=>exact True.intro
 | @cons p q ps qs h t ih =>
  obtain⟨h1,_,h2⟩:=h
  by_cases e:p.1=k
  ·have e':q.1=k:=h1.symm.trans e
   have b:atKey (q::qs) k=some q.2:=by simp[atKey,aQK,e']
   rw[bU e,b];exact h2
  ·have e':¬ q.1=k:=fun z=>e (h1.trans z)
   have b:atKey (q::qs) k=atKey qs k:=by simp[atKey,aQK,e']
   rw[bW e,b];exact ih
theorem KT.repl{H:Hp}{kvs:List (List bI×V)}{xs:List (List bI×Addr×Value)}(r:KT H kvs xs)(k:List bI){y:V}{u:Value}(ry:RelV y u) :
  KT H (kvs.map fun kv=>if kv.1=k then (kv.1,y) else kv) (xs.map (putAt k u)):=by
 induction r with
 | nil=>exact .nil
 | @cons p q ps qs h t ih =>
  rw[k7,k7]
  refine .cons ?_ ih
  obtain⟨h1,h2,h3⟩:=h
  unfold putAt
  by_cases e:p.1=k
  ·rw[if_pos e,if_pos (h1.symm.trans e)];exact⟨h1,h2,ry⟩
  ·rw[if_neg e,if_neg (fun z=>e (h1.trans z))];exact⟨h1,h2,h3⟩
theorem KT.put{H:Hp}{kvs:List (List bI×V)}{xs:List (List bI×Addr×Value)}(r:KT H kvs xs)(k:List bI){b:Addr}{y:V}{u:Value}(hb:H b=some (.tup (k.map kV)))(ry:RelV y u) :
  KT H (bV kvs k y) (storedH xs k b u):=by
 have e:(kvs.any fun kv=>decide (kv.1=k))=(atKey xs k).isSome:=by
  rw[hU,(r.val k).isSome_eq,Option.isSome_map]
 unfold bV storedH
 rw[e]
 by_cases q:(atKey xs k).isSome=true
 ·rw[if_pos q,if_pos q];exact r.repl k ry
 ·rw[if_neg q,if_neg q];exact aZr r ⟨rfl,hb,ry⟩
theorem KT.keeps{H H':Hp}{kvs:List (List bI×V)}{xs:List (List bI×Addr×Value)}(r:KT H kvs xs)(ht:∀ b ys,H b=some (.tup ys)→H' b=some (.tup ys)):KT H' kvs xs :=
 Paired.mapP r fun _ _ z=>⟨z.1,ht _ _ z.2.1,z.2.2⟩
section
variable {P:Program}{w:World}{H:Hp}{h:Heap}{a:Addr}
theorem Az{u:HO}(ok:HOk P w H h)(e:Rd H a u):ObjOk P w H h a u:=e.ok ok
theorem xQ{kvs:List (bI×V)}(ok:HOk P w H h)(e:Rd H a (.dK kvs)):kvs.length≤sizeLine∧(a == sysModules)=false∧∃ vs,KV kvs vs∧h.DictOf (bH P w) a vs :=
 show ObjOk P w H h a (.dK kvs) from Az ok e
theorem Cp{kvs:List (bI×V)}(ok:HOk P w H h)(e:H a=some (.dK kvs)):kvs.length≤sizeLine∧(a == sysModules)=false∧∃ vs,KV kvs vs∧h.DictOf (bH P w) a vs:=xQ ok (.inl e)
theorem nD{ks:List bI}(ok:HOk P w H h)(e:H a=some (.tup (ks.map kV))):(tupleKind (bH P w)).is h ks a:=by
 obtain⟨_,its,r,⟨o,h1,h2,n,h3⟩,_⟩:=(show ObjOk P w H h a (.tup (ks.map kV)) from ok a _ e)
 exact⟨o,its.toArray,n,h1,h2,h3,by simpa using lW r⟩
theorem xE{kvs:List (List bI×V)}(ok:HOk P w H h)(e:Rd H a (.dT kvs)):kvs.length≤sizeLine∧(a == sysModules)=false ∧
  ∃ xs,KT H kvs xs∧h.DictOfH (tupleKind (bH P w)) a xs:=by
 obtain⟨z,y,xs,r,o,es,ep,h1,h2,h3,h4,h5⟩:=(show ObjOk P w H h a (.dT kvs) from Az ok e)
 refine⟨z,y,xs,r,o,es,ep,h1,h2,h3,h4,fun x hx=>?_,h5⟩
 have all:∀ {l:List (List bI×V)} {m:List (List bI×Addr×Value)},KT H l m→∀ x∈m,(tupleKind (bH P w)).is h x.1 x.2.1:=by
  intro l m q
  induction q with
  | nil=>intro x hx;exact nomatch hx
  | @cons p q ps qs hq t ih =>
   intro x hx
   rcases d9.mp hx with e | hx
   ·subst e
    exact nD ok (by rw[← hq.1];exact hq.2.1)
   ·exact ih x hx
 exact all r x hx
theorem vB{kvs:List (List bI×V)}(ok:HOk P w H h)(e:H a=some (.dT kvs)):kvs.length≤sizeLine∧(a == sysModules)=false ∧
  ∃ xs,KT H kvs xs∧h.DictOfH (tupleKind (bH P w)) a xs:=xE ok (.inl e)
end
def DGet(H:Hp)(a:Addr)(y:V)(r:Option V):Prop :=
 (∃ kvs k,Rd H a (.dK kvs)∧y=kV k∧r=cR kvs k)∨∃ kvs k b,Rd H a (.dT kvs)∧y=.ref b∧H b=some (.tup (k.map kV))∧r=cR kvs k
def DPut(H:Hp)(a:Addr)(y v:V)(H':Hp):Prop :=
 (∃ kvs k,H a=some (.dK kvs)∧y=kV k∧kvs.length<sizeLine∧H'=upd H a (.dK (bV kvs k v))) ∨
 ∃ kvs k b,H a=some (.dT kvs)∧y=.ref b∧H b=some (.tup (k.map kV))∧kvs.length<sizeLine∧H'=upd H a (.dT (bV kvs k v))
theorem DGet.k{H:Hp}{a:Addr}{kvs:List (bI×V)}{k:bI}(e:H a=some (.dK kvs)):DGet H a (kV k) (cR kvs k):=.inl ⟨kvs,k,.inl e,rfl,rfl⟩
theorem DPut.k{H:Hp}{a:Addr}{kvs:List (bI×V)}{k:bI}{v:V}(e:H a=some (.dK kvs))(hl:kvs.length<sizeLine):DPut H a (kV k) v (upd H a (.dK (bV kvs k v))):=.inl ⟨kvs,k,e,rfl,hl,rfl⟩
theorem DPut.t{H:Hp}{a b:Addr}{kvs:List (List bI×V)}{k:List bI}{v:V}(e:H a=some (.dT kvs))(eb:H b=some (.tup (k.map kV)))(hl:kvs.length<sizeLine) :
  DPut H a (.ref b) v (upd H a (.dT (bV kvs k v))):=.inr ⟨kvs,k,b,e,rfl,eb,hl,rfl⟩
section
variable {X:Cx}{pins:List (Addr×Obj)}{σ:St}{H:Hp}{s:Shared}{a:Addr}{y v:V}{u r:Value}{o:Option V}{A:Around}{E:Value→Shared→Prop}
theorem Inv.big(I:Inv X pins σ H s):sysModules<s.heap.objs.size:=by
 have h:mainGlobals<s.heap.objs.size:=(I.mod.glob.keeps I.bk).lt
 exact aXe (by decide) h
theorem sY{Q:Value→Shared→Prop}(hu:A.units+1<cLine)(I:Inv X pins σ H s)(g:DGet H a y (some v))(ry:RelV y u)(h:∀ w' s',Inv X pins σ H s'→RelV v w'→Q w' s') :
  wpAny (model X.prog X.w) A (getItem (.ref a) u) Q E s:=by
 rcases g with ⟨kvs,k,e,ey,l⟩ | ⟨kvs,k,b,e,ey,eb,l⟩
 ·subst ey
  obtain⟨z,hd,vs,rel,dd⟩:=xQ I.hok e
  obtain⟨w',hw,rw'⟩:=RelO.some_of (v:=v) (o:=valueAt vs k) (by rw[l];exact rel.val k)
  exact wpAny_getItem_of (sE ry) dd.mapOf hw (h w' _ (I.tok _) rw')
 ·subst ey
  cases (show u=Value.ref b from ry)
  obtain⟨z,hd,xs,rel,dd⟩:=xE I.hok e
  obtain⟨w',hw,rw'⟩:=RelO.some_of (v:=v) (o:=(atKey xs k).map (·.2)) (by rw[l];exact rel.val k)
  obtain⟨p,hp,hp2⟩:=m8.mp hw
  refine wpAny_getItem_heap (tupleKind_room_in1 hu) (nD I.hok eb) dd hp ?_
  rw[hp2]
  exact h w' _ (I.tok _) rw'
theorem nM{h':Heap}{t':Nat}{ob:HO}(I:Inv X pins σ H s)(mu:BN (H a))(hs:Heap.SameBut a s.heap h')(he:∃ q,h'.get? a=some q)(new:ObjOk X.prog X.w (upd H a ob) h' a ob) :
  Inv X pins σ (upd H a ob) { s with heap:=h',toks:=t' } :=
 I.write (x:=a) (e:=a) mu (.inl rfl) (fun b q hb z=>(hs.2 b hb).trans z) he new
theorem A3{P:Program}{w:World}{H':Hp}{h':Heap}{kvs:List (bI×V)}{vs:List (bI×Value)}(z:kvs.length≤sizeLine)(hd:(a == sysModules)=false)(rel:KV kvs vs)(dd:h'.DictOf (bH P w) a vs) :
  ObjOk P w H' h' a (.dK kvs):=⟨z,hd,vs,rel,dd⟩
theorem uW{H':Hp}{Q:Unit→Shared→Prop}(hu:A.units+1<cLine)(I:Inv X pins σ H s)(g:DPut H a y v H')(ry:RelV y u)(rv:RelV v r)(h:∀ s',Inv X pins σ H' s'→Q () s') :
  wpAny (model X.prog X.w) A (setItem (.ref a) u r) Q E s:=by
 rcases g with ⟨kvs,k,e,ey,l,eH⟩ | ⟨kvs,k,b,e,ey,eb,l,eH⟩
 ·subst ey eH
  obtain⟨z,hd,vs,rel,dd⟩:=Cp I.hok e
  have hz:vs.length≤sizeLine:=by rw[← rel.length];exact z
  have hl:(bV kvs k v).length≤sizeLine:=by have:=cC kvs k v;omega
  refine wpAny_setItem_pairs (hsz:=hz) (sE ry) dd fun h' dd' hs=>h _ ?_
  have he:∃ q,h'.get? a=some q:=let ⟨q,_,_,hq,_⟩:=dd';⟨q,hq⟩
  exact nM I (by rw[e];exact True.intro) hs he (A3 hl hd (rel.put k rv) dd')
 ·subst ey eH
  cases (show u=Value.ref b from ry)
  obtain⟨z,hd,xs,rel,dd⟩:=vB I.hok e
  have hz:xs.length≤sizeLine:=by rw[← aQe rel];exact z
  have hl:(bV kvs k v).length≤sizeLine:=by have:=cC kvs k v;omega
  refine wpAny_setItem_heap (hsz:=hz) (tupleKind_room_in1 hu) (nD I.hok eb) dd fun h' dd' hs=>h _ ?_
  obtain⟨q,es,ep,hq,h2,h3,h4,_,h5⟩:=dd'
  refine nM I (by rw[e];exact True.intro) hs ⟨q,hq⟩ ⟨hl,hd,_,(rel.put k eb rv).keeps fun c ys ec=>?_,q,es,ep,hq,h2,h3,h4,h5⟩
  rw[aG (eU ec e (fun z=>nomatch z))]
  exact ec
end
def BJ(i:Expr):Prop:=∀ ov iv,subscripted i false ov iv=operate [ov,iv] (getItem ov iv)
theorem As{prog:Program}{w:World}{A:Around}{E:Value→Shared→Prop}{s:Shared}{env:Env}{value slice:Expr}{pos:Pos}{T id:String}{Q:Value→Shared→Prop}
  (hl:typeLookup (.type T) "__getitem__"=pure (some (.builtin id))) (hs:BJ slice)
  (h:wpAny (model prog w) A (eval value env) (fun o s₁=>wpAny (model prog w) A (eval slice env) (fun i s₂=>s₂.TypeIs o T∧wpAny (model prog w) A (getItem o i) Q E s₂) E s₁) E s) :
  wpAny (model prog w) A (eval (.Subscript value slice pos) env) Q E s:=by
 refine Subscript_ (wpAny_mono h (fun o s₁ h₁=>wpAny_mono h₁ (fun i s₂ h₂=>?_) fun _ _ x=>x) fun _ _ x=>x)
 obtain⟨hT,h₂⟩:=h₂
 unfold subscriptTail
 refine wpAny_bind ?_
 rw[getitemInPython_of_ne hT.not_modules]
 refine wpAny_bind (wpAny_specialOf hT hl ?_)
 have fin:wpAny (model prog w) A (subscripted slice false o i) (fun r s₃=>wpAny (model prog w) A (letTemporaryGo value o r >>= fun _=>pure r) Q E s₃) E s₂:=by
  rw[hs o i]
  exact wpAny_operating (wpAny_mono h₂ (fun r s₃ h₃=>wpAny_bind (wpAny_letTemporaryGo (wpAny_pure h₃))) fun _ _ x=>x)
 first
  | exact wpAny_pure (wpAny_bind fin)
  | exact wpAny_bind (wpAny_pure (wpAny_bind fin))
  | exact wpAny_bind fin
theorem pU{X:Cx}{pins:List (Addr×Obj)}{σ:St}{H:Hp}{s:Shared}{a:Addr}{y:V}{o:Option V}(I:Inv X pins σ H s)(g:DGet H a y o):s.TypeIs (.ref a) "dict":=by
 rcases g with ⟨kvs,k,e,_,_⟩ | ⟨kvs,k,b,e,_,_,_⟩
 ·obtain⟨_,_,vs,_,dd⟩:=xQ I.hok e
  exact dd.typeIs
 ·obtain⟨_,_,xs,_,dd⟩:=xE I.hok e
  exact dd.typeIs
inductive tDGetI(Q:VK)(x:V)(y:V)(H2:Hp):Prop
 | mk (a v:_) (_:x=.ref a) (_:DGet H2 a y (some v)) (_:Q v H2):tDGetI Q x y H2
def CM(td ty:TE):TE:=fun σ H Q=>td σ H fun x H1=>ty σ H1 fun y H2=>tDGetI Q x y H2
def CV(td ty tv:TE):TS:=fun D σ H=>tv σ H fun v H1=>td σ H1 fun x H2=>ty σ H2 fun y H3=>∃ a H4,x=.ref a∧DPut H3 a y v H4∧D.nx σ H4
section
variable {X:Cx}{o i e value:Expr}{pos pos' tpos:Pos}{td ty tv:TE}
theorem oB(hu:X.A.units+1<cLine)(ho:PE X o td)(hi:PE X i ty)(hs:BJ i):PE X (.Subscript o i pos) (CM td ty):=by
 intro pins s σ H Q I h
 refine As PySem.F.slot_dict_getitem.lookup hs (bP (ho pins s σ H _ I h) fun u s1 ⟨x,H1,I1,rx,q1⟩=>bP (hi pins s1 σ H1 _ I1 q1) fun iv s2 ⟨y,H2,I2,ry,a,v,ex,g,q2⟩=>?_)
 subst ex
 obtain rfl:u=Value.ref a:=rx
 exact⟨pU I2 g,sY hu I2 g ry fun w' s3 I3 rw'=>⟨v,H2,I3,rw',q2⟩⟩
theorem hV(hu:X.A.units+1<cLine)(ho:PE X o td)(hi:PE X i ty)(hv:PE X value tv)(hs:swapsWith value (some (.Subscript o i pos')) pos.line X.env=pure false) :
  PS X (.Assign [.Subscript o i pos'] value pos) (CV td ty tv):=by
 intro pins s σ H D I h
 refine wpAny_Assign_Subscript (bP (hv pins s σ H _ I h) fun r s1 ⟨v,H1,I1,rv,q1⟩=>bP (ho pins s1 σ H1 _ I1 q1) fun u s2 ⟨x,H2,I2,rx,q2⟩=>bP (hi pins s2 σ H2 _ I2 q2) fun iv s3 ⟨y,H3,I3,ry,a,H4,ex,g,q3⟩=>?_) hs
 subst ex
 obtain rfl:u=Value.ref a:=rx
 exact uW hu I3 g ry rv fun s4 I4=>⟨σ,H4,I4,q3⟩
end
theorem xO{P:Program}{w:World}{H:Hp}(h:Heap)(hb:sysModules<h.objs.size):ObjOk P w H (h.push { cls:=.type "dict",data:=.dict #[] }) h.objs.size (.dK []) :=
 ⟨l5 _,beq_eq_false_iff_ne.mpr (aQM (i7 hb)),[],.nil,aZJ h⟩
theorem xU{P:Program}{w:World}{H:Hp}(h:Heap)(hb:sysModules<h.objs.size):ObjOk P w H (h.push { cls:=.type "dict",data:=.dict #[] }) h.objs.size (.dT []) :=
 ⟨l5 _,beq_eq_false_iff_ne.mpr (aQM (i7 hb)),[],.nil,_,#[],0,d8 _ rfl,⟨rfl,rfl,rfl⟩,rfl,rfl,aZO⟩
def Br:TE:=fun _ H Q=>∀ p,H p=none→Q (.ref p) (upd H p (.dK []))
section
variable {X:Cx}{pos:Pos}
theorem qD:PE X (.Dict [] [] pos) Br:=fun pins s σ H Q I h =>
 wpAny_Dict_empty ⟨.ref s.heap.objs.size,_,I.laid (a:=s.heap.objs.size) (o:=.dK []) (t':=s.toks) (fun _ _ q=>a9 _ q) (c8 _) (xO s.heap I.big),rfl,h _ (I.hok.fresh (c8 _))⟩
end
def fK(kvs more:List (bI×V)):List (bI×V):=more.foldl (fun acc kv=>bV acc kv.1 kv.2) kvs
theorem KV.merge:∀ {more:List (bI×V)} {rs:List (bI×Value)} {kvs:List (bI×V)} {vs:List (bI×Value)},KV more rs→KV kvs vs→KV (fK kvs more) (merged vs rs):=by
 intro more rs kvs vs r
 unfold KV at r
 induction r generalizing kvs vs with
 | nil=>intro q;exact q
 | @cons p q ps qs h t ih =>
  intro r0
  have e:KV (bV kvs p.1 p.2) (stored vs q.1 q.2):=by
   have:=r0.put p.1 h.2
   rw[← h.1];exact this
  exact ih e
def mJ(xs:List V)(f:Nat→Nat)(l:List Nat):List V:=l.filterMap fun m=>xs[f m]?
theorem kG{xs:List V}{us:List Value}(r:Vals xs us)(f:Nat→Nat):∀ l:List Nat,Vals (mJ xs f l) (l.filterMap fun m=>us[f m]?)
 | []=>.nil
 | m::l=>by
  have ih:=kG r f l
  unfold mJ at *
  rw[aQF,aQF]
  cases hx:xs[f m]? with
  | none =>
   have:us[f m]?=none:=by
    have h1:=r.length
    have h2:=aXK.mp hx
    exact x2 (by omega)
   rw[this]
   exact ih
  | some x =>
   obtain⟨u,hu,ru⟩:=r.get hx
   rw[hu]
   exact .cons ru ih
theorem tJ(xs:List V)(f:Nat→Nat)(l:List Nat):(mJ xs f l).length≤l.length:=aXM _ _
section
variable {prog:Program}{w:World}{A:Around}{E:Value→Shared→Prop}{s:Shared}
theorem pN{sl:Addr}{vu vk:Value}{j n:Nat}{Q:Int×Int×Nat→Shared→Prop}(hs:s.heap.IsSliceOf sl .none vu vk)(pu:IsPart vu (some (j:Int)))(pk:IsPart vk (some 2))(hj:j≤n)
  (h:Q (0,2,(j+1) / 2) s):wpAny (model prog w) A (Builtin.Slice.sliceApplied (.ref sl) (pure (n:Int))) Q E s:=by
 obtain⟨os,hos,hcs,hds⟩:=id hs
 unfold Builtin.Slice.sliceApplied Builtin.Slice.sliceFields
 refine wpAny_bind (wpAny_bind (wpAny_field hos hds (x:=.none) rfl (wpAny_bind (wpAny_field hos hds (x:=vu) rfl (wpAny_bind (wpAny_field hos hds (x:=vk) rfl (wpAny_pure ?_)))))))
 refine wpAny_bind (HT.slicePart_ pk ?_)
 show wpAny _ _ (if ((2:Int) == 0)=true then _ else _) _ _ s
 rw[if_neg (by decide)]
 refine wpAny_bind (HT.slicePart_ .none (wpAny_bind (HT.slicePart_ pu (wpAny_bind (wpAny_pure ?_)))))
 show wpAny _ _ (match Builtin.Slice.sliceAdjust none (some (j:Int)) 2 (n:Int) with | (lo,hi)=>pure (lo,(2:Int),Builtin.Slice.slicePlaces lo hi 2)) _ _ s
 have e1:Builtin.Slice.sliceAdjust none (some (j:Int)) 2 (n:Int)=(0,(j:Int)):=by
  unfold Builtin.Slice.sliceAdjust
  have h1:¬ ((2:Int)<0):=by omega
  have h2:¬ ((j:Int)<0):=by omega
  simp only [if_neg h1,if_neg h2]
  congr 1
  omega
 rw[e1]
 show wpAny _ _ (pure ((0:Int),(2:Int),Builtin.Slice.slicePlaces 0 (j:Int) 2)) _ _ s
 have e2:Builtin.Slice.slicePlaces 0 (j:Int) 2=(j+1) / 2:=by
  unfold Builtin.Slice.slicePlaces
  rw[if_pos (by omega)]
  split <;> omega
 rw[e2]
 exact wpAny_pure h
theorem xG{t sl:Addr}{items:Array Value}{vu vk:Value}{j:Nat}{Q:Value→Shared→Prop}(ht:IsTup s.heap t items)(hs:s.heap.IsSliceOf sl .none vu vk)(pu:IsPart vu (some (j:Int)))(pk:IsPart vk (some 2))(hj:j≤items.size)
  (h:Q (.ref s.heap.objs.size) { s with heap:=s.heap.push { cls:=.type "tuple",data:=.seq ((List.range ((j+1) / 2)).filterMap fun m=>items.toList[2 * m]?).toArray } })
  (hsz:items.size≤sizeLine):wpAny (model prog w) A (getItem (.ref t) (.ref sl)) Q E s:=by
 have htake:sizeOk (.seq ((List.range ((j+1) / 2)).filterMap fun m=>items.toList[2 * m]?).toArray):=by
  show ((List.range ((j+1) / 2)).filterMap fun m=>items.toList[2 * m]?).toArray.size≤sizeLine
  rw[f9]
  refine m7 (aXM _ _) ?_
  rw[aQ4]
  omega
 obtain⟨os,hos,hcs,hds⟩:=id hs
 have hTs:s.TypeIs (.ref sl) "slice":=⟨os,hos,hcs⟩
 unfold getItem
 try with_reducible refine wpAny_holding ?_
 first | refine wpAny_bind (wpAny_pure ?_) | skip
 refine wpAny_bind (wpAny_sequenceKey ht.typeIs (by decide) ?_)
 refine wpAny_bind (wpAny_callSpecial?_slot (name:=Str.ofString "__getitem__") ht.typeIs aQH
  (wpAny_call_entry aQH ht.typeIs entry_tuple_getitem ?_ (args_tuple_getitem _ _)))
 show wpAny _ _ (Builtin.Tuple.tupleItemsOf (.ref t) >>= _) _ _ s
 refine wpAny_bind (tupleItemsOf_ ht ?_)
 refine wpAny_bind (wpAny_typeOf hTs ?_)
 rw[if_pos (by decide)]
 refine wpAny_bind (pN hs pu pk hj ?_)
 show wpAny _ _ (if ((0:Int) == 0 && (2:Int) == 1 && ((j+1) / 2) == items.size)=true then _ else _) _ _ s
 rw[if_neg (by simp)]
 have e:(fun (m:Nat)=>items[((0:Int)+(m:Int) * 2).toNat]?)=fun m=>items.toList[2 * m]?:=by
  funext m
  have:((0:Int)+(m:Int) * 2).toNat=2 * m:=by omega
  rw[this]
  simp
 rw[e]
 first
  | exact wpAny_bind (m:=Builtin.Tuple.tupleExact _) (wpAny_newObj_type (wpAny_pure ⟨_,rfl,wpAny_pure h⟩) htake)
  | exact wpAny_bind (m:=Builtin.Tuple.tupleExact _) (wpAny_newObj_type (wpAny_bind (wpAny_pure (wpAny_pure ⟨_,rfl,wpAny_pure h⟩))) htake)
  | exact wpAny_bind (wpAny_bind (m:=Builtin.Tuple.tupleExact _) (wpAny_newObj_type (wpAny_pure (wpAny_pure ⟨_,rfl,wpAny_pure h⟩)) htake))
  | exact wpAny_bind (wpAny_bind (m:=Builtin.Tuple.tupleExact _) (wpAny_newObj_type (wpAny_pure ⟨_,rfl,wpAny_pure h⟩) htake))
end
inductive rSl2I(K:b9)(x:V)(lo:Option Int)(hi:Option Int)(st:Option Int)(H:Hp)(Q:VK):Prop
 | mk (a:Addr) (xs:List V) (j:Nat) (_:x=.ref a) (_:SqT K H a xs) (_:lo=none) (_:hi=some (j:Int)) (_:st=some 2) (_:j≤xs.length) (_:∀ p,H p=none→Q (.ref p) (upd H p (.tup (mJ xs (2 * ·) (List.range ((j+1) / 2)))))):rSl2I K x lo hi st H Q
def DP(K:b9):V→Option Int→Option Int→Option Int→Hp→VK→Prop:=fun x lo hi st H Q=>rSl2I K x lo hi st H Q
theorem xD{X:Cx}{K:b9}(hK:X.K=K):Cu X (DP K):=by
 subst hK
 intro pins s σ H x v vl vu vk lo hi st sl Q I rx hs pl pu pk h
 obtain⟨a,xs,j,rfl,hx,rfl,rfl,rfl,hj,q⟩:=h
 cases rx
 cases pl
 obtain⟨its,r,ht,hz⟩:=I.tuple hx
 have hlen:=r.length
 refine⟨"tuple",_,aQH.lookup,ht.typeIs,?_⟩
 refine xG ht hs pu pk (by rw[f9];omega) ?_ (by rw[f9];omega)
 have rv:=kG r (2 * ·) (List.range ((j+1) / 2))
 have pl:=tJ xs (2 * ·) (List.range ((j+1) / 2))
 rw[aQ4] at pl
 refine⟨.ref s.heap.objs.size,_,I.laid (t':=s.toks) (o:=.tup (mJ xs (2 * ·) (List.range ((j+1) / 2)))) (fun b ob q=>a9 _ q) (c8 _) ?_,rfl,q _ (I.hok.fresh (c8 _))⟩
 refine⟨by omega,_,rv,?_⟩
 exact⟨aZQ _ _,NoD.new _ _⟩
end L2
namespace Lw
open PySem PySem.Spec PyProof.Rows L2 Ma MaR
def dS(rs:List (List Nat)):List V:=rs.map fun x=>V.str (S x)
theorem eI(rs:List (List Nat)):(dS rs).length=rs.length:=by unfold dS;rw[c6]
theorem jI{rs:List (List Nat)}{i:Nat}{v:V}(h:(dS rs)[i]?=some v):∃ x,rs[i]?=some x∧v=.str (S x):=by
 unfold dS at h
 rw[f6] at h
 cases hq:rs[i]? with
 | none=>rw[hq] at h;cases h
 | some x=>rw[hq] at h;exact⟨x,rfl,(j7 h).symm⟩
theorem A_{rs:List (List Nat)}{i:Nat}{x:List Nat}(h:rs[i]?=some x):(dS rs)[i]?=some (.str (S x)):=by unfold dS;rw[f6,h];rfl
structure RT(rs:List (List Nat))(n M:Nat):Prop where
 len:rs.length=n
 all:∀ x∈rs,AllL x
 le:∀ x∈rs,x.length≤M
def tell(rs:List (List Nat))(c:Nat):List Nat:=if bJ c=true then rs.getD (c - 97) [] else back (rs.getD (c - 65) [])
def told(rs:List (List Nat))(w:List Nat):List Nat:=w.flatMap (tell rs)
def retl(rs:List (List Nat))(w:List Nat):List Nat:=lay (told rs w)
theorem gZ{rs:List (List Nat)}{P:List Nat→Prop}(h0:P [])(h:∀ x∈rs,P x)(i:Nat):P (rs.getD i []):=by
 rw[d5]
 cases hq:rs[i]? with
 | none=>exact h0
 | some x=>exact h x (d7 hq)
section
variable {rs:List (List Nat)}{n M:Nat}
theorem RT.getA(r:RT rs n M)(i:Nat):AllL (rs.getD i []):=gZ AllL.nil r.all i
theorem RT.getL(r:RT rs n M)(i:Nat):(rs.getD i []).length≤M:=gZ (P:=fun x=>x.length≤M) (l5 _) r.le i
theorem vQ(r:RT rs n M)(c:Nat):AllL (tell rs c):=by
 unfold tell
 split
 ·exact r.getA _
 ·exact vZ (r.getA _)
theorem pT(r:RT rs n M)(c:Nat):(tell rs c).length≤M:=by
 unfold tell
 split
 ·exact r.getL _
 ·rw[kE];exact r.getL _
theorem vO(u v:List Nat):told rs (u++v)=told rs u++told rs v:=by unfold told;rw[List.flatMap_append]
theorem gD(c:Nat)(w:List Nat):told rs (c::w)=tell rs c++told rs w:=by unfold told;rw[List.flatMap_cons]
theorem xV:told rs []=[]:=rfl
theorem kT(r:RT rs n M)(w:List Nat):AllL (told rs w):=by
 induction w with
 | nil=>exact AllL.nil
 | cons c w ih=>rw[gD];exact AllL.app.mpr ⟨vQ r c,ih⟩
theorem iR(r:RT rs n M)(w:List Nat):(told rs w).length≤w.length * M:=by
 induction w with
 | nil=>simp[told]
 | cons c w ih =>
  rw[gD,g9,l9,Nat.succ_mul]
  have:=pT r c
  omega
theorem vE(r:RT rs n M)(w:List Nat):AllL (retl rs w):=yY (kT r w)
theorem pB(r:RT rs n M)(w:List Nat):(retl rs w).length≤w.length * M:=m7 (nA _) (iR r w)
end
def aS(n:Nat):List Nat:=[97,98,99,100].take n
def gN(n:Nat):List (List Nat):=(aS n).map fun c=>[c]
theorem jJ(n:Nat):dS (gN n)=aO (aS n):=by unfold dS gN aO;rw[m6];rfl
theorem sO{n:Nat}(h1:1≤n)(h4:n≤4):n=1∨n=2∨n=3∨n=4:=by omega
theorem zU{n:Nat}(h1:1≤n)(h4:n≤4):RT (gN n) n 1:=by
 refine⟨?_,?_,?_⟩
 ·rcases sO h1 h4 with rfl | rfl | rfl | rfl <;> rfl
 ·intro x hx
  obtain⟨c,hc,rfl⟩:=i4.mp hx
  intro d hd
  rw[c9.mp hd]
  have:c∈[97,98,99,100]:=m9 hc
  simp only [d9,j9,or_false] at this
  unfold bS
  omega
 ·intro x hx
  obtain⟨c,_,rfl⟩:=i4.mp hx
  exact c8 _
theorem _root_.L2.SqT.same{K:b9}{H H':Hp}{a:Addr}{xs:List V}(s:Same H H')(h:SqT K H a xs):SqT K H' a xs:=by
 rcases h with (h | ⟨o,h⟩) | h
 ·exact .inl (.inl (s _ _ h))
 ·exact .inl (.inr ⟨o,s _ _ h⟩)
 ·exact .inr h
theorem SqT.new{K:b9}{H:Hp}{a p:Addr}{xs:List V}{o:HO}(h:SqT K H a xs)(hp:H p=none):SqT K (upd H p o) a xs:=h.same (Same.new hp)
inductive spFirst(vs:List V)(H:Hp)(Q:VK)(E:XK):Prop
 | mk (n:Nat) (_:vs=[.int (n:Nat)]) (_:1≤n) (_:n≤4) (_:∀ (p:Addr) (H':Hp),H p=none→Same H H'→H' p=some (.tup (dS (gN n)))→Q (.ref p) H'):spFirst vs H Q E
def DU(kvs:List (bI×V))(rs:List (List Nat)):Prop:=∀ c,c∈aL rs.length→cR kvs (.inr (S [c]))=some (.str (S (tell rs c)))
inductive spRetold(K:b9)(vs:List V)(H:Hp)(Q:VK)(E:XK):Prop
 | mk (a:Addr) (rs:List (List Nat)) (n M:Nat) (w:List Nat) (_:vs=[.ref a,.str (S w)]) (_:SqT K H a (dS rs)) (_:RT rs n M) (_:1≤n) (_:n≤4) (_:M≤1000) (_:OfN n w) (_:w.length≤60000) (_:w.length * M≤60000) (_:∀ H',Same H H'→Q (.str (S (retl rs w))) H'):spRetold K vs H Q E
def letV:List V:=aO lets
theorem wN:letV.length=8:=rfl
theorem Ah{xs:List V}{i:Array Value}(h:Vals xs i.toList)(hl:xs.length≤1000):i.size≤sizeLine:=by
 have h2:xs.length=i.toList.length:=h.length
 have h3:i.toList.length=i.size:=aQG
 exact aK (by omega)
theorem tL{n:Nat}(h1:1≤n)(h4:n≤4):mJ letV (2 * ·) (List.range ((2 * n+1) / 2))=dS (gN n):=by
 rcases sO h1 h4 with rfl | rfl | rfl | rfl <;> rfl
def xS(kvs:List (bI×V))(rs:List (List Nat))(i:Nat):Prop:=∀ j,j<i→cR kvs (.inr (S [97+j]))=some (.str (S (tell rs (97+j))))∧cR kvs (.inr (S [65+j]))=some (.str (S (tell rs (65+j))))
theorem nP(a b:Nat):((Sum.inr (S [a]):bI)=Sum.inr (S [b]))↔a=b:=by
 constructor
 ·intro h
  have:=pP (aZn h)
  simpa using this
 ·rintro rfl;rfl
theorem sK{rs:List (List Nat)}{kvs:List (bI×V)}{i:Nat}{r:List Nat}(hi:rs[i]?=some r)(hi4:i<4)(h:xS kvs rs i) :
  xS (bV (bV kvs (.inr (S [97+i])) (.str (S r))) (.inr (S [aZ (97+i)])) (.str (S (back r)))) rs (i+1):=by
 have ec:aZ (97+i)=65+i:=by unfold aZ;rw[if_pos (by omega)];omega
 have e1:tell rs (97+i)=r:=by
  unfold tell
  rw[if_pos (by unfold bJ;exact decide_eq_true (by omega)),show 97+i - 97=i by omega,d5,hi];rfl
 have e2:tell rs (65+i)=back r:=by
  unfold tell
  rw[if_neg (by unfold bJ;simp;omega),show 65+i - 65=i by omega,d5,hi];rfl
 intro j hj
 rw[eS,eS,eS,eS,ec]
 simp only [nP]
 by_cases c:j=i
 ·subst c
  rw[if_neg (by omega),if_pos rfl,if_pos rfl,e1,e2]
  exact⟨rfl,rfl⟩
 ·rw[if_neg (by omega),if_neg (by omega),if_neg (by omega),if_neg (by omega)]
  exact h j (by omega)
theorem rW{rs:List (List Nat)}{kvs:List (bI×V)}{n:Nat}(hl:rs.length=n)(h1:1≤n)(h4:n≤4)(h:xS kvs rs n):DU kvs rs:=by
 intro c hc
 rw[hl] at hc
 have hd:(c - 97<n∧97≤c)∨(c - 65<n∧c<97∧65≤c):=by
  have hL:=aM (aE hc)
  rcases sO h1 h4 with rfl | rfl | rfl | rfl <;> rcases hL with rfl | rfl | rfl | rfl | rfl | rfl | rfl | rfl <;> revert hc <;> decide
 rcases hd with ⟨h2,h3⟩ | ⟨h2,h3,h5⟩
 ·have:=(h (c - 97) h2).1
  rw[show 97+(c - 97)=c by omega] at this
  exact this
 ·have:=(h (c - 65) h2).2
  rw[show 65+(c - 65)=c by omega] at this
  exact this
theorem sM{n i:Nat}(h4:n≤4){v:V}(h:(dS (gN n))[i]?=some v):v=.str (S [97+i])∧i<n:=by
 have hi:i<n:=by
  have:=(c5.mp h).1
  rw[eI] at this
  unfold gN aS at this
  rw[c6,k9] at this
  omega
 obtain⟨x,hx,rfl⟩:=jI h
 unfold gN aS at hx
 rw[f6,aQC hi] at hx
 have:i=0∨i=1∨i=2∨i=3:=by omega
 rcases this with rfl | rfl | rfl | rfl <;> (cases hx;exact⟨rfl,hi⟩)
theorem rQ:(Str.ofString "abcd":Str)=S [97,98,99,100]:=by decide +kernel
theorem sQ{c:Nat}(h:bS c):(Builtin.Str.occurrences (Str.ofString "abcd") (S [lo c]) 0 (Str.ofString "abcd").length 1).isEmpty=false∧Txt.find (Str.ofString "abcd") (S [lo c])=((lo c - 97:Nat):Int):=by
 rcases aM h with rfl | rfl | rfl | rfl | rfl | rfl | rfl | rfl <;> exact⟨by decide +kernel,by decide +kernel⟩
theorem CB{n c:Nat}(h:c∈aL n){l:Nat}(hl:l=n)(h1:1≤n)(h4:n≤4):lo c - 97<l:=by
 subst hl
 have hL:=aM (aE h)
 rcases sO h1 h4 with rfl | rfl | rfl | rfl <;> rcases hL with rfl | rfl | rfl | rfl | rfl | rfl | rfl | rfl <;> revert h <;> decide
theorem yC{rs:List (List Nat)}{n:Nat}(h1:1≤n)(h4:n≤4)(h:∀ x∈rs,OfN n x)(c:Nat):OfN n (tell rs c):=by
 unfold tell
 split
 ·exact gZ (P:=OfN n) OfN.nil h _
 ·exact(gZ (P:=OfN n) OfN.nil h _).back (by omega) (by omega)
theorem yI{rs:List (List Nat)}{n:Nat}(h1:1≤n)(h4:n≤4)(h:∀ x∈rs,OfN n x)(w:List Nat):OfN n (retl rs w):=by
 refine OfN.lay ?_
 intro d hd
 obtain⟨c,_,hc⟩:=List.mem_flatMap.mp hd
 exact yC h1 h4 h c d hc
theorem Ag{n:Nat}(h1:1≤n)(h4:n≤4):∀ x∈gN n,OfN n x:=by
 intro x hx c hc
 obtain⟨d,hd,rfl⟩:=i4.mp hx
 rw[c9.mp hc]
 rcases sO h1 h4 with rfl | rfl | rfl | rfl <;> (unfold aS at hd;simp at hd;revert hd;first | (rintro rfl;decide) | (rintro(rfl | rfl) <;> decide) | (rintro(rfl | rfl | rfl) <;> decide) | (rintro(rfl | rfl | rfl | rfl) <;> decide))
end Lw
namespace PySem
section
variable {prog:Program}{w:World}{A:Around}{R:Result→Shared→Prop}{s:Shared}
theorem pJ{elt target iter:Expr}{ifs:List Expr}{scope:Scope}{pos:Pos}{it acc:Value}{env:Env}(I:Nat→Shared→Prop)
  (turn:∀ n s,I n s→wpAny (model prog w) A (pyNext it) (fun r s₁=>match r with
   | none=>R (.ok .next) s₁
   | some v=>wpAny (model prog w) A (letOwnedTupleGo target it v) (fun _ s₂=>wpAny (model prog w) A (assign target env v) (fun _ s₂ =>
     wpAny (model prog w) A (forIn ifs true fun c r=>if r=true then do let ok ← isTrue c env (eval c env);pure (ForInStep.yield ok) else pure (ForInStep.yield r)) (fun ok s₃ =>
      if ok=true then wpAny (model prog w) A (eval elt env) (fun x s₄=>wpAny (model prog w) A (call (.builtin "list.append") [acc,x]) (fun _ s₅=>∃ m,m<n∧I m s₅) (fun _ _=>False) s₄) (fun _ _=>False) s₃
      else ∃ m,m<n∧I m s₃) (fun _ _=>False) s₂) (fun _ _=>False) s₂) (fun _ _=>False) s₁) (fun _ _=>False) s)
  (n:Nat) (h:I n s):codeAny (model prog w) A (.compLoop (.ListComp elt [⟨target,iter,ifs,0⟩] scope pos) 0 it acc env) R s:=by
 refine codeAny_loop rfl I (fun n s hI=>?_) n h
 show wpAny _ A ((compTurn (.ListComp elt [⟨target,iter,ifs,0⟩] scope pos) 0 it acc env).onRaise (fun x=>do noteFrame x env;theTreesLotGoes x)) _ _ s
 refine wpAny_noted ?_
 rw[compTurn_list]
 refine wpAny_bind (wpAny_standAt (wpAny_bind (wpAny_mono (turn n s hI) (fun r s₁ h₁=>?_) fun _ _ f=>f.elim)))
 cases r with
 | none=>exact wpAny_pure h₁
 | some v =>
  refine wpAny_bind (wpAny_mono h₁ (fun _ s₁ h₁=>?_) fun _ _ f=>f.elim)
  refine wpAny_bind (wpAny_mono h₁ (fun _ s₂ h₂=>wpAny_bind (wpAny_mono h₂ (fun ok s₃ h₃=>?_) fun _ _ f=>f.elim)) fun _ _ f=>f.elim)
  cases ok with
  | false=>exact wpAny_pure ⟨rfl,h₃⟩
  | true=>exact wpAny_bind (wpAny_bind (wpAny_mono h₃ (fun x s₄ h₄=>wpAny_bind (wpAny_mono h₄ (fun _ s₅ h₅=>wpAny_pure (wpAny_pure ⟨rfl,h₅⟩)) fun _ _ f=>f.elim)) fun _ _ f=>f.elim))
end
end PySem
namespace L2
open PySem PySem.Spec PyProof.Rows
def kD(X:Cx)(x y:Str)(ix:List Nat):List Str:=x::y::ix.map fun i=>X.N.getD i ""
def bE(X:Cx)(scope:Scope)(x y:Str)(ix:List Nat)(ex:List Addr)(s:Shared)(H:Hp):Cx:={ bF X scope x ix ex s H with N:=kD X x y ix }
section
variable {X:Cx}{scope:Scope}{x y:Str}{ix:List Nat}
theorem yV{σ:St}{H H':Hp}{s s':Shared}{fp:List Addr}(J:Inv (bF X scope x ix fp s H) [] (kR σ ix) H' s'):Inv (bE X scope x y ix fp s H) [] (none::none::dE σ ix) H' s':=by
 refine⟨⟨J.ok.mod,J.ok.kind,J.ok.glob,J.ok.blt,J.ok.above,J.ok.inj,J.ok.has,J.ok.cab,J.ok.hd,J.ok.frames,J.ok.stk,J.ok.exf,J.ok.bs,J.ok.bsz,J.ok.noex,J.ok.exfs,J.ok.funs,J.ok.frf⟩,J.os,J.bare,J.base,?_,J.cell,J.free,J.freeC,J.pin,J.hok,?_⟩
 ·obtain⟨m,hn,hl⟩:=J.loc
  refine⟨m,hn,fun i z v h1 h2 h3=>?_⟩
  cases i with
  | zero=>simp at h2
  | succ i =>
   cases i with
   | zero=>simp at h2
   | succ i=>exact hl (i+1) z v (by simpa [bF,fL,bE,kD] using h1) (by simpa [kR,dE] using h2) h3
 ·simp[bE,kD,dE]
theorem tR{pins:List (Addr×Obj)}{σ σ':St}{H H':Hp}{s s':Shared}{fp:List Addr}{h'':Heap}(I:Inv X pins σ H s)(hf:∀ b∈fp,cU X pins H b)(J:Inv (bE X scope x y ix fp s H) [] σ' H' s')
  (sb:Heap.SameBut s.heap.objs.size s'.heap h''):Inv X pins σ H' { s' with heap:=h'' }:=by
 have neC:∀ b o,s.heap.get? b=some o→b≠s.heap.objs.size:=fun b o e=>i7 (d6 e)
 have B:Un (tE X.stack) fp H H' s.heap s'.heap:=J.base
 have hC:H' s.heap.objs.size=none:=J.free
 refine I.call' (ch:=fp) J.os ?_ ?_ J.bare fun b hb=>⟨(hf b hb).2.2.2.1,(hf b hb).2.1,(hf b hb).2.2.2.2.1,(hf b hb).2.2.2.2.2⟩
 ·refine⟨fun b o e n hb hx=>(sb.2 b (neC b o e)).trans (B.keep b o e n hb hx),fun b o e n hb hx=>?_,B.free,fun b o e hx=>?_,B.tups,B.frzs,B.tbls⟩
  ·obtain⟨sl,q⟩:=B.slot b o e n hb hx
   exact⟨sl,(sb.2 b (neC b o e)).trans q⟩
  ·obtain⟨o',q⟩:=B.there b o e hx
   exact⟨o',(sb.2 b (neC b o e)).trans q⟩
 ·intro b ob e
  refine(J.hok b ob e).stay (fun c w' hc q=>(sb.2 c ?_).trans q) (fun _ q=>q) fun _ _ q=>q
  rintro rfl
  rcases hc with hc | hc
  ·rw[← hc,hC] at e;cases e
  ·rw[hC] at hc;cases hc
end
def nC(K:b9)(J:It)(D:Addr)(Q:VK)(ti:TT)(te:TE)(c:St)(H0:Hp):Prop :=
 ∃ W:Nat→Nat→Hp→Prop,(∃ m,W 0 m H0)∧∀ i m H,W i m H →
  (J.stop i H∧Q (.ref D) H)∨(J.go i H∧∃ N:Hp→Prop,(∀ H',N H'→∃ m',m' < m∧W (i+1) m' H')∧∀ v H',J.yld i H v H'→∃ p a b,v=.ref p∧SqT K H' p [a,b] ∧
   ti (some a::some b::c) H' fun t H2=>if t=true then te (some a::some b::c) H2 fun y H3=>∃ ys,H3 D=some (.lst ys)∧ys.length<sizeLine∧N (upd H3 D (.lst (ys++[y]))) else N H2)
def wL(K:b9)(wi:TI)(ix:List Nat)(ti:TT)(te:TE):TE:=fun σ H Q=>wi σ H fun J H1=>∀ D,H1 D=none→nC K J D Q ti te (dE σ ix) (upd H1 D (.lst []))
section
variable {X:Cx}{scope:Scope}{x y:Str}{px py tp pos:Pos}{k1:Nat}{ix:List Nat}{elt iter:Expr}{ifs:List Expr}{wi:TI}{ti:TT}{te:TE}
theorem pL{pins:List (Addr×Obj)}{σ:St}{H:Hp}{s:Shared}{fp:List Addr}{it D:Addr}{tn:Nat→Heap→Prop}{J:It}{Q:VK}{E:Value→Shared→Prop}{RR:Result→Shared→Prop}(S:CompSc X scope x ix)(hy:scope.names.lookup y=some .local)(hc:X.calm=true)
  (he:∀ s H,PE (bE X scope x y ix fp s H) elt te) (hi:∀ s H,lN (bE X scope x y ix fp s H) ifs ti)
  (I:Inv X pins σ H s) (T:Turn X.prog X.w X.K (.Tuple [.Name x px,.Name y py] k1 tp) J fp it tn) (st:tn 0 s.heap) (hf:∀ b∈fp,cU X pins H b) (go:nC X.K J D Q ti te (dE σ ix) H)
  (nd:(kD X x y ix).Nodup)
  (hR:∀ σ' H' s',Inv (bE X scope x y ix fp s H) [] σ' H' s'→Q (.ref D) H'→RR (.ok .next) s') :
  wpAny (model X.prog X.w) X.A (newFunctionEnv scope X.env.globals (fP scope.names X.env.cells) [] X.env.qual none .none (some X.env)) (fun cenv s₄=>cenv.locals=s.heap.objs.size ∧
   codeAny (model X.prog X.w) X.A (.compStart (.ListComp elt [⟨.Tuple [.Name x px,.Name y py] k1 tp,iter,ifs,0⟩] scope pos) 0 (.ref it) (.ref D) { cenv with scope:=relabel scope X.env }) RR s₄) E s:=by
 refine wpAny_newFunctionEnv S.nocell (by intro y hy;simp at hy) (fun h' ns sb=>⟨rfl,?_⟩) S.kind
 have hlt:∀ b∈fp,b<s.heap.objs.size:=fun b hb=>by
  obtain⟨o,e,_⟩:=T.obj 0 _ st b hb
  exact d6 e
 have I0:Inv (bE X scope x y ix fp s H) [] (none::none::dE σ ix) H { s with heap:=h',toks:=s.toks+([]:List (Str×Value)).length }:=yV (pM S I hf hlt ns sb)
 have st0:tn 0 h':=T.keep 0 _ _ st fun b hb o e=>(sb.2 b (i7 (d6 e))).trans (a9 _ e)
 obtain⟨W,⟨m0,w0⟩,turn⟩:=go
 have stat:∀ {H':Hp},(∀ b∈fp,H' b=none)→∀ b∈fp,cU (bE X scope x y ix fp s H) [] H' b:=fun hn b hb=>by
  refine⟨hn b hb,i7 (hlt b hb),fun z=>?_,.inl hb,fun y c e=>(I0.ok.exf b hb).2 y c e,fun p hp=>absurd (show p∈([]:List (Addr×Obj)) from hp) (by simp)⟩
  exact I0.ok.exfs b hb z
 have loop:codeAny (model X.prog X.w) X.A (.compLoop (.ListComp elt [⟨.Tuple [.Name x px,.Name y py] k1 tp,iter,ifs,0⟩] scope pos) 0 (.ref it) (.ref D) (bE X scope x y ix fp s H).env) RR { s with heap:=h',toks:=s.toks+([]:List (Str×Value)).length }:=by
  refine pJ (fun n s'=>∃ i o o' H',Inv (bE X scope x y ix fp s H) [] (o::o'::dE σ ix) H' s'∧tn i s'.heap∧(∀ b∈fp,H' b=none)∧W i n H') ?_ m0 ⟨0,none,none,H,I0,st0,fun b hb=>(hf b hb).1,w0⟩
  rintro n s3 ⟨i,o3,o3',H3,I3,st3,fr3,w3⟩
  rcases turn i n H3 w3 with ⟨stop,qn⟩ | ⟨gone,N,hN,step⟩
  ·refine bP (T.done (bE X scope x y ix fp s H) rfl rfl rfl hc i [] s3 _ H3 _ I3 (stat fr3) st3 stop) fun r s4 ⟨hr,I4⟩=>?_
   subst hr
   exact hR _ H3 s4 I4 qn
  ·refine bP (T.item (bE X scope x y ix fp s H) rfl rfl rfl hc i [] s3 _ H3 (fun _ _=>False) I3 (stat fr3) st3 gone) fun r s4 ⟨u,hr,h4⟩=>?_
   subst hr
   refine bP h4 fun _ s5 ⟨v5,H5,I5,r5,y5,st5,fr5⟩=>?_
   obtain⟨p,a,b,rfl,hq,hstep⟩:=step v5 H5 y5
   cases r5
   have I5':=I5.pinned (stat fr5) (T.obj _ _ st5)
   obtain⟨its,rv,ht,hz⟩:=I5'.tuple hq
   obtain⟨ua,ub,rfl,ra,rb⟩:=rV rv
   refine assign_Tuple_tuple (I5'.ok.hd hc) ht (by rfl) (by rfl) fun h6 hx6=>?_
   have I6:=I5'.kept (h':=h6) (t':=s5.toks) fun b o e=>hx6 b o (i7 (d6 e)) e
   show wpAny _ _ (assignInOrder [assign (.Name x px) (bE X scope x y ix fp s H).env,assign (.Name y py) (bE X scope x y ix fp s H).env] [ua,ub]) _ _ _
   have hx0:(bE X scope x y ix fp s H).N[0]?=some x:=rfl
   have hy0:(bE X scope x y ix fp s H).N[1]?=some y:=rfl
   refine assignInOrder_cons (wpAny_assign_Name (eM I6 nd hx0 (.inl (lookup_relabel_local S.x)) ra (fun s7 I7=>?_) (.inr (lookup_relabel_local S.x))))
   refine assignInOrder_cons (wpAny_assign_Name (eM I7 nd hy0 (.inl (lookup_relabel_local hy)) rb (fun s8 I8=>assignInOrder_nil ?_) (.inr (lookup_relabel_local hy))))
   refine bP (hi s H _ s8 _ H5 _ I8 hstep) fun ok s9 ⟨H9,I9,q9⟩=>?_
   have again:∀ {o7 o8:Option V} {H7:Hp} {s7:Shared},Inv (bE X scope x y ix fp s H) ([]++gO fp s5.heap) (o7::o8::dE σ ix) H7 s7→N H7→∃ m,m<n∧∃ i o o' H',Inv (bE X scope x y ix fp s H) [] (o::o'::dE σ ix) H' s7∧tn i s7.heap∧(∀ b∈fp,H' b=none)∧W i m H':=fun {o7 o8 H7 s7} I7 n7=>by
    obtain⟨m',hm,w7⟩:=hN H7 n7
    refine⟨m',hm,i+1,o7,o8,H7,I7.unpinned,T.keep _ _ _ st5 fun b hb o e=>(I7.pin (b,o) (e9 _ (e9 _ (bO hb e)))).1,fun b hb=>?_,w7⟩
    obtain⟨o,e,d⟩:=T.obj _ _ st5 b hb
    exact(I7.pin (b,o) (e9 _ (e9 _ (bO hb e)))).2.1
   cases ok with
   | false =>
    rw[if_neg (by simp)] at q9
    exact again I9 q9
   | true =>
    rw[if_pos rfl] at q9
    refine bP (he s H _ s9 _ H9 _ I9 q9) fun v s10 ⟨y10,H10,I10,r10,ys,hD,hz,n10⟩=>?_
    exact dL _ s10 _ H10 (.ref D) [y10] (.ref D) [v] _ I10 rfl (.cons r10 .nil) ⟨D,ys,y10,rfl,rfl,hD,hz,n10⟩ |> fun z=>wpAny_mono z (fun _ s11 ⟨_,H11,I11,_,q11⟩=>again I11 q11) fun _ _ f=>f.elim
 exact codeAny_compStart_list loop (T.self _ 0 _ _ _ st0 loop)
theorem vU(S:CompSc X scope x ix)(hy:scope.names.lookup y=some .local)(nd:(kD X x y ix).Nodup)(hc:X.calm=true)(hi:PI X (.Tuple [.Name x px,.Name y py] k1 tp) iter wi)(hif:∀ fp s H,lN (bE X scope x y ix fp s H) ifs ti)(he:∀ fp s H,PE (bE X scope x y ix fp s H) elt te)
  (hs:∀ z,foldedSetIterable iter X.env z=pure z:=by intro _;rfl):PE X (.ListComp elt [⟨.Tuple [.Name x px,.Name y py] k1 tp,iter,ifs,0⟩] scope pos) (wL X.K wi ix ti te):=by
 intro pins s σ H Q I h
 rw[eval_ListComp]
 refine wpAny_comprehension_free (use:=none) rfl hs (cX (S.cells I.ok)) S.kind S.loc (bP (hi pins s σ H _ I h) fun v s1 h1=>bP h1 fun itv s2 h2=>?_)
 obtain⟨it,fp,tn,J,H2,rfl,I2,T,st2,f2,q⟩:=h2
 refine wpAny_newObj_type ?_
 have fr:=I2.fresh
 have I3:Inv X pins σ (upd H2 s2.heap.objs.size (.lst [])) { s2 with heap:=s2.heap.push { cls:=.type "list",data:=.seq ([]:List Value).toArray } }:=I2.lnew (t':=s2.toks) .nil (l5 _)
 have hD:∀ b∈fp,b≠s2.heap.objs.size:=fun b hb=>by
  obtain⟨o,e,_⟩:=T.obj 0 _ st2 b hb
  exact i7 (d6 e)
 have f3:=Inv.fp_upd (o:=.lst []) f2 hD
 have st3:tn 0 (s2.heap.push { cls:=.type "list",data:=.seq ([]:List Value).toArray }):=T.keep 0 _ _ st2 fun b hb o e=>a9 _ e
 refine bP (pL (px:=px) (py:=py) (tp:=tp) (k1:=k1) (pos:=pos) (iter:=iter) (E:=X.xe) (RR:=compPost (model X.prog X.w) X.A X.xe none (EP X pins σ Q) (.ref s2.heap.objs.size) (s2.heap.push { cls:=.type "list",data:=.seq ([]:List Value).toArray }).objs.size) S hy hc (he fp) (hif fp) I3 T st3 f3 (q _ fr) nd ?_) fun cenv s4 ⟨e,z⟩=>?_
 ·intro σ' H' s' J' q'
  obtain⟨m,hn,_⟩:=J'.loc
  exact⟨m,hn,fun h'' sb=>⟨_,H',tR I3 f3 J' sb,(show RelV (.ref s2.heap.objs.size) _ from rfl),q'⟩⟩
 ·rw[← show cenv.locals=(s2.heap.push { cls:=.type "list",data:=.seq ([]:List Value).toArray }).objs.size from e] at z;exact z
end
def oH(sc0 scope:Scope)(N:List Str)(x y:Str)(ix:List Nat):Bool:=gI sc0 scope N x ix && decide (scope.names.lookup y=some .local) && decide ((x::y::ix.map fun i=>N.getD i "").Nodup)
theorem uE{X:Cx}{K:b9}{sc0 scope:Scope}{N:List Str}{x y:Str}{px py tp pos:Pos}{k1:Nat}{ix:List Nat}{elt iter:Expr}{ifs:List Expr}{wi:TI}{ti:TT}{te:TE}(h:oH sc0 scope N x y ix=true)(hK:X.K=K)(e1:X.env.scope=sc0)(e2:X.N=N)(hc:X.calm=true)
  (hi:PI X (.Tuple [.Name x px,.Name y py] k1 tp) iter wi) (hif:∀ fp s H,lN (bE X scope x y ix fp s H) ifs ti) (he:∀ fp s H,PE (bE X scope x y ix fp s H) elt te)
  (hs:∀ z,foldedSetIterable iter X.env z=pure z:=by intro _;rfl):PE X (.ListComp elt [⟨.Tuple [.Name x px,.Name y py] k1 tp,iter,ifs,0⟩] scope pos) (wL K wi ix ti te):=by
 subst hK
 unfold oH at h
 rw[w8,w8,decide_eq_true_iff,decide_eq_true_iff] at h
 refine vU (dM h.1.1 e1 e2).1 h.1.2 ?_ hc hi hif he hs
 subst e2
 exact h.2
end L2
namespace L2
open PySem PySem.Spec PyProof.Rows PySem.Calls
end L2
namespace PySem
open Sem (wp)
end PySem
namespace L2
open PySem PySem.Spec PyProof.Rows
def A8(x:Str):It :=
 ⟨fun i _=>i<x.cps.size,fun i H v H'=>∃ p c,v=.ref p∧H p=none∧H'=upd H p (.tup [.int (i:Nat),.str ⟨#[c]⟩])∧x.cps[i]?=some c,fun i _=>i=x.cps.size⟩
theorem lY{prog:Program}{w:World}{A:Around}(hh:A.handled=none)(it:Addr)(x:Str)(t:Tok)(T:String)(hT:T="str_ascii_iterator"∨T="str_iterator") :
  Draws prog w A it [it] x.cps.size (fun i v=>∃ c u,x.cps[i]?=some c∧v=.str ⟨#[c]⟩ u) (fun i h=>h.IsStrIter it T x t i):=by
 rcases hT with rfl | rfl
 ·exact Draws.strAscii hh it x t
 ·exact Draws.strWide hh it x t
theorem uO{P:Program}{w:World}{K:b9}{es:List Expr}{x1}{pos:Pos}(x:Str)(t:Tok)(T:String)(e it:Addr)(hne:e≠it)(hT:T="str_ascii_iterator"∨T="str_iterator") :
  Turn P w K (.Tuple es x1 pos) (A8 x) [e,it] e (fun i h=>(∃ old,IsEnum h e it ((i:Nat):Int) old)∧h.IsStrIter it T x t i) where
 mem:=by simp
 obj:=fun i h st b hb=>by
  obtain⟨⟨old,he⟩,o,g,c,d⟩:=st
  simp only [d9,j9,or_false] at hb
  rcases hb with rfl | rfl
  ·exact⟨_,he,fun v z=>by cases z⟩
  ·exact⟨o,g,fun v z=>by rw[d] at z;cases z⟩
 keep:=fun i h h' st k=>by
  obtain⟨⟨old,he⟩,o,g,r⟩:=st
  exact⟨⟨old,k e (by simp) _ he⟩,o,k it (by simp) o g,r⟩
 item:=by
  intro X hP hw hK hc i pins s σ H E I hf st hg
  subst hP hw hK
  obtain⟨⟨old,he⟩,hs⟩:=st
  have hei:e ∉ [it]:=by simpa using hne
  have DD:=lY (prog:=X.prog) (w:=X.w) (A:=X.A.in1) (I.ok.hd hc) it x t T hT
  refine wpAny_pyNext_enum_itemD DD he hs hg hne hei fun v h1 tk hv ho hs1 hT1 hz1 kp=>⟨_,rfl,?_⟩
  obtain⟨c,u,hc',rfl⟩:=hv
  refine wpAny_letOwnedTupleGo_enum ho fun h2 he2 e2=>?_
  have ne:s.heap.objs.size≠e:=x8 (d6 he)
  have hT2:h2.get? s.heap.objs.size=some { cls:=.type "tuple",data:=.seq #[.int i tk,.str ⟨#[c]⟩ u] }:=(e2.2 _ ne).trans hT1
  have hHn:H s.heap.objs.size=none:=I.hok.fresh (c8 _)
  have kpn:∀ b o,b ∉ [e,it]→s.heap.get? b=some o→h2.get? b=some o:=fun b o hn q=>(e2.2 b fun z=>hn (by simp[z])).trans (kp b o (fun z=>hn (by simp[z])) (fun z=>hn (by simp[z])) q)
  refine⟨.ref s.heap.objs.size,upd H s.heap.objs.size (.tup [.int (i:Nat),.str ⟨#[c]⟩]),?_,rfl,⟨_,c,rfl,hHn,rfl,hc'⟩,⟨⟨_,by simpa using he2⟩,?_⟩,fun b hb=>?_⟩
  ·exact I.turnedN (t':=tk+1) (h':=h2) kpn hf (c8 _) ⟨by show 2≤sizeLine;decide,[.int i tk,.str ⟨#[c]⟩ u],.cons ⟨_,rfl⟩ (.cons ⟨_,rfl⟩ .nil),⟨_,hT2,rfl,0,rfl⟩,⟨_,hT2,rfl⟩⟩
  ·obtain⟨o,g,r⟩:=hs1
   exact⟨o,(e2.2 it hne.symm).trans g,r⟩
  ·have hce:b≠s.heap.objs.size:=by
    obtain⟨o1,g1,_⟩:=hs
    simp only [d9,j9,or_false] at hb
    rcases hb with rfl | rfl
    ·exact i7 (d6 he)
    ·exact i7 (d6 g1)
   rw[aG hce]
   exact(hf b hb).1
 done:=by
  intro X hP hw hK hc i pins s σ H E I hf st hg
  subst hP hw hK
  obtain⟨⟨old,he⟩,hs⟩:=st
  have hi:i=x.cps.size:=hg
  subst hi
  have DD:=lY (prog:=X.prog) (w:=X.w) (A:=X.A.in1) (I.ok.hd hc) it x t T hT
  refine wpAny_pyNext_enum_endD DD he hs fun h1 e1=>⟨rfl,?_⟩
  exact I.turnedM (t':=s.toks) (ch:=[e,it]) (fun b o hn q=>e1 b o (fun z=>hn (by simp[z])) q) hf
 self:=fun A i s Q E st h=>by
  obtain⟨⟨old,he⟩,_⟩:=st
  exact wpAny_pyIter_enum he h
section
variable {X:Cx}
def CH(ta:TA):TI:=fun σ H R=>ta σ H fun vs H1=>∃ z,vs=[.str z]∧R (A8 z) H1
theorem yN{es:List Expr}{x1}{tpos:Pos}{a:Expr}{ta:TA}{p pos:Pos}(hg:Gl X "enumerate")(hm:X.mg "enumerate"=none)(ha:PA X [a] ta)(hs:starEach [a] X.env=[(false,eval a X.env)]:=by rfl) :
  PI X (.Tuple es x1 tpos) (.Call (.Name "enumerate" p) [a] [] pos) (CH ta):=by
 intro pins s σ H R I h
 refine Call_ (eX I hg hm boot_enumerate (w4 (bP (ha pos pins s σ H _ I h) fun us s1 ⟨vs,H1,I1,r1,q1⟩=>?_) hs rfl))
 obtain⟨z,e,q⟩:=q1
 subst e
 obtain⟨u,rfl,ru⟩:=r1.one
 obtain⟨t,rfl⟩:=ru
 refine call_enumerate_str fun h' he hit hz kp=>?_
 have I2:Inv X pins σ H1 { s1 with heap:=h' }:=I1.kept (t':=s1.toks) kp
 have hne:s1.heap.objs.size+1≠s1.heap.objs.size:=by omega
 refine wpAny_pyIter_enum he ⟨s1.heap.objs.size+1,[s1.heap.objs.size+1,s1.heap.objs.size],_,_,H1,rfl,I2,uO z t (strIterType z) _ _ hne (by unfold strIterType;split <;> simp),⟨⟨_,he⟩,hit⟩,fun b hb=>?_,q⟩
 have hle:s1.heap.objs.size≤b:=by
  simp only [d9,j9,or_false] at hb
  rcases hb with h | h <;> rw[h]
  ·exact aQR _ _
  ·exact c8 _
 exact I1.fpOk hle (I1.hok.fresh hle)
end
theorem vD{w:List Nat}{g:TG}{tb:TS}{D:Ends}{σ:St}{H:Hp}(Pv:Nat→St→Hp→Prop)(h0:Pv 0 σ H)
  (hs:∀ i c p σ H,w[i]?=some c→H p=none→Pv i σ H→g (.ref p) σ (upd H p (.tup [.int (i:Nat),.str (S [c])])) fun σ2 H2=>tb { D with nx:=Pv (i+1),ct:=Pv (i+1),bk:=D.nx } σ2 H2) (hd:∀ σ H,Pv w.length σ H→D.nx σ H) :
  ∃ W:Nat→Nat→St→Hp→Prop,(∃ m,W 0 m σ H)∧∀ i m σ H,W i m σ H →
   ((A8 (S w)).stop i H∧D.nx σ H)∨((A8 (S w)).go i H∧∃ N:St→Hp→Prop,(∀ σ' H',N σ' H'→∃ m',m' < m∧W (i+1) m' σ' H')∧∀ x H',(A8 (S w)).yld i H x H'→g x σ H' fun σ2 H2=>tb { D with nx:=N,ct:=N,bk:=D.nx } σ2 H2):=by
 refine⟨fun i m σ H=>m=w.length - i∧i≤w.length∧Pv i σ H,⟨w.length,by simp,l5 _,h0⟩,?_⟩
 rintro i m σ H ⟨rfl,hi,p⟩
 by_cases hlt:i<w.length
 ·refine .inr ⟨by simpa [A8] using hlt,Pv (i+1),fun σ' H' p'=>⟨w.length - (i+1),by omega,rfl,hlt,p'⟩,fun x H' y=>?_⟩
  obtain⟨pp,c,rfl,hn,rfl,hc⟩:=y
  exact hs i c pp σ H (by simpa using hc) hn p
 ·have e:i=w.length:=by omega
  subst e
  exact .inl ⟨by simp[A8],hd σ H p⟩
end L2
namespace L2
open PySem PySem.W PyProof.Rows
end L2
namespace L2
open PySem PySem.W PySem.Spec PyProof.Rows
end L2
namespace PySem
open Sem (wp)
end PySem
namespace L2
open PySem PySem.Spec PyProof.Rows
end L2
namespace Lw
open PySem PySem.Spec PyProof.Rows L2 Ma MaR
theorem sF{c:Nat}(h:bS c):AllL [c]:=fun d hd=>by rw[c9.mp hd];exact h
theorem hZ{n c:Nat}(h:c∈aS n):bS c:=by
 have:c∈[97,98,99,100]:=m9 h
 simp only [d9,j9,or_false] at this
 unfold bS
 omega
theorem cQ{n:Nat}(h4:n≤4):(aS n).length=n:=by unfold aS;rw[k9];simp;omega
theorem oS{n c:Nat}(h1:1≤n)(h4:n≤4)(h:c∈aL n):(bJ c=true∧(aS n)[c - 97]?=some c)∨(bJ c=false∧(aS n)[c - 65]?=some (aZ c)):=by
 have hL:=aM (aE h)
 rcases sO h1 h4 with rfl | rfl | rfl | rfl <;> rcases hL with rfl | rfl | rfl | rfl | rfl | rfl | rfl | rfl <;> revert h <;> decide
theorem cI{n c:Nat}(h1:1≤n)(h4:n≤4)(h:c∈aS n):c∈aL n:=Ag h1 h4 [c] (i4.mpr ⟨c,h,rfl⟩) c (c9.mpr rfl)
inductive spRingRetold(K:b9)(vs:List V)(H:Hp)(Q:VK)(E:XK):Prop
 | mk (a:Addr) (rs:List (List Nat)) (n M:Nat) (w:List Nat) (_:vs=[.ref a,.str (S w)]) (_:SqT K H a (dS rs)) (_:RT rs n M) (_:1≤n) (_:n≤4) (_:M≤1000) (_:OfN n w) (_:w.length≤60000) (_:w.length * M≤60000) (_:∀ (r:List Nat) (H':Hp),RingR (retl rs w) r→Same H H'→Q (.str (S r)) H'):spRingRetold K vs H Q E
theorem jR(d:Nat)(sd:List Nat):Di (.str (S [d])) (aO sd)=decide (d∈sd):=by
 unfold Di aO
 rw[y3,aZC,decide_eq_true_iff]
 constructor
 ·rintro⟨v,hv,he⟩
  obtain⟨e,hm,rfl⟩:=i4.mp hv
  have h2:decide (S [e]=S [d])=true:=he
  have:=pP (of_decide_eq_true h2)
  have h3:e=d:=by simpa using this
  rw[← h3];exact hm
 ·intro h
  refine⟨_,i4.mpr ⟨d,h,rfl⟩,?_⟩
  show decide (S [d]=S [d])=true
  exact decide_eq_true rfl
theorem dO(sd:List Nat):(aO sd).all dZ=true:=by
 rw[aQP]
 intro v hv
 obtain⟨x,_,rfl⟩:=i4.mp hv
 rfl
theorem cM{n d:Nat}(h:d∈aS n):bJ d=true:=by
 have:d∈[97,98,99,100]:=m9 h
 simp only [d9,j9,or_false] at this
 unfold bJ
 exact decide_eq_true (by omega)
end Lw
namespace L2
open PySem PySem.Spec PyProof.Rows
theorem Paired.at{α β:Type}{F:α→β→Prop}:∀ {l₁:List α} {l₂:List β},Paired F l₁ l₂→∀ {i:Nat} {a:α},l₁[i]?=some a→∃ b,l₂[i]?=some b∧F a b
 | _,_,.nil,i,a,h=>by simp at h
 | _,_,.cons r t,0,a,h=>⟨_,rfl,by cases j7 h;exact r⟩
 | _,_,.cons r t,i+1,a,h=>by
  obtain⟨b,h1,h2⟩:=Paired.at t (i:=i) (by simpa using h)
  exact⟨b,by simpa using h1,h2⟩
section
variable {prog:Program}{w:World}{A:Around}{E:Value→Shared→Prop}{s:Shared}
theorem uK{it d:Addr}{i n ep:Nat}{o:Obj}{es:Array DictEntry}{e:DictEntry}{Q:Fin→Shared→Prop}(hit:s.heap.IsKeyIter it d i es.size ep)(hd:s.heap.get? d=some o)(dt:o.data=.dict es ep)(he:es[i]?=some e)
  (hQ:∀ g,g.IsKeyIter it d (i+1) es.size ep→Heap.SameBut it s.heap g→Q (.done (.ret e.key)) { s with heap:=g }) :
  wpAny (model prog w) A (Builtin.«dict_keyiterator.__next__» ⟨[.ref it],[]⟩) Q E s:=by
 obtain⟨oi,go,co,do'⟩:=id hit
 have hT:s.TypeIs (.ref it) "dict_keyiterator":=⟨_,go,co⟩
 show wpAny _ _ (Builtin.Dict_items.slot0 "__next__" ⟨[.ref it],[]⟩ >>= _) _ _ _
 rw[show Builtin.Dict_items.slot0 "__next__" ⟨[.ref it],[]⟩=pure (.ref it) from rfl]
 refine wpAny_bind (wpAny_pure (wpAny_bind ?_))
 show wpAny _ _ (_ >>= _) _ _ _
 refine wpAny_bind ?_
 refine wpAny_bind (wpAny_typeNameOfWhole_keyiter hT (wpAny_pure ?_))
 rw[show (if Builtin.Dict_items.ownsTuple "dict_keyiterator"=true then 2 else 0)=0 from rfl]
 refine wpAny_bind (wpAny_fieldsOf go do' ?_)
 show wpAny _ _ (if (Value.ref d == Value.none)=true then _ else _) _ _ _
 rw[if_neg (by intro c;cases c)]
 refine wpAny_bind (wpAny_pure (wpAny_bind (wpAny_dictEntries hd dt ?_)))
 dsimp only
 rw[if_neg (by simp)]
 refine wpAny_bind (wpAny_pure (wpAny_bind (wpAny_dictEpoch hd dt ?_)))
 rw[if_neg (by simp)]
 refine wpAny_pure ?_
 dsimp only
 rw[if_neg (by omega),u9,he]
 dsimp only
 refine wpAny_bind (wpAny_bind (wpAny_typeNameOfWhole_keyiter hT (wpAny_pure ?_)))
 rw[show (if Builtin.Dict_items.ownsTuple "dict_keyiterator"=true then 2 else 0)=0 from rfl]
 refine wpAny_bind (wpAny_isOneOf_keyiter hT ?_)
 refine wpAny_bind (wpAny_setField go do' (by simp) ?_)
 have gu:(s.heap.update it (Obj.mapFields fun x=>x.setIfInBounds (0+1) (rawInt ((i:Int)+1)))).IsKeyIter it d (i+1) es.size ep:=by
  refine⟨_,y4 _ go (aQN (v8 do' _)),(aXG ..).trans co,?_⟩
  rw[v8 do' _]
  rfl
 have sb:Heap.SameBut it s.heap (s.heap.update it (Obj.mapFields fun x=>x.setIfInBounds (0+1) (rawInt ((i:Int)+1)))):=p7 ..
 have hT2:Shared.TypeIs { s with heap:=s.heap.update it (Obj.mapFields fun x=>x.setIfInBounds (0+1) (rawInt ((i:Int)+1))) } (.ref it) "dict_keyiterator":=by
  obtain⟨o2,g2,c2,_⟩:=gu
  exact⟨_,g2,c2⟩
 refine wpAny_bind (wpAny_holding (wpAny_bind (wpAny_isOneOf_keyiter hT2 ?_)))
 refine wpAny_pure (wpAny_pure ?_)
 exact hQ _ gu sb
theorem wX{it d:Addr}{i n ep:Nat}{o:Obj}{es:Array DictEntry}{Q:Fin→Shared→Prop}(hh:A.handled=none)(hit:s.heap.IsKeyIter it d i es.size ep)(hd:s.heap.get? d=some o)(dt:o.data=.dict es ep)(he:es[i]?=none)
  (hE:∀ g e,Heap.ExtBut it s.heap g→(∃ o,g.get? e=some o∧o.cls=.type "StopIteration")→E (.ref e) { s with heap:=g }) :
  wpAny (model prog w) A (Builtin.«dict_keyiterator.__next__» ⟨[.ref it],[]⟩) Q E s:=by
 obtain⟨oi,go,co,do'⟩:=id hit
 have hT:s.TypeIs (.ref it) "dict_keyiterator":=⟨_,go,co⟩
 show wpAny _ _ (Builtin.Dict_items.slot0 "__next__" ⟨[.ref it],[]⟩ >>= _) _ _ _
 rw[show Builtin.Dict_items.slot0 "__next__" ⟨[.ref it],[]⟩=pure (.ref it) from rfl]
 refine wpAny_bind (wpAny_pure (wpAny_bind ?_))
 show wpAny _ _ (_ >>= _) _ _ _
 refine wpAny_bind ?_
 refine wpAny_bind (wpAny_typeNameOfWhole_keyiter hT (wpAny_pure ?_))
 rw[show (if Builtin.Dict_items.ownsTuple "dict_keyiterator"=true then 2 else 0)=0 from rfl]
 refine wpAny_bind (wpAny_fieldsOf go do' ?_)
 show wpAny _ _ (if (Value.ref d == Value.none)=true then _ else _) _ _ _
 rw[if_neg (by intro c;cases c)]
 refine wpAny_bind (wpAny_pure (wpAny_bind (wpAny_dictEntries hd dt ?_)))
 dsimp only
 rw[if_neg (by simp)]
 refine wpAny_bind (wpAny_pure (wpAny_bind (wpAny_dictEpoch hd dt ?_)))
 rw[if_neg (by simp)]
 refine wpAny_pure ?_
 dsimp only
 rw[if_neg (by omega),u9,he]
 dsimp only
 refine wpAny_bind (wpAny_bind (wpAny_typeNameOfWhole_keyiter hT (wpAny_pure ?_)))
 rw[show (if Builtin.Dict_items.ownsTuple "dict_keyiterator"=true then 2 else 0)=0 from rfl]
 refine wpAny_bind (wpAny_setField go do' (by simp) ?_)
 refine wpAny_bind ?_
 simp only [newExc,newTuple]
 refine wpAny_bind (wpAny_newObj_type ?_ (by size_fits))
 refine wpAny_bind (m:=firstArgMember _ _) (wpAny_of_eq (a:=Value.none) (by first | rfl | (simp only [firstArgMember];rfl)) ?_)
 refine wpAny_newObj_type ?_ (by size_fits)
 simp only [raiseNew]
 refine wpAny_bind (wpAny_handled ?_)
 first | rw[show A.in1.handled=none from hh] | rw[hh]
 refine wpAny_bind (wpAny_pure (wpAny_throw ?_))
 exact hE _ _ (((p7 ..).extBut.push _).push _) ⟨_,d8 _ rfl,rfl⟩
theorem rA{it d:Addr}{i n ep:Nat}{o:Obj}{es:Array DictEntry}{e:DictEntry}{Q:Option Value→Shared→Prop}(hit:s.heap.IsKeyIter it d i es.size ep)(hd:s.heap.get? d=some o)(dt:o.data=.dict es ep)(he:es[i]?=some e)
  (hQ:∀ g,g.IsKeyIter it d (i+1) es.size ep→Heap.SameBut it s.heap g→Q (some e.key) { s with heap:=g }):wpAny (model prog w) A (pyNext (.ref it)) Q E s:=by
 have hT:s.TypeIs (.ref it) "dict_keyiterator":=let ⟨_,go,co,_⟩:=hit;⟨_,go,co⟩
 unfold pyNext
 exact wpAny_bind (wpAny_attempt (wpAny_callSpecial?_slot (name:=Str.ofString "__next__") hT v9 (wpAny_call_entry v9 hT aQr (uK (n:=0) hit hd dt he fun g b1 b2=>⟨_,rfl,wpAny_pure (hQ g b1 b2)⟩) (aQp _))))
theorem tO{it d:Addr}{i n ep:Nat}{o:Obj}{es:Array DictEntry}{Q:Option Value→Shared→Prop}(hh:A.handled=none)(hit:s.heap.IsKeyIter it d i es.size ep)(hd:s.heap.get? d=some o)(dt:o.data=.dict es ep)(he:es[i]?=none)
  (hQ:∀ g,Heap.ExtBut it s.heap g→Q none { s with heap:=g }):wpAny (model prog w) A (pyNext (.ref it)) Q E s:=by
 have hT:s.TypeIs (.ref it) "dict_keyiterator":=let ⟨_,go,co,_⟩:=hit;⟨_,go,co⟩
 unfold pyNext
 refine wpAny_bind (wpAny_attempt (wpAny_callSpecial?_slot (name:=Str.ofString "__next__") hT v9 (wpAny_call_entry v9 hT aQr (wX (n:=0) hh hit hd dt he fun g e kp hx=>?_) (aQp _))))
 obtain⟨o,go,co⟩:=hx
 exact wpAny_bind (wpAny_isInstance (T:="StopIteration") (b:=true) ⟨o,go,co⟩ isSubtype_stop (wpAny_pure (hQ _ kp)))
end
section
variable {X:Cx}{pins:List (Addr×Obj)}{σ:St}{H:Hp}{s:Shared}
theorem Inv.swap{d:Addr}{u u':HO}(I:Inv X pins σ H s)(e:H d=some u)(nt:∀ xs,u≠.tup xs)(nf:(∀ o v,u≠.frz o v)∨∀ o v,X.H₀ d≠some (.frz o v))(nb:∀ ps,u≠.tbl ps)(no:∀ x,u≠.own x)
  (new:ObjOk X.prog X.w (upd H d u') s.heap d u'):Inv X pins σ (upd H d u') s:=by
 have ne:∀ {b:Addr},H b=none→b≠d:=fun h z=>by rw[z,e] at h;cases h
 have tp:∀ b xs,H b=some (.tup xs)→upd H d u' b=some (.tup xs):=fun b xs h=>by
  rw[aG (fun z=>by rw[z,e] at h;exact nt xs (j7 h))];exact h
 refine⟨I.ok,I.os,I.bare,⟨I.base.keep,I.base.slot,fun b o h n hx=>?_,I.base.there,fun b xs h=>tp b xs (I.base.tups b xs h),fun b o v h=>?_,fun b ps h=>?_⟩,I.loc,I.cell,?_,fun x c h=>?_,fun p hp=>?_,fun b v h=>?_,I.len⟩
 ·have:=I.base.free b o h n hx
  rw[aG (ne this)];exact this
 ·have h1:=I.base.frzs b o v h
  rw[aG]
  ·exact h1
  ·intro z
   subst z
   rcases nf with nf | nf
   ·rw[e] at h1;exact nf o v (j7 h1)
   ·exact nf o v h
 ·obtain⟨more,h1⟩:=I.base.tbls b ps h
  refine⟨more,?_⟩
  rw[aG]
  ·exact h1
  ·intro z
   subst z
   rw[e] at h1
   exact nb _ (j7 h1)
 ·rw[aG (ne I.free)];exact I.free
 ·rw[aG (ne (I.freeC x c h))];exact I.freeC x c h
 ·obtain⟨h1,h2,h3⟩:=I.pin p hp
  exact⟨h1,by rw[aG (ne h2)];exact h2,h3⟩
 ·by_cases hb:b=d
  ·subst hb
   rw[aB] at h
   cases h
   exact new
  ·rw[aG hb] at h
   refine(I.hok b v h).stay (fun _ _ _ q=>q) (fun c q=>?_) tp
   rw[aG (fun z=>by rw[z,e] at q;exact no b (j7 q))];exact q
end
theorem wY{prog:Program}{w:World}{A:Around}{E:Value→Shared→Prop}{s:Shared}{d:Addr}{o:Obj}{es:Array DictEntry}{ep:Nat}{Q:Value→Shared→Prop}(hn:(d == sysModules)=false)(hd:s.heap.get? d=some o)(ho:o.ExactDict)(dt:o.data=.dict es ep)
  (h:Q (.ref s.heap.objs.size) { s with heap:=s.heap.push { cls:=.type "dict_keyiterator",data:=.fields #[.ref d,.int 0 0,.int es.size 0,.int ep 0] } }):wpAny (model prog w) A (pyIter (.ref d)) Q E s:=by
 have hT:s.TypeIs (.ref d) "dict":=⟨_,hd,ho.1⟩
 refine wpAny_pyIter_slot hT aZD (wpAny_call_entry aZD hT F.entry_dict_iter ?_ (F.args_dict_iter_1 _))
 unfold Builtin.«dict.__iter__» Builtin.Dict.dictSlotNone Builtin.Dict.notOrdered
 rw[if_pos (by decide)]
 refine wpAny_bind (wpAny_bind (wpAny_bind (wpAny_typeOf hT ?_)))
 rw[if_neg (by decide)]
 refine wpAny_pure ?_
 rw[show slotArgs "__iter__" 0 ⟨[.ref d],[]⟩=pure (.ref d,[]) from rfl]
 refine wpAny_bind (wpAny_pure (wpAny_pure (wpAny_bind (wpAny_pure (wpAny_bind ?_)))))
 unfold Builtin.Dict.showsAll
 rw[hn]
 refine wpAny_pure (wpAny_bind (wpAny_dictEntries hd dt (wpAny_bind (wpAny_dictEpoch hd dt (wpAny_bind ?_)))))
 unfold newFields
 refine wpAny_newObj_type (wpAny_pure ⟨_,rfl,"dict_keyiterator",_,⟨_,d8 _ rfl,rfl⟩,v9.lookup,?_⟩) (by size_fits)
 exact h
end L2
namespace Lw
open PySem PySem.Spec PyProof.Rows L2 Ma MaR
def RgN(n:Nat)(x:List Nat):Prop:=∃ y,OfN n y∧bZ y∧RingR y x
theorem RgN.ofn{n:Nat}{x:List Nat}(h:RgN n x):OfN n x:=by
 obtain⟨y,h1,_,h3⟩:=h
 exact fun c hc=>h1 c (h3.sub c hc)
end Lw
namespace L2
open PySem PySem.Spec PyProof.Rows
theorem iY:entryFor table "dict_itemiterator.__iter__"=some Builtin.«dict_keyiterator.__iter__»:=by
 refine entryFor_alias (id':="dict_keyiterator.__iter__") ?_ ?_ ?_ ?_
 ·kernel_rfl
 ·decide +kernel
 ·have e:String.map (fun c=>if (c.isAlphanum || c == '_' || c == '.')=true then c else '_') "dict_itemiterator.__iter__"="dict_itemiterator.__iter__":=by decide +kernel
  rw[e]
  show _="dict_keyiterator.__iter__"
  kernel_rfl
 ·kernel_rfl
section
variable {prog:Program}{w:World}{A:Around}{E:Value→Shared→Prop}{s:Shared}
theorem yW:(if Builtin.Dict_items.ownsTuple "dict_itemiterator"=true then 2 else 0)=2:=by decide
theorem rE{it d:Addr}{i ep:Nat}{ok ov:Value}{o:Obj}{es:Array DictEntry}{e:DictEntry}{Q:Fin→Shared→Prop}(hit:IsItemIter s.heap it d i es.size ep ok ov)(hd:s.heap.get? d=some o)(dt:o.data=.dict es ep)(hne:d≠it)(he:es[i]?=some e)
  (hQ:∀ g,IsItemIterOut g it d (i+1) es.size ep e.key e.val s.heap.objs.size→g.get? s.heap.objs.size=some { cls:=.type "tuple",data:=.seq #[e.key,e.val] }→g.objs.size=s.heap.objs.size+1→(∀ c ob,c≠it→s.heap.get? c=some ob→g.get? c=some ob)→Q (.done (.ret (.ref s.heap.objs.size))) { s with heap:=g }) :
  wpAny (model prog w) A (Builtin.«dict_itemiterator.__next__» ⟨[.ref it],[]⟩) Q E s:=by
 have hT:s.TypeIs (.ref it) "dict_itemiterator":=⟨_,hit,rfl⟩
 show wpAny _ _ (Builtin.Dict_items.slot0 "__next__" ⟨[.ref it],[]⟩ >>= _) _ _ _
 rw[show Builtin.Dict_items.slot0 "__next__" ⟨[.ref it],[]⟩=pure (.ref it) from rfl]
 refine wpAny_bind (wpAny_pure (wpAny_bind ?_))
 show wpAny _ _ (_ >>= _) _ _ _
 refine wpAny_bind ?_
 refine wpAny_bind (wpAny_typeNameOfWhole_itemiter hT (wpAny_pure ?_))
 rw[yW]
 refine wpAny_bind (wpAny_fieldsOf hit rfl ?_)
 show wpAny _ _ (if (Value.ref d == Value.none)=true then _ else _) _ _ _
 rw[if_neg (by intro c;cases c)]
 refine wpAny_bind (wpAny_pure (wpAny_bind (wpAny_dictEntries hd dt ?_)))
 dsimp only
 rw[if_neg (by simp)]
 refine wpAny_bind (wpAny_pure (wpAny_bind (wpAny_dictEpoch hd dt ?_)))
 rw[if_neg (by simp)]
 refine wpAny_pure ?_
 dsimp only
 rw[if_neg (by omega),u9,he]
 dsimp only
 refine wpAny_bind (wpAny_bind (wpAny_typeNameOfWhole_itemiter hT (wpAny_pure ?_)))
 rw[yW]
 refine wpAny_bind (wpAny_isOneOf_itemiter hT ?_)
 refine wpAny_bind (wpAny_setField_rec hit (by simp) fun g1 z1 e1=>?_)
 have z1':IsItemIter g1 it d (i+1) es.size ep ok ov:=z1
 have hT1:Shared.TypeIs { s with heap:=g1 } (.ref it) "dict_itemiterator":=⟨_,z1',rfl⟩
 refine wpAny_bind (wpAny_holding ?_)
 show wpAny _ _ (_ >>= _) _ _ _
 refine wpAny_bind (wpAny_isOneOf_itemiter hT1 ?_)
 refine wpAny_bind (wpAny_isOneOf_itemiter hT1 ?_)
 show wpAny _ _ (Builtin.Dict_items.pairFromOwner (.ref it) 6 e.key e.val) _ _ _
 unfold Builtin.Dict_items.pairFromOwner newTuple
 refine wpAny_bind (wpAny_newObj_type ?_ (by size_fits))
 have sz1:g1.objs.size=s.heap.objs.size:=e1.1
 have z2:IsItemIter (g1.push { cls:=.type "tuple",data:=.seq #[e.key,e.val] }) it d (i+1) es.size ep ok ov:=a9 _ z1'
 unfold Builtin.Dict_items.ownedTupleIsFree
 refine wpAny_bind (wpAny_bind (wpAny_field z2 rfl (x:=.none) rfl (wpAny_pure ?_)))
 rw[if_pos rfl]
 refine wpAny_bind (wpAny_field z2 rfl (x:=ok) rfl (wpAny_bind (wpAny_field z2 rfl (x:=ov) rfl ?_)))
 refine wpAny_bind (wpAny_setField_rec z2 (by simp) fun g3 z3 e3=>?_)
 refine wpAny_bind (wpAny_setField_rec z3 (by simp) fun g4 z4 e4=>?_)
 refine wpAny_bind (wpAny_setField_rec z4 (by simp) fun g5 z5 e5=>?_)
 refine wpAny_bind (wpAny_setField_rec z5 (by simp) fun g6 z6 e6=>?_)
 refine wpAny_bind (wpAny_letGo (wpAny_pure (wpAny_pure ?_)))
 have lz:=d6 hit
 have up:∀ c ob,c≠it→(g1.push { cls:=.type "tuple",data:=.seq #[e.key,e.val] }).get? c=some ob→g6.get? c=some ob:=fun c ob hc h=>e6.extBut _ _ hc (e5.extBut _ _ hc (e4.extBut _ _ hc (e3.extBut _ _ hc h)))
 have T6:g6.get? g1.objs.size=some { cls:=.type "tuple",data:=.seq #[e.key,e.val] }:=up _ _ (by rw[sz1];exact x8 lz) (d8 _ rfl)
 have n6:g6.objs.size=g1.objs.size+1:=by rw[e6.1,e5.1,e4.1,e3.1,aQB]
 rw[sz1] at T6 n6 z6 ⊢
 exact hQ g6 z6 T6 n6 fun c ob hc h=>up c ob hc (a9 _ (e1.extBut _ _ hc h))
theorem tG{it d:Addr}{i ep:Nat}{ok ov:Value}{o:Obj}{es:Array DictEntry}{Q:Fin→Shared→Prop}(hh:A.handled=none)(hit:IsItemIter s.heap it d i es.size ep ok ov)(hd:s.heap.get? d=some o)(dt:o.data=.dict es ep)(he:es[i]?=none)
  (hE:∀ g e,Heap.ExtBut it s.heap g→(∃ o,g.get? e=some o∧o.cls=.type "StopIteration")→E (.ref e) { s with heap:=g }) :
  wpAny (model prog w) A (Builtin.«dict_itemiterator.__next__» ⟨[.ref it],[]⟩) Q E s:=by
 have hT:s.TypeIs (.ref it) "dict_itemiterator":=⟨_,hit,rfl⟩
 show wpAny _ _ (Builtin.Dict_items.slot0 "__next__" ⟨[.ref it],[]⟩ >>= _) _ _ _
 rw[show Builtin.Dict_items.slot0 "__next__" ⟨[.ref it],[]⟩=pure (.ref it) from rfl]
 refine wpAny_bind (wpAny_pure (wpAny_bind ?_))
 show wpAny _ _ (_ >>= _) _ _ _
 refine wpAny_bind ?_
 refine wpAny_bind (wpAny_typeNameOfWhole_itemiter hT (wpAny_pure ?_))
 rw[yW]
 refine wpAny_bind (wpAny_fieldsOf hit rfl ?_)
 show wpAny _ _ (if (Value.ref d == Value.none)=true then _ else _) _ _ _
 rw[if_neg (by intro c;cases c)]
 refine wpAny_bind (wpAny_pure (wpAny_bind (wpAny_dictEntries hd dt ?_)))
 dsimp only
 rw[if_neg (by simp)]
 refine wpAny_bind (wpAny_pure (wpAny_bind (wpAny_dictEpoch hd dt ?_)))
 rw[if_neg (by simp)]
 refine wpAny_pure ?_
 dsimp only
 rw[if_neg (by omega),u9,he]
 dsimp only
 refine wpAny_bind (wpAny_bind (wpAny_typeNameOfWhole_itemiter hT (wpAny_pure ?_)))
 rw[yW]
 refine wpAny_bind (wpAny_setField_rec hit (by simp) fun g1 z1 e1=>?_)
 refine wpAny_bind ?_
 simp only [newExc,newTuple]
 refine wpAny_bind (wpAny_newObj_type ?_ (by size_fits))
 refine wpAny_bind (m:=firstArgMember _ _) (wpAny_of_eq (a:=Value.none) (by first | rfl | (simp only [firstArgMember];rfl)) ?_)
 refine wpAny_newObj_type ?_ (by size_fits)
 simp only [raiseNew]
 refine wpAny_bind (wpAny_handled ?_)
 first | rw[show A.in1.handled=none from hh] | rw[hh]
 refine wpAny_bind (wpAny_pure (wpAny_throw ?_))
 exact hE _ _ ((e1.extBut.push _).push _) ⟨_,d8 _ rfl,rfl⟩
theorem qS{it d:Addr}{i ep:Nat}{ok ov:Value}{o:Obj}{es:Array DictEntry}{e:DictEntry}{Q:Option Value→Shared→Prop}(hit:IsItemIter s.heap it d i es.size ep ok ov)(hd:s.heap.get? d=some o)(dt:o.data=.dict es ep)(hne:d≠it)(he:es[i]?=some e)
  (hQ:∀ g,IsItemIterOut g it d (i+1) es.size ep e.key e.val s.heap.objs.size→g.get? s.heap.objs.size=some { cls:=.type "tuple",data:=.seq #[e.key,e.val] }→g.objs.size=s.heap.objs.size+1→(∀ c ob,c≠it→s.heap.get? c=some ob→g.get? c=some ob)→Q (some (.ref s.heap.objs.size)) { s with heap:=g }) :
  wpAny (model prog w) A (pyNext (.ref it)) Q E s:=by
 have hT:s.TypeIs (.ref it) "dict_itemiterator":=⟨_,hit,rfl⟩
 unfold pyNext
 exact wpAny_bind (wpAny_attempt (wpAny_callSpecial?_slot (name:=Str.ofString "__next__") hT t8 (wpAny_call_entry t8 hT aQq (rE hit hd dt hne he fun g b1 b2 b3 b4=>⟨_,rfl,wpAny_pure (hQ g b1 b2 b3 b4)⟩) (aQk _))))
theorem tU{it d:Addr}{i ep:Nat}{ok ov:Value}{o:Obj}{es:Array DictEntry}{Q:Option Value→Shared→Prop}(hh:A.handled=none)(hit:IsItemIter s.heap it d i es.size ep ok ov)(hd:s.heap.get? d=some o)(dt:o.data=.dict es ep)(he:es[i]?=none)
  (hQ:∀ g,Heap.ExtBut it s.heap g→Q none { s with heap:=g }):wpAny (model prog w) A (pyNext (.ref it)) Q E s:=by
 have hT:s.TypeIs (.ref it) "dict_itemiterator":=⟨_,hit,rfl⟩
 unfold pyNext
 refine wpAny_bind (wpAny_attempt (wpAny_callSpecial?_slot (name:=Str.ofString "__next__") hT t8 (wpAny_call_entry t8 hT aQq (tG hh hit hd dt he fun g e kp hx=>?_) (aQk _))))
 obtain⟨o,go,co⟩:=hx
 exact wpAny_bind (wpAny_isInstance (T:="StopIteration") (b:=true) ⟨o,go,co⟩ isSubtype_stop (wpAny_pure (hQ _ kp)))
theorem rK{d:Addr}{o:Obj}{Q:Value→Shared→Prop}(hn:(d == sysModules)=false)(hd:s.heap.get? d=some o)(ho:o.ExactDict)
  (h:Q (.ref s.heap.objs.size) { s with heap:=s.heap.push { cls:=.type "dict_items",data:=.fields #[.ref d] } }):wpAny (model prog w) A (call (.builtin "dict.items") [.ref d]) Q E s:=by
 have hT:s.TypeIs (.ref d) "dict":=⟨_,hd,ho.1⟩
 refine wpAny_call_entry F.slot_dict_items hT F.entry_dict_items ?_ (F.args_dict_items_1 _)
 unfold Builtin.«dict.items» Builtin.Dict.noArgs Builtin.Dict.notOrdered
 rw[if_pos (by decide)]
 refine wpAny_bind (wpAny_bind (wpAny_bind (wpAny_typeOf hT ?_)))
 rw[if_neg (by decide)]
 refine wpAny_pure (wpAny_bind ?_)
 rw[show Builtin.Dict.nameIsSure "items" ⟨[.ref d],[]⟩ (!(⟨[.ref d],[]⟩:Args).kw.isEmpty || (⟨[.ref d],[]⟩:Args).pos.length != 1)=pure () from rfl]
 refine wpAny_pure (wpAny_bind ?_)
 rw[show selfOnly (toString "dict."++toString "items") ⟨[.ref d],[]⟩=pure (.ref d) from rfl]
 refine wpAny_pure (wpAny_pure (wpAny_bind ?_))
 unfold Builtin.Dict.showsAll
 rw[hn]
 refine wpAny_pure (wpAny_bind ?_)
 unfold newFields
 exact wpAny_newObj_type (wpAny_pure ⟨_,rfl,h⟩) (by size_fits)
theorem rF{v d:Addr}{o:Obj}{es:Array DictEntry}{ep:Nat}{Q:Value→Shared→Prop}(hv:s.heap.get? v=some { cls:=.type "dict_items",data:=.fields #[.ref d] })(hd:s.heap.get? d=some o)(dt:o.data=.dict es ep)
  (h:Q (.ref s.heap.objs.size) { s with heap:=s.heap.push { cls:=.type "dict_itemiterator",data:=.fields #[.none,.bool false,.ref d,.int 0 0,.int es.size 0,.int ep 0,.none,.none] } }):wpAny (model prog w) A (pyIter (.ref v)) Q E s:=by
 have hT:s.TypeIs (.ref v) "dict_items":=⟨_,hv,rfl⟩
 refine wpAny_pyIter_slot hT aXU (wpAny_call_entry aXU hT F.entry_dict_items_iter ?_ (F.args_dict_items_iter_1 _))
 unfold Builtin.«dict_items.__iter__» Builtin.Dict_items.dictOf Builtin.Dict_items.newIterator
 rw[show Builtin.Dict_items.slot0 "__iter__" ⟨[.ref v],[]⟩=pure (.ref v) from rfl]
 refine wpAny_bind (wpAny_pure (wpAny_bind (wpAny_bind (wpAny_field hv rfl (x:=.ref d) rfl (wpAny_pure ?_)))))
 refine wpAny_bind (wpAny_bind (wpAny_dictEntries hd dt (wpAny_bind (wpAny_dictEpoch hd dt ?_))))
 unfold newFields
 refine wpAny_newObj_type (wpAny_pure ⟨_,rfl,"dict_itemiterator",_,⟨_,d8 _ rfl,rfl⟩,t8.lookup,?_⟩) (by show 8≤sizeLine+2;decide)
 exact h
end
end L2
namespace Lw
open PySem PySem.Spec PyProof.Rows L2 Ma MaR
section
variable {c:Nat}{sd:List Nat}
theorem cO{n:Nat}{x:List Nat}(h:RgN n x):AllL x∧bZ x∧(x≠[]→Ends x 0):=by
 obtain⟨y,hy,hp,m,b,he,hb,rfl⟩:=h
 have ha:=hy.all
 have hm:=iP (m:=m) ha
 have hcy:=nS ha hp he
 rcases hb with ⟨e0,rfl⟩ | ⟨hb,_⟩
 ·rw[e0]
  exact⟨AllL.nil,trivial,fun z=>absurd rfl z⟩
 ·refine⟨?_,qZ hcy hb,fun _=>kJ hm hcy hb⟩
  intro d hd
  unfold bX at hd
  rcases j8.mp hd with z | z
  ·exact hm d (m5 z)
  ·exact hm d (m9 z)
theorem wP{c e:Nat}(hc:bS c)(he:bS e)(hl:bJ e=true):e=lo c↔e=c∨e=aZ c:=by
 rcases aM hc with rfl | rfl | rfl | rfl | rfl | rfl | rfl | rfl <;> rcases aM he with rfl | rfl | rfl | rfl | rfl | rfl | rfl | rfl <;> revert hl <;> decide
end
end Lw
namespace L2
open PySem PySem.Spec PyProof.Rows
end L2
namespace Lw
open PySem PySem.Spec PyProof.Rows L2 Ma MaR
theorem dX{α:Type}(p:α→Bool)(l:List α)(i:Nat)(x:α)(h:l[i]?=some x):(l.take (i+1)).filter p=(l.take i).filter p++(if p x then [x] else []):=by
 rw[aQ1,h,aXg]
 congr 1
 show [x].filter p=_
 by_cases q:p x=true
 ·rw[List.filter_cons_of_pos q,if_pos q];rfl
 ·rw[List.filter_cons_of_neg q,if_neg q];rfl
theorem xA{X:Cx}{x:Str}{z:Int}{pos:Pos}(hg:Gl X x)(hm:∃ t,X.mg x=some (.int z t))(hd:(x == ("__debug__":Str))=false:=by decide):PE X (.Name x pos) (tC (.int z)):=by
 obtain⟨t,hm⟩:=hm
 intro pins s σ H Q I h
 exact jM I hg hm ⟨.int z,H,I,⟨t,rfl⟩,h⟩ hd
end Lw
namespace L2
open PySem PySem.Spec PyProof.Rows
end L2
namespace Lw
open PySem PySem.Spec PyProof.Rows L2
end Lw
namespace L2
open PySem PySem.Spec PyProof.Rows
theorem wM{prog:Program}{w:World}{A:Around}{E:Value→Shared→Prop}{s:Shared}{t b:Addr}{ws:List Value}{Q:Value→Shared→Prop}(ht:IsTup s.heap t (([]:List Value).toArray))(hb:IsTup s.heap b ws.toArray)
  (h1:Q (.ref b) s):wpAny (model prog w) A (binaryOp .Add (.ref t) (.ref b)) Q E s:=by
 obtain⟨⟨cls,dd,data,sl⟩,ho,hc,n,hd⟩:=id ht
 obtain⟨⟨cls2,dd2,data2,sl2⟩,ho2,hc2,n2,hd2⟩:=id hb
 simp only at hc hd hc2 hd2
 subst hc hd hc2 hd2
 exact concat_meets ⟨_,ho,rfl⟩ ⟨_,ho2,rfl⟩ noFill_tuple_add seq_tuple_add aQ7 aQ0 (aQX _ _)
   (tuple_addW0 t b _ ws.toArray n n2 dd dd2 sl sl2 (by simp)) ⟨ho,ho2,h1⟩
end L2
namespace Lw
open PySem PySem.Spec PyProof.Rows L2 Ma MaR
theorem mC:∀ {a b:List (List Nat)},a.map S=b.map S→a=b
 | [],[],_=>rfl
 | [],_::_,h=>by simp at h
 | _::_,[],h=>by simp at h
 | x::a,y::b,h=>by
  rw[k7,k7,List.cons.injEq] at h
  rw[pP h.1,mC h.2]
theorem xK(a b:List (List Nat)):fE (dS a) (dS b)=decide (a=b):=by
 have ea:∀ a:List (List Nat),dS a=(a.map S).map V.str:=fun a=>by unfold dS;rw[m6];rfl
 rw[ea a,ea b,oK]
 by_cases h:a=b
 ·rw[h];simp
 ·rw[decide_eq_false h,decide_eq_false (fun z=>h (mC z))]
end Lw
namespace L2
open PySem PySem.Spec PyProof.Rows
end L2
namespace Lw
open PySem PySem.Spec PyProof.Rows L2
end Lw
namespace L2
open PySem PySem.Spec PyProof.Rows
end L2
namespace Lw
open PySem PySem.Spec PyProof.Rows L2 Ma MaR
end Lw
namespace L2
open PySem PySem.Spec PyProof.Rows
end L2
namespace Lw
open PySem PySem.Spec PyProof.Rows L2 Ma MaR
end Lw
namespace L2
open PySem PySem.Spec PyProof.Rows
def qT(X:Cx)(scope:Scope)(qual:Str)(L fa:Addr)(cdv:Value):Env :=
 { scope:=scope,locals:=L,globals:=mainGlobals,cells:=fP scope.names X.env.cells,qual:=qual++".<locals>.",func:=some fa,code:=cdv,frame:=some L,builtins:=builtinsNs }
def iO(X:Cx)(scope:Scope)(x:Str)(ix:List Nat)(qual:Str)(fa:Addr)(cdv:Value)(s:Shared)(H:Hp):Cx where
 prog:=X.prog
 w:=X.w
 K:=X.K
 mg:=X.mg
 base:=X.base
 A:=X.A.deeper (qT X scope qual s.heap.objs.size fa cdv)
 N:=fL X x ix
 s₀:=s
 H₀:=H
 env:=qT X scope qual s.heap.objs.size fa cdv
 outer:=X.stack
 stack:=qT X scope qual s.heap.objs.size fa cdv::X.stack
 ex:=[]
 fn:=fun _=>false
 calm:=X.calm
 pn:=[]
 xe:=fun _ _=>False
section
variable {X:Cx}{scope:Scope}{x:Str}{ix:List Nat}{qual:Str}{fa:Addr}{cdv:Value}
theorem yU{pins:List (Addr×Obj)}{σ:St}{H:Hp}{s:Shared}{h':Heap}{t':Nat}{v:V}{u:Value}(S:CompSc X scope x ix)(I:Inv X pins σ H s)(r:RelV v u)
  (ns:h'.Ns s.heap.objs.size (fun y=>[(x,u)].reverse.lookup y)) (sb:Heap.SameBut s.heap.objs.size (s.heap.push { cls:=.type "frame",data:=.dict #[] }) h') :
  Inv (iO X scope x ix qual fa cdv s H) [] (some v::dE σ ix) H { s with heap:=h',toks:=t' }:=by
 have hk:∀ b u,s.heap.get? b=some u→h'.get? b=some u:=fun b u e=>(sb.2 b (i7 (d6 e))).trans (a9 _ e)
 have sound:∀ y c,(fP scope.names X.env.cells).lookup y=some c→X.env.cells.lookup y=some c:=kX scope.names [] (fun _ _ q=>by simp at q)
 have cellLt:∀ y c,X.env.cells.lookup y=some c→c<s.heap.objs.size:=fun y c e=>by
  obtain⟨v,q⟩:=I.cell y c e
  exact q.lt
 have cellK:∀ y c v,X.env.cells.lookup y=some c→s.heap.IsCell c v→h'.IsCell c v:=fun y c v _ ⟨o,ho,hd⟩=>⟨o,hk c o ho,hd⟩
 have noA:∀ b:Addr,b ∉ (iO X scope x ix qual fa cdv s H).ex:=fun b z=>absurd (show b∈([]:List Addr) from z) (by simp)
 refine⟨⟨I.ok.mod,S.kind,rfl,rfl,c8 _,fun y z c h1 h2=>I.ok.inj y z c (sound y c h1) (sound z c h2),fun y hy=>?_,fun y c hf _=>(by cases hf),I.ok.hd,aXZ I.ok.frames,.inr ⟨rfl,rfl⟩,fun b z=>absurd z (noA b),I.bs,m7 I.ok.bsz I.sz,fun b _ _=>noA b,fun b z=>absurd z (noA b),I.stack,I.stkFree⟩,
  rfl,I.bare,Un.kept hk,⟨_,ns,fun i y v' h1 h2 h3=>?_⟩,fun y c e=>?_,I.hok.fresh (c8 _),fun y c e=>I.freeC y c (sound y c e),fun p hp=>absurd (show p∈([]:List (Addr×Obj)) from hp) (by simp),I.hok.kept hk,?_⟩
 ·have hy':scope.names.lookup y=some .free:=by
   rcases(show scope.names.lookup y=some .cell∨scope.names.lookup y=some .free from hy) with h | h
   ·exact absurd rfl (S.nocell _ (l7 h))
   ·exact h
  obtain⟨c,hc⟩:=S.cells I.ok (y,.free) (l7 hy') rfl
  exact v0.mp (kS scope.names [] y c (l7 hy') hc)
 ·cases i with
  | zero =>
   have h1':x=y:=by simpa [iO,fL] using h1
   have h2':v=v':=by simpa using h2
   subst h1' h2'
   exact⟨u,r,.inl ⟨S.x,by simp⟩⟩
  | succ i =>
   have h1':(ix.map fun i=>X.N.getD i "")[i]?=some y:=by simpa [iO,fL] using h1
   have h2':(ix.map fun i=>σ.getD i none)[i]?=some (some v'):=by simpa [dE] using h2
   rw[f6] at h1' h2'
   cases ei:ix[i]? with
   | none=>rw[ei] at h1';cases h1'
   | some j =>
    rw[ei] at h1' h2'
    have h1'':X.N.getD j ""=y:=j7 h1'
    have h2'':σ.getD j none=some v':=j7 h2'
    obtain⟨hj,hfr⟩:=S.cap j (d7 ei)
    rw[h1''] at hfr
    have e1:X.N[j]?=some y:=by
     rw[c7 hj]
     rw[d5,c7 hj] at h1''
     exact congrArg some h1''
    have e2:σ[j]?=some (some v'):=by
     have hj':j<σ.length:=by rw[I.len];exact hj
     rw[c7 hj']
     rw[d5,c7 hj'] at h2''
     exact congrArg some h2''
    have vis:BD X.env.scope y:=by
     rcases S.free (y,.free) (l7 hfr) rfl with q | q
     ·exact .inr (.inl q)
     ·exact .inr (.inr q)
    obtain⟨m,hn,hl⟩:=I.loc
    obtain⟨u',r',q⟩:=hl j y v' e1 e2 vis
    refine⟨u',r',.inr ⟨.inr hfr,?_⟩⟩
    rcases q with ⟨k,_⟩ | ⟨_,c,hc,z⟩
    ·rcases S.free (y,.free) (l7 hfr) rfl with q | q
     ·rw[show X.env.kindOf y=X.env.scope.names.lookup y from rfl,q] at k;cases k
     ·rw[show X.env.kindOf y=X.env.scope.names.lookup y from rfl,q] at k;cases k
    ·obtain⟨c',hc'⟩:=v0.mp (kS scope.names [] y c (l7 hfr) hc)
     have e3:=sound y c' hc'
     rw[hc] at e3;cases e3
     exact⟨c,hc',cellK y c _ hc z⟩
 ·obtain⟨v,q⟩:=I.cell y c (sound y c e)
  exact⟨v,cellK y c v (sound y c e) q⟩
 ·simp[dE,iO,fL]
theorem yM{pins:List (Addr×Obj)}{σ:St}{H:Hp}{s:Shared}{Q:VK}{v:V}{u:Value}{name:Str}{params:Arguments}{body:Expr}{te:TE}{pm ct:Value}{k:Nat}{sl:Array (Option Value)}{od:Option Addr}(S:CompSc X scope x ix)
  (hco:scope.isCoroutine=false) (hgen:scope.isGenerator=false) (hr:Room k X.A)
  (ho:s.heap.get? fa=some ⟨.type "function",od,.func (PySem.W.kla_fn name qual params body scope (fP scope.names X.env.cells) pm cdv ct),sl⟩) (hcd:s.heap.CodeRec cdv qual)
  (hb:∀ u:Value,bindArgs (PySem.W.kla_fn name qual params body scope (fP scope.names X.env.cells) pm cdv ct) ⟨[u],[]⟩=pure [(x,u)])
  (he:PE (iO X scope x ix qual fa cdv s H) body te) (I:Inv X pins σ H s) (r:RelV v u) (h:te (some v::dE σ ix) H Q) :
  wpAny (model X.prog X.w) X.A (call (.ref fa) [u]) (EP X pins σ Q) X.xe s:=by
 have lim:s.heap.NoLimit:=I.ok.mod.nolimit.keeps fun b o e=>(I.bs b o e).1
 refine wpAny_call (PySem.W.kla_callFunE hr.depth ho rfl hco hgen rfl hcd ?_)
 rw[hb u]
 refine wpAny_pure ?_
 refine wpAny_newFunctionEnv S.nocell (fun y hy=>by rw[c9.mp hy];exact S.x) (fun h' ns sb=>?_) S.kind
 have hk:∀ b u,s.heap.get? b=some u→h'.get? b=some u:=fun b u e=>(sb.2 b (i7 (d6 e))).trans (a9 _ e)
 refine⟨lim.keeps hk,PySem.W.kla_codeExpr ?_⟩
 have J:Inv (iO X scope x ix qual fa cdv s H) [] (some v::dE σ ix) H { s with heap:=h',toks:=s.toks+[(x,u)].length }:=yU S I r ns sb
 refine wpAny_mono (he [] _ _ H Q J h) (fun v' s' ⟨y,H',J',ry,q⟩=>?_) (fun _ _ f=>f.elim)
 exact I.after ⟨y,H',J'.os,J'.bare,J'.base,J'.hok,ry,q⟩
end
section
variable {X:Cx}{f:Addr}{sp:Sp}{rlt:R2}
theorem zP{pins:List (Addr×Obj)}{σ:St}{Q:VK}{l it bs:Addr}{xs:List V}{Pv:Nat→V→V→Hp→Prop}
  (hcall:∀ (pl:List (Addr×Obj)) (s:Shared) (H:Hp) (y:V) (u:Value) (Q:VK),Inv X.one (pins++pl) σ H s→RelV y u→sp [y] H Q E0→wpAny (model X.prog X.w) X.A.in1 (call (.ref f) [u]) (EP X.one (pins++pl) σ Q) (fun _ _=>False) s) (hlt:gC X.one (compareOp .Lt) rlt) (hc:X.calm=true) (ok:X.Ok) (hne:bs≠it)
  (hsq:∀ i b kb H,Pv i b kb H→SqL X.K H l xs)
  (hst:∀ i b kb H,Pv i b kb H→∀ y,xs[i]?=some y→sp [y] H (fun v H2=>rlt v kb H2 fun c H3=>∃ t,c=.bl t∧Pv (i+1) (if t=true then y else b) (if t=true then v else kb) H3) E0)
  (hend:∀ b kb H,Pv xs.length b kb H→Q b H) :
  ∀ (r i:Nat) (s:Shared) (H:Hp) (b kb:V) (ub uk:Value) (c:Nat),xs.length - i=r→i≤xs.length→Inv X.one pins σ H s→(∀ a∈[it,bs],cU X.one pins H a)→s.heap.IsListIter it l i→s.heap.get? bs=some (seqObj "list" #[ub,uk] c)→RelV b ub→RelV kb uk→Pv i b kb H →
   codeAny (model X.prog X.w) X.A (.builtin "min.loop" ⟨[.ref it,.ref f,.ref bs],[]⟩) (Cy X pins σ Q) s:=by
 intro r
 induction r with
 | zero =>
  intro i s H b kb ub uk c hri hi I hf st gb rb rk pv
  have hin:i=xs.length:=by omega
  subst hin
  obtain⟨its,rv,pl,hz⟩:=I.list (hsq _ _ _ _ pv)
  have hlen:=rv.length
  obtain⟨f0,f1,f2,f3,f4,f5⟩:=hf it (by simp)
  obtain⟨g0,g1,g2,g3,g4,g5⟩:=hf bs (by simp)
  refine codeAny_builtin w6 ?_
  rw[q0 l6 _]
  show wpAny _ X.A.in1 (seqItems? (.ref bs) >>= _) _ _ _
  refine wpAny_bind (wpAny_seqItems gb rfl ?_)
  show wpAny _ X.A.in1 (tryCatch (pyNext (.ref it)) _ >>= _) _ _ _
  refine wpAny_bind (wpAny_tryCatch (wpAny_pyNext_list_end (I.ok.hd hc) st pl.isList (by simp;omega) fun h' eb=>?_))
  have I1:Inv X.one pins σ H { s with heap:=h' }:=I.turned (t':=s.toks) (fun a o ha e=>eb a o ha e) f0 f1 f3 f4 f5
  have gb1:=eb bs _ hne gb
  show wpAny _ X.A.in1 (updateSeq bs (fun _=>#[]) >>= _) _ _ _
  refine wpAny_bind (wpAny_updateSeq gb1 rfl (wpAny_bind (wpAny_letGo (wpAny_pure ?_))))
  have sb:=p7 h' bs (Obj.mapSeq fun _=>(#[]:Array Value))
  have I2:=I1.turned (t':=s.toks) (h':=h'.update bs (Obj.mapSeq fun _=>(#[]:Array Value))) (fun a o ha e=>(sb.2 a ha).trans e) g0 g1 g3 g4 g5
  exact⟨b,H,I2.unone ok,rb,hend _ _ _ pv⟩
 | succ r ih =>
  intro i s H b kb ub uk c hri hi I hf st gb rb rk pv
  have hlt':i<xs.length:=by omega
  obtain⟨y,hy⟩:∃ y,xs[i]?=some y:=⟨_,c7 hlt'⟩
  obtain⟨its,rv,pl,hz⟩:=I.list (hsq _ _ _ _ pv)
  obtain⟨u,hu,ru⟩:=rv.get hy
  obtain⟨f0,f1,f2,f3,f4,f5⟩:=hf it (by simp)
  obtain⟨g0,g1,g2,g3,g4,g5⟩:=hf bs (by simp)
  refine codeAny_builtin w6 ?_
  rw[q0 l6 _]
  show wpAny _ X.A.in1 (seqItems? (.ref bs) >>= _) _ _ _
  refine wpAny_bind (wpAny_seqItems gb rfl ?_)
  show wpAny _ X.A.in1 (tryCatch (pyNext (.ref it)) _ >>= _) _ _ _
  refine wpAny_bind (wpAny_tryCatch (wpAny_pyNext_list_item st pl.isList (x:=u) (by simpa using hu) fun h' st' sb=>?_))
  have I1:Inv X.one pins σ H { s with heap:=h' }:=I.turned (t':=s.toks) (fun a o ha e=>(sb.2 a ha).trans e) f0 f1 f3 f4 f5
  have gb1:h'.get? bs=some (seqObj "list" #[ub,uk] c):=(sb.2 bs hne).trans gb
  obtain⟨oi,goi,goc,god⟩:=id st'
  have hob:∀ a∈[it,bs],∃ o,h'.get? a=some o∧∀ v,o.data≠.cell v:=fun a ha=>by
   rcases d9.mp ha with rfl | ha
   ·exact⟨oi,goi,fun v z=>by rw[god] at z;cases z⟩
   ·rw[c9.mp ha];exact⟨_,gb1,fun v z=>by cases z⟩
  have I2:=I1.pinned hf hob
  show wpAny _ X.A.in1 (tryCatch (holding [u] (call (.ref f) [u])) _ >>= _) _ _ _
  refine wpAny_bind (wpAny_tryCatch (wpAny_holding (wpAny_mono (hcall _ _ _ _ _ _ I2 ru (hst i b kb H pv y hy)) (fun z s2 he=>?_) fun _ _ hF=>hF.elim)))
  obtain⟨v,H2,I3,rz,q2⟩:=he
  show wpAny _ X.A.in1 (tryCatch (holding [u,z] (richCompare .Lt z uk >>= _)) _ >>= _) _ _ _
  refine wpAny_bind (wpAny_tryCatch (wpAny_holding (wpAny_bind (wpAny_mono (hlt _ s2 σ H2 v kb z uk _ I3 rz rk q2) (fun cv s3 hq=>?_) fun _ _ hF=>hF.elim))))
  obtain⟨cc,H3,I4,rc,t,rfl,pv'⟩:=hq
  obtain rfl:cv=.bool t:=rc
  refine wpAny_bind (wpAny_holding (wpAny_truthy_bool (wpAny_bind (wpAny_letGo (wpAny_pure ?_)))))
  have pin4:∀ a∈[it,bs],∀ o,h'.get? a=some o→s3.heap.get? a=some o∧H3 a=none:=fun a ha o e=>by
   have:=I4.pin (a,o) (e9 _ (e9 _ (bO ha e)))
   exact⟨this.1,this.2.1⟩
  obtain⟨gi4,ni4⟩:=pin4 it (by simp) oi goi
  obtain⟨gb4,nb4⟩:=pin4 bs (by simp) _ gb1
  have hf4:∀ a∈[it,bs],cU X.one pins H3 a:=fun a ha=>by
   refine⟨?_,(hf a ha).2⟩
   rcases d9.mp ha with rfl | ha
   ·exact ni4
   ·rw[c9.mp ha];exact nb4
  have I5:=I4.unpinned
  cases t with
  | true =>
   show wpAny _ X.A.in1 (updateSeq bs (fun _=>#[u,z]) >>= _) _ _ _
   refine wpAny_bind (wpAny_updateSeq gb4 rfl (wpAny_bind (wpAny_letGo ?_)))
   rw[eE]
   have sb2:=p7 s3.heap bs (Obj.mapSeq fun _=>#[u,z])
   obtain⟨n0,n1,n2,n3,n4,n5⟩:=hf4 bs (by simp)
   have I6:=I5.turned (t':=s3.toks) (h':=s3.heap.update bs (Obj.mapSeq fun _=>#[u,z])) (fun a o ha e=>(sb2.2 a ha).trans e) n0 n1 n3 n4 n5
   exact wpAny_pure ⟨plainId_quiet l6 _,ih (i+1) _ H3 y v u z _ (by omega) (by omega) I6 hf4 ⟨oi,(sb2.2 it hne.symm).trans gi4,goc,god⟩ (get?_update_seq gb4 fun _=>#[u,z]) ru rz (by simpa using pv')⟩
  | false =>
   refine wpAny_bind (wpAny_letGo ?_)
   rw[eE]
   exact wpAny_pure ⟨plainId_quiet l6 _,ih (i+1) _ H3 b kb ub uk c (by omega) (by omega) I5 hf4 ⟨oi,gi4,goc,god⟩ gb4 rb rk (by simpa using pv')⟩
theorem vV{pins:List (Addr×Obj)}{σ:St}{Q:VK}{l:Addr}{xs:List V}{Pv:Nat→V→V→Hp→Prop}{s:Shared}{H:Hp}
  (hcall:∀ (pl:List (Addr×Obj)) (s:Shared) (H:Hp) (y:V) (u:Value) (Q:VK),Inv X.one (pins++pl) σ H s→RelV y u→sp [y] H Q E0→wpAny (model X.prog X.w) X.A.in1 (call (.ref f) [u]) (EP X.one (pins++pl) σ Q) (fun _ _=>False) s) (hlt:gC X.one (compareOp .Lt) rlt) (hc:X.calm=true) (I:Inv X pins σ H s) (hq:SqL X.K H l xs)
  (hsq:∀ i b kb H,Pv i b kb H→SqL X.K H l xs) {x0:V} (hx0:xs[0]?=some x0) (h0:sp [x0] H (fun v H2=>Pv 1 x0 v H2) E0)
  (hst:∀ i b kb H,Pv i b kb H→∀ y,xs[i]?=some y→sp [y] H (fun v H2=>rlt v kb H2 fun c H3=>∃ t,c=.bl t∧Pv (i+1) (if t=true then y else b) (if t=true then v else kb) H3) E0)
  (hend:∀ b kb H,Pv xs.length b kb H→Q b H) :
  wpAny (model X.prog X.w) X.A (call (.builtin "min") [.ref l] [(Str.ofString "key",.ref f)]) (EP X pins σ Q) X.xe s:=by
 obtain⟨its,rv,pl,hz⟩:=I.list hq
 obtain⟨u,hu,ru⟩:=rv.get hx0
 obtain⟨ol,hol,_⟩:=id pl.isList
 have hll:=d6 hol
 refine kmk_tree aXy aXl aXm (kmk_min_key _ _) ?_
 show wpAny _ X.A.in1 (Builtin.Builtins.bindParams "min" ["key","default"] 0 ⟨[],[(Str.ofString "key",.ref f)]⟩ >>= _) _ _ s
 have ebp:Builtin.Builtins.bindParams "min" ["key","default"] 0 ⟨[],[(Str.ofString "key",.ref f)]⟩=pure [some (.ref f),none]:=rfl
 refine wpAny_bind (wpAny_of_eq ebp (wpAny_bind (wpAny_pure (wpAny_bind (wpAny_pyIter_list pl.isList (wpAny_bind (wpAny_newList ?_ (l5 _))))))))
 rw[eE]
 obtain⟨h1,e1⟩:∃ h1,h1=s.heap.push { cls:=.type "list_iterator",data:=.fields #[.ref l,.int 0 0] }:=⟨_,rfl⟩
 rw[← e1]
 have z1:h1.objs.size=s.heap.objs.size+1:=by rw[e1];exact size_push' ..
 obtain⟨h2,e2⟩:∃ h2,h2=h1.push (seqObj "list" #[] 0):=⟨_,rfl⟩
 have kp1:∀ b o,s.heap.get? b=some o→h1.get? b=some o:=fun b o e=>by rw[e1];exact a9 _ e
 have kp2:∀ b o,h1.get? b=some o→h2.get? b=some o:=fun b o e=>by rw[e2];exact a9 _ e
 have gi:h1.get? s.heap.objs.size=some { cls:=.type "list_iterator",data:=.fields #[.ref l,.int 0 0] }:=by rw[e1];exact d8 _ rfl
 have gs:h2.get? h1.objs.size=some (seqObj "list" #[] 0):=by rw[e2];exact d8 _ rfl
 have I0:Inv X.one pins σ H { s with heap:=h2 }:=I.one.kept (t':=s.toks) fun b o e=>kp2 b o (kp1 b o e)
 have hne:h1.objs.size≠s.heap.objs.size:=by omega
 have hf:∀ a∈[s.heap.objs.size,h1.objs.size],cU X.one pins H a:=fun a ha=>by
  have:s.heap.objs.size≤a:=by
   rcases d9.mp ha with rfl | ha
   ·exact c8 _
   ·rw[c9.mp ha];omega
  exact I.one.fpOk this (I.hok.fresh this)
 refine wpAny_pure ⟨plainId_quiet l6 _,?_⟩
 refine codeAny_builtin w6 ?_
 rw[q0 l6 _]
 show wpAny _ X.A.in1 (seqItems? (.ref h1.objs.size) >>= _) _ _ { s with heap:=h1.push (seqObj "list" #[] 0) }
 rw[← e2]
 refine wpAny_bind (wpAny_seqItems gs rfl ?_)
 show wpAny _ X.A.in1 (tryCatch (pyNext (.ref s.heap.objs.size)) _ >>= _) _ _ _
 obtain⟨its2,rv2,pl2,_⟩:=I0.list hq
 obtain⟨u2,hu2,ru2⟩:=rv2.get hx0
 refine wpAny_bind (wpAny_tryCatch (wpAny_pyNext_list_item (i:=0) ⟨_,kp2 _ _ gi,rfl,rfl⟩ pl2.isList (x:=u2) (by simpa using hu2) fun h' st' sb=>?_))
 obtain⟨f0,f1,f2,f3,f4,f5⟩:=hf s.heap.objs.size (by simp)
 have I1:Inv X.one pins σ H { s with heap:=h' }:=I0.turned (t':=s.toks) (fun a o ha e=>(sb.2 a ha).trans e) f0 f1 f3 f4 f5
 have gb1:h'.get? h1.objs.size=some (seqObj "list" #[] 0):=(sb.2 _ hne).trans gs
 obtain⟨oi,goi,goc,god⟩:=id st'
 have hob:∀ a∈[s.heap.objs.size,h1.objs.size],∃ o,h'.get? a=some o∧∀ v,o.data≠.cell v:=fun a ha=>by
  rcases d9.mp ha with rfl | ha
  ·exact⟨oi,goi,fun v z=>by rw[god] at z;cases z⟩
  ·rw[c9.mp ha];exact⟨_,gb1,fun v z=>by cases z⟩
 have I2:=I1.pinned hf hob
 show wpAny _ X.A.in1 (tryCatch (holding [u2] (call (.ref f) [u2])) _ >>= _) _ _ _
 refine wpAny_bind (wpAny_tryCatch (wpAny_holding (wpAny_mono (hcall _ _ _ _ _ _ I2 ru2 h0) (fun z s2 he=>?_) fun _ _ hF=>hF.elim)))
 obtain⟨v,H2,I3,rz,pv⟩:=he
 have pin3:∀ a∈[s.heap.objs.size,h1.objs.size],∀ o,h'.get? a=some o→s2.heap.get? a=some o∧H2 a=none:=fun a ha o e=>by
  have:=I3.pin (a,o) (e9 _ (e9 _ (bO ha e)))
  exact⟨this.1,this.2.1⟩
 obtain⟨gi4,ni4⟩:=pin3 s.heap.objs.size (by simp) oi goi
 obtain⟨gb4,nb4⟩:=pin3 h1.objs.size (by simp) _ gb1
 have hf4:∀ a∈[s.heap.objs.size,h1.objs.size],cU X.one pins H2 a:=fun a ha=>by
  refine⟨?_,(hf a ha).2⟩
  rcases d9.mp ha with rfl | ha
  ·exact ni4
  ·rw[c9.mp ha];exact nb4
 show wpAny _ X.A.in1 (updateSeq h1.objs.size (fun _=>#[u2,z]) >>= _) _ _ _
 refine wpAny_bind (wpAny_updateSeq gb4 rfl ?_)
 rw[eE]
 have sb2:=p7 s2.heap h1.objs.size (Obj.mapSeq fun _=>#[u2,z])
 obtain⟨n0,n1,n2,n3,n4,n5⟩:=hf4 h1.objs.size (by simp)
 have I6:=I3.unpinned.turned (t':=s2.toks) (h':=s2.heap.update h1.objs.size (Obj.mapSeq fun _=>#[u2,z])) (fun a o ha e=>(sb2.2 a ha).trans e) n0 n1 n3 n4 n5
 have hx1:0<xs.length:=(c5.mp hx0).1
 exact wpAny_pure ⟨plainId_quiet l6 _,zP hcall hlt hc I.ok hne hsq hst hend _ 1 _ H2 x0 v u2 z _ rfl (by omega) I6 hf4 ⟨oi,(sb2.2 _ hne.symm).trans gi4,goc,god⟩ (get?_update_seq gb4 fun _=>#[u2,z]) ru2 rz pv⟩
end
def XCd(c:Addr)(qual:Str):HO:=.ext fun h=>h.CodeRec (.ref c) qual
theorem XCd.ok{P:Program}{w:World}{H:Hp}{h:Heap}{c:Addr}{qual:Str}(r:h.CodeRec (.ref c) qual):ObjOk P w H h c (XCd c qual):=by
 refine⟨r,?_,fun h1 h2 ⟨c',o,vs,t,e,g,d,q⟩ k=>?_⟩
 ·obtain⟨c',o,vs,t,e,g,_⟩:=r
  cases e
  exact⟨o,g⟩
 ·cases e
  exact⟨_,o,vs,t,rfl,k _ g,d,q⟩
def eR(pos:Pos)(c:Addr):Array Value:=#[rawInt pos.line,rawInt pos.col,.ref c]
def TabH(H:Hp)(P:Addr)(pos:Pos)(qual:Str):Prop:=H P=some (.tbl #[])∨∃ c,H P=some (.tbl (eR pos c))∧H c=some (XCd c qual)
def BM(base:Heap)(mg:Str→Option Value):Prop:=∃ (bm:Addr) (o:Obj),mg "__builtins__"=some (.ref bm)∧bm≠builtinsNs∧base.get? bm=some o∧o.cls=.type "module"∧o.dict=some builtinsNs∧o.data=.plain
structure LamMk(X:Cx)(c P:Addr):Prop where
 code:X.env.code=.ref c
 hd:PySem.W.codeHdIn X.K c P=true
 bm:BM X.base X.mg
section
variable {X:Cx}{scope:Scope}{x:Str}{ix:List Nat}{params:Arguments}{body:Expr}{pos:Pos}{c P:Addr}{pins:List (Addr×Obj)}{σ:St}{H:Hp}{s:Shared}{Q:Value→Shared→Prop}{E:Value→Shared→Prop}
theorem xP(M:LamMk X c P)(S:CompSc X scope x ix)(hdef:defaultsOf params X.env=([],[]))(I:Inv X pins σ H s)(T:TabH H P pos (X.env.qual++"<lambda>"))
  (h:∀ (fa c':Addr) (ct:Value) (H':Hp) (s':Shared),Inv X pins σ H' s'→s'.heap.get? fa=some (PySem.W.kla_obj "<lambda>" (X.env.qual++"<lambda>") params body scope (fP scope.names X.env.cells) ((X.mg "__name__").getD .none) c' ct) →
   s.heap.objs.size≤fa→H' fa=none→H' P=some (.tbl (eR pos c'))→H' c'=some (XCd c' (X.env.qual++"<lambda>"))→(∀ b o,H b=some o→b≠P→H' b=some o)→Q (.ref fa) s') :
  wpAny (model X.prog X.w) X.A (eval (.Lambda params body scope pos) X.env) Q E s:=by
 refine PySem.W.kla_eval hdef ?_
 have hcl:=cX (S.cells I.ok)
 have hg:s.heap.Ns mainGlobals X.mg:=I.mod.glob.keeps I.bk
 have hC:PySem.W.CodeHd s.heap c P:=aX3 I.kIn M.hd
 obtain⟨bm,ob,mgb,bn,hob,hcls,hdict,hdata⟩:=M.bm
 have gb:s.heap.get? bm=some ob:=I.bk _ _ hob
 have baseNone:∀ b o,X.base.get? b=some o→H b=none:=fun b o e=>(I.bs b o e).2
 have hbN:H bm=none:=baseNone bm ob hob
 have hgN:H mainGlobals=none:=by
  obtain⟨o,_,_,e,_⟩:=I.ok.mod.glob
  exact baseNone _ o e
 have hPs:∃ ps,H P=some (.tbl ps):=by
  rcases T with e | ⟨c',e,_⟩
  ·exact⟨_,e⟩
  ·exact⟨_,e⟩
 obtain⟨ps0,hP0⟩:=hPs
 have hgP:mainGlobals≠P:=fun z=>by rw[z,hP0] at hgN;cases hgN
 have hbP:bm≠P:=fun z=>by rw[z,hP0] at hbN;cases hbN
 have hbG:bm≠mainGlobals:=fun z=>by
  obtain⟨o,_,_,e,hd,_⟩:=hg
  rw[z,e] at gb;cases gb;rw[hd] at hdata;cases hdata
 have hB:s.heap.BuiltinsAt X.mg P:=⟨bm,ob,mgb,bn,hbG,hbP,gb,hcls,hdict,hdata⟩
 rcases T with eP | ⟨c',eP,eC⟩
 ·have gP:s.heap.get? P=some (PySem.W.tabObj #[]):=I.hok P _ eP
  refine PySem.W.kla_makeFunction hcl I.ok.glob hg M.code hC gP trivial rfl hgP hB fun c' ctv h' tk hx hge hlt hrec htb=>?_
  have hPc:P≠c':=fun z=>by
   have q:=d6 gP
   rw[z] at q
   exact r9 _ (k0 q hge)
  have hcN:H c'=none:=I.hok.fresh hge
  have k1:∀ b o,b≠P→s.heap.get? b=some o→(h'.push (PySem.W.kla_obj "<lambda>" (X.env.qual++"<lambda>") params body scope (fP scope.names X.env.cells) ((X.mg "__name__").getD .none) c' ctv)).get? b=some o:=fun b o hb e=>a9 _ (hx b o hb e)
  have gP':(h'.push (PySem.W.kla_obj "<lambda>" (X.env.qual++"<lambda>") params body scope (fP scope.names X.env.cells) ((X.mg "__name__").getD .none) c' ctv)).get? P=some (PySem.W.tabObj (eR pos c')):=a9 _ (by rw[htb];rfl)
  have rec':(h'.push (PySem.W.kla_obj "<lambda>" (X.env.qual++"<lambda>") params body scope (fP scope.names X.env.cells) ((X.mg "__name__").getD .none) c' ctv)).CodeRec (.ref c') (X.env.qual++"<lambda>"):=hrec.push _
  have gF:=d8 h' (o:=PySem.W.kla_obj "<lambda>" (X.env.qual++"<lambda>") params body scope (fP scope.names X.env.cells) ((X.mg "__name__").getD .none) c' ctv) rfl
  have hsz:s.heap.objs.size≤h'.objs.size:=aQW (o6 hge hlt)
  generalize h'.push (PySem.W.kla_obj "<lambda>" (X.env.qual++"<lambda>") params body scope (fP scope.names X.env.cells) ((X.mg "__name__").getD .none) c' ctv)=h2 at k1 gP' rec' gF
  have go:∀ b o,H b=some o→b≠P→upd (upd H P (.tbl (eR pos c'))) c' (XCd c' (X.env.qual++"<lambda>")) b=some o:=fun b o e n=>by
   rw[aG (fun z=>by rw[z,hcN] at e;cases e),aG n];exact e
  have ntP:∀ {o:HO},(∀ ps,o≠.tbl ps)→∀ b,H b=some o→b≠P:=fun {o} hn b e z=>by rw[z,eP] at e;cases e;exact hn _ rfl
  have U:Un X.fs [] H (upd (upd H P (.tbl (eR pos c'))) c' (XCd c' (X.env.qual++"<lambda>"))) s.heap h2:=by
   refine⟨fun b o e n _ _=>?_,fun b o e n _ _=>⟨o.slots,?_⟩,fun b o e n _=>?_,fun b o e _=>?_,fun b xs e=>go b _ e (ntP (by intro _ z;cases z) b e),fun b o u e=>go b _ e (ntP (by intro _ z;cases z) b e),fun b ps e=>?_⟩
   ·exact k1 b o (fun z=>by rw[z,eP] at n;cases n) e
   ·exact k1 b o (fun z=>by rw[z,eP] at n;cases n) e
   ·rw[aG (fun z=>by have q:=d6 e;rw[z] at q;exact r9 _ (k0 q hge)),aG (fun z=>by rw[z,eP] at n;cases n)]
    exact n
   ·by_cases hb:b=P
    ·rw[hb];exact⟨_,gP'⟩
    ·exact⟨o,k1 b o hb e⟩
   ·by_cases hb:b=P
    ·subst hb
     rw[eP] at e
     cases e
     exact⟨eR pos c',by rw[aG hPc,aB];simp⟩
    ·exact⟨#[],by rw[go b _ e hb];simp⟩
  have OK:HOk X.prog X.w (upd (upd H P (.tbl (eR pos c'))) c' (XCd c' (X.env.qual++"<lambda>"))) h2:=by
   intro b o e
   by_cases hb:b=c'
   ·subst hb
    rw[aB] at e
    cases e
    exact XCd.ok rec'
   ·rw[aG hb] at e
    by_cases hbp:b=P
    ·subst hbp
     rw[aB] at e
     cases e
     exact gP'
    ·rw[aG hbp] at e
     refine(I.hok b o e).stay (fun a w' ha q=>k1 a w' ?_ q) (fun a q=>go a _ q (ntP (by intro _ z;cases z) a q)) fun a xs q=>go a _ q (ntP (by intro _ z;cases z) a q)
     rcases ha with ha | ha
     ·rw[ha];exact hbp
     ·exact ntP (by intro _ z;cases z) a ha
  refine h h'.objs.size c' ctv _ _ (I.un (t':=tk) U OK) gF hsz ?_ ?_ aB go
  ·rw[aG (x8 hlt),aG (fun z=>by have q:=d6 gP;rw[← z] at q;exact r9 _ (k0 q hsz))]
   exact I.hok.fresh hsz
  ·rw[aG hPc,aB]
 ·have gP:s.heap.get? P=some (PySem.W.tabObj (eR pos c')):=I.hok P _ eP
  refine PySem.W.kla_makeFunctionHit (cv:=.ref c') hcl I.ok.glob hg M.code hC gP (by simp[eR,TriplesOk,rawInt]) (by simp[eR,codeAmong,rawInt]) hB fun ctv h' tk hk hsz=>?_
  have k1:∀ b o,s.heap.get? b=some o→(h'.push (PySem.W.kla_obj "<lambda>" (X.env.qual++"<lambda>") params body scope (fP scope.names X.env.cells) ((X.mg "__name__").getD .none) c' ctv)).get? b=some o:=fun b o e=>a9 _ (hk b o e)
  exact h h'.objs.size c' ctv H _ (I.kept (t':=tk) k1) (d8 _ rfl) hsz (I.hok.fresh hsz) eP eC (fun b o e _=>e)
end
end L2
namespace LtL
open PySem PyProof.Rows HT
open PySem.SeqAt
open PySem.AutoSeq1 (wpAny_loadPart')
open PySem.MeetsSeq PySem.MeetsSeq2 PySem.MeetsSeq3
end LtL
namespace L2
open PySem PySem.Spec PyProof.Rows
def AA(K:b9)(P:Addr)(pos:Pos)(qual:Str)(ix:List Nat)(rlt:R2)(ta:TA)(te:TE):TE:=fun σ H Q=>ta σ H fun vs H1=>∃ (l:Addr) (xs:List V),vs=[.ref l]∧TabH H1 P pos qual ∧
 ∀ (c':Addr) (H2:Hp),H2 P=some (.tbl (eR pos c'))→H2 c'=some (XCd c' qual)→(∀ b o,H1 b=some o→b≠P→H2 b=some o)→∃ Pv:Nat→V→V→Hp→Prop,SqL K H2 l xs ∧
  (∀ i b kb H,Pv i b kb H→SqL K H l xs∧H c'=some (XCd c' qual))∧(∃ x0,xs[0]?=some x0∧te (some x0::dE σ ix) H2 fun v H3=>Pv 1 x0 v H3) ∧
  (∀ i b kb H,Pv i b kb H→∀ y,xs[i]?=some y→te (some y::dE σ ix) H fun v H2=>rlt v kb H2 fun c H3=>∃ t,c=.bl t∧Pv (i+1) (if t=true then y else b) (if t=true then v else kb) H3) ∧
  ∀ b kb H,Pv xs.length b kb H→Q b H
theorem CompSc.one{X:Cx}{scope:Scope}{x:Str}{ix:List Nat}(S:CompSc X scope x ix):CompSc X.one scope x ix:=⟨S.kind,S.nocell,S.loc,S.x,S.free,S.cap⟩
section
variable {X:Cx}{scope:Scope}{x:Str}{ix:List Nat}{params:Arguments}{body e:Expr}{lpos p kpos pos:Pos}{c P:Addr}{ta:TA}{te:TE}{rlt:R2}{k:Nat}
theorem uA(M:LamMk X c P)(S:CompSc X scope x ix)(hco:scope.isCoroutine=false)(hgen:scope.isGenerator=false)(hr:Room (k+1) X.A)(hlt:gC X.one (compareOp .Lt) rlt)(hc:X.calm=true)
  (hg:Gl X "min") (hm:X.mg "min"=none) (ha:PA X [e] ta)
  (he:∀ (fa:Addr) (cdv:Value) (s:Shared) (H:Hp),PE (iO X.one scope x ix (X.env.qual++"<lambda>") fa cdv s H) body te)
  (hb:∀ (cl:List (Str×Addr)) (pm cdv ct u:Value),bindArgs (PySem.W.kla_fn "<lambda>" (X.env.qual++"<lambda>") params body scope cl pm cdv ct) ⟨[u],[]⟩=pure [(x,u)])
  (hdef:defaultsOf params X.env=([],[]))
  (hall:(backToKw pos (keywordEach [⟨some (Str.ofString "key"),.Lambda params body scope lpos,kpos⟩] X.env)).all (·.1.isSome)=true:=by rfl) (hks:(backToKw pos (keywordEach [⟨some (Str.ofString "key"),.Lambda params body scope lpos,kpos⟩] X.env)).filterMap (·.1)=[Str.ofString "key"]:=by rfl)
  (hs:backTo pos (starEach [e] X.env)=[(false,eval e X.env)]:=by rfl) (hkw:(backToKw pos (keywordEach [⟨some (Str.ofString "key"),.Lambda params body scope lpos,kpos⟩] X.env)).any (·.1.isNone)=false:=by rfl) :
  PE X (.Call (.Name "min" p) [e] [⟨some (Str.ofString "key"),.Lambda params body scope lpos,kpos⟩] pos) (AA X.K P lpos (X.env.qual++"<lambda>") ix rlt ta te):=by
 intro pins s σ H Q I h
 refine wpAny_Call_Name_kw (eX I hg hm boot_min ?_ (by decide) (by decide))
 refine callWith_kw (bP (ha pos pins s σ H _ I h) fun us s1 ⟨vs,H1,I1,r1,q1⟩=>?_) (by rw[hs];rfl) (by rw[hs];rfl) hall hkw
 obtain⟨l,xs,rfl,tab,q1⟩:=q1
 obtain⟨u,rfl,ru⟩:=iS r1
 cases ru
 show wpAny _ _ (evalAll ((do let v ← eval (.Lambda params body scope lpos) X.env;standAt pos;pure v)::(backToKw pos (keywordEach [] X.env)).map (·.2))) _ _ s1
 refine wpAny_evalAll_cons (wpAny_bind (xP M S hdef I1 tab fun fa c' ct H2 s2 I2 gF hsz hfN eP eC go=>wpAny_bind (wpAny_standAt (wpAny_pure ?_))))
 refine wpAny_evalAll_nil ?_
 rw[hks]
 obtain⟨Pv,hq,hsq,⟨x0,hx0,h0⟩,hst,hend⟩:=q1 c' H2 eP eC go
 have fp:cU X pins H2 fa:=I1.fpOk hsz hfN
 have JP:=I2.pinned (fp:=[fa]) (fun b hb=>by rw[c9.mp hb];exact fp) (fun b hb=>by rw[c9.mp hb];exact⟨_,gF,fun v z=>nomatch z⟩)
 have run:=vV (X:=X) (f:=fa) (sp:=fun vs H Q _=>∃ y,vs=[y]∧H c'=some (XCd c' (X.env.qual++"<lambda>"))∧te (some y::dE σ ix) H Q) (rlt:=rlt) (pins:=pins++gO [fa] s2.heap) (σ:=σ) (Q:=Q) (l:=l) (xs:=xs) (Pv:=Pv) (s:=s2) (H:=H2)
  (fun pl s' H' y u Q' I' ry ⟨y',ey,hC,hte⟩=>by
   cases ey
   have gF':=(I'.pin (fa,_) (e9 _ (n9 _ (e9 _ (bO (c9.mpr rfl) gF))))).1
   have hrec:s'.heap.CodeRec (.ref c') (X.env.qual++"<lambda>"):=(show ObjOk X.prog X.w H' s'.heap c' (XCd c' (X.env.qual++"<lambda>")) from I'.hok c' _ hC).1
   exact yM (X:=X.one) (qual:=X.env.qual++"<lambda>") (fa:=fa) (cdv:=.ref c') S.one hco hgen hr.in1 gF' hrec (fun u=>hb _ _ _ _ u) (he fa (.ref c') s' H') I' ry hte)
  hlt hc JP hq (fun i b kb H hp=>(hsq i b kb H hp).1) hx0 ⟨x0,rfl,eC,h0⟩ (fun i b kb H hp y hy=>⟨y,rfl,(hsq i b kb H hp).2,hst i b kb H hp y hy⟩) hend
 exact wpAny_mono run (fun v s3 ⟨y,H3,I3,ry,q⟩=>⟨y,H3,I3.unpinned,ry,q⟩) (fun _ _ z=>z)
end
structure Tb where
 P:Addr
 pos:Pos
 qual:Str
def dH(ts:List Tb)(H:Hp):Prop:=(∀ t∈ts,∀ t'∈ts,t.P=t'.P→t=t')∧∀ t∈ts,TabH H t.P t.pos t.qual
def NoT(o:HO):Prop:=∀ ps,o≠.tbl ps
structure SameT(ts:List Tb)(H H':Hp):Prop where
 keep:∀ b o,H b=some o→NoT o→H' b=some o
 tabs:dH ts H→dH ts H'
section
variable {ts:List Tb}{H H1 H2 H':Hp}{t:Tb}{c':Addr}{K:b9}
theorem TabH.is{P:Addr}{pos:Pos}{q:Str}(h:TabH H P pos q):∃ ps,H P=some (.tbl ps):=by
 rcases h with e | ⟨c',e,_⟩
 ·exact⟨_,e⟩
 ·exact⟨_,e⟩
theorem NoT.xcd{q:Str}:NoT (XCd c' q):=fun _ z=>by unfold XCd at z;cases z
theorem SameT.refl:SameT ts H H:=⟨fun _ _ e _=>e,fun h=>h⟩
theorem SameT.trans(a:SameT ts H H1)(b:SameT ts H1 H2):SameT ts H H2:=⟨fun c o e n=>b.keep c o (a.keep c o e n) n,fun h=>b.tabs (a.tabs h)⟩
theorem SameT.of(s:Same H H'):SameT ts H H':=⟨fun b o e _=>s b o e,fun ⟨d,h⟩=>⟨d,fun t ht=>by
 rcases h t ht with e | ⟨c,e,e2⟩
 ·exact .inl (s _ _ e)
 ·exact .inr ⟨c,s _ _ e,s _ _ e2⟩⟩⟩
theorem SameT.tup(s:SameT ts H H'){b:Addr}{xs:List V}(e:H b=some (.tup xs)):H' b=some (.tup xs):=s.keep b _ e fun _ z=>by cases z
theorem SameT.lst(s:SameT ts H H'){b:Addr}{xs:List V}(e:H b=some (.lst xs)):H' b=some (.lst xs):=s.keep b _ e fun _ z=>by cases z
theorem SameT.made(ht:t∈ts)(h:dH ts H1)(eP:H2 t.P=some (.tbl (eR t.pos c')))(eC:H2 c'=some (XCd c' t.qual))(go:∀ b o,H1 b=some o→b≠t.P→H2 b=some o):SameT ts H1 H2:=by
 obtain⟨ps,hp⟩:=(h.2 t ht).is
 have ne:∀ b o,H1 b=some o→NoT o→b≠t.P:=fun b o e n z=>by rw[z,hp] at e;cases e;exact n _ rfl
 refine⟨fun b o e n=>go b o e (ne b o e n),fun _=>⟨h.1,fun t' ht'=>?_⟩⟩
 by_cases e:t'.P=t.P
 ·have:=h.1 t' ht' t ht e
  subst this
  exact .inr ⟨c',eP,eC⟩
 ·rcases h.2 t' ht' with q | ⟨c,q,q2⟩
  ·exact .inl (go _ _ q e)
  ·exact .inr ⟨c,go _ _ q e,go _ _ q2 (ne _ _ q2 NoT.xcd)⟩
end
def DF(K:b9)(fd:FuncData)(c P:Addr):Prop:=fd.code=.ref c∧PySem.W.codeHdIn K c P=true
section
variable {P:Program}{w:World}{K:b9}{mg:Str→Option Value}{base:Heap}
theorem Fun.okM{x qual:Str}{st:Stmt}{f:Addr}{fd:FuncData}{N ps:List Str}{k:Nat}{sp:Sp}(F:Fun K x qual st f fd)(S:FnScope N ps (aF st))(len:∀ vs H Q E,sp vs H Q E→vs.length=ps.length)
  (hbody:∀ (cdv:Value) (A:Around) (outer:List Env) (s:Shared) (H:Hp) (vs:List V) (Q:VK) (E:XK),fd.code=cdv→Room k (A.deeper (envOfC qual (aF st) s.heap.objs.size f cdv))→sp vs H Q E →
   ∃ t,PSs (rB qF P w K mg base N qual (aF st) f cdv A outer s H E).nox (eB st) t∧t { nx:=fun _ H'=>Q .non H',rt:=Q } (hG N vs) H):FnOk P w K mg base qF (k+1) f fd ps sp:=by
 obtain⟨oc,od,kV,doc,pm,an,cdv,ct,osl,rfl,lk,hcd⟩:=F.ex
 refine Ay lk hcd S len fun A outer s H vs Q E hr hsp=>?_
 obtain⟨t,h,q⟩:=hbody cdv A outer s H vs Q E rfl hr hsp
 exact⟨t,h.nox,q⟩
theorem rN{X:Cx}{sc0 scope:Scope}{N:List Str}{x:Str}{ix:List Nat}{params:Arguments}{body e:Expr}{lpos p kpos pos:Pos}{c P:Addr}{ta:TA}{te:TE}{rlt:R2}{k:Nat}(hK:X.K=K)(M:LamMk X c P)(hch:gI sc0 scope N x ix=true)(e1:X.env.scope=sc0)(e2:X.N=N)
  (hco:scope.isCoroutine=false) (hgen:scope.isGenerator=false) (hr:Room (k+1) X.A) (hlt:gC X.one (compareOp .Lt) rlt) (hc:X.calm=true)
  (hg:Gl X "min") (hm:X.mg "min"=none) (ha:PA X [e] ta)
  (he:∀ (fa:Addr) (cdv:Value) (s:Shared) (H:Hp),PE (iO X.one scope x ix (X.env.qual++"<lambda>") fa cdv s H) body te)
  (hb:∀ (cl:List (Str×Addr)) (pm cdv ct u:Value),bindArgs (PySem.W.kla_fn "<lambda>" (X.env.qual++"<lambda>") params body scope cl pm cdv ct) ⟨[u],[]⟩=pure [(x,u)])
  (hdef:defaultsOf params X.env=([],[]))
  (hall:(backToKw pos (keywordEach [⟨some (Str.ofString "key"),.Lambda params body scope lpos,kpos⟩] X.env)).all (·.1.isSome)=true:=by rfl) (hks:(backToKw pos (keywordEach [⟨some (Str.ofString "key"),.Lambda params body scope lpos,kpos⟩] X.env)).filterMap (·.1)=[Str.ofString "key"]:=by rfl)
  (hs:backTo pos (starEach [e] X.env)=[(false,eval e X.env)]:=by rfl) (hkw:(backToKw pos (keywordEach [⟨some (Str.ofString "key"),.Lambda params body scope lpos,kpos⟩] X.env)).any (·.1.isNone)=false:=by rfl) :
  PE X (.Call (.Name "min" p) [e] [⟨some (Str.ofString "key"),.Lambda params body scope lpos,kpos⟩] pos) (AA K P lpos (X.env.qual++"<lambda>") ix rlt ta te):=by
 subst hK
 exact uA M (dM hch e1 e2).1 hco hgen hr hlt hc hg hm ha he hb hdef hall hks hs hkw
end
def BZ(ts:List Addr)(H:Hp):Prop:=∀ b,H b=none∨(∃ o xs,H b=some (.frz o (.lst xs)))∨(b∈ts∧H b=some (.tbl #[]))
theorem uF{P:Program}{w:World}{K:b9}{mg mb:Str→Option Value}{k:Nat}{fa a:Addr}{fd:FuncData}{x:Str}{sp:Sp}{s₁:Shared}{vs:List Value}{ns:List Int}{ts:List (Addr×Addr)}
  (KX:K.In s₁.heap) (hns:s₁.heap.Ns mainGlobals mg) (hb:s₁.heap.Ns builtinsNs mb) (hbb:∀ x:Str,x≠"__name__"→mb x=bootBuiltins x) (hlim:s₁.heap.NoLimit) (hbm:BM s₁.heap mg) (hg:s₁.gens=#[])
  (ha:s₁.heap.get? a=some { cls:=.type "list",data:=.seq vs.toArray }) (hi:IntsAre vs ns) (hl:ns.length≤sizeLine) (hr:Room k callerA)
  (hts:∀ t∈ts,PySem.W.codeHdIn K t.1 t.2=true∧K.lookup t.2=none∧s₁.heap.get? t.2=some (PySem.W.tabObj #[]))
  (F:∀ base:Heap,K.In base→base.Ns mainGlobals mg→BM base mg→FnOk P w K mg base qF k fa fd [x] sp) (hbind:∀ (s:Shared) (u:Value),BindsTo s fd ⟨[u],[]⟩ [(x,u)])
  (hsp:∀ H:Hp,(∀ t∈ts,H t.2=some (.tbl #[]))→SqL K H a (ns.map V.int)→sp [.ref a] H (fun v _=>v=.bl true) fun _ _ _=>False) :
  codeAny (model P w) callerA (.call (.ref fa) ⟨[.ref a],[]⟩) (fun r s'=>r=.ok (.ret (.bool true))∧OldK s₁.heap s'.heap∧s'.os=s₁.os∧AllBare s'.gens) s₁:=by
 have rv:=mG hi
 have lenV:=hi.length
 have core:∀ H:Hp,BZ (ts.map (·.2)) H→(∀ t∈ts,H t.2=some (.tbl #[]))→SqL K H a (ns.map V.int)→HOk P w H s₁.heap→(∀ b,H b≠none→b=a∨∃ t∈ts,b=t.2)→(H a≠none→K.lookup a=none) →
   codeAny (model P w) callerA (.call (.ref fa) ⟨[.ref a],[]⟩) (fun r s'=>r=.ok (.ret (.bool true))∧OldK s₁.heap s'.heap∧s'.os=s₁.os∧AllBare s'.gens) s₁:=by
  intro H hO hT hS hok hA hK
  have base_of:∀ {b:Addr} {o:Obj},s₁.heap.get? b=some o→H b=none→(lJ s₁.heap H).get? b=some o:=fun e n=>xY e n
  have noA:∀ {b:Addr} {o:Obj},s₁.heap.get? b=some o→(∀ its n,o.data≠.seq its n)→(∀ ps,o.data≠.fields ps)→H b=none:=fun {b o} e d1 d2=>by
   cases q:H b with
   | none=>rfl
   | some u =>
    rcases hA b (by rw[q];simp) with e' | ⟨t,ht,e'⟩
    ·subst e'
     rw[ha] at e;cases e
     exact absurd rfl (d1 _ _)
    ·subst e'
     rw[(hts t ht).2.2] at e;cases e
     exact absurd rfl (d2 _)
  have nsK:∀ {b:Addr} {m:Str→Option Value},s₁.heap.Ns b m→(lJ s₁.heap H).Ns b m:=fun {b m} ⟨o,es,ep,e,d,r⟩=>⟨o,es,ep,base_of e (noA e (fun _ _ z=>by rw[d] at z;cases z) (fun _ z=>by rw[d] at z;cases z)),d,r⟩
  have hKb:K.In (lJ s₁.heap H):=fun b o e=>base_of (KX b o e) (by
   cases q:H b with
   | none=>rfl
   | some u =>
    rcases hA b (by rw[q];simp) with e' | ⟨t,ht,e'⟩
    ·subst e'
     rw[hK (by rw[q];simp)] at e;cases e
    ·subst e'
     rw[(hts t ht).2.1] at e;cases e)
  have hBb:BM (lJ s₁.heap H) mg:=by
   obtain⟨bm,o,h1,h2,h3,h4,h5,h6⟩:=hbm
   exact⟨bm,o,h1,h2,base_of h3 (noA h3 (fun _ _ z=>by rw[h6] at z;cases z) (fun _ z=>by rw[h6] at z;cases z)),h4,h5,h6⟩
  have hM:Mod K mg (lJ s₁.heap H):=⟨hKb,nsK hns,⟨mb,nsK hb,hbb⟩,let ⟨mc,h1,h2⟩:=hlim;⟨mc,nsK h1,h2⟩⟩
  have e0:Env0 P w K mg (lJ s₁.heap H) callerA [] s₁ H:=⟨rfl,hM,fun b o e=>yP e,Nat.le_of_eq (uX _ _),trivial,fun b hb=>absurd (show b∈([]:List Addr) from hb) (by simp),hok,.of_eq hg⟩
  refine codeAny_mono ((F _ hKb (nsK hns) hBb).run callerA [] s₁ H ⟨[.ref a],[]⟩ [.ref a] [.ref a] _ _ hr e0 (hbind s₁ (.ref a)) (.cons rfl .nil) (hsp H hT hS)) fun r s' h=>?_
  cases r with
  | error e=>exact False.elim h
  | ok fl =>
   cases fl with
   | next=>exact False.elim h
   | brk=>exact False.elim h
   | cont=>exact False.elim h
   | ret u =>
    obtain⟨v,H',os,bare,un,hok',r',q⟩:=h
    have q':v=.bl true:=q
    subst q'
    obtain rfl:u=Value.bool true:=r'
    have old:∀ b o,s₁.heap.get? b=some o→asItWas s₁.heap s'.heap b o∧∃ o',s'.heap.get? b=some o':=fun b o e=>by
     cases q:H b with
     | none =>
      have:=un.keep b o e q (by intro z;exact absurd (show b∈([]:List Addr) from z) (by simp)) (by simp)
      exact⟨.inl this,_,this⟩
     | some u =>
      rcases hO b with z | ⟨ob,xs,z⟩ | ⟨hb,z⟩
      ·rw[q] at z;cases z
      ·have z2:=un.frzs b ob _ z
       obtain⟨e1,_⟩:=hok b _ z
       obtain⟨e2,_⟩:=hok' b _ z2
       rw[e] at e1;cases e1
       exact⟨.inl e2,_,e2⟩
      ·obtain⟨t,ht,et⟩:=i4.mp hb
       have et:t.2=b:=et
       obtain⟨more,z2⟩:=un.tbls b _ z
       have e2:s'.heap.get? b=some (PySem.W.tabObj (#[]++more)):=hok' b _ z2
       have e1:=(hts t ht).2.2
       rw[et,e] at e1
       cases e1
       have ct:=((aX3 KX (hts t ht).1).tab (hts t ht).2.2).isCodeTable
       rw[et] at ct
       exact⟨.inr (.inl ⟨ct,rfl,#[],more,rfl,e2⟩),_,e2⟩
    exact⟨rfl,⟨fun b o e=>(old b o e).1,fun b o e=>(old b o e).2⟩,os,bare⟩
 have hat:∀ t∈ts,t.2≠a:=fun t ht z=>by
  have e:=(hts t ht).2.2
  rw[z,ha] at e
  cases e
 have tb:∀ b,(∃ t∈ts,b=t.2)∨¬ ∃ t∈ts,b=t.2:=fun b=>Classical.em _
 classical
 let H0:Hp:=fun b=>if ∃ t∈ts,b=t.2 then some (.tbl #[]) else none
 have H0t:∀ t∈ts,H0 t.2=some (.tbl #[]):=fun t ht=>if_pos ⟨t,ht,rfl⟩
 have H0a:H0 a=none:=if_neg fun ⟨t,ht,e⟩=>hat t ht e.symm
 have H0c:∀ b o,H0 b=some o→(∃ t∈ts,b=t.2)∧o=.tbl #[]:=fun b o e=>by
  by_cases q:∃ t∈ts,b=t.2
  ·have e':=(if_pos q).symm.trans e
   cases e'
   exact⟨q,rfl⟩
  ·have e':=(if_neg q).symm.trans e
   cases e'
 have H0k:HOk P w H0 s₁.heap:=fun b o e=>by
  obtain⟨⟨t,ht,rfl⟩,rfl⟩:=H0c b o e
  exact(hts t ht).2.2
 have H0O:∀ b,H0 b=none∨(b∈ts.map (·.2)∧H0 b=some (.tbl #[])):=fun b=>by
  cases q:H0 b with
  | none=>exact .inl rfl
  | some o =>
   obtain⟨⟨t,ht,rfl⟩,rfl⟩:=H0c b o q
   exact .inr ⟨i4.mpr ⟨t,ht,rfl⟩,rfl⟩
 generalize H0=H0 at H0t H0a H0c H0k H0O
 cases hk:K.lookup a with
 | some o =>
  have e:=KX a o hk
  rw[ha] at e
  cases e
  refine core H0 (fun b=>?_) H0t (.inr ⟨_,vs.toArray,_,hk,rfl,rfl,rfl,by rw[f9,lenV];exact hl,by simpa using rv⟩) H0k (fun b z=>?_) fun z=>absurd H0a z
  ·rcases H0O b with z | z
   ·exact .inl z
   ·exact .inr (.inr z)
  ·cases q:H0 b with
   | none=>exact absurd q z
   | some o=>exact .inr (H0c b o q).1
 | none =>
  have ua:upd H0 a (.frz { cls:=.type "list",data:=.seq vs.toArray } (.lst (ns.map V.int))) a=some (.frz { cls:=.type "list",data:=.seq vs.toArray } (.lst (ns.map V.int))):=aB
  refine core (upd H0 a (.frz { cls:=.type "list",data:=.seq vs.toArray } (.lst (ns.map V.int)))) (fun b=>?_) (fun t ht=>(aG (hat t ht)).trans (H0t t ht)) (.inl (.inr ⟨_,ua⟩)) (fun b u z=>?_) (fun b z=>?_) fun _=>hk
  ·by_cases hb:b=a
   ·rw[hb];exact .inr (.inl ⟨_,_,ua⟩)
   ·rw[aG hb]
    rcases H0O b with z | z
    ·exact .inl z
    ·exact .inr (.inr z)
  ·by_cases hb:b=a
   ·subst hb
    rw[ua] at z
    cases z
    exact⟨ha,by rw[c6];exact hl,vs,_,rv,ha⟩
   ·rw[aG hb] at z
    obtain⟨⟨t,ht,rfl⟩,rfl⟩:=H0c b u z
    exact(hts t ht).2.2
  ·by_cases hb:b=a
   ·exact .inl hb
   ·rw[aG hb] at z
    cases q:H0 b with
    | none=>exact absurd q z
    | some o=>exact .inr (H0c b o q).1
theorem walk_ofT{l:PySem.W.OpenLaw}{n k:Nat}{q:Program}{loose:List Str}{XP:(Str→Option Value)→Heap→Prop}{YP:World→Heap→Prop}{d:DefRec}{K:Params→b9}{sp:World→Sp}{x:Str}{ts:List (Addr×Addr)}
  (hn:l.most=some n) (hn2:n≤sizeLine) (hdf:d.params.defaults=[]) (hr:Room k callerA)
  (hY:∀ (w:World) (h:Heap),YP w h→(K w.params).In h) (hYt:∀ (w:World) (h:Heap),YP w h→∀ t∈ts,h.get? t.2=some (PySem.W.tabObj #[]))
  (hts:∀ w:World,∀ t∈ts,PySem.W.codeHdIn (K w.params) t.1 t.2=true∧(K w.params).lookup t.2=none)
  (F:∀ (w:World) (mg:Str→Option Value) (fa:Addr) (h:Heap),(K w.params).In h→h.Ns mainGlobals mg→mg d.name=some (.ref fa) →
   ∃ fd:FuncData,(∀ (s:Shared) (u:Value),BindsTo s fd ⟨[u],[]⟩ [(x,u)]) ∧
    ∀ base:Heap,(K w.params).In base→base.Ns mainGlobals mg→BM base mg→FnOk l.prog w (K w.params) mg base qF k fa fd [x] (sp w))
  (hsp:∀ (w:World) (H:Hp) (a:Addr) (ns:List Int),ns.length≤n→(∀ t∈ts,H t.2=some (.tbl #[]))→SqL (K w.params) H a (ns.map V.int)→sp w [.ref a] H (fun v _=>v=.bl true) fun _ _ _=>False) :
  PySem.W.WalkO q loose XP YP l.row.toRowW d [] (fun f vs=>PySem.call f vs):=by
 refine Att.attach_call hn hdf fun w s₀ s₁ mg mb fa o pm cd doc a vs ns G Y ho hd hcd hmg hobj hints hlen hg=>?_
 have KX:=hY w _ Y
 obtain⟨fd,hb,hF⟩:=F w mg fa _ KX G.T.g hmg
 exact uF KX G.T.g G.T.b G.T.builtins G.T.nolimit G.T.bmain hg hobj hints (m7 hlen hn2) hr (fun t ht=>⟨(hts w t ht).1,(hts w t ht).2,hYt w _ Y t ht⟩) hF hb fun H hT hS=>hsp w H a ns hlen hT hS
end L2
namespace Lw
open PySem PySem.Spec PyProof.Rows L2 Ma MaR
inductive spLawT(K:b9)(ts:List Tb)(vs:List V)(H:Hp)(Q:VK)(E:XK):Prop
 | mk (a:Addr) (ns:List Int) (_:vs=[.ref a]) (_:SqL K H a (ns.map V.int)) (_:ns.length≤63) (_:dH ts H) (_:∀ H',Q (.bl true) H'):spLawT K ts vs H Q E
theorem tQ{ts:List Tb}{H H':Hp}(k:∀ b o,H b=some o→(∀ xs,o≠.lst xs)→H' b=some o)(h:dH ts H):dH ts H':=⟨h.1,fun t ht=>by
 rcases h.2 t ht with e | ⟨c,e,e2⟩
 ·exact .inl (k _ _ e (by intro _ z;cases z))
 ·exact .inr ⟨c,k _ _ e (by intro _ z;cases z),k _ _ e2 (by intro _ z;unfold XCd at z;cases z)⟩⟩
theorem mX{ts:List Tb}{H H':Hp}{fl sc:Addr}(f:IsFl H fl sc)(k:Kp fl H H')(h:dH ts H):dH ts H':=tQ (fun b u eb n=>k b u eb fun z=>by
 obtain⟨_,_,_,_,_,h1,_⟩:=f
 rw[z,h1] at eb
 cases eb
 exact n _ rfl) h
end Lw
namespace L2
open PySem PySem.Spec PyProof.Rows
end L2
namespace Lw
open PySem PySem.Spec PyProof.Rows L2 Ma MaR
theorem jT:∀ (w:List Nat) (i:Nat),(aO w).eraseIdx i=aO (w.eraseIdx i)
 | [],_=>rfl
 | _::_,0=>rfl
 | c::w,i+1=>by
  show V.str (S [c])::(aO w).eraseIdx i=V.str (S [c])::aO (w.eraseIdx i)
  rw[jT w i]
end Lw
namespace PySem
open Sem (wp)
end PySem
namespace L2
open PySem PySem.Spec PyProof.Rows
end L2
namespace Lw
open PySem PySem.Spec PyProof.Rows L2 Ma MaR
structure Exch(n:Nat)(cs:List Nat):Prop where
 len:cs.length=n
 mem:∀ c∈cs,c∈aL n
 perm:(cs.map lo).Perm (aS n)
def bQ(cs:List Nat):List (List Nat):=cs.map fun c=>[c]
inductive spExchP(vs:List V)(H:Hp)(Q:VK)(E:XK):Prop
 | mk (fl sc:Addr) (n:Nat) (_:vs=[.ref fl,.int (n:Nat)]) (_:IsFl H fl sc) (_:1≤n) (_:n≤4) (_:∀ (p:Addr) (cs:List Nat) (H':Hp),H p=none→Exch n cs→RT (bQ cs) n 1→(∀ x∈bQ cs,OfN n x)→H' p=some (.tup (dS (bQ cs)))→IsFl H' fl sc→Kp fl H H'→Q (.ref p) H'):spExchP vs H Q E
theorem gW{d:Nat}(hd:bS d)(h:bJ d=true):lo d=d:=((wP hd hd h).mpr (.inl rfl)).symm
theorem wK{d:Nat}(hd:bS d)(h:bJ d=true):lo (aZ d)=d:=((wP (nN hd) hd h).mpr (.inr (bA hd).symm)).symm
theorem qO{ls:List Nat}{i d:Nat}(h:ls[i]?=some d):(d::ls.eraseIdx i).Perm ls:=by
 induction ls generalizing i with
 | nil=>simp at h
 | cons a ls ih =>
  cases i with
  | zero=>simp at h;subst h;exact aZP _
  | succ i =>
   have:=ih (i:=i) (by simpa using h)
   show (d::a::ls.eraseIdx i).Perm (a::ls)
   exact(List.Perm.swap a d _).trans (this.cons a)
end Lw
namespace L2
open PySem PySem.Spec PyProof.Rows
end L2
namespace Lw
open PySem PySem.Spec PyProof.Rows L2 Ma MaR
def eK(c:Nat):Nat:=if bJ c=true then c - 97 else c - 65
def gX(cs:List Nat)(c:Nat):Nat:=if bJ c=true then cs.getD (eK c) 0 else aZ (cs.getD (eK c) 0)
theorem vR{n c:Nat}(h1:1≤n)(h4:n≤4)(h:c∈aL n):eK c<n:=by
 have hL:=aM (aE h)
 rcases sO h1 h4 with rfl | rfl | rfl | rfl <;> rcases hL with rfl | rfl | rfl | rfl | rfl | rfl | rfl | rfl <;> revert h <;> decide
theorem sH{c d:Nat}(hc:bS c)(hd:bS d)(h:eK c=eK d):c=d∨c=aZ d:=by
 rcases aM hc with rfl | rfl | rfl | rfl | rfl | rfl | rfl | rfl <;> rcases aM hd with rfl | rfl | rfl | rfl | rfl | rfl | rfl | rfl <;> revert h <;> decide
theorem rS{d:Nat}(hd:bS d):lo (aZ d)=lo d:=by
 rcases aM hd with rfl | rfl | rfl | rfl | rfl | rfl | rfl | rfl <;> decide
theorem eT{n:Nat}(h1:1≤n)(h4:n≤4):(aS n).Nodup:=by
 rcases sO h1 h4 with rfl | rfl | rfl | rfl <;> decide
section
variable {n:Nat}{cs:List Nat}(h1:1≤n)(h4:n≤4)(e:Exch n cs)
include h1 h4 e
theorem Exch.at{c:Nat}(h:c∈aL n):∃ d,cs[eK c]?=some d∧d∈aL n∧gX cs c=if bJ c=true then d else aZ d:=by
 have hi:=vR h1 h4 h
 have hl:eK c<cs.length:=by rw[e.len];exact hi
 refine⟨cs[eK c],c7 hl,e.mem _ (q8 hl),?_⟩
 unfold gX
 rw[d5,c7 hl]
 rfl
theorem Exch.tell{c:Nat}(h:c∈aL n):tell (bQ cs) c=[gX cs c]:=by
 obtain⟨d,hd,_,hg⟩:=e.at h1 h4 h
 have e0:(bQ cs).getD (eK c) []=[d]:=by
  unfold bQ
  rw[d5,f6,hd]
  rfl
 unfold Lw.tell
 rw[hg]
 by_cases q:bJ c=true
 ·rw[if_pos q,if_pos q]
  unfold eK at e0
  rw[if_pos q] at e0
  exact e0
 ·rw[if_neg q,if_neg q]
  unfold eK at e0
  rw[if_neg q] at e0
  rw[e0]
  rfl
theorem Exch.gmem{c:Nat}(h:c∈aL n):gX cs c∈aL n:=by
 obtain⟨d,_,hm,hg⟩:=e.at h1 h4 h
 rw[hg]
 split
 ·exact hm
 ·exact cP (by omega) (by omega) hm
theorem Exch.gcon{c:Nat}(h:c∈aL n):gX cs (aZ c)=aZ (gX cs c):=by
 have hc:=aE h
 have q:(bJ c=true∧bJ (aZ c)=false∧eK (aZ c)=eK c)∨(bJ c=false∧bJ (aZ c)=true∧eK (aZ c)=eK c):=by
  rcases aM hc with rfl | rfl | rfl | rfl | rfl | rfl | rfl | rfl <;> decide
 obtain⟨d,hd,hm,hg⟩:=e.at h1 h4 h
 have e1:cs.getD (eK c) 0=d:=by rw[d5,hd];rfl
 unfold gX
 rcases q with ⟨a,b,c'⟩ | ⟨a,b,c'⟩
 ·rw[c',e1,if_neg (by rw[b];decide),if_pos a]
 ·rw[c',e1,if_pos b,if_neg (by rw[a];decide),bA (aE hm)]
theorem Exch.ginj{c d:Nat}(hc:c∈aL n)(hd:d∈aL n)(h:gX cs c=gX cs d):c=d:=by
 obtain⟨x,hx,xm,gx⟩:=e.at h1 h4 hc
 obtain⟨y,hy,ym,gy⟩:=e.at h1 h4 hd
 have lx:lo (gX cs c)=lo x:=by rw[gx];split <;> first | rfl | exact rS (aE xm)
 have ly:lo (gX cs d)=lo y:=by rw[gy];split <;> first | rfl | exact rS (aE ym)
 have nd:(cs.map lo).Nodup:=(e.perm.nodup_iff).mpr (eT h1 h4)
 have ei:eK c=eK d:=by
  have q1:(cs.map lo)[eK c]?=some (lo x):=by rw[f6,hx];rfl
  have q2:(cs.map lo)[eK d]?=some (lo x):=by rw[f6,hy,← lx,h,ly];rfl
  have l1:eK c<(cs.map lo).length:=(c5.mp q1).1
  exact(List.getElem?_inj l1 nd).mp (q1.trans q2.symm)
 rcases sH (aE hc) (aE hd) ei with z | z
 ·exact z
 ·exfalso
  rw[z,e.gcon h1 h4 hd] at h
  exact xI (aE (e.gmem h1 h4 hd)) h
theorem Exch.told{x:List Nat}(hx:OfN n x):told (bQ cs) x=x.map (gX cs):=by
 induction x with
 | nil=>rfl
 | cons c x ih=>rw[gD,e.tell h1 h4 (hx c j6),ih fun d hd=>hx d (i9 _ hd)];rfl
theorem Exch.plain{x:List Nat}(hx:OfN n x)(hp:bZ x):bZ (x.map (gX cs)):=by
 unfold bZ at *
 rw[← aXN]
 have:∀ y:List Nat,(∀ c∈y,c∈aL n)→PlainR y→PlainR (y.map (gX cs)):=by
  intro y
  induction y with
  | nil=>intro _ _;trivial
  | cons a y ih =>
   intro hm hq
   cases y with
   | nil=>trivial
   | cons b y =>
    refine⟨fun z=>hq.1 ?_,ih (fun c hc=>hm c (i9 _ hc)) hq.2⟩
    have ham:=hm a (by simp)
    rw[← e.gcon h1 h4 ham] at z
    exact e.ginj h1 h4 (hm b (by simp)) (cP (by omega) (by omega) ham) z
 exact this _ (fun c hc=>hx c (y2.mp hc)) hp
theorem Exch.retl{x:List Nat}(hx:OfN n x)(hp:bZ x):retl (bQ cs) x=x.map (gX cs):=by
 unfold Lw.retl
 rw[e.told h1 h4 hx,Bo (e.plain h1 h4 hx hp)]
end
section
variable {n:Nat}{cs:List Nat}(h1:1≤n)(h4:n≤4)(e:Exch n cs)
include h1 h4 e
theorem Exch.ends{x:List Nat}(hx:OfN n x)(h:Ends x 0):Ends (x.map (gX cs)) 0:=by
 refine⟨fun j hj=>absurd hj (o9 _),fun ⟨a,b⟩=>h.2 ⟨by rw[c6] at a;exact a,?_⟩⟩
 cases x with
 | nil=>simp at a
 | cons c x =>
  rw[c6] at b
  have hlt:(c::x).length - 1 - 0<(c::x).length:=by simp
  have g0:((c::x).map (gX cs)).getD 0 0=gX cs ((c::x).getD 0 0):=rfl
  have g1:((c::x).map (gX cs)).getD ((c::x).length - 1 - 0) 0=gX cs ((c::x).getD ((c::x).length - 1 - 0) 0):=by
   rw[d5,d5,f6,c7 hlt]
   rfl
  have m0:(c::x).getD 0 0∈aL n:=hx c j6
  have m1:(c::x).getD ((c::x).length - 1 - 0) 0∈aL n:=by
   rw[d5,c7 hlt]
   exact hx _ (q8 hlt)
  rw[g0,g1,← e.gcon h1 h4 m1] at b
  exact e.ginj h1 h4 m0 (cP (by omega) (by omega) m1) b
end
theorem nH{c:Nat}(hc:bS c):(lo c=c∧bJ c=true)∨(lo c=aZ c∧bJ c=false):=by
 rcases aM hc with rfl | rfl | rfl | rfl | rfl | rfl | rfl | rfl <;> decide
def rJ(cs:List Nat)(d:Nat):Nat:=if d∈cs then 97+cs.idxOf d else 65+cs.idxOf (aZ d)
def xB(n:Nat)(cs:List Nat):List Nat:=(aS n).map (rJ cs)
theorem fV{n i:Nat}(h1:1≤n)(h4:n≤4)(h:i<n):97+i∈aL n∧65+i∈aL n∧bJ (97+i)=true∧bJ (65+i)=false∧eK (97+i)=i∧eK (65+i)=i∧97+i∈aS n∧lo (97+i)=97+i∧lo (65+i)=97+i:=by
 rcases sO h1 h4 with rfl | rfl | rfl | rfl <;> (have:i=0∨i=1∨i=2∨i=3:=by omega) <;> rcases this with rfl | rfl | rfl | rfl <;> first | omega | decide
theorem xR{n d:Nat}(h1:1≤n)(h4:n≤4)(h:d∈aS n):(aS n)[eK d]?=some d:=by
 have hd:=cI h1 h4 h
 have hl:=cM h
 rcases oS h1 h4 hd with ⟨a,b⟩ | ⟨a,b⟩
 ·unfold eK;rw[if_pos a];exact b
 ·rw[a] at hl;cases hl
theorem hW:∀ {l m:List Nat},l.Nodup→l ⊆ m→m.length≤l.length→l.Perm m
 | [],m,_,_,h=>by
  have:m=[]:=l8.mp (Nat.le_zero.mp h)
  rw[this]
 | a::l,m,nd,sub,h=>by
  obtain⟨hn,nd'⟩:=x9.mp nd
  have ha:a∈m:=sub j6
  have hp:=List.perm_cons_erase ha
  refine((hW nd' (fun x hx=>?_) ?_).cons a).trans hp.symm
  ·have q:x≠a:=fun z=>hn (z ▸ hx)
   exact(aX0 q).mpr (sub (i9 _ hx))
  ·rw[aXO ha]
   rw[l9] at h
   omega
section
variable {n:Nat}{cs:List Nat}(h1:1≤n)(h4:n≤4)(e:Exch n cs)
include h1 h4 e
theorem Exch.has{d:Nat}(h:d∈aS n):d∈cs∨aZ d∈cs:=by
 obtain⟨c,hc,z⟩:=i4.mp (e.perm.mem_iff.mpr h)
 have hcL:=aE (e.mem c hc)
 rcases nH hcL with ⟨a,_⟩ | ⟨a,_⟩
 ·exact .inl (by rw[← z,a];exact hc)
 ·exact .inr (by rw[← z,a,bA hcL];exact hc)
theorem Exch.bk{d:Nat}(h:d∈aS n):rJ cs d∈aL n∧gX cs (rJ cs d)=d:=by
 have hd:=aE (cI h1 h4 h)
 unfold rJ
 by_cases q:d∈cs
 ·rw[if_pos q]
  have hi:cs.idxOf d<cs.length:=aXB q
  obtain⟨a1,a2,a3,a4,a5,a6,a7,a8⟩:=fV h1 h4 (i:=cs.idxOf d) (by rw[← e.len];exact hi)
  refine⟨a1,?_⟩
  unfold gX
  rw[if_pos a3,a5,d5,c7 hi]
  exact aXh hi
 ·rw[if_neg q]
  have q2:aZ d∈cs:=(e.has h1 h4 h).resolve_left q
  have hi:cs.idxOf (aZ d)<cs.length:=aXB q2
  obtain⟨a1,a2,a3,a4,a5,a6,a7,a8⟩:=fV h1 h4 (i:=cs.idxOf (aZ d)) (by rw[← e.len];exact hi)
  refine⟨a2,?_⟩
  unfold gX
  rw[if_neg (by rw[a4];decide),a6,d5,c7 hi]
  show aZ (cs[cs.idxOf (aZ d)])=d
  rw[aXh hi,bA hd]
theorem Exch.xB_len:(xB n cs).length=n:=by unfold xB;rw[c6,cQ h4]
theorem Exch.xB_at{d:Nat}(h:d∈aS n):gX (xB n cs) d=rJ cs d:=by
 unfold gX xB
 rw[if_pos (cM h),d5,f6,xR h1 h4 h]
 rfl
theorem Exch.back:Exch n (xB n cs):=by
 have hm:∀ c∈xB n cs,c∈aL n:=fun c hc=>by
  obtain⟨d,hd,rfl⟩:=i4.mp hc
  exact(e.bk h1 h4 hd).1
 refine⟨e.xB_len h1 h4,hm,?_⟩
 -- the lower letters of the way back are each but once
 have nd:((xB n cs).map lo).Nodup:=by
  unfold xB
  rw[m6]
  refine aXo _ (fun a b (hab:a∈aS n∧b∈aS n∧a≠b)=>?_) (aZl (fun {a b} ha hb hab=>⟨ha,hb,hab⟩) (eT h1 h4))
  obtain⟨ha,hb,hab⟩:=hab
  intro z
  obtain⟨ma,ga⟩:=e.bk h1 h4 ha
  obtain⟨mb,gb⟩:=e.bk h1 h4 hb
  have:rJ cs a=rJ cs b∨rJ cs a=aZ (rJ cs b):=by
   have hz:lo (rJ cs a)=lo (rJ cs b):=z
   have La:=aE ma
   have Lb:=aE mb
   rcases nH La with ⟨x,_⟩ | ⟨x,_⟩ <;> rcases nH Lb with ⟨y,_⟩ | ⟨y,_⟩ <;> rw[x,y] at hz
   ·exact .inl hz
   ·exact .inr hz
   ·exact .inr (by rw[← hz,bA La])
   ·exact .inl (by rw[← bA La,hz,bA Lb])
  rcases this with w | w
  ·exact hab (by rw[← ga,← gb,w])
  ·have h0:a=aZ b:=by rw[← ga,w,e.gcon h1 h4 mb,gb]
   have la:=cM ha
   have lb:=cM hb
   have Lb:=aE (cI h1 h4 hb)
   rw[h0] at la
   revert la lb
   rcases aM Lb with rfl | rfl | rfl | rfl | rfl | rfl | rfl | rfl <;> decide
 have sub:((xB n cs).map lo) ⊆ aS n:=fun x hx=>by
  obtain⟨c,hc,rfl⟩:=i4.mp hx
  have:=hm c hc
  have hL:=aE this
  revert this
  rcases sO h1 h4 with rfl | rfl | rfl | rfl <;> rcases aM hL with rfl | rfl | rfl | rfl | rfl | rfl | rfl | rfl <;> decide
 exact hW nd sub (by rw[c6,e.xB_len h1 h4,cQ h4];exact c8 _)
theorem Exch.gg{c:Nat}(h:c∈aL n):gX cs (gX (xB n cs) c)=c:=by
 have b:=e.back h1 h4
 have hL:=aE h
 rcases oS h1 h4 h with ⟨a,q⟩ | ⟨a,q⟩
 ·have hd:c∈aS n:=d7 q
  rw[e.xB_at h1 h4 hd,(e.bk h1 h4 hd).2]
 ·have hd:aZ c∈aS n:=d7 q
  have hk:=e.bk h1 h4 hd
  have e1:gX (xB n cs) c=aZ (rJ cs (aZ c)):=by
   rw[← e.xB_at h1 h4 hd,b.gcon h1 h4 h,bA (aE (b.gmem h1 h4 h))]
  rw[e1,e.gcon h1 h4 hk.1,hk.2,bA hL]
theorem Exch.gg'{c:Nat}(h:c∈aL n):gX (xB n cs) (gX cs c)=c:=by
 have b:=e.back h1 h4
 have hm:=e.gmem h1 h4 h
 exact e.ginj h1 h4 (b.gmem h1 h4 hm) h (e.gg h1 h4 hm)
end
theorem gY{n:Nat}{cs:List Nat}(e:Exch n cs):RT (bQ cs) n 1∧∀ x∈bQ cs,OfN n x:=by
 have ho:∀ x∈bQ cs,OfN n x:=fun x hx=>by
  obtain⟨c,hc,rfl⟩:=i4.mp hx
  exact fun d hd=>by rw[c9.mp hd];exact e.mem c hc
 refine⟨⟨by unfold bQ;rw[c6,e.len],fun x hx=>(ho x hx).all,fun x hx=>?_⟩,ho⟩
 obtain⟨c,hc,rfl⟩:=i4.mp hx
 exact c8 _
def cT:List Nat→List Nat
 | []=>[]
 | c::v=>c::(cT v).filter fun d=>decide (d≠c∧d≠aZ c)
def uZ:List Nat→List Nat→List Nat
 | _,[]=>[]
 | seen,c::v=>if c∈seen then 2 * seen.idxOf c::uZ seen v else if aZ c∈seen then (2 * seen.idxOf (aZ c)+1)::uZ seen v else 2 * seen.length::uZ (seen++[c]) v
inductive LeN:List Nat→List Nat→Prop where
 | nil:LeN [] []
 | lt {a b:Nat} {x y:List Nat} (h:a<b) (hl:x.length=y.length):LeN (a::x) (b::y)
 | eq {a:Nat} {x y:List Nat} (h:LeN x y):LeN (a::x) (a::y)
theorem LeN.len{x y:List Nat}(h:LeN x y):x.length=y.length:=by
 induction h with
 | nil=>rfl
 | lt _ hl=>rw[l9,l9,hl]
 | eq _ ih=>rw[l9,l9,ih]
theorem LeN.refl:∀ x:List Nat,LeN x x
 | []=>.nil
 | a::x=>.eq (LeN.refl x)
theorem LeN.trans{x y z:List Nat}(h:LeN x y)(g:LeN y z):LeN x z:=by
 induction h generalizing z with
 | nil=>exact g
 | @lt a b x y h hl =>
  cases g with
  | lt h' hl'=>exact .lt (aXe h h') (hl.trans hl')
  | eq g=>exact .lt h (hl.trans g.len)
 | @eq a x y h ih =>
  cases g with
  | lt h' hl'=>exact .lt h' (h.len.trans hl')
  | eq g=>exact .eq (ih g)
theorem LeN.anti{x y:List Nat}(h:LeN x y)(g:LeN y x):x=y:=by
 induction h with
 | nil=>rfl
 | @lt a b x y h hl =>
  cases g with
  | lt h' _=>omega
  | eq g=>omega
 | @eq a x y h ih =>
  cases g with
  | lt h' _=>omega
  | eq g=>rw[ih g]
theorem LeN.total:∀ x y:List Nat,x.length=y.length→LeN x y∨LeN y x
 | [],[],_=>.inl .nil
 | a::x,b::y,h=>by
  have hl:x.length=y.length:=by simpa using h
  rcases Nat.lt_trichotomy a b with z | z | z
  ·exact .inl (.lt z hl)
  ·subst z
   exact(LeN.total x y hl).imp .eq .eq
  ·exact .inr (.lt z hl.symm)
 | [],_::_,h=>by simp at h
 | _::_,[],h=>by simp at h
theorem LeN.lex{x y:List Nat}(h:LeN x y):HT.lexLt (y.map fun c=>((c:Nat):Int)) (x.map fun c=>((c:Nat):Int))=false:=by
 have hl:=h.len
 rw[aQ5]
 intro z
 rw[dN _ _ (by rw[c6,c6,hl])] at z
 obtain⟨l,h1,h2,h3⟩:=z
 induction h generalizing l with
 | nil=>simp at h1
 | @lt a b x y h hl' =>
  cases l with
  | zero =>
   obtain⟨u,w,e1,e2,e3⟩:=h3
   simp at e1 e2
   omega
  | succ l =>
   have:=h2 0 (by omega)
   simp at this
   omega
 | @eq a x y h ih =>
  cases l with
  | zero =>
   obtain⟨u,w,e1,e2,e3⟩:=h3
   simp at e1 e2
   omega
  | succ l =>
   refine ih h.len l (by simp at h1 ⊢;exact h1) (fun t ht=>?_) ?_
   ·have:=h2 (t+1) (by omega)
    simpa using this
   ·simpa using h3
theorem nF{i:Nat}(h:i<4):bS (97+i)∧bJ (97+i)=true∧eK (97+i)=i∧rk (97+i)=2 * i∧rk (aZ (97+i))=2 * i+1:=by
 have:i=0∨i=1∨i=2∨i=3:=by omega
 rcases this with rfl | rfl | rfl | rfl <;> refine⟨by unfold bS;omega,by decide,by decide,by decide,by decide⟩
theorem wI{n i:Nat}(h1:1≤n)(h4:n≤4)(h:i<n):97+i∈aL n:=by
 have:i=0∨i=1∨i=2∨i=3:=by omega
 rcases sO h1 h4 with rfl | rfl | rfl | rfl <;> rcases this with rfl | rfl | rfl | rfl <;> first | omega | decide
section
variable {n:Nat}{O:List Nat}(h1:1≤n)(h4:n≤4)(e:Exch n O)
include h1 h4 e
theorem rC{i c:Nat}(h:O[i]?=some c):gX (xB n O) c=97+i∧i<n:=by
 have hi:i<n:=by rw[← e.len];exact(c5.mp h).1
 obtain⟨_,b,d,_⟩:=nF (i:=i) (by omega)
 have:gX O (97+i)=c:=by
  unfold gX
  rw[if_pos b,d,d5,h]
  rfl
 rw[← this]
 exact⟨e.gg' h1 h4 (wI h1 h4 hi),hi⟩
theorem zK{i c:Nat}(hc:c∈aL n)(h:O[i]?=some (aZ c)):gX (xB n O) c=aZ (97+i)∧i<n:=by
 obtain⟨a,hi⟩:=rC h1 h4 e h
 have b:=e.back h1 h4
 rw[b.gcon h1 h4 hc] at a
 rw[← a,bA (aE (b.gmem h1 h4 hc))]
 exact⟨rfl,hi⟩
end
def dG(seen:List Nat)(d:Nat):Bool:=decide (d ∉ seen∧aZ d ∉ seen)
theorem dB:∀ {v:List Nat} {d:Nat},d∈cT v→d∈v
 | c::v,d,h=>by
  rcases d9.mp h with rfl | h
  ·exact j6
  ·exact i9 _ (dB (t5.mp h).1)
theorem jL{c:Nat}{l:List Nat}(h:c∈l):l[l.idxOf c]?=some c:=by
 induction l with
 | nil=>cases h
 | cons x l ih =>
  rw[List.idxOf_cons]
  by_cases z:x=c
  ·subst z;simp
  ·have e:(x == c)=false:=by simpa using z
   rw[e]
   exact ih ((d9.mp h).elim (fun e=>absurd e.symm z) id)
theorem nT{n:Nat}{O:List Nat}(h1:1≤n)(h4:n≤4)(e:Exch n O):∀ (v seen bh:List Nat),OfN n v→O=seen++((cT v).filter (dG seen)++bh)→v.map (fun c=>rk (gX (xB n O) c))=uZ seen v
 | [],_,_,_,_=>rfl
 | c::v,seen,bh,hv,hO=>by
  have hc:c∈aL n:=hv c j6
  have hcL:=aE hc
  have hv':OfN n v:=fun d hd=>hv d (i9 _ hd)
  have hpre:∀ {i d},seen[i]?=some d→O[i]?=some d:=fun {i d} h=>by
   rw[hO,t6 (c5.mp h).1];exact h
  have same:(c∈seen∨aZ c∈seen)→O=seen++((cT v).filter (dG seen)++bh):=fun hcs=>by
   rw[hO]
   congr 2
   show (c::(cT v).filter _).filter (dG seen)=_
   have hn:dG seen c=false:=by unfold dG;rw[decide_eq_false];rintro⟨a,b⟩;exact hcs.elim a b
   rw[aXP,if_neg (by rw[hn];decide),aXC]
   refine aXJ fun d hd=>?_
   have hdL:bS d:=aE (hv' d (dB hd))
   by_cases z:dG seen d=true
   ·have hz:d ∉ seen∧aZ d ∉ seen:=of_decide_eq_true z
    rw[z,Bool.true_and]
    refine decide_eq_true ⟨fun q=>?_,fun q=>?_⟩
    ·rw[q] at hz;exact hcs.elim hz.1 hz.2
    ·rw[q,bA hcL] at hz;exact hcs.elim hz.2 hz.1
   ·rw[aQ5.mpr z];rfl
  show rk (gX (xB n O) c)::v.map (fun c=>rk (gX (xB n O) c))=uZ seen (c::v)
  unfold uZ
  by_cases z1:c∈seen
  ·obtain⟨a,hi⟩:=rC h1 h4 e (hpre (jL z1))
   rw[if_pos z1,a,(nF (by omega)).2.2.2.1,nT h1 h4 e v seen bh hv' (same (.inl z1))]
  ·rw[if_neg z1]
   by_cases z2:aZ c∈seen
   ·obtain⟨a,hi⟩:=zK h1 h4 e hc (hpre (jL z2))
    rw[if_pos z2,a,(nF (by omega)).2.2.2.2,nT h1 h4 e v seen bh hv' (same (.inr z2))]
   ·rw[if_neg z2]
    have hn:dG seen c=true:=decide_eq_true ⟨z1,z2⟩
    have hO2:O=(seen++[c])++((cT v).filter (dG (seen++[c]))++bh):=by
     rw[hO,aQ6]
     congr 1
     show ((c::(cT v).filter _).filter (dG seen))++bh=[c]++_
     rw[aXP,if_pos hn,aXC]
     show c::(_++bh)=c::(_++bh)
     congr 2
     refine aXJ fun d hd=>?_
     have hdL:bS d:=aE (hv' d (dB hd))
     unfold dG
     rw[y3,w8,decide_eq_true_iff,decide_eq_true_iff,decide_eq_true_iff]
     simp only [j8,c9,not_or]
     constructor
     ·rintro⟨⟨a,b⟩,p,q⟩
      exact⟨⟨a,p⟩,b,fun z=>q (by rw[← z,bA hdL])⟩
     ·rintro⟨⟨a,p⟩,b,q⟩
      exact⟨⟨a,b⟩,p,fun z=>q (by rw[z,bA hcL])⟩
    obtain⟨a,hi⟩:=rC h1 h4 e (i:=seen.length) (c:=c) (by rw[hO2,aQ6,z0 (c8 _),aZm];rfl)
    rw[a,(nF (by omega)).2.2.2.1,nT h1 h4 e v (seen++[c]) bh hv' hO2]
theorem sN{n:Nat}{cs:List Nat}(h1:1≤n)(h4:n≤4)(e:Exch n cs):∀ (v seen:List Nat),OfN n v→OfN n seen→(∀ i d,seen[i]?=some d→gX cs d=97+i)→LeN (uZ seen v) (v.map fun c=>rk (gX cs c))
 | [],_,_,_,_=>.nil
 | c::v,seen,hv,hS,hs=>by
  have hc:c∈aL n:=hv c j6
  have hcL:=aE hc
  have hv':OfN n v:=fun d hd=>hv d (i9 _ hd)
  show LeN (uZ seen (c::v)) (rk (gX cs c)::v.map fun c=>rk (gX cs c))
  have hm:=e.gmem h1 h4 hc
  have hmL:=aE hm
  have lt4:∀ {i d},seen[i]?=some d→i<4:=fun {i d} h=>by
   have a:=hs i d h
   have b:=aE (e.gmem h1 h4 (hS d (d7 h)))
   rw[a] at b
   unfold bS at b
   omega
  unfold uZ
  by_cases z1:c∈seen
  ·have hi:=jL z1
   rw[if_pos z1,hs _ _ hi,(nF (lt4 hi)).2.2.2.1]
   exact .eq (sN h1 h4 e v seen hv' hS hs)
  ·rw[if_neg z1]
   by_cases z2:aZ c∈seen
   ·have hi:=jL z2
    have a:=hs _ _ hi
    rw[e.gcon h1 h4 hc] at a
    rw[if_pos z2,← bA hmL,a,(nF (lt4 hi)).2.2.2.2]
    exact .eq (sN h1 h4 e v seen hv' hS hs)
   ·rw[if_neg z2]
    have hix:seen.length≤eK (gX cs c):=by
     apply aXu
     intro q
     have hd:seen[eK (gX cs c)]?=some seen[eK (gX cs c)]:=c7 q
     have a:=hs _ _ hd
     have hdm:seen[eK (gX cs c)]∈aL n:=hS _ (q8 q)
     have hi4:=lt4 hd
     have e2:eK (gX cs seen[eK (gX cs c)])=eK (gX cs c):=by rw[a,(nF hi4).2.2.1]
     rcases sH (aE (e.gmem h1 h4 hdm)) hmL e2 with w | w
     ·have:=e.ginj h1 h4 hdm hc w
      exact z1 (by rw[← this];exact q8 q)
     ·rw[← e.gcon h1 h4 hc] at w
      have:=e.ginj h1 h4 hdm (cP (by omega) (by omega) hc) w
      exact z2 (by rw[← this];exact q8 q)
    have hrk:(rk (gX cs c)=2 * eK (gX cs c)∧gX cs c=97+eK (gX cs c))∨rk (gX cs c)=2 * eK (gX cs c)+1:=by
     rcases aM hmL with w | w | w | w | w | w | w | w <;> rw[w] <;> decide
    have hl:(uZ (seen++[c]) v).length=(v.map fun c=>rk (gX cs c)).length:=by
     have:∀ (v seen:List Nat),(uZ seen v).length=v.length:=fun v=>by
      induction v with
      | nil=>exact fun _=>rfl
      | cons d v ih =>
       intro seen
       unfold uZ
       split
       ·rw[l9,ih,l9]
       ·split <;> rw[l9,ih,l9]
     rw[this,c6]
    by_cases z3:rk (gX cs c)=2 * seen.length
    ·rw[z3]
     refine .eq (sN h1 h4 e v (seen++[c]) hv' (fun d hd=>?_) fun i d hd=>?_)
     ·rcases j8.mp hd with w | w
      ·exact hS d w
      ·rw[c9.mp w];exact hc
     ·by_cases q:i<seen.length
      ·rw[t6 q] at hd
       exact hs i d hd
      ·have hi:i=seen.length:=by
        have:=(c5.mp hd).1
        simp at this
        omega
       subst hi
       rw[z0 (c8 _),aZm] at hd
       cases hd
       rcases hrk with ⟨w,w2⟩ | w
       ·rw[w2];omega
       ·omega
    ·refine .lt ?_ hl
     rcases hrk with ⟨w,_⟩ | w <;> omega
end Lw
namespace PySem
open Sem (wp)
end PySem
namespace L2
open PySem PySem.Spec PyProof.Rows
end L2
namespace Lw
open PySem PySem.Spec PyProof.Rows L2
end Lw
namespace Lw
open PySem PySem.Spec PyProof.Rows L2 Ma MaR
end Lw
namespace L2
open PySem PySem.Spec PyProof.Rows
section
variable {X:Cx}{pins:List (Addr×Obj)}{σ:St}{H:Hp}{s:Shared}
theorem Inv.freezeK{d:Addr}{kvs:List (bI×V)}(I:Inv X pins σ H s)(e:H d=some (.dK kvs)):∃ o,s.heap.get? d=some o∧Inv X pins σ (upd H d (.frz o (.dK kvs))) s:=by
 obtain⟨z,y,vs,r,o,es,ep,h1,h2⟩:=(show ObjOk X.prog X.w H s.heap d (.dK kvs) from I.hok d _ e)
 exact⟨o,h1,I.swap e (fun _ z=>by cases z) (.inl fun _ _ z=>by cases z) (fun _ z=>by cases z) (fun _ z=>by cases z) ⟨h1,z,y,vs,r,o,es,ep,h1,h2⟩⟩
theorem Inv.thawK{d:Addr}{o:Obj}{kvs:List (bI×V)}(I:Inv X pins σ H s)(e:H d=some (.frz o (.dK kvs)))(h0:∀ o v,X.H₀ d≠some (.frz o v)):Inv X pins σ (upd H d (.dK kvs)) s:=by
 obtain⟨_,z,y,r⟩:=(show ObjOk X.prog X.w H s.heap d (.frz o (.dK kvs)) from I.hok d _ e)
 exact I.swap e (fun _ z=>by cases z) (.inr h0) (fun _ z=>by cases z) (fun _ z=>by cases z) ⟨z,y,r⟩
def AJ(H0 H H':Hp):Prop:=H'=H∨∃ d o kvs,H d=some (.frz o (.dK kvs))∧(∀ o v,H0 d≠some (.frz o v))∧H'=upd H d (.dK kvs)
inductive tThawKI(H0:Hp)(Q:VK)(v:V)(H':Hp):Prop
 | mk (H'':_) (_:AJ H0 H' H'') (_:Q v H''):tThawKI H0 Q v H'
def Bm(H0:Hp)(t:TE):TE:=fun σ H Q=>t σ H fun v H'=>tThawKI H0 Q v H'
theorem xT{e:Expr}{t:TE}{H0:Hp}(h0:X.H₀=H0)(h:PE X e t):PE X e (Bm H0 t):=by
 subst h0
 intro pins s σ H Q I q
 refine bP (h pins s σ H _ I q) fun u s1 ⟨v,H1,I1,rv,H2,th,q2⟩=>?_
 rcases th with rfl | ⟨d,o,kvs,e1,n0,rfl⟩
 ·exact⟨v,_,I1,rv,q2⟩
 ·exact⟨v,_,I1.thawK e1 n0,rv,q2⟩
end
theorem mS{X:Cx}{pins:List (Addr×Obj)}{σ:St}{H:Hp}{s:Shared}{d:Addr}{o:Obj}{kvs:List (bI×V)}(I:Inv X pins σ H s)(e:H d=some (.frz o (.dK kvs))) :
  s.heap.get? d=some o∧(d == sysModules)=false∧∃ (vs:List (bI×Value)) (es:Array DictEntry) (ep:Nat),KV kvs vs∧o.ExactDict∧o.data=.dict es ep∧Pairs (bH X.prog X.w) es.toList vs:=by
 obtain⟨h0,z,y,vs,r,o',es,ep,h1,h2,h3,h4,h5,h6⟩:=(show ObjOk X.prog X.w H s.heap d (.frz o (.dK kvs)) from I.hok d _ e)
 rw[h0] at h1
 cases h1
 exact⟨h0,y,vs,es,ep,r,h2,h3,h5⟩
theorem C2{P:Program}{w:World}{k:bI}{u:Value}(h:(bH P w).is k u=true):RelV (kV k) u:=by
 rcases bM h with ⟨i,t,rfl,rfl⟩ | ⟨x,t,rfl,rfl⟩
 ·exact⟨t,rfl⟩
 ·exact⟨t,rfl⟩
end L2
namespace PySem
open Sem (wp)
open Builtin
end PySem
namespace L2
open PySem PySem.Spec PyProof.Rows
end L2
namespace Lw
open PySem PySem.Spec PyProof.Rows L2 Ma MaR
end Lw
namespace L2
open PySem PySem.Spec PyProof.Rows
end L2
namespace Lw
open PySem PySem.Spec PyProof.Rows L2 Ma MaR
section
variable {h:Nat→List Nat}{φ:Nat→List Nat}{ρ rk:Nat→Nat}{L:Nat}{S:WvS}{E:Nat→Nat→Nat→Prop}
theorem kA:∀ {l m:List Nat},l.Nodup→(∀ x∈l,x∈m)→l.length≤m.length
 | [],m,_,_=>l5 _
 | a::l,m,nd,sub=>by
  obtain⟨n1,n2⟩:=x9.mp nd
  have ha:=sub a j6
  have:=kA (l:=l) (m:=m.erase a) n2 fun x hx=>(aX0 (fun z=>n1 (by rw[← z];exact hx))).mpr (sub x (i9 _ hx))
  rw[aXO ha] at this
  have:0<m.length:=aQ9 ha
  rw[l9]
  omega
end
theorem LeN.of_lex{x y:List Nat}(hl:x.length=y.length)(h:HT.lexLt (y.map fun c=>((c:Nat):Int)) (x.map fun c=>((c:Nat):Int))=false):LeN x y:=by
 rcases LeN.total x y hl with z | z
 ·exact z
 ·induction z with
  | nil=>exact .nil
  | @lt a b x y g hl' =>
   exfalso
   have:HT.lexLt ((a::x).map fun c=>((c:Nat):Int)) ((b::y).map fun c=>((c:Nat):Int))=true:=by
    rw[dN _ _ (by simp[hl'])]
    exact⟨0,by simp,fun t ht=>absurd ht (o9 _),(a:Nat),(b:Nat),rfl,rfl,by omega⟩
   rw[h] at this
   cases this
  | @eq a x y g ih =>
   refine .eq (ih g.len.symm ?_)
   rw[aQ5] at h ⊢
   intro z
   apply h
   rw[dN _ _ (by simp[g.len])] at z
   rw[dN _ _ (by simp[g.len])]
   obtain⟨l,h1,h2,h3⟩:=z
   refine⟨l+1,by simp at h1 ⊢;exact h1,fun t ht=>?_,?_⟩
   ·cases t with
    | zero=>simp
    | succ t=>simpa using h2 t (by omega)
   ·simpa using h3
theorem gA(x:List Nat):gM x=(x.map rk).map fun c=>((c:Nat):Int):=by unfold gM;rw[m6];rfl
theorem nV(f:Nat→Nat)(x:List Nat)(b:Nat):bX (x.map f) b=(bX x b).map f:=by unfold bX;rw[i6,List.map_drop,List.map_take]
theorem eF{n:Nat}{cs:List Nat}(h1:1≤n)(h4:n≤4)(e:Exch n cs){x r:List Nat}(hx:RgN n x)(h:RingR (x.map (gX cs)) r):r.length=x.length∧(x≠[]→∃ b,b<x.length∧r=(bX x b).map (gX cs))∧∀ b,b<x.length→LeN (r.map rk) ((bX x b).map fun c=>rk (gX cs c)):=by
 obtain⟨ha,hp,he⟩:=cO hx
 by_cases hne:x=[]
 ·subst hne
  obtain⟨m,b,_,_,rfl⟩:=h
  exact⟨by simp[iZ,bX],fun z=>absurd rfl z,fun b hb=>absurd hb (o9 _)⟩
 obtain⟨m,b,hm,hL,rfl⟩:=h
 have:=hm.inj (e.ends h1 h4 hx.ofn (he hne))
 subst this
 rw[cK] at hL ⊢
 have hlen:(x.map (gX cs)).length=x.length:=c6 _
 rcases hL with ⟨z,_⟩ | ⟨hb,hmin⟩
 ·exact absurd (List.map_eq_nil_iff.mp z) hne
 rw[hlen] at hb
 have hbx:b≤(x.map (gX cs)).length:=by rw[hlen];omega
 refine⟨by rw[bK hbx,hlen],fun _=>⟨b,hb,nV _ _ _⟩,fun j hj=>?_⟩
 have hj':j<(x.map (gX cs)).length:=by rw[hlen];exact hj
 have hb':b<(x.map (gX cs)).length:=by rw[hlen];exact hb
 have k:=hmin j hj'
 rw[← qW hj' hb'] at k
 have k':HT.lexLt (gM (bX (x.map (gX cs)) j)) (gM (bX (x.map (gX cs)) b))=false:=aQ5.mpr k
 rw[gA,gA] at k'
 have:=LeN.of_lex (by rw[c6,c6,bK hbx,bK (by omega)]) k'
 rw[nV _ x j,m6] at this
 exact this
def cZ(n:Nat)(o:List Nat):List Nat:=(aS n).filter (dG o)
def Apt:List Nat→Prop
 | []=>True
 | c::o=>c ∉ o∧aZ c ∉ o∧Apt o
theorem Apt.filter{p:Nat→Bool}:∀ {o:List Nat},Apt o→Apt (o.filter p)
 | [],_=>trivial
 | c::o,h=>by
  have ih:=Apt.filter (p:=p) h.2.2
  rw[aXP]
  split
  ·exact⟨fun z=>h.1 (t5.mp z).1,fun z=>h.2.1 (t5.mp z).1,ih⟩
  ·exact ih
theorem eQ:∀ v:List Nat,Apt (cT v)
 | []=>trivial
 | c::v=>by
  refine⟨fun z=>?_,fun z=>?_,(eQ v).filter⟩
  ·exact(of_decide_eq_true (t5.mp z).2).1 rfl
  ·exact(of_decide_eq_true (t5.mp z).2).2 rfl
theorem nB{c d:Nat}(hc:bS c)(hd:bS d)(h:lo c=lo d):c=d∨aZ c=d:=by
 rcases aM hc with rfl | rfl | rfl | rfl | rfl | rfl | rfl | rfl <;> rcases aM hd with rfl | rfl | rfl | rfl | rfl | rfl | rfl | rfl <;> revert h <;> decide
theorem Apt.nodup:∀ {o:List Nat},(∀ c∈o,bS c)→Apt o→(o.map lo).Nodup
 | [],_,_=>aZO
 | c::o,hL,h=>by
  rw[k7,x9]
  refine⟨fun z=>?_,Apt.nodup (fun d hd=>hL d (i9 _ hd)) h.2.2⟩
  obtain⟨d,hd,e⟩:=i4.mp z
  rcases nB (hL c j6) (hL d (i9 _ hd)) e.symm with w | w
  ·exact h.1 (by rw[w];exact hd)
  ·exact h.2.1 (by rw[w];exact hd)
theorem oE{n c:Nat}(h1:1≤n)(h4:n≤4)(h:c∈aL n):lo c∈aS n:=by
 have hL:=aE h
 revert h
 rcases sO h1 h4 with rfl | rfl | rfl | rfl <;> rcases aM hL with rfl | rfl | rfl | rfl | rfl | rfl | rfl | rfl <;> decide
theorem eV{n:Nat}(h1:1≤n)(h4:n≤4){o:List Nat}(ho:OfN n o)(ha:Apt o):Exch n (o++cZ n o):=by
 have hb:∀ d∈cZ n o,d∈aS n∧d ∉ o∧aZ d ∉ o:=fun d hd=>by
  obtain⟨a,b⟩:=t5.mp hd
  exact⟨a,of_decide_eq_true b⟩
 have hbl:(cZ n o).map lo=cZ n o:=by
  have:∀ d∈cZ n o,lo d=d:=fun d hd=>gW (hZ (hb d hd).1) (cM (hb d hd).1)
  conv=>rhs;rw[← aQx (cZ n o)]
  exact y1 this
 have nd:((o++cZ n o).map lo).Nodup:=by
  rw[i6,hbl,List.nodup_append]
  refine⟨ha.nodup (fun c hc=>aE (ho c hc)),(eT h1 h4).filter _,fun a hA b hB z=>?_⟩
  obtain⟨c,hc,e⟩:=i4.mp hA
  obtain⟨b1,b2,b3⟩:=hb b hB
  have hcL:=aE (ho c hc)
  have hbL:=hZ b1
  have e2:lo c=lo b:=by rw[e,z,gW hbL (cM b1)]
  rcases nB hcL hbL e2 with w | w
  ·exact b2 (by rw[← w];exact hc)
  ·exact b3 (by rw[← w,bA hcL];exact hc)
 have sub:∀ y∈(o++cZ n o).map lo,y∈aS n:=fun y hy=>by
  rw[i6,hbl] at hy
  rcases j8.mp hy with w | w
  ·obtain⟨c,hc,rfl⟩:=i4.mp w
   exact oE h1 h4 (ho c hc)
  ·exact(hb y w).1
 have sup:∀ y∈aS n,y∈(o++cZ n o).map lo:=fun y hy=>by
  rw[i6,hbl]
  have hyL:=hZ hy
  by_cases z:y ∉ o∧aZ y ∉ o
  ·exact e9 _ (t5.mpr ⟨hy,decide_eq_true z⟩)
  ·refine n9 _ ?_
   by_cases w:y∈o
   ·exact i4.mpr ⟨y,w,gW hyL (cM hy)⟩
   ·have w2:aZ y∈o:=x6 fun q=>z ⟨w,q⟩
    exact i4.mpr ⟨aZ y,w2,wK hyL (cM hy)⟩
 have l1:=kA nd sub
 have l2:=kA (eT h1 h4) sup
 have hlen:(o++cZ n o).length=n:=by rw[c6] at l1 l2;rw[cQ h4] at l1 l2;omega
 refine⟨hlen,fun c hc=>?_,hW nd sub l2⟩
 rcases j8.mp hc with w | w
 ·exact ho c w
 ·exact cI h1 h4 (hb c w).1
theorem qA:∀ (u w:List Nat),(∀ c∈u,bS c)→(∀ c∈w,bS c)→cT (u++w)=cT u++(cT w).filter (dG u)
 | [],w,_,_=>by
  show cT w=[]++_
  rw[aZK]
  refine(aX4.mpr fun d _=>?_).symm
  unfold dG
  simp
 | c::u,w,hu,hw=>by
  have hcL:=hu c j6
  show c::(cT (u++w)).filter _=(c::(cT u).filter _)++_
  rw[qA u w (fun d hd=>hu d (i9 _ hd)) hw,aXg,aZB,aXC]
  congr 2
  refine aXJ fun d hd=>?_
  have hdL:=hw d (dB hd)
  unfold dG
  rw[y3,w8,decide_eq_true_iff,decide_eq_true_iff,decide_eq_true_iff]
  simp only [d9,not_or]
  constructor
  ·rintro⟨⟨p,q⟩,a,b⟩
   exact⟨⟨p,a⟩,fun z=>q (by rw[← z,bA hdL]),b⟩
  ·rintro⟨⟨p,a⟩,q,b⟩
   exact⟨⟨p,fun z=>q (by rw[z,bA hcL])⟩,a,b⟩
theorem wU{u w:List Nat}(hu:∀ c∈u,bS c)(hw:∀ c∈w,bS c)(h:∀ d∈w,d∈u):cT (u++w)=cT u:=by
 rw[qA u w hu hw]
 have:(cT w).filter (dG u)=[]:=List.filter_eq_nil_iff.mpr fun d hd z=>(of_decide_eq_true z).1 (h d (dB hd))
 rw[this,w5]
theorem qI{x:List Nat}(hx:∀ c∈x,bS c)(b:Nat):cT (x.drop b++x)=cT (bX x b):=by
 have e:x.drop b++x=bX x b++x.drop b:=by
  unfold bX
  rw[aQ6,List.take_append_drop]
 have hr:∀ c∈bX x b,bS c:=fun c hc=>by
  rcases j8.mp hc with w | w
  ·exact hx c (m5 w)
  ·exact hx c (m9 w)
 rw[e]
 exact wU hr (fun c hc=>hx c (m5 hc)) fun d hd=>n9 _ hd
theorem AW{n m:Nat}(h1:1≤n)(h4:n≤4)(m1:1≤m)(m4:m≤4){v cs:List Nat}(hv:OfN n v)(hm:OfN m v)(e:Exch m cs):LeN (v.map fun c=>rk (gX (xB n (cT v++cZ n (cT v))) c)) (v.map fun c=>rk (gX cs c)):=by
 have ho:OfN n (cT v):=fun c hc=>hv c (dB hc)
 have ex:=eV h1 h4 ho (eQ v)
 have hn:∀ d,dG [] d=true:=fun d=>by unfold dG;simp
 rw[nT h1 h4 ex v [] (cZ n (cT v)) hv (by rw[aZK,aX4.mpr fun d _=>hn d])]
 exact sN m1 m4 e v [] hm (fun c hc=>nomatch hc) (fun i d h=>by simp at h)
def IsForm(x d:List Nat):Prop:=(∃ cs,Exch 4 cs∧RingR (x.map (gX cs)) d)∧∀ cs r,Exch 4 cs→RingR (x.map (gX cs)) r→LeN (d.map rk) (r.map rk)
theorem lB:∀ {x y:List Nat},AllL x→AllL y→x.map rk=y.map rk→x=y
 | [],[],_,_,_=>rfl
 | a::x,b::y,hx,hy,h=>by
  rw[k7,k7] at h
  injection h with h1 h2
  rw[xJ (AllL.cons.mp hx).1 (AllL.cons.mp hy).1 h1,lB (AllL.cons.mp hx).2 (AllL.cons.mp hy).2 h2]
 | [],_::_,_,_,h=>by cases h
 | _::_,[],_,_,h=>by cases h
theorem dQ{n:Nat}{cs:List Nat}(h1:1≤n)(h4:n≤4)(e:Exch n cs){x:List Nat}(hx:OfN n x):AllL (x.map (gX cs)):=fun c hc=>by
 obtain⟨d,hd,rfl⟩:=i4.mp hc
 exact aE (e.gmem h1 h4 (hx d hd))
theorem xX{n:Nat}(h1:1≤n)(h4:n≤4){x:List Nat}(h:OfN n x):OfN (4:Nat) x:=fun c hc=>by
 have:=h c hc
 have hL:=aE this
 rcases aM hL with rfl | rfl | rfl | rfl | rfl | rfl | rfl | rfl <;> decide
theorem dI{y r:List Nat}(hy:AllL y)(h:RingR y r):AllL r:=fun c hc=>hy c (h.sub c hc)
theorem IsForm.inj{x d d':List Nat}(hx:OfN (4:Nat) x)(h:IsForm x d)(h':IsForm x d'):d=d':=by
 obtain⟨⟨cs,e,hr⟩,hm⟩:=h
 obtain⟨⟨cs',e',hr'⟩,hm'⟩:=h'
 have a:=hm cs' d' e' hr'
 have b:=hm' cs d e hr
 exact lB (dI (dQ (by decide) (by decide) e hx) hr) (dI (dQ (by decide) (by decide) e' hx) hr') (a.anti b)
def ext4(n:Nat)(cs:List Nat):List Nat:=cs++(aS 4).drop n
theorem wH{n:Nat}(h4:n≤4):aS n++(aS 4).drop n=aS 4:=by
 have:n=0∨n=1∨n=2∨n=3∨n=4:=by omega
 rcases this with rfl | rfl | rfl | rfl | rfl <;> rfl
theorem Exch.ext4{n:Nat}{cs:List Nat}(h1:1≤n)(h4:n≤4)(e:Exch n cs):Exch 4 (Lw.ext4 n cs):=by
 refine⟨?_,fun c hc=>?_,?_⟩
 ·unfold Lw.ext4
  rw[g9,e.len,u5,cQ (by decide)]
  omega
 ·rcases j8.mp hc with w | w
  ·exact xX h1 h4 (x:=[c]) (fun d hd=>by rw[c9.mp hd];exact e.mem c w) c (c9.mpr rfl)
  ·exact cI (by decide) (by decide) (m5 w)
 ·unfold Lw.ext4
  rw[i6]
  have hl:((aS 4).drop n).map lo=(aS 4).drop n:=by
   have:∀ d∈(aS 4).drop n,lo d=d:=fun d hd=>gW (hZ (m5 hd)) (cM (m5 hd))
   conv=>rhs;rw[← aQx ((aS 4).drop n)]
   exact y1 this
  rw[hl]
  have:=e.perm.append_right ((aS 4).drop n)
  rw[wH h4] at this
  exact this
theorem AK{n:Nat}{cs:List Nat}(h1:1≤n)(h4:n≤4)(e:Exch n cs){c:Nat}(hc:c∈aL n):gX (ext4 n cs) c=gX cs c:=by
 have hi:=vR h1 h4 hc
 have:(ext4 n cs).getD (eK c) 0=cs.getD (eK c) 0:=by
  unfold ext4
  rw[d5,d5,t6 (by rw[e.len];exact hi)]
 unfold gX
 rw[this]
theorem oN{n:Nat}{cs:List Nat}(h1:1≤n)(h4:n≤4)(e:Exch n cs){x:List Nat}(hx:OfN n x):x.map (gX (ext4 n cs))=x.map (gX cs):=y1 fun c hc=>AK h1 h4 e (hx c hc)
theorem uB{n:Nat}{x cs r:List Nat}(h1:1≤n)(h4:n≤4)(hx:RgN n x)(e:Exch n cs)(hr:RingR (x.map (gX cs)) r)(hb:∀ b,b<x.length→∃ r',RingR (x.map (gX (xB n (cT (bX x b)++cZ n (cT (bX x b)))))) r'∧LeN (r.map rk) (r'.map rk)):IsForm x r:=by
 have hxO:=hx.ofn
 refine⟨⟨ext4 n cs,e.ext4 h1 h4,by rw[oN h1 h4 e hxO];exact hr⟩,fun cs2 r2 e2 hr2=>?_⟩
 have hx4:RgN 4 x:=by
  obtain⟨y,a,b,c⟩:=hx
  exact⟨y,xX h1 h4 a,b,c⟩
 obtain⟨l2,g2,_⟩:=eF (by decide) (by decide) e2 hx4 hr2
 obtain⟨l1,_,_⟩:=eF h1 h4 e hx hr
 by_cases hne:x=[]
 ·subst hne
  rw[l8.mp l1,l8.mp l2]
  exact .nil
 obtain⟨b,hbl,rfl⟩:=g2 hne
 obtain⟨r',hr',le'⟩:=hb b hbl
 have hv:OfN n (bX x b):=fun c hc=>by
  rcases j8.mp hc with w | w
  ·exact hxO c (m5 w)
  ·exact hxO c (m9 w)
 have ho:OfN n (cT (bX x b)):=fun c hc=>hv c (dB hc)
 have ex:=(eV h1 h4 ho (eQ _)).back h1 h4
 obtain⟨_,_,m3⟩:=eF h1 h4 ex hx hr'
 have c1:=AW h1 h4 (by decide) (by decide) hv (xX h1 h4 hv) e2
 have:=(le'.trans (m3 b hbl)).trans c1
 rw[m6]
 exact this
theorem qJ{z:List Nat}(he:z≠[]→Ends z 0):∃ r,RingR z r:=by
 by_cases hz:z=[]
 ·subst hz;exact⟨[],kI⟩
 ·obtain⟨k,hk,hmin⟩:=fS (g:=gr z) (n:=z.length) z.length (aQu.mpr hz)
  exact⟨bX (iZ z 0) k,0,k,he hz,.inr ⟨by rw[cK];exact hk,fun j hj=>by rw[cK] at hj ⊢;exact hmin j hj⟩,rfl⟩
theorem oU{z r:List Nat}(hz:AllL z)(hp:bZ z)(he:z≠[]→Ends z 0){b:Nat}(hb:b<z.length)(h:RingR z r):RingR (bX z b) r:=by
 have hne:z≠[]:=by intro q;rw[q] at hb;exact absurd hb (o9 _)
 have hc:C7 z:=by
  have:=nS hz hp (he hne)
  rwa [cK] at this
 obtain⟨m,b0,hm,hL,rfl⟩:=h
 have:=hm.inj (he hne)
 subst this
 rw[cK] at hL ⊢
 have hb0:b0<z.length:=by
  rcases hL with ⟨q,_⟩ | ⟨q,_⟩
  ·exact absurd q hne
  ·exact q
 have hcl:(b0+z.length - b) % z.length<z.length:=u0 _ (by omega)
 have hmod:(b+(b0+z.length - b) % z.length) % z.length=b0:=by
  rw[aQU,show b+(b0+z.length - b)=b0+z.length by omega,aQ2,aQQ hb0]
 refine⟨0,(b0+z.length - b) % z.length,kJ hz hc hb,?_,?_⟩
 ·rw[cK]
  exact mM hb hL hcl hmod
 ·rw[cK]
  exact(mZ hb hcl hb0 hmod).symm
theorem qH{z r:List Nat}(hz:AllL z)(hp:bZ z)(he:z≠[]→Ends z 0){b:Nat}(hb:b<z.length)(h:RingR (bX z b) r):RingR z r:=by
 obtain⟨r0,h0⟩:=qJ he
 have:=oU hz hp he hb h0
 rw[RingR.inj (oD hz) h this]
 exact h0
def lK(e f:List Nat):List Nat:=(aS 4).map fun d=>gX e (gX f d)
theorem Bi{e f:List Nat}(he:Exch 4 e)(hf:Exch 4 f){c:Nat}(hc:c∈aL (4:Nat)):gX (lK e f) c=gX e (gX f c):=by
 have hL:=aE hc
 have key:∀ d∈aS 4,(lK e f).getD (eK d) 0=gX e (gX f d):=fun d hd=>by
  unfold lK
  rw[d5,f6,xR (by decide) (by decide) hd]
  rfl
 by_cases lw:bJ c=true
 ·have hd:c∈aS 4:=by
   have:=oE (n:=4) (by decide) (by decide) hc
   rwa [gW hL lw] at this
  unfold gX at *
  rw[if_pos lw]
  exact key c hd
 ·have hcm:=cP (n:=4) (by decide) (by decide) hc
  have hd:aZ c∈aS 4:=by
   have:=oE (n:=4) (by decide) (by decide) hcm
   have hcl:bJ (aZ c)=true:=by
    rcases aM hL with rfl | rfl | rfl | rfl | rfl | rfl | rfl | rfl <;> revert lw <;> decide
   rwa [gW (nN hL) hcl] at this
  have k:=key (aZ c) hd
  have ix:eK (aZ c)=eK c:=by rcases aM hL with rfl | rfl | rfl | rfl | rfl | rfl | rfl | rfl <;> decide
  rw[ix,hf.gcon (by decide) (by decide) hc,he.gcon (by decide) (by decide) (hf.gmem (by decide) (by decide) hc)] at k
  show (if bJ c=true then _ else aZ ((lK e f).getD (eK c) 0))=_
  rw[if_neg lw,k,bA (aE (he.gmem (by decide) (by decide) (hf.gmem (by decide) (by decide) hc)))]
theorem rR{e f:List Nat}(he:Exch 4 e)(hf:Exch 4 f):Exch 4 (lK e f):=by
 have mem:∀ d∈aS 4,gX e (gX f d)∈aL (4:Nat):=fun d hd=>he.gmem (by decide) (by decide) (hf.gmem (by decide) (by decide) (cI (by decide) (by decide) hd))
 have hl:(lK e f).length=4:=by unfold lK;rw[c6];rfl
 refine⟨hl,fun c hc=>?_,?_⟩
 ·obtain⟨d,hd,rfl⟩:=i4.mp hc
  exact mem d hd
 ·refine hW ?_ (fun y hy=>?_) (by rw[c6,hl];exact c8 _)
  ·unfold lK
   rw[m6]
   refine aXo _ (fun a b hab=>?_) (aZs.mp (eT (n:=4) (by decide) (by decide)))
   obtain⟨ha,hb,hne⟩:=hab
   intro q
   have q':lo (gX e (gX f a))=lo (gX e (gX f b)):=q
   have hla:=cI (n:=4) (by decide) (by decide) ha
   have hlb:=cI (n:=4) (by decide) (by decide) hb
   rcases nB (aE (mem a ha)) (aE (mem b hb)) q' with w | w
   ·exact hne (hf.ginj (by decide) (by decide) hla hlb (he.ginj (by decide) (by decide) (hf.gmem (by decide) (by decide) hla) (hf.gmem (by decide) (by decide) hlb) w))
   ·rw[← he.gcon (by decide) (by decide) (hf.gmem (by decide) (by decide) hla),← hf.gcon (by decide) (by decide) hla] at w
    have hca:=cP (n:=4) (by decide) (by decide) hla
    have:=hf.ginj (by decide) (by decide) hca hlb (he.ginj (by decide) (by decide) (hf.gmem (by decide) (by decide) hca) (hf.gmem (by decide) (by decide) hlb) w)
    have l1:=cM ha
    have l2:=cM hb
    rw[← this] at l2
    revert l1 l2
    rcases aM (aE hla) with z | z | z | z | z | z | z | z <;> rw[z] <;> decide
  ·obtain⟨c,hc,rfl⟩:=i4.mp hy
   obtain⟨d,hd,rfl⟩:=i4.mp hc
   exact oE (by decide) (by decide) (mem d hd)
theorem fH{x y e r:List Nat}(hx:RgN 4 x)(he:Exch 4 e)(hy:RingR (x.map (gX e)) y){f:List Nat}(hf:Exch 4 f)(hr:RingR (y.map (gX f)) r):∃ f',Exch 4 f'∧RingR (x.map (gX f')) r:=by
 refine⟨lK f e,rR hf he,?_⟩
 have hxO:=hx.ofn
 have ec:=rR hf he
 have hcm:∀ {v:List Nat},OfN (4:Nat) v→v.map (gX (lK f e))=(v.map (gX e)).map (gX f):=fun {v} hv=>by
  rw[m6]
  exact y1 fun c hc=>Bi hf he (hv c hc)
 obtain⟨hl,hg,_⟩:=eF (by decide) (by decide) he hx hy
 by_cases hne:x=[]
 ·subst hne
  rw[l8.mp hl] at hr
  exact hr
 obtain⟨b,hb,rfl⟩:=hg hne
 obtain⟨ha,hp,hends⟩:=cO hx
 have hv:OfN (4:Nat) (bX x b):=fun c hc=>by
  rcases j8.mp hc with w | w
  ·exact hxO c (m5 w)
  ·exact hxO c (m9 w)
 rw[← hcm hv,← nV] at hr
 refine qH (dQ (by decide) (by decide) ec hxO) (ec.plain (by decide) (by decide) hxO hp) (fun q=>ec.ends (by decide) (by decide) hxO (hends hne)) ?_ hr
 rw[c6]
 exact hb
theorem RgN.ex{x y e:List Nat}(hx:RgN 4 x)(he:Exch 4 e)(hy:RingR (x.map (gX e)) y):RgN 4 y:=by
 obtain⟨ha,hp,_⟩:=cO hx
 refine⟨x.map (gX e),fun c hc=>?_,he.plain (by decide) (by decide) hx.ofn hp,hy⟩
 obtain⟨d,hd,rfl⟩:=i4.mp hc
 exact he.gmem (by decide) (by decide) (hx.ofn d hd)
theorem RgN.selfF{n:Nat}{x:List Nat}(hx:RgN n x):RingR x x:=by
 obtain⟨y,a,b,c⟩:=hx
 exact tD a.all b c
theorem nW{x y e:List Nat}(hx:RgN 4 x)(he:Exch 4 e)(hy:RingR (x.map (gX e)) y):RingR (y.map (gX (xB 4 e))) x:=by
 obtain⟨ha,hp,hends⟩:=cO hx
 obtain⟨hl,hg,_⟩:=eF (by decide) (by decide) he hx hy
 by_cases hne:x=[]
 ·subst hne
  rw[l8.mp hl]
  exact kI
 obtain⟨b,hb,rfl⟩:=hg hne
 have hv:OfN (4:Nat) (bX x b):=fun c hc=>by
  rcases j8.mp hc with w | w
  ·exact hx.ofn c (m5 w)
  ·exact hx.ofn c (m9 w)
 have e0:((bX x b).map (gX e)).map (gX (xB 4 e))=bX x b:=by
  rw[m6]
  conv=>rhs;rw[← aQx (bX x b)]
  exact y1 fun c hc=>he.gg' (by decide) (by decide) (hv c hc)
 rw[e0]
 exact oU ha hp hends hb hx.selfF
theorem pR{x y e d:List Nat}(hx:RgN 4 x)(he:Exch 4 e)(hy:RingR (x.map (gX e)) y):IsForm x d↔IsForm y d:=by
 have hyR:=hx.ex he hy
 have hb:=nW hx he hy
 have ex:=he.back (by decide) (by decide)
 constructor
 ·rintro⟨⟨cs,e1,h1⟩,hm⟩
  refine⟨fH hyR ex hb e1 h1,fun cs2 r e2 h2=>?_⟩
  obtain⟨f',e',h'⟩:=fH hx he hy e2 h2
  exact hm f' r e' h'
 ·rintro⟨⟨cs,e1,h1⟩,hm⟩
  refine⟨fH hx he hy e1 h1,fun cs2 r e2 h2=>?_⟩
  obtain⟨f',e',h'⟩:=fH hyR ex hb e2 h2
  exact hm f' r e' h'
theorem uR{x d:List Nat}(hx:RgN 4 x)(h:IsForm x d):IsForm d d:=by
 obtain⟨cs,e,hr⟩:=h.1
 exact(pR hx e hr).mp h
end Lw
namespace LtL
open PySem PyProof.Rows HT
open PySem.SeqAt
open PySem.AutoSeq1 (wpAny_loadPart')
open PySem.MeetsSeq PySem.MeetsSeq2 PySem.MeetsSeq3
end LtL
namespace L2
open PySem PySem.Spec PyProof.Rows
end L2
namespace Lw
open PySem PySem.Spec PyProof.Rows L2 Ma MaR
end Lw
namespace L2
open PySem PySem.Spec PyProof.Rows
end L2
namespace Lw
open PySem PySem.Spec PyProof.Rows L2 Ma MaR
theorem Bs{n m:Nat}{x:List Nat}(h1:1≤m)(hmn:m≤n)(h4:n≤4)(hx:OfN m x):OfN n x:=fun c hc=>by
 have:=hx c hc
 have hL:=aM (aE this)
 rcases sO (by omega) h4 with rfl | rfl | rfl | rfl <;> (have:m=1∨m=2∨m=3∨m=4:=by omega) <;> rcases this with rfl | rfl | rfl | rfl <;> first | exact this | (exfalso;omega) | (rcases hL with rfl | rfl | rfl | rfl | rfl | rfl | rfl | rfl <;> revert this <;> decide)
end Lw
namespace L2
open PySem PySem.Spec PyProof.Rows
def CZ(st:Stmt):Option (Scope×Pos):=match (eB st).getLast? with
 | some (.Return (some (.Call _ _ [⟨_,.Lambda _ _ sc pos,_⟩] _)) _)=>some (sc,pos)
 | _=>none
def Aa(st:Stmt):Pos:=((CZ st).map (·.2)).getD ⟨0,0,0,0⟩
def lamTb2(P:Addr)(x:Str)(st:Stmt):Tb:=⟨P,Aa st,(x++".<locals>.")++"<lambda>"⟩
end L2
set_option autoImplicit false
namespace L2
open PySem PySem.Spec PyProof.Rows
def CD(tk tv:TE):TE:=fun σ H Q=>∀ p,H p=none→tk σ (upd H p (.dT [])) fun x H1=>tv σ H1 fun y H2 =>
 ∃ (k:List bI) (b:Addr),x=.ref b∧H2 b=some (.tup (k.map kV))∧H2 p=some (.dT [])∧Q (.ref p) (upd H2 p (.dT [(k,y)]))
theorem yQ{X:Cx}{pos:Pos}{ke ve:Expr}{tk tv:TE}(hk:PE X ke tk)(hv:PE X ve tv)(hu:X.A.units+1<cLine):PE X (.Dict [some ke] [ve] pos) (CD tk tv):=by
 intro pins s σ H Q I q
 have hn:=I.hok.fresh (c8 s.heap.objs.size)
 have I1:=I.laid (a:=s.heap.objs.size) (o:=.dT []) (h':=s.heap.push { cls:=.type "dict",data:=.dict #[] }) (t':=s.toks) (fun _ _ q=>a9 _ q) (c8 _) (xU s.heap I.big)
 refine wpAny_Dict_any rfl rfl (by simp) (by simp) (pairTrees_cons_walk (bP (hk pins _ σ _ _ I1 (q _ hn)) fun u s1 ⟨x,H1,I2,rx,q1⟩=>bP (hv pins s1 σ H1 _ I2 q1) fun w2 s2 ⟨y,H2,I3,ry,k,b,ex,eb,e,q2⟩=>pairTrees_nil_walk ?_))
 subst ex
 cases (show u=Value.ref b from rx)
 obtain⟨z,hd,xs,rel,dd⟩:=vB I3.hok e
 unfold storeAll
 rw[aQl]
 refine wpAny_bind (wpAny_bind (wpAny_dictSet_heap (hsz:=by rw[← aQe rel];exact z) (show X.A.units<cLine by omega) (nD I3.hok eb) dd fun h' dd' hs=>wpAny_pure ?_))
 dsimp only
 rw[aXX]
 obtain⟨o,es,ep,hq,h2,h3,h4,_,h5⟩:=dd'
 have r2:=(rel.put k eb ry).keeps (H':=upd H2 s.heap.objs.size (.dT [(k,y)])) fun c ys ec=>by
  rw[aG (eU ec e (fun z=>nomatch z))]
  exact ec
 refine wpAny_pure ⟨.ref s.heap.objs.size,_,nM (ob:=.dT [(k,y)]) I3 (by rw[e];exact True.intro) hs ⟨o,hq⟩ ⟨by rw[sizeLine_eq];simp,hd,_,r2,o,es,ep,hq,h2,h3,h4,h5⟩,rfl,q2⟩
theorem uP{prog:Program}{w:World}{A:Around}{it d:Addr}{o:Obj}{es:Array DictEntry}{ep:Nat}(hh:A.handled=none)(hne:d≠it)(od:o.data=.dict es ep) :
  Walks prog w A it [it,d] [it] es.size (fun i v=>∃ e,es[i]?=some e∧v=e.key) (fun i h=>h.IsKeyIter it d i es.size ep∧h.get? d=some o) where
 sub:=fun b hb=>by simp at hb;simp[hb]
 frame:=fun _ _ _ st hk=>⟨st.1.at fun o e=>hk it (by simp) o e,hk d (by simp) _ st.2⟩
 item:=fun i s Q E hi st hQ=>by
  refine rA (n:=0) st.1 st.2 od (x5 hi) fun h' st' sb=>?_
  exact hQ _ h' s.toks ⟨_,x5 hi,rfl⟩ ⟨st',(sb.2 d hne).trans st.2⟩ fun b o hb e=>(sb.2 b (fun z=>hb (by simp[z]))).trans e
 done:=fun s Q E st hQ=>tO (n:=0) hh st.1 st.2 od (by simp) fun h' eb=>hQ h' s.toks fun b o hb e=>eb b o (fun z=>hb (by simp[z])) e
 self:=fun _ _ _ _ st hQ=>wpAny_pyIter_keyiter st.1 hQ
theorem vS{prog:Program}{w:World}{d:Addr}{o:Obj}{es:Array DictEntry}{ep:Nat}(hn:(d == sysModules)=false)(xo:o.ExactDict)(od:o.data=.dict es ep) :
  PySem.W.KdlSrc prog w "dict" d d es.size (fun i v=>∃ e,es[i]?=some e∧v=e.key) (fun h=>h.get? d=some o) where
 type:=fun _ e=>⟨o,e,xo.1⟩
 there:=fun _ e=>⟨d6 e,d6 e⟩
 keep:=fun _ _ e hk=>hk d (.inl rfl) o e
 notList:=by decide
 notTuple:=by decide
 hint:=fun _ _ _ _ e hq=>PySem.W.kdl_hint_dict ⟨o,e,xo.1⟩ hq
 iter:=fun _ s hh e=>⟨_,_,(fun _ _ hq=>wY hn e xo od hq),uP hh (i7 (d6 e)) od,⟨⟨_,d8 _ rfl,rfl,rfl⟩,a9 _ e⟩⟩
inductive Rlist_dT(xs:List V)(H:Hp)(Q:VK):Prop
 | mk (d:Addr) (kvs:List (List bI×V)) (_:xs=[.ref d]) (_:H d=some (.dT kvs)) (_:∀ (l:Addr) (qs:List Addr),H l=none→qs.length=kvs.length→(∀ (j:Nat) (q:Addr) (kv:List bI×V),qs[j]?=some q→kvs[j]?=some kv→H q=some (.tup (kv.1.map kV)))→Q (.ref l) (upd H l (.lst (qs.map V.ref)))):Rlist_dT xs H Q
theorem pS{X:Cx}(hc:X.calm=true):dC X (.type "list") (fun xs H Q=>Rlist_dT xs H Q):=by
 intro pins s σ H xs us Q I r h
 obtain⟨d,kvs,rfl,he,q⟩:=h
 obtain⟨u,rfl,rx⟩:=iS r
 cases rx
 obtain⟨z,hd,ys,rel,dd⟩:=vB I.hok he
 obtain⟨o,es,ep,g0,xo,od,hes,_⟩:=id dd
 have hl:kvs.length=ys.length:=aQe rel
 have hsz:es.size=ys.length:=by rw[← aQG,hes,c6]
 refine PySem.W.kdl_call (vS hd xo od) (I.ok.hd hc) g0 (by rw[hsz,← hl];exact z) fun h' tk acc c hk hS hacc=>?_
 have hq:acc.toList=(ys.map fun y=>y.2.1).map Value.ref:=by
  apply aQ3
  intro j
  rw[y7,m6,f6]
  cases hj:ys[j]? with
  | none =>
   have:ys.length≤j:=aXK.mp hj
   rw[aXE.mpr (by rw[hacc.1];omega)]
   rfl
  | some y =>
   have hjl:=(c5.mp hj).1
   have hja:j<acc.size:=by rw[hacc.1];omega
   obtain⟨e,he1,he2⟩:=hacc.2 j _ (x5 hja)
   rw[← y7,hes,f6,hj] at he1
   cases he1
   rw[x5 hja,he2]
   rfl
 refine⟨.ref s.heap.objs.size,_,I.laid (o:=.lst ((ys.map fun y=>y.2.1).map V.ref)) (t':=tk) (fun b u e=>hk b u e) (c8 _) ?_,rfl,q _ (ys.map fun y=>y.2.1) (I.hok.fresh (c8 _)) (by rw[c6,hl]) fun j a kv ha hkv=>?_⟩
 ·refine⟨by rw[c6,c6,← hl];exact z,acc.toList,c,?_,by rw[Array.toArray_toList];exact hS⟩
  rw[hq]
  generalize (ys.map fun y=>y.2.1)=as
  induction as with
  | nil=>exact .nil
  | cons a as ih=>exact .cons rfl ih
 ·rw[f6] at ha
  obtain⟨y,hy,rfl⟩:=m8.mp ha
  obtain⟨y',hy',k1,k2,k3⟩:=Paired.at rel hkv
  rw[hy] at hy'
  cases hy'
  exact k2
theorem zD:typeLookup (.type "list") "keys"=pure none:=by rw[typeLookup_type,builtinLookup_eq_fast];kernel_rfl
theorem tI{prog:Program}{w:World}{A:Around}{E:Value→Shared→Prop}{s:Shared}{a:Addr}{xs:Array Value}{k:Nat}{sl:Array (Option Value)}{Q:Option Value→Shared→Prop}
  (hx:s.heap.get? a=some { cls:=.type "list",dict:=none,data:=.seq xs k,slots:=sl }) (hA:A.handled=none) (q:∀ h' tk,(∀ b o,s.heap.get? b=some o→h'.get? b=some o)→Q none { s with heap:=h',toks:=tk }) :
  wpAny (model prog w) A (getAttr? (.ref a) "keys") Q E s:=by
 obtain⟨hp,g,d,tk,os⟩:=s
 have ty:∀ u,(⟨hp,g,d,u,os⟩:Shared).TypeIs (.ref a) "list":=fun _=>⟨_,hx,rfl⟩
 have e1:=sub_AttributeError
 have e2:=aQY.lookup
 have e3:=aQY.bind (.ref a)
 have e4:=am_list_getattr_none
 unfold getAttr? getAttrBy? getAttrBy
 repeat (any_goals (first | assumption | exact ty _ | ((with_reducible show wpAny _ _ (call (Value.builtin "list.__getattribute__") _ _) _ _ _);refine call_meets aQY (ty _) am_entry_list_getattribute (F.args_list_getattribute_2 _ _) (meets_getattribute_miss_list a xs k sl "keys" _ zD (by decide)) ⟨hx,hA,fun h' tk' e hx'=>?_⟩) | wp_step))
 obtain⟨t',u',he⟩:=hx'.there
 show wpAny _ _ (getattributeRaised _ _ _ _ _ _ _) _ _ _
 unfold getattributeRaised
 repeat (any_goals (first | assumption | wp_step))
 exact q _ _ hx'.of.keeps
theorem mO:entryFor table "dict.update.loop"=some Builtin.«dict.update.loop»:=entryFor_of_tree (by kernel_rfl)
theorem fW:plainId "dict.update.loop"=true:=by decide +kernel
theorem qQ{prog:Program}{w:World}{A:Around}{E:Value→Shared→Prop}{s:Shared}{p:Addr}{o:Obj}{k v:Value}{c:Nat}{Q:List Value→Shared→Prop}(hp:s.heap.get? p=some o)(oc:o.cls=.type "tuple")(od:o.data=.seq #[k,v] c)(q:Q [k,v] s) :
  wpAny (model prog w) A (Builtin.Dict.pairItems (.ref p)) Q E s:=by
 have ty:s.TypeIs (.ref p) "tuple":=⟨_,hp,oc⟩
 unfold Builtin.Dict.pairItems
 refine wpAny_bind (wpAny_typeOf ty ?_)
 rw[if_pos (by decide)]
 refine wpAny_bind ?_
 unfold seqItems?
 obtain⟨h0,g,d,t,os⟩:=s
 repeat (any_goals (first | assumption | wp_step))
 rw[od]
 exact wpAny_pure (wpAny_pure q)
def BR(prog:Program)(w:World)(h:Heap)(v:Value)(kv:bI×Value):Prop:=∃ p o c key,v=.ref p∧h.get? p=some o∧o.cls=.type "tuple"∧o.data=.seq #[key,kv.2] c∧(bH prog w).is kv.1 key=true
def mV(kvs:List (bI×Value)):List (bI×Value)→List (bI×Value)
 | []=>kvs
 | kv::r=>mV (stored kvs kv.1 kv.2) r
theorem qY{prog:Program}{w:World}{A:Around}{I D:Addr}{fp wr:List Addr}{n:Nat}{P:Nat→Value→Prop}{St:Nat→Heap→Prop}{R:Result→Shared→Prop}(W:Walks prog w A.in1 I fp wr n P St)(hD:D ∉ fp)(h0:Heap)(L:List (bI×Value))(hL:L.length=n)
  (hP:∀ i v kv,P i v→L[i]?=some kv→BR prog w h0 v kv) (h0D:h0.get? D=none) (h0w:∀ b∈wr,h0.get? b=none) (hn:n≤sizeLine):∀ (m i:Nat) (s:Shared) (kvs:List (bI×Value)) (j:Int) (t:Tok),n - i=m→i≤n→St i s.heap→s.heap.DictOf (bH prog w) D kvs→kvs.length≤i →
  (∀ b o,h0.get? b=some o→s.heap.get? b=some o)→(∀ h' tk,h'.DictOf (bH prog w) D (mV kvs (L.drop i))→(∀ b o,h0.get? b=some o→h'.get? b=some o)→R (.ok (.ret .none)) { s with heap:=h',toks:=tk }) →
  codeAny (model prog w) A (.builtin "dict.update.loop" ⟨[.ref D,.ref I,.int j t,.none],[]⟩) R s:=by
 have hDw:D ∉ wr:=fun h=>hD (W.sub _ h)
 intro m
 induction m with
 | zero =>
  intro i s kvs j t hm hi st hd hk kp q
  have hin:i=n:=by omega
  subst hin
  refine codeAny_builtin mO ?_
  rw[q0 fW _]
  show wpAny _ A.in1 (pyNext (.ref I) >>= _) _ _ s
  refine wpAny_bind (W.done s _ _ st fun h' tk kp'=>?_)
  show wpAny _ A.in1 (Builtin.Dict.addKeywords D [] >>= _) _ _ _
  refine wpAny_bind (wpAny_pure (wpAny_pure (q h' tk ?_ fun b o e=>kp' b o (fun hb=>by rw[h0w b hb] at e;cases e) (kp b o e))))
  rw[List.drop_of_length_le (by omega)]
  obtain⟨o,es,ep,g,r⟩:=hd
  exact⟨o,es,ep,kp' D o hDw g,r⟩
 | succ m ih =>
  intro i s kvs j t hm hi st hd hk kp q
  have hlt:i<n:=by omega
  refine codeAny_builtin mO ?_
  rw[q0 fW _]
  show wpAny _ A.in1 (pyNext (.ref I) >>= _) _ _ s
  refine wpAny_bind (W.item i s _ _ hlt st fun v h' tk hv st' kp'=>?_)
  obtain⟨kv,hkv⟩:∃ kv,L[i]?=some kv:=⟨_,c7 (by omega)⟩
  obtain⟨p,o,c,key,rfl,hp,oc,od,ky⟩:=hP i v kv hv hkv
  have kp1:∀ b o,h0.get? b=some o→h'.get? b=some o:=fun b o e=>kp' b o (fun hb=>by rw[h0w b hb] at e;cases e) (kp b o e)
  have hd1:h'.DictOf (bH prog w) D kvs:=by
   obtain⟨o,es,ep,g,r⟩:=hd
   exact⟨o,es,ep,kp' D o hDw g,r⟩
  show wpAny _ A.in1 (holding [Value.ref p] _ >>= _) _ _ _
  refine wpAny_bind (wpAny_holding (wpAny_bind (wpAny_tryCatch (qQ (kp1 _ _ hp) oc od ?_))))
  show wpAny _ _ (holding [key,kv.2] (dictSet D key kv.2)) _ _ _
  refine wpAny_holding (wpAny_dictSet_pairs (hsz:=by omega) ky hd1 fun h2 hd2 sb=>?_)
  have e2:L.drop i=kv::L.drop (i+1):=by
   obtain⟨_,rfl⟩:=c5.mp hkv
   exact(List.getElem_cons_drop (h:=by omega)).symm
  refine wpAny_pure ⟨plainId_quiet fW _,ih (i+1) _ (stored kvs kv.1 kv.2) _ _ (by omega) hlt (W.frame _ _ _ st' fun b hb o e=>?_) hd2 ?_ (fun b o e=>?_) fun h3 tk3 hd3 kp3=>?_⟩
  ·exact(sb.2 b (fun z=>hD (z ▸ hb))).trans e
  ·unfold stored
   split
   ·rw[c6];omega
   ·rw[g9];simp;omega
  ·exact(sb.2 b (fun z=>by rw[z,h0D] at e;cases e)).trans (kp1 b o e)
  ·refine q h3 tk3 ?_ kp3
   rw[e2]
   exact hd3
theorem qC{P:Program}{w:World}{H:Hp}{h:Heap}(ok:HOk P w H h):∀ (kvs:List (bI×V)) (ps:List Addr) (vs:List Value),ps.length=kvs.length→Vals (ps.map V.ref) vs→(∀ (j:Nat) (p:Addr) (kv:bI×V),ps[j]?=some p→kvs[j]?=some kv→H p=some (.tup [kV kv.1,kv.2])) →
  ∃ L:List (bI×Value),KV kvs L∧∀ (i:Nat) (v:Value) (kv:bI×Value),vs[i]?=some v→L[i]?=some kv→BR P w h v kv
 | [],[],_,_,_,_=>⟨[],.nil,fun i v kv _ e=>by simp at e⟩
 | kv::kvs,p::ps,vs,hl,r,hp=>by
  rw[k7] at r
  cases r with
  | cons r1 r2 =>
   obtain⟨L,hL,hk⟩:=qC ok kvs ps _ (by simpa using hl) r2 fun j p' kv' a b=>hp (j+1) p' kv' (by simpa using a) (by simpa using b)
   obtain⟨_,its,ri,⟨o,g,oc,c,od⟩,_⟩:=(show ObjOk P w H h p (.tup [kV kv.1,kv.2]) from ok p _ (hp 0 p kv rfl rfl))
   cases ri with
   | cons q1 q2 =>
    cases q2 with
    | cons q3 q4 =>
     cases q4
     rename_i key val
     refine⟨(kv.1,val)::L,.cons ⟨rfl,q3⟩ hL,fun i v kv' a b=>?_⟩
     cases i with
     | zero =>
      simp only [List.getElem?_cons_zero,aZy] at a b
      subst a b
      cases (show _=Value.ref p from r1)
      exact⟨p,o,c,key,rfl,g,oc,od,sE q1⟩
     | succ i=>exact hk i v kv' (by simpa using a) (by simpa using b)
theorem lQ:∀ (L kvs:List (bI×Value)),mV kvs L=merged kvs L
 | [],_=>rfl
 | kv::L,kvs=>by
  show mV (stored kvs kv.1 kv.2) L=merged (stored kvs kv.1 kv.2) L
  exact lQ L _
inductive Rdict_of(xs:List V)(H:Hp)(Q:VK):Prop
 | mk (l:Addr) (ps:List Addr) (kvs:List (bI×V)) (_:xs=[.ref l]) (_:H l=some (.lst (ps.map V.ref))) (_:ps.length=kvs.length) (_:kvs.length≤1000) (_:∀ (j:Nat) (p:Addr) (kv:bI×V),ps[j]?=some p→kvs[j]?=some kv→H p=some (.tup [kV kv.1,kv.2])) (_:∀ d,H d=none→Q (.ref d) (upd H d (.dK (fK [] kvs)))):Rdict_of xs H Q
theorem qX{X:Cx}(hc:X.calm=true):dC X (.type "dict") (fun xs H Q=>Rdict_of xs H Q):=by
 intro pins s σ H xs us Q I r h
 obtain⟨l,ps,kvs,rfl,hl,hlen,hz,hp,q⟩:=h
 obtain⟨u,rfl,rx⟩:=iS r
 cases rx
 obtain⟨z,vs,c,rel,g⟩:=(show ObjOk X.prog X.w H s.heap l (.lst (ps.map V.ref)) from I.hok l _ hl)
 obtain⟨L,hL,hpr⟩:=qC I.hok kvs ps vs hlen rel hp
 have hv:vs.length=kvs.length:=by rw[← hlen,← Vals.length rel,c6]
 have hLl:L.length=kvs.length:=hL.length.symm
 have hD:=I.hok.fresh (c8 s.heap.objs.size)
 have hDn:s.heap.get? s.heap.objs.size=none:=by
  cases e:s.heap.get? s.heap.objs.size with
  | none=>rfl
  | some o=>exact absurd (d6 e) (r9 _)
 refine callType_codes (Q₁:=fun obj s₁=>obj=.ref s.heap.objs.size∧s₁={ s with heap:=s.heap.push { cls:=.type "dict",data:=.dict #[] } }) F.kt_called_dict (F.kt_typeCall_dict_1 _) F.entry_dict_init (kt_code_dict_new _ ⟨rfl,rfl⟩) ?_
 rintro obj s₁ ⟨rfl,rfl⟩
 have hnew:(s.heap.push { cls:=.type "dict",data:=.dict #[] }).DictOf (bH X.prog X.w) s.heap.objs.size []:=aZJ s.heap
 have g1:=a9 { cls:=.type "dict",data:=.dict #[] } g
 refine⟨hnew.typeIs,F.args_dict_init_2 _ _,?_⟩
 unfold Builtin.«dict.__init__»
 refine wpAny_bind ?_
 unfold Builtin.Dict.selfAndRest
 refine wpAny_bind (wpAny_notOrdered_dict hnew.typeIs ?_)
 show wpAny _ _ (pure (s.heap.objs.size,[Value.ref l])) _ _ _
 refine wpAny_pure ?_
 show wpAny _ _ (Builtin.Dict.updateFrom "dict.__init__" s.heap.objs.size (.ref l) [] .none) _ _ _
 unfold Builtin.Dict.updateFrom
 refine wpAny_bind (wpAny_typeOf (T:="list") ⟨_,g1,rfl⟩ ?_)
 rw[if_pos (by decide)]
 refine wpAny_bind (tI g1 (I.ok.hd hc) fun h' tk kp=>?_)
 show wpAny _ _ (rule _ >>= fun _=>pyIter (Value.ref l) >>= fun it=>again (Code.builtin "dict.update.loop" { pos:=[Value.ref s.heap.objs.size,it,rawInt 0,Value.none] })) _ _ _
 have kp0:∀ b o,s.heap.get? b=some o→h'.get? b=some o:=fun b o e=>kp b o (a9 _ e)
 have hin:s.heap.get? h'.objs.size=none:=by
  cases e:s.heap.get? h'.objs.size with
  | none=>rfl
  | some o=>exact absurd (d6 (kp0 _ _ e)) (r9 _)
 obtain⟨od,es,ep,gd,rd⟩:=hnew
 have gd':=kp _ _ gd
 refine wpAny_bind (wpAny_rule (wpAny_bind (wpAny_pyIter_list (items:=vs.toArray) ⟨_,kp _ _ g1,rfl,_,rfl⟩ ?_)))
 have hne:l≠h'.objs.size:=i7 (d6 (kp _ _ g1))
 have hDl:s.heap.objs.size≠l:=fun e=>absurd (d6 g) (by rw[← e];exact r9 _)
 have hDi:s.heap.objs.size≠h'.objs.size:=i7 (d6 gd')
 refine wpAny_pure ⟨plainId_quiet fW _,qY (A:=X.A.in1) (Walks.list (A:=X.A.in1.in1) (I.ok.hd hc) h'.objs.size l hne vs.toArray) (by simp only [d9,j9,or_false,not_or];exact⟨hDi,hDl⟩) s.heap L (by rw[f9,hLl,hv]) (fun i v kv a b=>hpr i v kv (by simpa using a) b) hDn (fun b hb=>by rw[c9.mp hb];exact hin) (by rw[f9,hv,sizeLine_eq];omega) _ 0 _ [] _ _ rfl (l5 _) ⟨⟨_,d8 _ rfl,rfl,rfl⟩,⟨_,a9 _ (kp _ _ g1),rfl,_,rfl⟩⟩ ⟨od,es,ep,a9 _ gd',rd⟩ (c8 _) (fun b o e=>a9 _ (kp0 b o e)) fun h3 tk3 hd3 kp3=>⟨rfl,.ref s.heap.objs.size,_,I.laid (o:=.dK (fK [] kvs)) (t':=tk3) kp3 (c8 _) ?_,rfl,q _ hD⟩⟩
 rw[aZN,lQ] at hd3
 have hm:∀ (m acc:List (bI×V)),(fK acc m).length≤acc.length+m.length:=by
  intro m
  induction m with
  | nil=>intro acc;exact c8 _
  | cons a m ih =>
   intro acc
   have e1:=ih (bV acc a.1 a.2)
   have e2:(bV acc a.1 a.2).length≤acc.length+1:=by
    unfold bV
    split
    ·rw[c6];omega
    ·rw[g9];simp
   show (fK (bV acc a.1 a.2) m).length≤_
   rw[l9]
   omega
 have hm0:=hm kvs []
 rw[aZI] at hm0
 exact⟨by rw[sizeLine_eq];omega,beq_eq_false_iff_ne.mpr (x8 I.big),_,KV.merge hL .nil,hd3⟩
theorem tX{P:Program}{w:World}:∀ {es:List DictEntry} {vs:List (bI×Value)},Pairs (bH P w) es vs→∀ {kvs:List (bI×V)},KV kvs vs→∀ {i:Nat} {kv:bI×V},kvs[i]?=some kv→∃ e,es[i]?=some e∧RelV (kV kv.1) e.key∧RelV kv.2 e.val:=by
 intro es vs hp
 induction hp with
 | nil =>
  intro kvs r i kv h
  cases r
  simp at h
 | @cons e p es vs h1 h2 hp ih =>
  intro kvs r i kv h
  cases r with
  | cons ra rb =>
   cases i with
   | zero =>
    simp at h
    subst h
    exact⟨e,rfl,by rw[ra.1];exact C2 h1,by rw[h2];exact ra.2⟩
   | succ i =>
    obtain⟨e',he,hr⟩:=ih rb (i:=i) (kv:=kv) (by simpa using h)
    exact⟨e',by simpa using he,hr⟩
def tF(d:Addr)(o:Obj)(kvs:List (bI×V)):It :=
 ⟨fun i H=>H d=some (.frz o (.dK kvs))∧i<kvs.length,fun i H x H'=>∃ p k v,kvs[i]?=some (k,v)∧x=.ref p∧H p=none∧H'=upd H p (.tup [kV k,v]),fun i H=>H d=some (.frz o (.dK kvs))∧kvs.length≤i⟩
theorem oY{P:Program}{w:World}{K:b9}{els:List Expr}{x1}{pos:Pos}(d it:Addr)(o:Obj)(es:Array DictEntry)(ep:Nat)(kvs:List (bI×V))(od:o.data=.dict es ep)(hl:es.size=kvs.length)(hne:d≠it) :
  Turn P w K (.Tuple els x1 pos) (tF d o kvs) [it] it (fun i h=>∃ ok ov,IsItemIter h it d i es.size ep ok ov) where
 mem:=by simp
 obj:=fun i h st b hb=>by
  have e:b=it:=by simpa using hb
  subst e
  obtain⟨ok,ov,g⟩:=st
  exact⟨_,g,fun v z=>by cases z⟩
 keep:=fun i h h' st k=>by
  obtain⟨ok,ov,g⟩:=st
  exact⟨ok,ov,k it (by simp) _ g⟩
 item:=by
  intro X hP hw hK hc i pins s σ H E I hf st hg
  subst hP hw hK
  obtain⟨ok,ov,st⟩:=st
  obtain⟨hd,hi⟩:=hg
  obtain⟨g0,_,vs,es',ep',r,_,od',hp⟩:=mS I hd
  rw[od] at od'
  cases od'
  obtain⟨kv,hkv⟩:∃ kv,kvs[i]?=some kv:=⟨_,c7 hi⟩
  obtain⟨en,hen,hr1,hr2⟩:=tX hp r hkv
  have hes:es[i]?=some en:=by rw[← y7];exact hen
  refine qS st g0 od hne hes fun g1 st1 T1 n1 kp1=>⟨_,rfl,?_⟩
  refine wpAny_letOwnedTupleGo_items st1 fun h2 st2 e2=>?_
  have lz:=d6 st
  have ne:s.heap.objs.size≠it:=x8 lz
  have T2:h2.get? s.heap.objs.size=some { cls:=.type "tuple",data:=.seq #[en.key,en.val] }:=(e2.2 _ ne).trans T1
  have hHn:H s.heap.objs.size=none:=I.hok.fresh (c8 _)
  have kpn:∀ b o,b ∉ [it]→s.heap.get? b=some o→h2.get? b=some o:=fun b o hn q=>(e2.2 b fun z=>hn (by simp[z])).trans (kp1 b o (fun z=>hn (by simp[z])) q)
  refine⟨.ref s.heap.objs.size,upd H s.heap.objs.size (.tup [kV kv.1,kv.2]),?_,rfl,⟨_,kv.1,kv.2,hkv,rfl,hHn,rfl⟩,⟨_,_,st2⟩,fun b hb=>?_⟩
  ·exact I.turnedN (t':=s.toks) (h':=h2) kpn hf (c8 _) ⟨by show 2≤sizeLine;decide,[en.key,en.val],.cons hr1 (.cons hr2 .nil),⟨_,T2,rfl,0,rfl⟩,⟨_,T2,rfl⟩⟩
  ·have e:b=it:=by simpa using hb
   subst e
   rw[aG ne.symm]
   exact(hf b hb).1
 done:=by
  intro X hP hw hK hc i pins s σ H E I hf st hg
  subst hP hw hK
  obtain⟨ok,ov,st⟩:=st
  obtain⟨hd,hi⟩:=hg
  obtain⟨g0,_,vs,es',ep',r,_,od',hp⟩:=mS I hd
  rw[od] at od'
  cases od'
  obtain⟨f0,f1,f2,f3,f4,f5⟩:=hf it (by simp)
  exact tU (I.ok.hd hc) st g0 od (by rw[aXE];omega) fun h' eb=>⟨rfl,I.turned (t':=s.toks) (fun b o hb e=>eb b o hb e) f0 f1 f3 f4 f5⟩
 self:=fun A i s Q E st h=>by
  obtain⟨ok,ov,st⟩:=st
  have hT:s.TypeIs (.ref it) "dict_itemiterator":=⟨_,st,rfl⟩
  refine wpAny_pyIter_slot hT aQs (wpAny_call_entry aQs hT iY ?_ (F.args_dict_itemiterator_iter_1 _))
  show wpAny _ _ (slotArgs "__iter__" 0 ⟨[.ref it],[]⟩ >>= _) _ _ _
  rw[show slotArgs "__iter__" 0 ⟨[.ref it],[]⟩=pure (.ref it,[]) from rfl]
  exact wpAny_bind (wpAny_pure (wpAny_pure ⟨_,rfl,"dict_itemiterator",_,hT,t8.lookup,h⟩))
section
variable {X:Cx}
inductive iItemsKI(R:It→Hp→Prop)(x:V)(H1:Hp):Prop
 | mk (d:Addr) (kvs:List (bI×V)) (_:x=.ref d) (_:(H1 d=some (.dK kvs)∧∀ o,R (tF d o kvs) (upd H1 d (.frz o (.dK kvs))))∨∃ o,H1 d=some (.frz o (.dK kvs))∧R (tF d o kvs) H1):iItemsKI R x H1
def yO(td:TE):TI:=fun σ H R=>td σ H fun x H1=>iItemsKI R x H1
theorem sZ{els:List Expr}{x1}{tpos:Pos}{o:Expr}{apos cpos:Pos}{td:TE}(ho:PE X o td)(hb:attributeBase o "items" X.env (eval o X.env)=eval o X.env:=by rfl)(hline:(apos.endLine == cpos.line)=true:=by rfl) :
  PI X (.Tuple els x1 tpos) (.Call (.Attribute o "items" apos) [] [] cpos) (yO td):=by
 intro pins s σ H R I h
 refine wpAny_Call_method0_late hb hline (bP (ho pins s σ H _ I h) fun u s1 ⟨x,H1,I1,rx,d,kvs,ex,hq⟩=>?_)
 subst ex
 cases (show u=Value.ref d from rx)
 obtain⟨ob,H2,e2,I2,q2⟩:∃ o H2,H2 d=some (.frz o (.dK kvs))∧Inv X pins σ H2 s1∧R (tF d o kvs) H2:=by
  rcases hq with ⟨e1,q⟩ | ⟨o,e1,q⟩
  ·obtain⟨o,_,I2⟩:=I1.freezeK e1
   exact⟨o,_,aB,I2,q o⟩
  ·exact⟨o,H1,e1,I1,q⟩
 obtain⟨g0,hn,vs,es,ep,r,xo,od,hp⟩:=mS I2 e2
 have hl:es.size=kvs.length:=by rw[← aQG,hp.length,← KV.length r]
 refine⟨"dict","dict.items",PySem.F.plainAttrs_dict,PySem.F.slot_dict_items,PySem.F.type_dict_items,⟨_,g0,xo.1⟩,fun b q=>?_,?_⟩
 ·cases q
  exact⟨ob,g0,xo.2.1⟩
 refine aQ8 rfl (aX2 ?_)
 refine rK hn g0 xo ?_
 have n1:(s1.heap.push { cls:=.type "dict_items",data:=.fields #[.ref d] }).objs.size=s1.heap.objs.size+1:=aQB ..
 have lz:=d6 g0
 refine rF (d8 _ rfl) (a9 _ g0) od ?_
 refine⟨_,[_],_,tF d ob kvs,H2,rfl,I2.kept (t':=s1.toks) (fun b u e=>a9 _ (a9 _ e)),oY d _ ob es ep kvs od hl (by show d≠(s1.heap.push _).objs.size;rw[n1];exact i7 (Nat.lt_succ_of_lt lz)),⟨_,_,d8 _ rfl⟩,fun b hb=>?_,q2⟩
 have e:b=s1.heap.objs.size+1:=by rw[← n1];simpa using hb
 subst e
 exact I2.fpOk (aQw _) (I2.hok.fresh (aQw _))
end
theorem nJ{K:b9}{d:Addr}{o:Obj}{kvs:List (bI×V)}{D:Addr}{Q:VK}{ti:TT}{te:TE}{c:St}{H0:Hp}(Pv:Nat→Hp→Prop)(h0:Pv 0 H0)(hl:∀ i H,i≤kvs.length→Pv i H→H d=some (.frz o (.dK kvs)))
  (hs:∀ i p k v H,kvs[i]?=some (k,v)→H p=none→Pv i H→ti (some (kV k)::some v::c) (upd H p (.tup [kV k,v])) fun b H1=>if b=true then te (some (kV k)::some v::c) H1 fun y H2=>∃ ys,H2 D=some (.lst ys)∧ys.length<sizeLine∧Pv (i+1) (upd H2 D (.lst (ys++[y]))) else Pv (i+1) H1)
  (hd:∀ H,Pv kvs.length H→Q (.ref D) H):nC K (tF d o kvs) D Q ti te c H0:=by
 refine⟨fun i m H'=>m=kvs.length - i∧i≤kvs.length∧Pv i H',⟨kvs.length,by simp,l5 _,h0⟩,?_⟩
 rintro i m H' ⟨rfl,hi,p⟩
 have q:=hl i H' hi p
 by_cases hlt:i<kvs.length
 ·refine .inr ⟨⟨q,hlt⟩,Pv (i+1),fun H'' p=>⟨kvs.length - (i+1),by omega,rfl,hlt,p⟩,fun v H2 y=>?_⟩
  obtain⟨pa,k,v',hk,rfl,hn,rfl⟩:=y
  exact⟨pa,kV k,v',rfl,SqT.of aB,hs i pa k v' H' hk hn p⟩
 ·have e:i=kvs.length:=by omega
  subst e
  exact .inl ⟨⟨q,c8 _⟩,hd H' p⟩
theorem zQ{us:List Value}{ss:List Str}(h:StrsAre us ss):Vals (ss.map V.str) us:=by
 induction h with
 | nil=>exact .nil
 | cons y t _ ih=>exact .cons ⟨_,rfl⟩ ih
inductive Rcall_sortS(K:b9)(xs:List V)(H:Hp)(Q:VK):Prop
 | mk (a:Addr) (ss:List Str) (_:xs=[.ref a]) (_:SqL K H a (ss.map V.str)) (_:ss.length<64) (_:∀ (p:Addr) (ss':List Str),H p=none→ss'.Perm ss→sortedS ss'=true→Q (.ref p) (upd H p (.lst (ss'.map V.str)))):Rcall_sortS K xs H Q
theorem qP{X:Cx}{K:b9}(hK:X.K=K):dC X (.builtin "sorted") (fun xs H Q=>Rcall_sortS K xs H Q):=by
 subst hK
 intro pins s σ H xs us Q I r h
 obtain⟨a,ss,rfl,hq,h64,q⟩:=h
 obtain⟨u,rfl,ru⟩:=r.one
 cases ru
 obtain⟨its,rv,pl,hz⟩:=I.list hq
 have hl:its.length=ss.length:=by rw[← rv.length,c6]
 refine sorted_strs pl.isList (gU rv) (by omega) fun out ss' a1 a2 a3=>?_
 obtain⟨e,he⟩:=sortedAll_at s.heap its out
 have hp:=a2.length_eq
 refine⟨.ref (s.heap.objs.size+1),_,I.laid (t':=s.toks) (o:=.lst (ss'.map V.str)) (fun b o q=>sortedAll_old q) (aQw _) ⟨by rw[c6];exact aQW (aU (by omega)),out.toList,e,zQ a1,?_⟩,rfl,q _ ss' (I.hok.fresh (aQw _)) a2 a3⟩
 simpa using he
inductive rCatE(x y:V)(H:Hp)(Q:VK):Prop
 | mk (a b:Addr) (xs ys:List V) (_:x=.ref a) (_:y=.ref b) (_:H a=some (.tup xs)) (_:H b=some (.tup ys)) (_:xs.length+ys.length≤sizeLine) (_:∀ p H',Same H H'→H' p=some (.tup (xs++ys))→Q (.ref p) H'):rCatE x y H Q
theorem nR{X:Cx}:gC X (binaryOp .Add) (fun x y H Q=>rCatE x y H Q):=by
 intro pins s σ H x y v u Q I rx ry h
 obtain⟨a,b,xs,ys,rfl,rfl,ha,hb,hz,q⟩:=h
 by_cases hx:xs=[]
 ·subst hx
  cases rx
  cases ry
  obtain⟨its,r1,p1,_⟩:=I.tuple (SqT.of ha)
  obtain⟨its2,r2,p2,_⟩:=I.tuple (SqT.of hb)
  obtain rfl:its=[]:=r1.nil_iff.mpr rfl
  exact wM p1 p2 ⟨.ref b,H,I,rfl,q b H (Same.refl _) hb⟩
 ·refine zB pins s σ H _ _ v u Q I rx ry ⟨a,b,xs,ys,rfl,rfl,SqT.of ha,SqT.of hb,hx,hz,fun e=>?_,fun _ p hp=>q p _ (Same.new hp) aB⟩
  subst e
  rw[w5] at q
  exact q a H (Same.refl _) ha
theorem zF{w:List Nat}{g:TG}{tb:TS}{D:Ends}{σ:St}{H:Hp}(Pv:Nat→St→Hp→Prop)(h0:Pv 0 σ H)
  (hs:∀ i c σ H,w.reverse[i]?=some c→Pv i σ H→g (.str (S [c])) σ H fun σ2 H2=>tb { D with nx:=Pv (i+1),ct:=Pv (i+1),bk:=D.nx } σ2 H2) (hd:∀ σ H,Pv w.length σ H→D.nx σ H) :
  ∃ W:Nat→Nat→St→Hp→Prop,(∃ m,W 0 m σ H)∧∀ i m σ H,W i m σ H →
   ((yJ (S w)).stop i H∧D.nx σ H)∨((yJ (S w)).go i H∧∃ N:St→Hp→Prop,(∀ σ' H',N σ' H'→∃ m',m' < m∧W (i+1) m' σ' H')∧∀ x H',(yJ (S w)).yld i H x H'→g x σ H' fun σ2 H2=>tb { D with nx:=N,ct:=N,bk:=D.nx } σ2 H2):=by
 refine⟨fun i m σ H=>m=w.length - i∧i≤w.length∧Pv i σ H,⟨w.length,by simp,l5 _,h0⟩,?_⟩
 rintro i m σ H ⟨rfl,hi,p⟩
 by_cases hlt:i<w.length
 ·refine .inr ⟨by simpa [yJ] using hlt,Pv (i+1),fun σ' H' p'=>⟨w.length - (i+1),by omega,rfl,hlt,p'⟩,fun x H' y=>?_⟩
  obtain⟨e,c,hc,rfl⟩:=y
  subst e
  refine hs i c σ _ ?_ p
  rw[w9 hlt]
  simpa using hc
 ·have e:i=w.length:=by omega
  subst e
  exact .inl ⟨by simp[yJ],hd σ H p⟩
end L2
namespace Lw
open PySem PySem.Spec PyProof.Rows L2 Ma MaR
theorem sS{i:Nat}(h:i<4):aZ (97+i)=65+i:=by unfold aZ;rw[if_pos (by omega)];omega
def tW(o:List Nat):List bI:=o.map fun c=>Sum.inr (S [c])
theorem sI(o:List Nat):(tW o).map kV=aO o:=by unfold tW aO;rw[m6];rfl
theorem sA:∀ {o p:List Nat},tW o=tW p→o=p
 | [],[],_=>rfl
 | [],_::_,h=>by simp[tW] at h
 | _::_,[],h=>by simp[tW] at h
 | a::o,b::p,h=>by
  have h1:(Sum.inr (S [a]):bI)=Sum.inr (S [b]):=(aZV h).1
  rw[(nP a b).mp h1,sA (aZV h).2]
theorem jV{κ:Type}[DecidableEq κ]{kvs:List (κ×V)}{k:κ}{v:V}{kv:κ×V}(h:kv∈bV kvs k v):kv∈kvs∨kv=(k,v):=by
 unfold bV at h
 split at h
 ·obtain⟨q,hq,rfl⟩:=i4.mp h
  by_cases e:q.1=k
  ·rw[if_pos e];exact .inr (by rw[e])
  ·rw[if_neg e];exact .inl hq
 ·rcases j8.mp h with z | z
  ·exact .inl z
  ·exact .inr (c9.mp z)
theorem vP{κ:Type}[DecidableEq κ]{kvs:List (κ×V)}{k:κ}{v:V}{k':κ}(h:k'=k∨∃ v',(k',v')∈kvs):∃ v',(k',v')∈bV kvs k v:=by
 unfold bV
 split
 ·rename_i hany
  have key:∀ v',(k',v')∈kvs→∃ v'',(k',v'')∈kvs.map fun kv=>if kv.1=k then (kv.1,v) else kv:=fun v' hv=>by
   by_cases e:k'=k
   ·exact⟨v,i4.mpr ⟨_,hv,by rw[if_pos e]⟩⟩
   ·exact⟨v',i4.mpr ⟨_,hv,by rw[if_neg e]⟩⟩
  rcases h with rfl | ⟨v',hv⟩
  ·obtain⟨kv,hkv,e⟩:=aZC.mp hany
   have e:=of_decide_eq_true e
   exact key kv.2 (by rw[← e];exact hkv)
  ·exact key v' hv
 ·rcases h with rfl | ⟨v',hv⟩
  ·exact⟨v,e9 _ (c9.mpr rfl)⟩
  ·exact⟨v',n9 _ hv⟩
theorem mB{k:bI}{v:V}:∀ {L acc:List (bI×V)},(∀ kv∈L,kv.1=k→kv.2=v)→((∃ kv∈L,kv.1=k)∨cR acc k=some v)→cR (fK acc L) k=some v
 | [],acc,_,h=>by
  rcases h with ⟨kv,hk,_⟩ | h
  ·cases hk
  ·exact h
 | a::L,acc,hv,h=>by
  show cR (fK (bV acc a.1 a.2) L) k=some v
  refine mB (fun kv hk e=>hv kv (i9 _ hk) e) ?_
  by_cases e:a.1=k
  ·right
   rw[eS,if_pos e.symm,hv a j6 e]
  ·rcases h with ⟨kv,hk,ek⟩ | h
   ·rcases d9.mp hk with rfl | hk
    ·exact absurd ek e
    ·exact .inl ⟨kv,hk,ek⟩
   ·right
    rw[eS,if_neg (fun z=>e z.symm)]
    exact h
theorem rT{α β:Type}{R:Prop}:∀ (qs:List α) (P:Nat→α→β→Prop),(∀ (j:Nat) (q:α),qs[j]?=some q→∃ o,P j q o)→(∀ ps:List (α×β),ps.map (·.1)=qs→(∀ (j:Nat) (p:α×β),ps[j]?=some p→P j p.1 p.2)→R)→R
 | [],_,_,k=>k [] rfl fun j p h=>by simp at h
 | q::qs,P,h,k=>by
  obtain⟨o,ho⟩:=h 0 q rfl
  refine rT qs (fun j=>P (j+1)) (fun j q' hj=>h (j+1) q' (by simpa using hj)) fun ps hp hP=>k ((q,o)::ps) (by rw[k7,hp]) fun j p hj=>?_
  cases j with
  | zero=>simp at hj;subst hj;exact ho
  | succ j=>exact hP j p (by simpa using hj)
theorem gH(cs:List Nat):dS (bQ cs)=aO cs:=by unfold dS bQ aO;rw[m6];rfl
theorem yA{α β:Type}{P:α→Prop}{f:α→β}:∀ {l:List β},(∀ y∈l,∃ c,P c∧y=f c)→∃ cl:List α,l=cl.map f∧∀ c∈cl,P c
 | [],_=>⟨[],rfl,fun c h=>nomatch h⟩
 | y::l,h=>by
  obtain⟨c,hc,rfl⟩:=h y j6
  obtain⟨cl,rfl,hl⟩:=yA fun z hz=>h z (i9 _ hz)
  refine⟨c::cl,rfl,fun d hd=>?_⟩
  rcases d9.mp hd with rfl | hd
  ·exact hc
  ·exact hl d hd
theorem oZ{κ:Type}[DecidableEq κ]{k:κ}{v:V}:∀ {kvs:List (κ×V)},cR kvs k=some v→(k,v)∈kvs
 | [],h=>by simp[cR] at h
 | p::kvs,h=>by
  by_cases e:p.1=k
  ·rw[bU e] at h
   rw[← e,← j7 h]
   exact j6
  ·rw[bW e] at h
   exact i9 _ (oZ h)
def cG(x:List Nat)(i:Nat):List Nat:=cT ((x++x).drop ((x++x).length - i))
theorem jB(x:List Nat):cG x 0=[]:=by unfold cG;rw[Nat.sub_zero,List.drop_length];rfl
theorem uU{x:List Nat}{i c:Nat}(h:(x++x).reverse[i]?=some c):cG x (i+1)=c::(cG x i).filter fun d=>decide (d≠c∧d≠aZ c):=by
 have hi:i<(x++x).length:=by have:=(c5.mp h).1;rwa [t9] at this
 rw[w9 hi] at h
 unfold cG
 have e:(x++x).drop ((x++x).length - (i+1))=c::(x++x).drop ((x++x).length - i):=by
  rw[show (x++x).length - (i+1)=(x++x).length - 1 - i by omega]
  obtain⟨hlt,rfl⟩:=c5.mp h
  rw[aQT hlt]
  congr 2
  omega
 rw[e]
 rfl
theorem vG{x:List Nat}(hx:∀ c∈x,bS c){b:Nat}(hb:b<x.length):cG x (2 * x.length - b)=cT (bX x b):=by
 unfold cG
 rw[← qI hx b,g9,show x.length+x.length - (2 * x.length - b)=b by omega,List.drop_append_of_le_length (by omega)]
theorem jY{x:List Nat}{i d:Nat}(h:d∈cG x i):d∈x:=by
 rcases j8.mp (m5 (dB h)) with z | z
 ·exact z
 ·exact z
theorem vT{x:List Nat}(n:Nat)(h1:1≤n)(h4:n≤4)(hx:OfN n x)(i:Nat):(cG x i).length≤4:=by
 have ho:OfN n (cG x i):=fun d hd=>hx d (jY hd)
 have e:=(eV h1 h4 ho (eQ _)).len
 rw[g9] at e
 unfold cG at *
 omega
theorem Ao{n i c:Nat}(h4:n≤4)(h:(aS n)[i]?=some c):c=97+i∧i<n:=by
 have h2:(dS (gN n))[i]?=some (.str (S [c])):=by rw[jJ];unfold aO;rw[f6,h];rfl
 obtain⟨e,hi⟩:=sM h4 h2
 have:=pP (V.str.inj e)
 exact⟨by simpa using this,hi⟩
def Ak(i:Nat)(cs:List Nat):Prop:=cs.length=i∧OfN (4:Nat) cs∧Apt cs
theorem kN:∀ {o:List Nat} {c:Nat},(∀ d∈o,bS d)→bS c→(Apt (o++[c])↔Apt o∧c ∉ o∧aZ c ∉ o)
 | [],c,_,hc=>⟨fun _=>⟨trivial,(fun h=>nomatch h),fun h=>nomatch h⟩,fun _=>⟨(fun h=>nomatch h),(fun h=>nomatch h),trivial⟩⟩
 | d::o,c,ho,hc=>by
  have hd:=ho d j6
  have ih:=kN (o:=o) (c:=c) (fun e he=>ho e (i9 _ he)) hc
  show (d ∉ o++[c]∧aZ d ∉ o++[c]∧Apt (o++[c]))↔(d ∉ o∧aZ d ∉ o∧Apt o)∧c ∉ d::o∧aZ c ∉ d::o
  rw[ih]
  simp only [j8,d9,j9,or_false,not_or]
  constructor
  ·rintro⟨⟨h1,h2⟩,⟨h3,h4⟩,h5,h6,h7⟩
   exact⟨⟨h1,h3,h5⟩,⟨fun e=>h2 e.symm,h6⟩,⟨fun e=>h4 (by rw[← e,bA hc]),h7⟩⟩
  ·rintro⟨⟨h1,h3,h5⟩,⟨h2,h6⟩,⟨h4,h7⟩⟩
   exact⟨⟨h1,fun e=>h2 e.symm⟩,⟨h3,fun e=>h4 (by rw[← e,bA hd])⟩,h5,h6,h7⟩
theorem uM{i:Nat}{ps:List (Addr×List Nat)}{cs:List Nat}(h:∀ cs,Ak i cs↔∃ q∈ps,q.2=cs):Ak (i+1) cs↔∃ p∈ps,∃ c∈aL (4:Nat),c ∉ p.2∧aZ c ∉ p.2∧cs=p.2++[c]:=by
 constructor
 ·rintro⟨hl,ho,ha⟩
  obtain⟨o,c,rfl⟩:∃ o c,cs=o++[c]:=⟨cs.dropLast,cs.getLast (by intro e;rw[e] at hl;cases hl),(aQO _).symm⟩
  have ho1:OfN (4:Nat) o:=fun d hd=>ho d (n9 _ hd)
  have hc:=ho c (e9 _ (c9.mpr rfl))
  obtain⟨a1,a2,a3⟩:=(kN (fun d hd=>aE (ho1 d hd)) (aE hc)).mp ha
  rw[g9,y6] at hl
  obtain⟨q,hq,rfl⟩:=(h o).mp ⟨by omega,ho1,a1⟩
  exact⟨q,hq,c,hc,a2,a3,rfl⟩
 ·rintro⟨p,hp,c,hc,h1,h2,rfl⟩
  obtain⟨hl,ho,ha⟩:=(h p.2).mpr ⟨p,hp,rfl⟩
  refine⟨by rw[g9,hl];rfl,fun d hd=>?_,(kN (fun d hd=>aE (ho d hd)) (aE hc)).mpr ⟨ha,h1,h2⟩⟩
  rcases j8.mp hd with z | z
  ·exact ho d z
  ·rw[c9.mp z];exact hc
theorem iN:∀ {o:List Nat},(∀ c∈o,bS c)→(o.map lo).Nodup→Apt o
 | [],_,_=>trivial
 | c::o,h,hn=>by
  rw[k7,x9] at hn
  have hc:=h c j6
  refine⟨fun z=>hn.1 (i4.mpr ⟨c,z,rfl⟩),fun z=>hn.1 (i4.mpr ⟨aZ c,z,?_⟩),iN (fun d hd=>h d (i9 _ hd)) hn.2⟩
  rcases aM hc with rfl | rfl | rfl | rfl | rfl | rfl | rfl | rfl <;> decide
theorem wG(cs:List Nat):Exch 4 cs↔Ak 4 cs:=by
 constructor
 ·intro e
  refine⟨e.len,e.mem,iN (fun c hc=>aE (e.mem c hc)) (e.perm.nodup_iff.mpr (by decide))⟩
 ·rintro⟨hl,ho,ha⟩
  have ex:=eV (n:=4) (by decide) (by decide) ho ha
  have:cZ 4 cs=[]:=by
   have:=ex.len
   rw[g9,hl] at this
   exact l8.mp (by omega)
  rw[this,w5] at ex
  exact ex
inductive spOrds(vs:List V)(H:Hp)(Q:VK)(E:XK):Prop
 | mk (x:List Nat) (_:vs=[.str (S x)]) (_:OfN 4 x) (_:x.length≤400) (_:∀ (l:Addr) (ps:List (Addr×List Nat)) (H':Hp),Same H H'→H' l=some (.lst (ps.map fun p=>V.ref p.1))→(∀ q∈ps,H' q.1=some (.tup (aO q.2)))→(∀ q∈ps,∃ i,q.2=cG x i)→(∀ i,i≤2 * x.length→∃ q∈ps,q.2=cG x i)→ps.length≤2 * x.length+1→Q (.ref l) H'):spOrds vs H Q E
inductive spTabX(K:b9)(vs:List V)(H:Hp)(Q:VK)(E:XK):Prop
 | mk (a:Addr) (rs:List (List Nat)) (n M:Nat) (_:vs=[.ref a]) (_:SqT K H a (dS rs)) (_:RT rs n M) (_:1≤n) (_:n≤4) (_:M≤1000) (_:∀ (p:Addr) (kvs:List (bI×V)) (H':Hp),H p=none→Same H H'→H' p=some (.dK kvs)→DU kvs rs→(∀ kv∈kvs,∃ c∈aL n,kv=(.inr (S [c]),.str (S (tell rs c))))→kvs.length≤8→Q (.ref p) H'):spTabX K vs H Q E
inductive spExF(vs:List V)(H:Hp)(Q:VK)(E:XK):Prop
 | mk (n:Nat) (a:Addr) (o:List Nat) (_:vs=[.int (n:Nat),.ref a]) (_:H a=some (.tup (aO o))) (_:1≤n) (_:n≤4) (_:OfN n o) (_:Apt o) (_:∀ (p:Addr) (H':Hp),Same H H'→H' p=some (.tup (aO (xB n (o++cZ n o))))→Q (.ref p) H'):spExF vs H Q E
inductive spToF(ts:List Tb)(vs:List V)(H:Hp)(Q:VK)(E:XK):Prop
 | mk (n:Nat) (x:List Nat) (_:vs=[.int (n:Nat),.str (S x)]) (_:1≤n) (_:n≤4) (_:RgN n x) (_:x.length≤100) (_:dH ts H) (_:∀ (p:Addr) (cs r:List Nat) (H':Hp),SameT ts H H'→H' p=some (.tup (aO cs))→Exch n cs→RingR (x.map (gX cs)) r→IsForm x r→Q (.ref p) H'):spToF ts vs H Q E
inductive spFormO(ts:List Tb)(vs:List V)(H:Hp)(Q:VK)(E:XK):Prop
 | mk (x:List Nat) (_:vs=[.str (S x)]) (_:RgN 4 x) (_:x.length≤100) (_:dH ts H) (_:∀ (d:List Nat) (H':Hp),SameT ts H H'→IsForm x d→Q (.str (S d)) H'):spFormO ts vs H Q E
inductive spAllX(vs:List V)(H:Hp)(Q:VK)(E:XK):Prop
 | mk (_:vs=[]) (_:∀ (l:Addr) (ps:List (Addr×List Nat)) (H':Hp),Same H H'→H' l=some (.lst (ps.map fun p=>V.ref p.1))→(∀ q∈ps,H' q.1=some (.tup (aO q.2)))→(∀ cs,Exch 4 cs↔∃ q∈ps,q.2=cs)→ps.length≤4096→Q (.ref l) H'):spAllX vs H Q E
inductive spXed(K:b9)(vs:List V)(H:Hp)(Q:VK)(E:XK):Prop
 | mk (a:Addr) (cs:List Nat) (n:Nat) (x:List Nat) (_:vs=[.ref a,.str (S x)]) (_:SqT K H a (aO cs)) (_:Exch n cs) (_:1≤n) (_:n≤4) (_:OfN n x) (_:x.length≤900) (_:∀ H',Same H H'→Q (.str (S (x.map (gX cs)))) H'):spXed K vs H Q E
inductive spStg(vs:List V)(H:Hp)(Q:VK)(E:XK):Prop
 | mk (fl sc:Addr) (n:Nat) (_:vs=[.ref fl,.int (n:Nat)]) (_:IsFl H fl sc) (_:1≤n) (_:n≤4) (_:∀ (w:List Nat) (H':Hp),OfN n w→bZ w→w.length≤10→IsFl H' fl sc→Kp fl H H'→Q (.str (S w)) H'):spStg vs H Q E
theorem xZ{r r':List Nat}(hl:r.length=r'.length)(h:HT.lexLt (gM r') (gM r)=false):LeN (r.map rk) (r'.map rk):=by
 rw[gA,gA] at h
 exact LeN.of_lex (by rw[c6,c6,hl]) h
theorem vI{r r':List Nat}(hl:r.length=r'.length)(h:HT.lexLt (gM r') (gM r)=true):LeN (r'.map rk) (r.map rk):=by
 rcases LeN.total (r.map rk) (r'.map rk) (by rw[c6,c6,hl]) with z | z
 ·have:=z.lex
  rw[← gA,← gA,h] at this
  cases this
 ·exact z
theorem uV{K:b9}{ts:List Tb}{t:Tb}{ix:List Nat}{te:TE}{σ:L2.St}{H:Hp}{l:Addr}{ps:List (Addr×List Nat)}{L:Nat}{RR:List Nat→List Nat→Prop}{Q:VK}
  (ht:t∈ts) (hT:dH ts H) (hl:H l=some (.lst (ps.map fun p=>V.ref p.1))) (hne:ps≠[])
  (hte:∀ (H':Hp) (p:Addr×List Nat) (Q:VK),p∈ps→SameT ts H H'→(∀ (u a:Addr) (r:List Nat) (H'':Hp),H' u=none→H' a=none→Same H' H''→RR p.2 r→r.length=L→H'' u=some (.tup [.int (L:Nat),.ref a])→H'' a=some (.lst ((gM r).map V.int))→Q (.ref u) H'')→te (some (.ref p.1)::dE σ ix) H' Q)
  (k:∀ (p:Addr×List Nat) (r:List Nat) (H':Hp),p∈ps→RR p.2 r→(∀ p'∈ps,∃ r',RR p'.2 r'∧LeN (r.map rk) (r'.map rk))→SameT ts H H'→Q (.ref p.1) H') :
  ∃ (l':Addr) (xs:List V),[V.ref l]=[.ref l']∧TabH H t.P t.pos t.qual ∧
   ∀ (c':Addr) (H2:Hp),H2 t.P=some (.tbl (eR t.pos c'))→H2 c'=some (XCd c' t.qual)→(∀ b o,H b=some o→b≠t.P→H2 b=some o)→∃ Pv:Nat→V→V→Hp→Prop,SqL K H2 l' xs ∧
    (∀ i b kb H,Pv i b kb H→SqL K H l' xs∧H c'=some (XCd c' t.qual))∧(∃ x0,xs[0]?=some x0∧te (some x0::dE σ ix) H2 fun v H3=>Pv 1 x0 v H3) ∧
    (∀ i b kb H,Pv i b kb H→∀ y,xs[i]?=some y→te (some y::dE σ ix) H fun v H2=>oA v kb H2 fun c H3=>∃ t,c=.bl t∧Pv (i+1) (if t=true then y else b) (if t=true then v else kb) H3) ∧
    ∀ b kb H,Pv xs.length b kb H→Q b H:=by
 refine⟨l,ps.map fun p=>V.ref p.1,rfl,hT.2 t ht,fun c' H2 eP eC go=>?_⟩
 have s2:SameT ts H H2:=.made ht hT eP eC go
 have el:=s2.lst hl
 refine⟨fun i b kb H'=>1≤i∧∃ (p:Addr×List Nat) (u a:Addr) (r:List Nat),p∈ps∧b=.ref p.1∧kb=.ref u∧RR p.2 r∧r.length=L∧Same H2 H'∧H' u=some (.tup [.int (L:Nat),.ref a])∧H' a=some (.lst ((gM r).map V.int))∧∀ j p',j<i→ps[j]?=some p'→∃ r',RR p'.2 r'∧LeN (r.map rk) (r'.map rk),SqL.of el,?_,?_,?_,?_⟩
 ·rintro i b kb H' ⟨_,p,u,a,r,_,_,_,_,_,s,_⟩
  exact⟨SqL.of (s _ _ el),s _ _ eC⟩
 ·obtain⟨p0,rest,rfl⟩:=aXF hne
  refine⟨_,rfl,hte H2 p0 _ j6 s2 fun u a r H3 _ _ s3 hr hL e3 f3=>⟨c8 _,p0,u,a,r,j6,rfl,rfl,hr,hL,s3,e3,f3,fun j p' hj hp=>?_⟩⟩
  obtain rfl:j=0:=by omega
  cases hp
  exact⟨r,hr,LeN.refl _⟩
 ·rintro i b kb H' ⟨hi,p,u,a,r,hp,rfl,rfl,hr,hL,s3,e3,f3,hm⟩ y hy
  rw[f6] at hy
  obtain⟨y',hy',rfl⟩:=m8.mp hy
  have hym:=d7 hy'
  refine hte H' y' _ hym (s2.trans (.of s3)) fun u2 a2 r2 H4 _ na2 s4 hr2 hL2 e4 f4=>⟨u2,u,a2,a,(L:Nat),gM r2,gM r,rfl,rfl,e4,s4 _ _ e3,f4,s4 _ _ f3,by rw[cL,cL,hL,hL2],fun z=>(aN f3 na2) z.symm,_,rfl,aXp hi,?_⟩
  cases hlt:HT.lexLt (gM r2) (gM r) with
  | true =>
   have hle:=vI (by rw[hL,hL2]) hlt
   refine⟨y',u2,a2,r2,hym,rfl,rfl,hr2,hL2,s3.trans s4,e4,f4,fun j p' hj hp'=>?_⟩
   by_cases hji:j=i
   ·subst hji
    rw[hy'] at hp'
    cases hp'
    exact⟨r2,hr2,LeN.refl _⟩
   ·obtain⟨r',h1,h2⟩:=hm j p' (by omega) hp'
    exact⟨r',h1,hle.trans h2⟩
  | false =>
   have hle:=xZ (by rw[hL,hL2]) hlt
   refine⟨p,u,a,r,hp,rfl,rfl,hr,hL,s3.trans s4,s4 _ _ e3,s4 _ _ f3,fun j p' hj hp'=>?_⟩
   by_cases hji:j=i
   ·subst hji
    rw[hy'] at hp'
    cases hp'
    exact⟨r2,hr2,hle⟩
   ·exact hm j p' (by omega) hp'
 ·rintro b kb H' ⟨hi,p,u,a,r,hp,rfl,rfl,hr,hL,s3,e3,f3,hm⟩
  refine k p r H' hp hr (fun p' hp'=>?_) (s2.trans (.of s3))
  obtain⟨j,hj⟩:=y0 hp'
  exact hm j p' (by rw[c6];exact(c5.mp hj).1) hj
theorem zM(a b:Nat):ltCps (S [a]).cps.toList (S [b]).cps.toList=decide (a<b):=by
 show ltCps [a] [b]=_
 unfold ltCps
 by_cases h:a<b
 ·simp[h]
 ·simp[h,ltCps]
theorem jF:∀ {k:List Nat} {a:Nat},risingS (S [a]) (k.map fun c=>S [c])=true→(∀ x∈k,a≤x)∧k.Pairwise (·≤·)
 | [],_,_=>⟨fun _ h=>(by cases h),List.Pairwise.nil⟩
 | x::k,a,h=>by
  have h':(!ltCps (S [x]).cps.toList (S [a]).cps.toList && risingS (S [x]) (k.map fun c=>S [c]))=true:=h
  rw[zM,w8] at h'
  have hax:a≤x:=by
   have:=h'.1
   simp at this
   exact this
  obtain⟨h1,h2⟩:=jF h'.2
  refine⟨fun y hy=>?_,List.Pairwise.cons h1 h2⟩
  rcases d9.mp hy with rfl | hy
  ·exact hax
  ·exact m7 hax (h1 y hy)
theorem oO{k:List Nat}(h:sortedS (k.map fun c=>S [c])=true):k.Pairwise (·≤·):=by
 cases k with
 | nil=>exact List.Pairwise.nil
 | cons a k =>
  obtain⟨h1,h2⟩:=jF (k:=k) (a:=a) h
  exact List.Pairwise.cons h1 h2
theorem rL{ss:List Str}{m:List Nat}(h:ss.Perm (m.map fun c=>S [c])):∃ k:List Nat,k.Perm m∧ss=k.map fun c=>S [c]:=by
 refine⟨ss.map fun s=>s.cps.toList.headD 0,?_,?_⟩
 ·have:=h.map fun s=>s.cps.toList.headD 0
  rw[m6] at this
  have e:(m.map ((fun s:Str=>s.cps.toList.headD 0) ∘ fun c=>S [c]))=m:=by
   have:((fun s:Str=>s.cps.toList.headD 0) ∘ fun c=>S [c])=id:=by funext c;rfl
   rw[this,aQx]
  rw[e] at this
  exact this
 ·rw[m6]
  symm
  have:∀ s∈ss,((fun c=>S [c]) ∘ fun s:Str=>s.cps.toList.headD 0) s=id s:=fun s hs=>by
   obtain⟨c,_,rfl⟩:=i4.mp (h.mem_iff.mp hs)
   rfl
  rw[y1 this,aQx]
theorem vN{n:Nat}(h1:1≤n)(h4:n≤4):(aS n).Pairwise (·≤·)∧(aS n).Nodup∧(aS n).length=n∧∀ c∈aS n,97≤c∧c≤100:=by
 rcases sO h1 h4 with rfl | rfl | rfl | rfl <;> decide
theorem pX{n:Nat}(h1:1≤n)(h4:n≤4){ss:List Str}(hp:ss.Perm ((aS n).map fun c=>S [c]))(hs:sortedS ss=true):ss=(aS n).map fun c=>S [c]:=by
 obtain⟨k,kp,rfl⟩:=rL hp
 rw[List.Perm.eq_of_pairwise (le:=(·≤·)) (fun a b _ _ h h'=>Nat.le_antisymm h h') (oO hs) (vN h1 h4).1 kp]
theorem oR{K:b9}{H:Hp}{l:Addr}{ws:List (List Nat)}{L:Nat}{Q:VK}(hl:H l=some (.lst (dS ws)))(hne:ws≠[])(hw:∀ x∈ws,AllL x∧x.length=L)(hL:L≤900)
  (k:∀ (r:List Nat) (H':Hp),r∈ws→(∀ r'∈ws,LeN (r.map rk) (r'.map rk))→Same H H'→Q (.str (S r)) H') :
  ∃ (l':Addr) (xs:List V) (Pv:Nat→V→V→Hp→Prop),[V.ref l]=[.ref l']∧SqL K H l' xs ∧
   (∀ i b kb H,Pv i b kb H→SqL K H l' xs)∧(∃ x0,xs[0]?=some x0∧spKey [x0] H (fun v H2=>Pv 1 x0 v H2) E0) ∧
   (∀ i b kb H,Pv i b kb H→∀ y,xs[i]?=some y→spKey [y] H (fun v H2=>oA v kb H2 fun c H3=>∃ t,c=.bl t∧Pv (i+1) (if t=true then y else b) (if t=true then v else kb) H3) E0) ∧
   ∀ b kb H,Pv xs.length b kb H→Q b H:=by
 refine⟨l,dS ws,fun i b kb H'=>1≤i∧∃ (r:List Nat) (u a:Addr),r∈ws∧b=.str (S r)∧kb=.ref u∧Same H H'∧H' u=some (.tup [.int (L:Nat),.ref a])∧H' a=some (.lst ((gM r).map V.int))∧∀ (j:Nat) (r':List Nat),j<i→ws[j]?=some r'→LeN (r.map rk) (r'.map rk),rfl,SqL.of hl,?_,?_,?_,?_⟩
 ·rintro i b kb H' ⟨_,r,u,a,_,_,_,s,_⟩
  exact SqL.of (s _ _ hl)
 ·obtain⟨p0,rest,rfl⟩:=aXF hne
  obtain⟨w1,w2⟩:=hw p0 j6
  refine⟨_,rfl,p0,rfl,w1,by omega,fun u a H3 _ _ s3 e3 f3=>⟨c8 _,p0,u,a,j6,rfl,rfl,s3,by rw[← w2];exact e3,f3,fun j r' hj hr=>?_⟩⟩
  obtain rfl:j=0:=by omega
  cases hr
  exact LeN.refl _
 ·rintro i b kb H' ⟨hi,r,u,a,hr,rfl,rfl,s3,e3,f3,hm⟩ y hy
  obtain⟨y',hy',rfl⟩:=jI hy
  have hym:=d7 hy'
  obtain⟨w1,w2⟩:=hw y' hym
  obtain⟨v1,v2⟩:=hw r hr
  refine⟨y',rfl,w1,by omega,fun u2 a2 H4 _ na2 s4 e4 f4=>⟨u2,u,a2,a,(L:Nat),gM y',gM r,rfl,rfl,by rw[← w2];exact e4,s4 _ _ e3,f4,s4 _ _ f3,by rw[cL,cL,w2,v2],fun z=>(aN f3 na2) z.symm,_,rfl,aXp hi,?_⟩⟩
  cases hlt:HT.lexLt (gM y') (gM r) with
  | true =>
   have hle:=vI (by rw[w2,v2]) hlt
   refine⟨y',u2,a2,hym,rfl,rfl,s3.trans s4,by rw[← w2];exact e4,f4,fun j r' hj hr'=>?_⟩
   by_cases hji:j=i
   ·subst hji
    rw[hy'] at hr'
    cases hr'
    exact LeN.refl _
   ·exact hle.trans (hm j r' (by omega) hr')
  | false =>
   have hle:=xZ (by rw[w2,v2]) hlt
   refine⟨r,u,a,hr,rfl,rfl,s3.trans s4,s4 _ _ e3,s4 _ _ f3,fun j r' hj hr'=>?_⟩
   by_cases hji:j=i
   ·subst hji
    rw[hy'] at hr'
    cases hr'
    exact hle
   ·exact hm j r' (by omega) hr'
 ·rintro b kb H' ⟨hi,r,u,a,hr,rfl,rfl,s3,e3,f3,hm⟩
  refine k r H' hr (fun r' hr'=>?_) s3
  obtain⟨j,hj⟩:=y0 hr'
  exact hm j r' (by rw[eI];exact(c5.mp hj).1) hj
theorem kU{b:Bool}{A B:Prop}(e:b=false)(h:B):if b=true then A else B:=by rw[e];exact gJ h
theorem uJ:Exch 4 (aS 4):=⟨by decide,by decide,by rw[show (aS 4).map lo=aS 4 by decide]⟩
theorem RgN.four{n:Nat}(h1:1≤n)(h4:n≤4){x:List Nat}(h:RgN n x):RgN 4 x:=by
 obtain⟨y,a,b,c⟩:=h
 exact⟨y,xX h1 h4 a,b,c⟩
theorem RgN.exn{n:Nat}(h1:1≤n)(h4:n≤4){x y e:List Nat}(hx:RgN n x)(he:Exch n e)(hy:RingR (x.map (gX e)) y):RgN n y:=by
 obtain⟨ha,hp,_⟩:=cO hx
 refine⟨x.map (gX e),fun c hc=>?_,he.plain h1 h4 hx.ofn hp,hy⟩
 obtain⟨d,hd,rfl⟩:=i4.mp hc
 exact he.gmem h1 h4 (hx.ofn d hd)
theorem pC{r d:List Nat}{ps:List (Addr×List Nat)}{ws:List (List Nat)}(hr:OfN (4:Nat) r)(hl:ws.length=ps.length)(hall:∀ cs,Exch 4 cs↔∃ q∈ps,q.2=cs)
  (hw:∀ (i:Nat) (w:List Nat) (p:Addr×List Nat),ws[i]?=some w→ps[i]?=some p→RingR (r.map (gX p.2)) w) (hd:d∈ws) (hm:∀ r'∈ws,LeN (d.map rk) (r'.map rk)):IsForm r d:=by
 have at1:∀ (i:Nat) (w:List Nat),ws[i]?=some w→∃ p∈ps,RingR (r.map (gX p.2)) w:=fun i w h=>by
  have hi:=(c5.mp h).1
  exact⟨ps[i]'(by omega),q8 _,hw i w _ h (c7 (by omega))⟩
 refine⟨?_,fun cs r' e h=>?_⟩
 ·obtain⟨i,hi⟩:=y0 hd
  obtain⟨p,hp,h⟩:=at1 i d hi
  exact⟨p.2,(hall _).mpr ⟨p,hp,rfl⟩,h⟩
 ·obtain⟨p,hp,rfl⟩:=(hall cs).mp e
  obtain⟨i,hi⟩:=y0 hp
  have hil:=(c5.mp hi).1
  have h2:=hw i (ws[i]'(by omega)) p (c7 (by omega)) hi
  rw[RingR.inj (dQ (by decide) (by decide) e hr) h h2]
  exact hm _ (q8 _)
end Lw
namespace Lw
open PySem PySem.Spec PyProof.Rows L2 Ma
def gQ(i:Nat):Stmt:=PySem.Challenge.pw_newletters_k41_forms_of_rings.main.body.getD i (.Pass ⟨0,0,0,0⟩)
abbrev fR(x:Str)(st:Stmt)(kV dc pm:Value)(an:Option Addr)(cd ct:Value):FuncData:=PySem.W.fnOf x x (iK st) (eB st) (aF st) .none kV dc pm an cd ct
theorem gT{K:b9}{mg:Str→Option Value}{x:Str}{st:Stmt}{ps:List Str}{f:Addr}{oc:Value}{od an:Option Addr}{osl:Array (Option Value)}{kV doc pm cdv ct:Value}(l:K.lookup f=some ⟨oc,od,.func (fR x st kV doc pm an cdv ct),osl⟩)
  (c:PySem.W.codeIn K cdv x=true) (k:PySem.W.keepIn K (.ref f)=true) (m:mg x=some (.ref f)) (h:∀ (kV doc pm:Value) (an:Option Addr) (cdv ct:Value) (us:List Value),us.length=ps.length→bindArgs (fR x st kV doc pm an cdv ct) ⟨us,[]⟩=pure (ps.zip us)):Df K mg x st ps f (fR x st kV doc pm an cdv ct) :=
 ⟨yB l c k,(yB l c k).binds h,m⟩
abbrev AU:Stmt:=gQ 5
theorem CY:FnScope ["n"] ["n"] (aF AU):=⟨rfl,rfl,rfl,by decide +kernel,rfl,by decide +kernel,by decide +kernel⟩
abbrev Bv:Stmt:=gQ 6
theorem Cm:FnScope ["letter"] ["letter"] (aF Bv):=⟨rfl,rfl,rfl,by decide +kernel,rfl,by decide +kernel,by decide +kernel⟩
abbrev AY:Stmt:=gQ 7
theorem BV:FnScope ["letter"] ["letter"] (aF AY):=⟨rfl,rfl,rfl,by decide +kernel,rfl,by decide +kernel,by decide +kernel⟩
abbrev A7:Stmt:=gQ 9
theorem sc_zt:FnScope ["word","many","last"] ["word"] (aF A7):=⟨rfl,rfl,rfl,by decide +kernel,rfl,by decide +kernel,by decide +kernel⟩
abbrev yL:Stmt:=gQ 10
theorem sc_zn:FnScope ["word","ranks","size","one","other","like","left","right"] ["word"] (aF yL):=⟨rfl,rfl,rfl,by decide +kernel,rfl,by decide +kernel,by decide +kernel⟩
abbrev A5:Stmt:=gQ 11
theorem sc_z2:FnScope ["word","many","bent","begin"] ["word"] (aF A5):=⟨rfl,rfl,rfl,by decide +kernel,rfl,by decide +kernel,by decide +kernel⟩
abbrev BA:Stmt:=gQ 13
theorem sc_zv:FnScope ["text","kept","letter"] ["text"] (aF BA):=⟨rfl,rfl,rfl,by decide +kernel,rfl,by decide +kernel,by decide +kernel⟩
abbrev zA:Stmt:=gQ 14
theorem BH:FnScope ["word"] ["word"] (aF zA):=⟨rfl,rfl,rfl,by decide +kernel,rfl,by decide +kernel,by decide +kernel⟩
abbrev Ad:Stmt:=gQ 15
theorem BU:FnScope ["word"] ["word"] (aF Ad):=⟨rfl,rfl,rfl,by decide +kernel,rfl,by decide +kernel,by decide +kernel⟩
abbrev AI:Stmt:=gQ 17
theorem sc_zc:FnScope ["retelling","told","letter","word"] ["retelling"] (aF AI):=⟨rfl,rfl,rfl,by decide +kernel,rfl,by decide +kernel,by decide +kernel⟩
abbrev yZ:Stmt:=gQ 18
theorem sc_z3:FnScope ["retelling","word","told"] ["retelling","word"] (aF yZ):=⟨rfl,rfl,rfl,by decide +kernel,rfl,by decide +kernel,by decide +kernel⟩
abbrev AV:Stmt:=gQ 19
theorem B3:FnScope ["retelling","ring"] ["retelling","ring"] (aF AV):=⟨rfl,rfl,rfl,by decide +kernel,rfl,by decide +kernel,by decide +kernel⟩
abbrev zI:Stmt:=gQ 21
theorem sc_zh:FnScope ["ring","order","orders","letter"] ["ring"] (aF zI):=⟨rfl,rfl,rfl,by decide +kernel,rfl,by decide +kernel,by decide +kernel⟩
abbrev uS:Stmt:=gQ 22
theorem sc_ze:FnScope ["n","order","behind","told","letters"] ["n","order"] (aF uS):=⟨rfl,rfl,rfl,by decide +kernel,rfl,by decide +kernel,by decide +kernel⟩
abbrev oQ:Stmt:=gQ 23
theorem sc_zb:FnScope ["n","ring","exchanges"] ["n","ring"] (aF oQ):=⟨rfl,rfl,rfl,by decide +kernel,rfl,by decide +kernel,by decide +kernel⟩
abbrev AZ:Stmt:=gQ 24
theorem CK:FnScope ["ring"] ["ring"] (aF AZ):=⟨rfl,rfl,rfl,by decide +kernel,rfl,by decide +kernel,by decide +kernel⟩
abbrev Bp:Stmt:=gQ 26
theorem B9:FnScope ["_law_script"] ["_law_script"] (aF Bp):=⟨rfl,rfl,rfl,by decide +kernel,rfl,by decide +kernel,by decide +kernel⟩
abbrev AX:Stmt:=gQ 27
theorem sc_zx:FnScope ["_law_flow_here","_law_many","_law_cell","_law_digit"] ["_law_flow_here","_law_many"] (aF AX):=⟨rfl,rfl,rfl,by decide +kernel,rfl,by decide +kernel,by decide +kernel⟩
abbrev Bj:Stmt:=gQ 28
theorem CL:FnScope ["_law_n"] ["_law_n"] (aF Bj):=⟨rfl,rfl,rfl,by decide +kernel,rfl,by decide +kernel,by decide +kernel⟩
abbrev AT:Stmt:=gQ 29
theorem BI:FnScope ["_law_letter"] ["_law_letter"] (aF AT):=⟨rfl,rfl,rfl,by decide +kernel,rfl,by decide +kernel,by decide +kernel⟩
abbrev zE:Stmt:=gQ 30
theorem Co:FnScope ["_law_word_here"] ["_law_word_here"] (aF zE):=⟨rfl,rfl,rfl,by decide +kernel,rfl,by decide +kernel,by decide +kernel⟩
abbrev zZ:Stmt:=gQ 31
theorem Ct:FnScope ["_law_word_here"] ["_law_word_here"] (aF zZ):=⟨rfl,rfl,rfl,by decide +kernel,rfl,by decide +kernel,by decide +kernel⟩
abbrev A0:Stmt:=gQ 32
theorem sc_zr:FnScope ["_law_text","_law_found","_law_letter"] ["_law_text"] (aF A0):=⟨rfl,rfl,rfl,by decide +kernel,rfl,by decide +kernel,by decide +kernel⟩
abbrev Aq:Stmt:=gQ 33
theorem sc_zw:FnScope ["_law_flow_here","_law_n","_law_most","_law_found","_law_letters_here","_law_k","_law_some"] ["_law_flow_here","_law_n","_law_most"] (aF Aq):=⟨rfl,rfl,rfl,by decide +kernel,rfl,by decide +kernel,by decide +kernel⟩
abbrev zJ:Stmt:=gQ 34
theorem sc_zu:FnScope ["_law_word_here"] ["_law_word_here"] (aF zJ):=⟨rfl,rfl,rfl,by decide +kernel,rfl,by decide +kernel,by decide +kernel⟩
abbrev Bz:Stmt:=gQ 35
theorem sc_zo:FnScope ["_law_retelling","_law_word_here","_law_found","_law_letter","_law_told"] ["_law_retelling","_law_word_here"] (aF Bz):=⟨rfl,rfl,rfl,by decide +kernel,rfl,by decide +kernel,by decide +kernel⟩
abbrev Bq:Stmt:=gQ 36
theorem sc_zj:FnScope ["_law_flow_here","_law_n","_law_left","_law_found","_law_k","_law_letter"] ["_law_flow_here","_law_n"] (aF Bq):=⟨rfl,rfl,rfl,by decide +kernel,rfl,by decide +kernel,by decide +kernel⟩
abbrev Bn:Stmt:=gQ 37
theorem sc_zd:FnScope ["_law_flow_here","_law_n","_law_many","_law_word_here"] ["_law_flow_here","_law_n"] (aF Bn):=⟨rfl,rfl,rfl,by decide +kernel,rfl,by decide +kernel,by decide +kernel⟩
abbrev A9:Stmt:=gQ 38
theorem sc_za:FnScope ["_law_found","_law_k","_law_more","_law_some","_law_letter"] [] (aF A9):=⟨rfl,rfl,rfl,by decide +kernel,rfl,by decide +kernel,by decide +kernel⟩
abbrev At:Stmt:=gQ 39
theorem sc_zf:FnScope ["_law_letters_here","_law_word_here","_law_names","_law_k","_law_letter"] ["_law_letters_here","_law_word_here"] (aF At):=⟨rfl,rfl,rfl,by decide +kernel,rfl,by decide +kernel,by decide +kernel⟩
abbrev lZ:Stmt:=gQ 40
theorem sc_law:FnScope ["_law_script","_law_flow_here","_law_n","_law_ring_here","_law_due","_law_other","_law_one","_law_letters_here"] ["_law_script"] (aF lZ):=⟨rfl,rfl,rfl,by decide +kernel,rfl,by decide +kernel,by decide +kernel⟩
structure Txt(P:Program)(w:World)(K:b9)(mg:Str→Option Value)(D_:Addr)(Ea:Addr)(D9:Addr)(Eb:Addr):Prop where
 b_dict:mg "dict"=none
 b_enumerate:mg "enumerate"=none
 b_isinstance:mg "isinstance"=none
 b_len:mg "len"=none
 b_list:mg "list"=none
 b_max:mg "max"=none
 b_min:mg "min"=none
 b_range:mg "range"=none
 b_reversed:mg "reversed"=none
 b_sorted:mg "sorted"=none
 b_tuple:mg "tuple"=none
 b_zip:mg "zip"=none
 m_CONTRARIES:mg "CONTRARIES"=some (.ref D_)
 t_CONTRARIES:∀ h,K.In h→StrTab P w h D_ wQ
 m_LETTERS:mg "LETTERS"=some (.ref Ea)
 t_LETTERS:∀ H,SqT K H Ea letV
 m_MOST_LETTERS:∃ t,mg "MOST_LETTERS"=some (.int 4 t)
 m_RANKS:mg "RANKS"=some (.ref Eb)
 t_RANKS:∀ h,K.In h→StrTab P w h Eb sC
def tbs(P1:Addr):List Tb:=[lamTb2 P1 "letters_to_form" oQ]
section
variable {P:Program}{w:World}{K:b9}{mg:Str→Option Value}{base:Heap}{D_:Addr}{Ea:Addr}{D9:Addr}{Eb:Addr}{P1:Addr}
theorem Cd{f:Addr}{fd:FuncData}(D:Df K mg "_law_flow" Bp ["_law_script"] f fd)(T:Txt P w K mg D_ Ea D9 Eb):Cl P w K mg base "_law_flow" ["_law_script"] 1 (spFlow K):=by
 refine D.cl (D.F.ok B9 (fun vs H Q E h=>?_) (fun cdv A outer s H vs Q E hr h=>?_))
 ·obtain⟨a,ns,rfl,_⟩:=h
  rfl
 ·obtain⟨a,ns,rfl,hs,hl,k⟩:=h
  refine⟨_,(aH (aV (fO (aA (bY (rD (K:=K) rfl) (by rfl) T.b_list boot_list (aA (pv 0) aC)) (aA aI (aA aI (aA aI (aA aI aC)))))))),?_⟩
  refine⟨_,rfl,a,_,rfl,.inl hs,fun l hl0=>⟨aK (by simp),fun fl hf=>?_⟩⟩
  have ne:l≠fl:=(aN (aB (H:=H) (a:=l) (o:=HO.lst (ns.map V.int))) hf)
  have hH:H fl=none:=by rw[aG ne.symm] at hf;exact hf
  refine k fl l _ hH ((Same.new hl0).upd' hf) ⟨ns,0,0,1,0,aB,?_,hl,by decide,by decide,by decide⟩
  rw[aG ne,aB]
theorem BG{f:Addr}{fd:FuncData}(D:Df K mg "_law_pick" AX ["_law_flow_here","_law_many"] f fd)(T:Txt P w K mg D_ Ea D9 Eb):Cl P w K mg base "_law_pick" ["_law_flow_here","_law_many"] 1 spPick:=by
 refine D.cl (D.F.ok sc_zx (fun vs H Q E h=>?_) (fun cdv A outer s H vs Q E hr h=>?_))
 ·obtain⟨fl,sc,m,rfl,_⟩:=h
  rfl
 ·obtain⟨fl,sc,m,rfl,hf,h0,hm,k⟩:=h
  obtain⟨ns,i,a,b,c,h1,h2,hl,hi,ha,hb⟩:=id hf
  have hne:sc≠fl:=eU h2 h1 (by intro z;cases ns with | nil=>cases z | cons n ns=>cases z)
  refine⟨_,(iD (dR (pw_and (aT iU (bL (aW (K:=K) rfl) (pv 0) aI (fun _ _=>rfl)) aI (bG _)) (pw_and1 (aT pD (bL (aW (K:=K) rfl) (pv 0) aI (fun _ _=>rfl)) (bB (cE (K:=K) rfl) (by rfl) T.b_len p6 (aA (bL (aW (K:=K) rfl) (pv 0) aI (fun _ _=>rfl)) aC)) (bG _)))).pt (aD (aQ (i:=2) sc_zx.nd rfl (Or.inl rfl) (bL (aW (K:=K) rfl) (bL (aW (K:=K) rfl) (pv 0) aI (fun _ _=>rfl)) (bL (aW (K:=K) rfl) (pv 0) aI (fun _ _=>rfl)) (fun _ _=>rfl)))
   (aD (jC (aY cN (bL (aW (K:=K) rfl) (pv 0) aI (fun _ _=>rfl)) aI) (jD (pv 0) aI eO))
   (aH (dR (aT Ca (pv 2) (aY AN aI aI) (bG _)) (aH (jC (pv 2) (jD (pv 0) aI eO))) (aH (jC (aY fA (aY cN (aY cN (aY jW (bL (aW (K:=K) rfl) (pv 0) aI (fun _ _=>rfl)) aI) (aY fA (pv 2) aI)) aI) aI) (jD (pv 0) aI eO))))))) cS)
   (aD (dR (aT pO (bL (aW (K:=K) rfl) (pv 0) aI (fun _ _=>rfl)) aI (bG _)) (aD (aQ (i:=3) sc_zx.nd rfl (Or.inl rfl) (aY fA (bL (aW (K:=K) rfl) (pv 0) aI (fun _ _=>rfl)) (pv 1)))
   (aD (jC (aY nY (bL (aW (K:=K) rfl) (pv 0) aI (fun _ _=>rfl)) (pv 1)) (jD (pv 0) aI eO))
   (aH (aV (pv 3))))) cS)
   (aD (jC (aY cN (bL (aW (K:=K) rfl) (pv 0) aI (fun _ _=>rfl)) aI) (jD (pv 0) aI eO))
   (aD (jC (aY fA (aY cN (aY cN (aY jW (bL (aW (K:=K) rfl) (pv 0) aI (fun _ _=>rfl)) aI) aI) (bL (aW (K:=K) rfl) (pv 0) aI (fun _ _=>rfl))) aI) (jD (pv 0) aI eO))
   (aH (aV (aY fA (aY nY (aY fA (aY jW (aY cN (aY fA (bL (aW (K:=K) rfl) (pv 0) aI (fun _ _=>rfl)) aI) aI) (aY cN (aY nY (bL (aW (K:=K) rfl) (pv 0) aI (fun _ _=>rfl)) aI) aI)) aI) aI) (pv 1)))))))),?_⟩
  refine⟨fun σ H1=>(∃ v,σ=[some (.ref fl),some (.int m),v,none])∧IsFl H1 fl sc∧Kp fl H H1,?_,?_⟩
  ·refine⟨_,rfl,fl,_,2,_,rfl,rfl,SqL.of h1,rfl,rfl,_,rfl,dW (fun e=>?_) (fun _=>gJ ⟨⟨none,rfl⟩,hf,Kp.refl _ _⟩)⟩
   refine⟨_,rfl,fl,_,1,_,rfl,rfl,SqL.of h1,rfl,_,rfl,fl,_,0,_,rfl,rfl,SqL.of h1,rfl,sc,_,rfl,.inl (SqL.of h2),_,_,rfl,rfl,_,rfl,dW (fun e2=>?_) (fun _=>⟨⟨none,rfl⟩,hf,Kp.refl _ _⟩)⟩
   have hlt:i<((ns.map V.int).length:Int):=of_decide_eq_true e2
   rw[c6] at hlt
   have hil:i.toNat<ns.length:=by omega
   have hat:nQ (ns.map V.int) i=some (.int ns[i.toNat]):=by
    have q:(ns.map V.int)[i.toNat]?=some (.int ns[i.toNat]):=by rw[f6,c7 hil];rfl
    have q2:=fX q
    rwa [aQt hi] at q2
   refine⟨_,rfl,fl,_,0,_,rfl,rfl,SqL.of h1,rfl,_,rfl,fl,_,1,_,rfl,rfl,SqL.of h1,rfl,sc,_,i,_,rfl,rfl,SqL.of h2,hat,?_⟩
   refine⟨_,rfl,fl,_,1,_,rfl,rfl,SqL.of h1,rfl,_,_,rfl,rfl,_,rfl,fl,_,1,1,rfl,rfl,h1,rfl,?_⟩
   refine⟨_,rfl,_,_,rfl,rfl,⟨by decide,by decide,by decide⟩,_,_,rfl,rfl,_,rfl,dW (fun e3=>?_) (fun _=>?_)⟩
   ·have hc:(10:Int) ^ (18:Int).toNat≤ns[i.toNat]:=of_decide_eq_true e3
    have hp:(0:Int)≤10 ^ (18:Int).toNat:=by decide
    refine⟨_,rfl,_,rfl,fl,_,2,2,rfl,rfl,aB,rfl,⟨_,rfl⟩,⟨ns,i+1,ns[i.toNat],b,c,aB,?_,hl,by omega,by omega,hb⟩,((Kp.refl fl H).self).self⟩
    rw[aG hne,aG hne];exact h2
   ·refine⟨_,rfl,fl,_,3,_,rfl,rfl,SqL.of aB,rfl,_,_,rfl,rfl,.inr ⟨by decide,by decide⟩,_,rfl,_,_,rfl,rfl,(by show (0:Int)<1000003;decide),_,_,rfl,rfl,_,_,rfl,rfl,_,_,rfl,rfl,(by show (0:Int)<2147483647;decide),_,rfl,fl,_,3,3,rfl,rfl,aB,rfl,⟨_,rfl⟩,⟨ns,i+1,a,_,c,aB,?_,hl,by omega,ha,aQV _ (by decide)⟩,((Kp.refl fl H).self).self⟩
    rw[aG hne,aG hne];exact h2
  ·rintro _ H1 ⟨⟨v,rfl⟩,⟨ns,i,a,b,c,h1,h2,hl,hi,ha,hb⟩,kp⟩
   have hne:sc≠fl:=eU h2 h1 (by intro z;cases ns with | nil=>cases z | cons n ns=>cases z)
   refine⟨_,rfl,fl,_,2,_,rfl,rfl,SqL.of h1,rfl,_,_,rfl,rfl,_,rfl,dW (fun e=>?_) (fun _=>?_)⟩
   ·refine⟨_,rfl,fl,_,2,_,rfl,rfl,SqL.of h1,rfl,_,rfl,_,_,rfl,rfl,h0,?_⟩
    refine⟨_,rfl,fl,_,2,_,rfl,rfl,SqL.of h1,rfl,_,rfl,_,_,rfl,rfl,⟨h0,hm⟩,_,rfl,fl,_,2,2,rfl,rfl,h1,rfl,?_⟩
    refine⟨_,rfl,k _ _ (aQV _ (by omega)) (aQZ _ h0) ⟨ns,i,a / m,b,c,aB,?_,hl,hi,Int.ediv_nonneg ha (by omega),hb⟩ kp.self⟩
    rw[aG hne];exact h2
   ·refine⟨_,rfl,fl,_,4,_,rfl,rfl,SqL.of h1,rfl,_,_,rfl,rfl,_,rfl,fl,_,4,4,rfl,rfl,h1,rfl,?_⟩
    refine⟨_,rfl,fl,_,3,_,rfl,rfl,SqL.of aB,rfl,_,_,rfl,rfl,.inr ⟨by decide,by decide⟩,_,_,rfl,rfl,_,rfl,fl,_,4,_,rfl,rfl,SqL.of aB,rfl,_,_,rfl,rfl,_,_,rfl,rfl,(by show (0:Int)<2147483647;decide),_,rfl,fl,_,3,3,rfl,rfl,aB,rfl,?_⟩
    have hb3:∀ x:Int,0≤x % 2147483647∧x % 2147483647<2147483647:=fun x=>⟨aQV _ (by decide),aQZ _ (by decide)⟩
    refine⟨_,rfl,fl,_,3,_,rfl,rfl,SqL.of aB,rfl,_,_,rfl,rfl,(by show (0:Int)<65521;decide),_,_,rfl,rfl,_,rfl,fl,_,3,_,rfl,rfl,SqL.of aB,rfl,_,_,rfl,rfl,⟨by decide,by decide⟩,_,_,rfl,rfl,_,_,rfl,rfl,.inl ⟨?_,?_⟩,_,_,rfl,rfl,(by show (0:Int)<1000003;decide),_,_,rfl,rfl,⟨by decide,by decide⟩,_,rfl,_,_,rfl,rfl,h0,?_⟩
    ·have:=aQV ((b * 48271+12820163+(c+1)) % 2147483647) (show (65521:Int)≠0 by decide);omega
    ·have:=aQZ ((b * 48271+12820163+(c+1)) % 2147483647) (show (0:Int)<65521 by decide);omega
    ·refine k _ _ (aQV _ (by omega)) (aQZ _ h0) ⟨ns,i,a,_,c+1,aB,?_,hl,hi,ha,(hb3 _).1⟩ kp.self.self
     rw[aG hne,aG hne];exact h2
theorem CN{f:Addr}{fd:FuncData}(D:Df K mg "_law_contrary" AT ["_law_letter"] f fd)(T:Txt P w K mg D_ Ea D9 Eb):Cl P w K mg base "_law_contrary" ["_law_letter"] 1 spCon:=by
 refine D.cl (D.F.ok BI (fun vs H Q E h=>?_) (fun cdv A outer s H vs Q E hr h=>?_))
 ·obtain⟨c,rfl,_⟩:=h
  rfl
 ·obtain⟨c,rfl,hc,k⟩:=h
  refine⟨_,(aD (dR (qV (cY (K:=K) rfl l3 PySem.F.slot_str_islower PySem.F.type_str_islower rG (pv 0))) (aH (aV (cY (K:=K) rfl l3 aQa aQb jU (pv 0)))) cS)
   (aH (aV (cY (K:=K) rfl l3 aQc aQd kH (pv 0))))),?_⟩
  refine⟨_,rfl,rfl,_,rfl,rfl,_,rfl,?_⟩
  dsimp only
  rw[uQ hc]
  refine dW (fun e=>?_) (fun e=>?_)
  ·refine⟨_,rfl,rfl,_,rfl,rfl,?_,?_⟩
   ·rw[fZ hc e];exact mY _
   ·rw[fZ hc e];exact k H (Same.refl H)
  ·have e':bJ c=false:=by simpa using e
   refine⟨_,rfl,rfl,_,rfl,rfl,?_,?_⟩
   ·rw[sU hc e'];exact mY _
   ·rw[sU hc e'];exact k H (Same.refl H)
theorem Cb{f:Addr}{fd:FuncData}(D:Df K mg "_law_letters" Bj ["_law_n"] f fd)(T:Txt P w K mg D_ Ea D9 Eb):Cl P w K mg base "_law_letters" ["_law_n"] 1 spLetters:=by
 refine D.cl (D.F.ok CL (fun vs H Q E h=>?_) (fun cdv A outer s H vs Q E hr h=>?_))
 ·obtain⟨n,rfl,_⟩:=h
  rfl
 ·obtain⟨n,rfl,h1,h4,k⟩:=h
  refine⟨_,(aH (aV (bY (fB rfl) (by rfl) T.b_list boot_list (aA (cJ eJ cH dJ (cA (aY jW aI (pv 0)))) aC)))),?_⟩
  have e:Txt.slice (Str.ofString "aAbBcCdD") none (some (2 * n))=S (aL n):=by
   rw[show Str.ofString "aAbBcCdD"=S lets by decide +kernel,dA lets (by omega) (by show (2 * n)≤(8:Int);omega)]
   rfl
  refine⟨_,rfl,_,_,rfl,rfl,.inl ⟨by decide,by decide⟩,_,rfl,_,rfl,by decide +kernel,aL n,by rw[e],?_,fun l hl=>k l _ hl (Same.new hl) aB⟩
  rw[iX h1 h4];omega
theorem CO{f:Addr}{fd:FuncData}(D:Df K mg "_law_laid" A0 ["_law_text"] f fd)(T:Txt P w K mg D_ Ea D9 Eb)(c_zi:Cl P w K mg base "_law_contrary" ["_law_letter"] 1 spCon):Cl P w K mg base "_law_laid" ["_law_text"] 2 spLay:=by
 obtain⟨f_zi,fd_zi,G_zi,m_zi,k_zi,b_zi⟩:=c_zi
 refine D.cl (D.F.ok sc_zr (fun vs H Q E h=>?_) (fun cdv A outer s H vs Q E hr h=>?_))
 ·obtain⟨x,rfl,_⟩:=h
  rfl
 ·obtain⟨x,rfl,hx,hlen,k⟩:=h
  refine⟨_,(aD (aQ (i:=1) sc_zr.nd rfl (Or.inl rfl) (fO aC))
   (aD (dD p4 rfl (fD (pv 0)) (cB (i:=2) sc_zr.nd rfl (Or.inl rfl)) (aH (dR (pw_and (aT pO (bB (cE (K:=K) rfl) (by rfl) T.b_len p6 (aA (pv 1) aC)) aI (bG _)) (pw_and1 (aT iU (bL (aW (K:=K) rfl) (pv 1) (oT kQ aI) (fun _ _=>rfl)) (aJ G_zi (hr.mono (by decide)) (by rfl) m_zi k_zi b_zi .nil aR (aA (pv 2) aC)) (bG _)))).pt (aH (gG (cY (K:=K) rfl u4 aQh aQi wR (pv 1)))) (aH (gG (cV (K:=K) rfl u4 aQD aQE dL (pv 1) (aA (pv 2) aC)))))))
   (aH (aV (cV (K:=K) rfl l3 x3 x4 (eN (K:=K) rfl) cH (aA (pv 1) aC)))))),?_⟩
  refine⟨aK (by simp),fun l hl=>?_⟩
  refine⟨_,rfl,S x,rfl,jP (w:=x) (fun i σ H1=>(∃ v,σ=[some (.str (S x)),some (.ref l),v])∧Same H H1∧H1 l=some (.lst (aO (gK [] (x.take i)).reverse))) ⟨⟨none,rfl⟩,Same.new hl,aB⟩ ?_ ?_⟩
  ·rintro i c σ H1 hc ⟨⟨v,rfl⟩,s1,e1⟩
   have hi:i<x.length:=(c5.mp hc).1
   have hcL:bS c:=hx c (d7 hc)
   have hn:gK [] (x.take (i+1))=push (gK [] (x.take i)) c:=by rw[bN hc,oW]
   have hsz:(gK [] (x.take i)).length≤60000:=by
    have:=jO (x.take i) []
    rw[k9] at this
    simp at this
    omega
   refine⟨_,rfl,l,_,rfl,.inl (SqL.of e1),_,_,rfl,rfl,_,rfl,dW (fun e=>?_) (fun e=>?_)⟩
   ·have hne:0<(gK [] (x.take i)).length:=by
     have e':=of_decide_eq_true e
     rw[aP,t9] at e'
     omega
    obtain⟨y,r,hk⟩:∃ y r,gK [] (x.take i)=y::r:=by
     cases hq:gK [] (x.take i) with
     | nil=>rw[hq] at hne;simp at hne
     | cons y r=>exact⟨y,r,rfl⟩
    rw[hk] at e1 hn hsz
    have e2:H1 l=some (.lst (aO r.reverse++[.str (S [y])])):=by rw[e1,aQA,cD]
    refine⟨_,rfl,_,rfl,l,_,_,_,rfl,rfl,SqL.of e2,iH _ _,_,rfl,c,rfl,hcL,fun H2 s2=>⟨rfl,_,rfl,dW (fun q=>?_) (fun q=>?_)⟩⟩
    ·rw[eY] at q
     have q':y=aZ c:=by simpa using q
     have hp:push (y::r) c=r:=by unfold push;dsimp only;rw[if_pos q']
     rw[hp] at hn
     refine⟨_,rfl,.inl ⟨rfl,_,SqL.of (s2 _ _ e2)⟩,l,_,_,rfl,rfl,s2 _ _ e2,by simp;rfl,⟨_,rfl⟩,(s1.trans s2).upd hl,?_⟩
     rw[aB,hn]
     simp
    ·rw[eY] at q
     have q':¬ y=aZ c:=by simpa using q
     have hp:push (y::r) c=c::y::r:=by unfold push;dsimp only;rw[if_neg q']
     rw[hp] at hn
     refine⟨_,rfl,.inl ⟨rfl,_,SqL.of (s2 _ _ e2)⟩,_,rfl,l,_,_,rfl,rfl,s2 _ _ e2,?_,⟨_,rfl⟩,(s1.trans s2).upd hl,?_⟩
     ·rw[g9,aP,t9]
      rw[l9] at hsz
      have h9:r.length+1≤100000:=by omega
      exact o6 h9 (by decide)
     ·rw[aB,hn,aQA,aQA,cD,cD]
   ·have hk:gK [] (x.take i)=[]:=by
     cases hq:gK [] (x.take i) with
     | nil=>rfl
     | cons y r =>
      exfalso
      apply e
      apply decide_eq_true
      rw[aP,t9,hq]
      simp
    rw[hk] at e1 hn
    refine gJ ⟨_,rfl,.inl ⟨rfl,_,SqL.of e1⟩,_,rfl,l,_,_,rfl,rfl,e1,?_,⟨_,rfl⟩,s1.upd hl,?_⟩
    ·show (0:Nat)<sizeLine;decide
    ·rw[aB,hn]
     rfl
  ·rintro σ H1 ⟨⟨v,rfl⟩,s1,e1⟩
   rw[p9] at e1
   have e2:SqL K H1 l ((lay x).map (fun c=>S [c]) |>.map V.str):=by
    rw[← fC];exact SqL.of e1
   refine⟨rfl,_,rfl,_,l,_,rfl,rfl,e2,fG _ (m7 (nA x) (by omega)),?_⟩
   rw[fY]
   exact k H1 s1
theorem C0{f:Addr}{fd:FuncData}(D:Df K mg "_law_word" Aq ["_law_flow_here","_law_n","_law_most"] f fd)(T:Txt P w K mg D_ Ea D9 Eb)(c_zx:Cl P w K mg base "_law_pick" ["_law_flow_here","_law_many"] 1 spPick)(c_zk:Cl P w K mg base "_law_letters" ["_law_n"] 1 spLetters)(c_zi:Cl P w K mg base "_law_contrary" ["_law_letter"] 1 spCon):Cl P w K mg base "_law_word" ["_law_flow_here","_law_n","_law_most"] 2 spWord:=by
 obtain⟨f_zx,fd_zx,G_zx,m_zx,k_zx,b_zx⟩:=c_zx
 obtain⟨f_zk,fd_zk,G_zk,m_zk,k_zk,b_zk⟩:=c_zk
 obtain⟨f_zi,fd_zi,G_zi,m_zi,k_zi,b_zi⟩:=c_zi
 refine D.cl (D.F.ok sc_zw (fun vs H Q E h=>?_) (fun cdv A outer s H vs Q E hr h=>?_))
 ·obtain⟨fl,sc,n,most,rfl,_⟩:=h
  rfl
 ·obtain⟨fl,sc,n,most,rfl,hf,h1,h4,hm,hm2,k⟩:=h
  refine⟨_,(aD (aQ (i:=3) sc_zw.nd rfl (Or.inr rfl) cH)
   (aD (aQ (i:=4) sc_zw.nd rfl (Or.inl rfl) (aJ G_zk (hr.mono (by decide)) (by rfl) m_zk k_zk b_zk .nil aR (aA (pv 1) aC)))
   (aD (dD p4 rfl (gB (by rfl) T.b_range (aA (aJ G_zx (hr.mono (by decide)) (by rfl) m_zx k_zx b_zx .nil aR (aA (pv 0) (aA (aY cN (pv 2) aI) aC))) aC)) (cB (i:=5) sc_zw.nd rfl (Or.inl rfl)) (aD (kP (i:=6) (sc0:=aF Aq) (N:=["_law_flow_here","_law_n","_law_most","_law_found","_law_letters_here","_law_k","_law_some"]) (ix:=[3]) sc_zw.nd rfl rfl (by decide +kernel) rfl rfl rfl (iC (K:=K) rfl (pv 4)) (fun _ _ _=>jS (pw_or (aT iU (pv 1) cH (bG _)) (pw_or1 (aT mR (pv 0) (aJ G_zi (hr.mono (by decide)) (by rfl) m_zi k_zi b_zi .nil aR (aA (bL kY (pv 1) (oT kQ aI) (fun _ _=>rfl)) aC)) (bG _)))).pt) (fun _ _ _=>(pv 0)))
   (aH (aQ (i:=3) sc_zw.nd rfl (Or.inr rfl) (aY dP (pv 3) (bL (aW (K:=K) rfl) (pv 6) (aJ G_zx (hr.mono (by decide)) (by rfl) m_zx k_zx b_zx .nil aR (aA (pv 0) (aA (bB (cE (K:=K) rfl) (by rfl) T.b_len p6 (aA (pv 6) aC)) aC))) (fun _ _=>rfl)))))))
   (aH (aV (pv 3)))))),?_⟩
  refine⟨_,rfl,n,rfl,h1,h4,fun l H1 hl s1 e1=>?_⟩
  have hlf:l≠fl:=hf.ne hl
  refine⟨_,rfl,_,rfl,_,_,rfl,rfl,fl,sc,most+1,rfl,hf.same s1,by omega,by omega,fun d H2 d0 d1 f2 k2=>⟨d,rfl,by omega,by omega,?_⟩⟩
  refine iV (lo:=0) (n:=d.toNat) (fun i σ H3=>∃ (x:List Nat) (v5 v6:Option V),σ=[some (.ref fl),some (.int n),some (.int most),some (.str (S x)),some (.ref l),v5,v6]∧OfN n x∧bZ x∧x.length=i∧IsFl H3 fl sc∧Kp fl H H3∧H3 l=some (.lst (aO (aL n)))) ?_ ?_ ?_
  ·refine⟨[],none,none,?_,fun c hc=>(nomatch hc),trivial,rfl,f2,(s1.kp).trans k2,k2 _ _ e1 hlf⟩
   rw[← iG];rfl
  ·rintro i _ H3 hi ⟨x,v5,v6,rfl,ho,hp,hxl,f3,k3,e3⟩
   have hxd:(x.length:Int)<most+1:=by omega
   refine⟨_,rfl,l,rfl,⟨_,SqL.of e3⟩,fun Dd hD=>fQ (xs:=aO (aL n)) (fun j H4=>Same H3 H4∧H4 Dd=some (.lst (aO (((aL n).take j).filter (jN x))))) ⟨Same.new hD,aB⟩ (fun j H4 _ p=>SqL.of (p.1 _ _ e3)) ?_ ?_⟩
   ·rintro j y H4 hy ⟨s4,e4⟩
    obtain⟨c,hc,rfl⟩:∃ c,(aL n)[j]?=some c∧y=.str (S [c]):=by
     unfold aO at hy
     rw[f6] at hy
     cases hq:(aL n)[j]? with
     | none=>rw[hq] at hy;cases hy
     | some c=>rw[hq] at hy;exact⟨c,rfl,(j7 hy).symm⟩
    have hcL:bS c:=aE (d7 hc)
    have ht:((aL n).take (j+1)).filter (jN x)=((aL n).take j).filter (jN x)++(if jN x c then [c] else []):=take_succ_filter (jN x) (aL n) j c hc
    have hsz:(((aL n).take j).filter (jN x)).length≤100:=by
     have q1:=y9 (jN x) ((aL n).take j)
     have q2:((aL n).take j).length≤(aL n).length:=by rw[k9];omega
     rw[iX h1 h4] at q2
     omega
    have app:jN x c=true→∀ H5,Same H4 H5→∃ ys,H5 Dd=some (.lst ys)∧ys.length<sizeLine∧Same H3 (upd H5 Dd (.lst (ys++[.str (S [c])])))∧upd H5 Dd (.lst (ys++[.str (S [c])])) Dd=some (.lst (aO (((aL n).take (j+1)).filter (jN x)))):=fun ok H5 s5=>by
     refine⟨_,s5 _ _ e4,?_,(s4.trans s5).upd hD,?_⟩
     ·rw[aP];exact aU (by omega)
     ·rw[aB,ht,ok]
      show some (HO.lst _)=some (HO.lst (aO (_++[c])))
      rw[cD]
    refine⟨_,rfl,rfl,_,rfl,dW (fun e=>?_) (fun e=>?_)⟩
    ·rw[iG,eY] at e
     have e':x=[]:=by simpa using e
     refine pE ⟨_,rfl,app (by rw[e'];rfl) H4 (Same.refl _)⟩
    ·rw[iG,eY] at e
     have e':x≠[]:=by simpa using e
     obtain⟨u,z,rfl⟩:∃ u z,x=u++[z]:=⟨x.dropLast,x.getLast e',(aQO e').symm⟩
     have hz:bS z:=aE (ho z (by simp))
     refine⟨_,rfl,_,rfl,_,rfl,_,_,z,rfl,rfl,by rw[aX];exact aK (by simp at hxd ⊢;omega),by rw[yG];exact iH u z,z,rfl,hz,fun H5 s5=>⟨rfl,_,rfl,?_⟩⟩
     rw[eY]
     have ok:jN (u++[z]) c=!decide ([c]=[aZ z]):=by
      unfold jN
      simp
     rw[← ok]
     refine dW (fun q=>⟨_,rfl,app q H5 s5⟩) (fun q=>⟨s4.trans s5,?_⟩)
     have q':jN (u++[z]) c=false:=by simpa using q
     rw[s5 _ _ e4,ht,q']
     simp
   ·rintro H4 ⟨s4,e4⟩
    rw[aP,p9] at e4
    have hpos:=zC (x:=x) h1 h4
    have hsz:((aL n).filter (jN x)).length≤8:=by
     have q1:=y9 (jN x) (aL n)
     rw[iX h1 h4] at q1
     omega
    have hDf:Dd≠fl:=f3.ne hD
    refine⟨_,rfl,_,rfl,_,rfl,_,rfl,Dd,_,rfl,.inl (SqL.of e4),fl,sc,_,rfl,f3.same s4,?_,?_,fun g H5 g0 g1 f5 k5=>?_⟩
    ·rw[aP];omega
    ·rw[aP];omega
    rw[aP] at g1
    have hg:g.toNat<((aL n).filter (jN x)).length:=by omega
    have hmem:=q8 hg
    have hat:nQ (aO ((aL n).filter (jN x))) g=some (.str (S [((aL n).filter (jN x))[g.toNat]])):=wO g0 (pW (c7 hg))
    generalize ((aL n).filter (jN x))[g.toNat]=c at hat hmem
    obtain⟨hm1,hm2⟩:=t5.mp hmem
    refine⟨Dd,_,g,_,rfl,rfl,SqL.of (k5 _ _ e4 hDf),hat,_,_,rfl,rfl,?_,?_⟩
    ·rw[aX,aX];exact aK (by simp;omega)
    ·rw[lH]
     refine⟨x++[c],_,_,rfl,?_,sW (OfN.all ho) (aE hm1) hp hm2,?_,f5,(k3.trans s4.kp).trans k5,k5 _ _ (s4 _ _ e3) hlf⟩
     ·intro c' hc'
      rcases j8.mp hc' with q | q
      ·exact ho c' q
      ·rw[c9.mp q];exact hm1
     ·rw[g9,hxl];rfl
  ·rintro _ H3 ⟨x,v5,v6,rfl,ho,hp,hxl,f3,k3,e3⟩
   exact⟨_,rfl,k x H3 ho hp (by omega) f3 k3⟩
theorem B7{f:Addr}{fd:FuncData}(D:Df K mg "_law_back" zZ ["_law_word_here"] f fd)(T:Txt P w K mg D_ Ea D9 Eb)(c_zi:Cl P w K mg base "_law_contrary" ["_law_letter"] 1 spCon):Cl P w K mg base "_law_back" ["_law_word_here"] 2 spBack:=by
 obtain⟨f_zi,fd_zi,G_zi,m_zi,k_zi,b_zi⟩:=c_zi
 refine D.cl (D.F.ok Ct (fun vs H Q E h=>?_) (fun cdv A outer s H vs Q E hr h=>?_))
 ·obtain⟨x,rfl,_⟩:=h
  rfl
 ·obtain⟨x,rfl,hx,hlen,k⟩:=h
  refine⟨_,(aH (aV (cV (K:=K) rfl l3 x3 x4 (eN (K:=K) rfl) cH (aA (bT (sc0:=aF zZ) (N:=["_law_word_here"]) (ix:=[]) (by decide +kernel) rfl rfl rfl (rO (by rfl) T.b_reversed (aA (pv 0) aC)) (fun _ _ _=>bR) (fun _ _ _=>(aJ G_zi (hr.mono (by decide)) (by rfl) m_zi k_zi b_zi .nil aR (aA (pv 0) aC)))) aC)))),?_⟩
  refine⟨rfl,_,rfl,S x,rfl,by rw[aX];exact hlen,fun Dd hD=>?_⟩
  refine jZ (w:=x) (fun i H1=>Same H H1∧H1 Dd=some (.lst (aO ((x.reverse.take i).map aZ)))) ⟨Same.new hD,aB⟩ ?_ ?_
  ·rintro i c H1 hc ⟨s1,e1⟩
   have hcL:bS c:=hx c (y2.mp (d7 hc))
   have hi:i<x.length:=by have:=(c5.mp hc).1;simpa using this
   refine⟨_,rfl,c,rfl,hcL,fun H2 s2=>⟨_,s2 _ _ e1,?_,(s1.trans s2).upd hD,?_⟩⟩
   ·rw[aP,c6,k9];exact aU (by omega)
   ·rw[aB,bN hc,i6,← cD];rfl
  ·rintro H1 ⟨s1,e1⟩
   have eb:(x.reverse.take x.length).map aZ=back x:=by
    rw[u8 (by simp)]
    unfold back
    rw[aXN]
   rw[eb] at e1
   have e2:SqL K H1 Dd (((back x).map fun c=>S [c]).map V.str):=by rw[← fC];exact SqL.of e1
   refine⟨_,Dd,_,rfl,rfl,e2,fG _ (by rw[kE];omega),?_⟩
   rw[fY]
   exact k H1 s1
theorem BP{f:Addr}{fd:FuncData}(D:Df K mg "contrary" Bv ["letter"] f fd)(T:Txt P w K mg D_ Ea D9 Eb):Cl P w K mg base "contrary" ["letter"] 1 spCon:=by
 refine D.cl (D.F.ok Cm (fun vs H Q E h=>?_) (fun cdv A outer s H vs Q E hr h=>?_))
 ·obtain⟨c,rfl,_⟩:=h
  rfl
 ·obtain⟨c,rfl,hc,k⟩:=h
  refine⟨_,(aH (aV (bL (vA T.t_CONTRARIES) (jK (v:=.ref D_) (by rfl) T.m_CONTRARIES rfl) (pv 0) (fun _ _=>rfl)))),?_⟩
  exact⟨_,rfl,rfl,_,rfl,.inl ⟨_,pA hc,k H (Same.refl H)⟩⟩
theorem Ce{f:Addr}{fd:FuncData}(D:Df K mg "laid_out" BA ["text"] f fd)(T:Txt P w K mg D_ Ea D9 Eb)(c_zy:Cl P w K mg base "contrary" ["letter"] 1 spCon):Cl P w K mg base "laid_out" ["text"] 2 spLay:=by
 obtain⟨f_zy,fd_zy,G_zy,m_zy,k_zy,b_zy⟩:=c_zy
 refine D.cl (D.F.ok sc_zv (fun vs H Q E h=>?_) (fun cdv A outer s H vs Q E hr h=>?_))
 ·obtain⟨x,rfl,_⟩:=h
  rfl
 ·obtain⟨x,rfl,hx,hlen,k⟩:=h
  refine⟨_,(aD (aQ (i:=1) sc_zv.nd rfl (Or.inl rfl) (fO aC))
   (aD (dD p4 rfl (fD (pv 0)) (cB (i:=2) sc_zv.nd rfl (Or.inl rfl)) (aH (dR (pw_and (aT pO (bB (cE (K:=K) rfl) (by rfl) T.b_len p6 (aA (pv 1) aC)) aI (bG _)) (pw_and1 (aT iU (bL (aW (K:=K) rfl) (pv 1) (oT kQ aI) (fun _ _=>rfl)) (aJ G_zy (hr.mono (by decide)) (by rfl) m_zy k_zy b_zy .nil aR (aA (pv 2) aC)) (bG _)))).pt (aH (gG (cY (K:=K) rfl u4 aQh aQi wR (pv 1)))) (aH (gG (cV (K:=K) rfl u4 aQD aQE dL (pv 1) (aA (pv 2) aC)))))))
   (aH (aV (cV (K:=K) rfl l3 x3 x4 (eN (K:=K) rfl) cH (aA (pv 1) aC)))))),?_⟩
  refine⟨aK (by simp),fun l hl=>?_⟩
  refine⟨_,rfl,S x,rfl,jP (w:=x) (fun i σ H1=>(∃ v,σ=[some (.str (S x)),some (.ref l),v])∧Same H H1∧H1 l=some (.lst (aO (gK [] (x.take i)).reverse))) ⟨⟨none,rfl⟩,Same.new hl,aB⟩ ?_ ?_⟩
  ·rintro i c σ H1 hc ⟨⟨v,rfl⟩,s1,e1⟩
   have hi:i<x.length:=(c5.mp hc).1
   have hcL:bS c:=hx c (d7 hc)
   have hn:gK [] (x.take (i+1))=push (gK [] (x.take i)) c:=by rw[bN hc,oW]
   have hsz:(gK [] (x.take i)).length≤60000:=by
    have:=jO (x.take i) []
    rw[k9] at this
    simp at this
    omega
   refine⟨_,rfl,l,_,rfl,.inl (SqL.of e1),_,_,rfl,rfl,_,rfl,dW (fun e=>?_) (fun e=>?_)⟩
   ·have hne:0<(gK [] (x.take i)).length:=by
     have e':=of_decide_eq_true e
     rw[aP,t9] at e'
     omega
    obtain⟨y,r,hk⟩:∃ y r,gK [] (x.take i)=y::r:=by
     cases hq:gK [] (x.take i) with
     | nil=>rw[hq] at hne;simp at hne
     | cons y r=>exact⟨y,r,rfl⟩
    rw[hk] at e1 hn hsz
    have e2:H1 l=some (.lst (aO r.reverse++[.str (S [y])])):=by rw[e1,aQA,cD]
    refine⟨_,rfl,_,rfl,l,_,_,_,rfl,rfl,SqL.of e2,iH _ _,_,rfl,c,rfl,hcL,fun H2 s2=>⟨rfl,_,rfl,dW (fun q=>?_) (fun q=>?_)⟩⟩
    ·rw[eY] at q
     have q':y=aZ c:=by simpa using q
     have hp:push (y::r) c=r:=by unfold push;dsimp only;rw[if_pos q']
     rw[hp] at hn
     refine⟨_,rfl,.inl ⟨rfl,_,SqL.of (s2 _ _ e2)⟩,l,_,_,rfl,rfl,s2 _ _ e2,by simp;rfl,⟨_,rfl⟩,(s1.trans s2).upd hl,?_⟩
     rw[aB,hn]
     simp
    ·rw[eY] at q
     have q':¬ y=aZ c:=by simpa using q
     have hp:push (y::r) c=c::y::r:=by unfold push;dsimp only;rw[if_neg q']
     rw[hp] at hn
     refine⟨_,rfl,.inl ⟨rfl,_,SqL.of (s2 _ _ e2)⟩,_,rfl,l,_,_,rfl,rfl,s2 _ _ e2,?_,⟨_,rfl⟩,(s1.trans s2).upd hl,?_⟩
     ·rw[g9,aP,t9]
      rw[l9] at hsz
      have h9:r.length+1≤100000:=by omega
      exact o6 h9 (by decide)
     ·rw[aB,hn,aQA,aQA,cD,cD]
   ·have hk:gK [] (x.take i)=[]:=by
     cases hq:gK [] (x.take i) with
     | nil=>rfl
     | cons y r =>
      exfalso
      apply e
      apply decide_eq_true
      rw[aP,t9,hq]
      simp
    rw[hk] at e1 hn
    refine gJ ⟨_,rfl,.inl ⟨rfl,_,SqL.of e1⟩,_,rfl,l,_,_,rfl,rfl,e1,?_,⟨_,rfl⟩,s1.upd hl,?_⟩
    ·show (0:Nat)<sizeLine;decide
    ·rw[aB,hn]
     rfl
  ·rintro σ H1 ⟨⟨v,rfl⟩,s1,e1⟩
   rw[p9] at e1
   have e2:SqL K H1 l ((lay x).map (fun c=>S [c]) |>.map V.str):=by
    rw[← fC];exact SqL.of e1
   refine⟨rfl,_,rfl,_,l,_,rfl,rfl,e2,fG _ (m7 (nA x) (by omega)),?_⟩
   rw[fY]
   exact k H1 s1
theorem CC{f:Addr}{fd:FuncData}(D:Df K mg "turned_back" zA ["word"] f fd)(T:Txt P w K mg D_ Ea D9 Eb)(c_zy:Cl P w K mg base "contrary" ["letter"] 1 spCon):Cl P w K mg base "turned_back" ["word"] 2 spBack:=by
 obtain⟨f_zy,fd_zy,G_zy,m_zy,k_zy,b_zy⟩:=c_zy
 refine D.cl (D.F.ok BH (fun vs H Q E h=>?_) (fun cdv A outer s H vs Q E hr h=>?_))
 ·obtain⟨x,rfl,_⟩:=h
  rfl
 ·obtain⟨x,rfl,hx,hlen,k⟩:=h
  refine⟨_,(aH (aV (cV (K:=K) rfl l3 x3 x4 (eN (K:=K) rfl) cH (aA (bT (sc0:=aF zA) (N:=["word"]) (ix:=[]) (by decide +kernel) rfl rfl rfl (rO (by rfl) T.b_reversed (aA (pv 0) aC)) (fun _ _ _=>bR) (fun _ _ _=>(aJ G_zy (hr.mono (by decide)) (by rfl) m_zy k_zy b_zy .nil aR (aA (pv 0) aC)))) aC)))),?_⟩
  refine⟨rfl,_,rfl,S x,rfl,by rw[aX];exact hlen,fun Dd hD=>?_⟩
  refine jZ (w:=x) (fun i H1=>Same H H1∧H1 Dd=some (.lst (aO ((x.reverse.take i).map aZ)))) ⟨Same.new hD,aB⟩ ?_ ?_
  ·rintro i c H1 hc ⟨s1,e1⟩
   have hcL:bS c:=hx c (y2.mp (d7 hc))
   have hi:i<x.length:=by have:=(c5.mp hc).1;simpa using this
   refine⟨_,rfl,c,rfl,hcL,fun H2 s2=>⟨_,s2 _ _ e1,?_,(s1.trans s2).upd hD,?_⟩⟩
   ·rw[aP,c6,k9];exact aU (by omega)
   ·rw[aB,bN hc,i6,← cD];rfl
  ·rintro H1 ⟨s1,e1⟩
   have eb:(x.reverse.take x.length).map aZ=back x:=by
    rw[u8 (by simp)]
    unfold back
    rw[aXN]
   rw[eb] at e1
   have e2:SqL K H1 Dd (((back x).map fun c=>S [c]).map V.str):=by rw[← fC];exact SqL.of e1
   refine⟨_,Dd,_,rfl,rfl,e2,fG _ (by rw[kE];omega),?_⟩
   rw[fY]
   exact k H1 s1
theorem C1{f:Addr}{fd:FuncData}(D:Df K mg "_law_key" zE ["_law_word_here"] f fd)(T:Txt P w K mg D_ Ea D9 Eb):Cl P w K mg base "_law_key" ["_law_word_here"] 1 spKey:=by
 refine D.cl (D.F.ok Co (fun vs H Q E h=>?_) (fun cdv A outer s H vs Q E hr h=>?_))
 ·obtain⟨x,rfl,_⟩:=h
  rfl
 ·obtain⟨x,rfl,hx,hlen,k⟩:=h
  refine⟨_,(aH (aV (eZ (aA (bB cF (by rfl) T.b_len p6 (aA (pv 0) aC)) (aA (bT (sc0:=aF zE) (N:=["_law_word_here"]) (ix:=[]) (by decide +kernel) rfl rfl rfl (fD (pv 0)) (fun _ _ _=>bR) (fun _ _ _=>(cV (K:=K) rfl l3 aXV aXW (pQ rfl) cH (aA (pv 0) aC)))) aC))))),?_⟩
  refine⟨_,rfl,_,rfl,by rw[aX];exact aK (by omega),_,rfl,S x,rfl,fun Dd hD=>dU (w:=x) (fun i H1=>Same H H1∧H1 Dd=some (.lst ((gM (x.take i)).map V.int))) ⟨Same.new hD,aB⟩ ?_ ?_⟩
  ·rintro i c H1 hc ⟨s1,e1⟩
   have hi:i<x.length:=(c5.mp hc).1
   have hcL:=hx c (d7 hc)
   refine⟨rfl,_,rfl,_,_,rfl,rfl,(AF hcL).1,?_⟩
   rw[(AF hcL).2]
   refine⟨_,e1,?_,s1.upd hD,?_⟩
   ·rw[c6,cL,k9];exact aU (by omega)
   ·rw[aB,bN hc];unfold gM;rw[i6,i6];rfl
  ·rintro H1 ⟨s1,e1⟩
   rw[p9] at e1
   refine⟨aK (by simp),fun p hp=>?_⟩
   rw[aX]
   exact k p Dd _ (s1.free hp) hD (s1.upd' hp) aB (by rw[aG (aN e1 hp)];exact e1)
theorem B1{f:Addr}{fd:FuncData}(D:Df K mg "_law_ring" zJ ["_law_word_here"] f fd)(T:Txt P w K mg D_ Ea D9 Eb)(c_zi:Cl P w K mg base "_law_contrary" ["_law_letter"] 1 spCon)(c_z1:Cl P w K mg base "_law_key" ["_law_word_here"] 1 spKey):Cl P w K mg base "_law_ring" ["_law_word_here"] 3 spRingL:=by
 obtain⟨f_zi,fd_zi,G_zi,m_zi,k_zi,b_zi⟩:=c_zi
 obtain⟨f_z1,fd_z1,G_z1,m_z1,k_z1,b_z1⟩:=c_z1
 refine D.cl (D.F.ok sc_zu (fun vs H Q E h=>?_) (fun cdv A outer s H vs Q E hr h=>?_))
 ·obtain⟨x,rfl,_⟩:=h
  rfl
 ·obtain⟨x,rfl,hx,hlen,k⟩:=h
  refine⟨_,(iD (lD p4 (pw_and (aT pO (bB cF (by rfl) T.b_len p6 (aA (pv 0) aC)) aI (bG _)) (pw_and1 (aT iU (bL kY (pv 0) (oT kQ aI) (fun _ _=>rfl)) (aJ G_zi (hr.mono (by decide)) (by rfl) m_zi k_zi b_zi .nil aR (aA (bL kY (pv 0) aI (fun _ _=>rfl)) aC)) (bG _)))).pt (aH (aQ (i:=0) sc_zu.nd rfl (Or.inr rfl) (cJ eJ (pv 0) (cA aI) (cA (oT kQ aI))))))
   (aH (aV (oX (K:=K) rfl G_z1 (hr.mono (by decide)) b_z1 (jE hr) rfl (by rfl) T.b_min (by rfl) m_z1 (aA (bT (sc0:=aF zJ) (N:=["_law_word_here"]) (ix:=[0]) (by decide +kernel) rfl rfl rfl (gB (by rfl) T.b_range (aA (bB (uN rfl) (by rfl) T.b_max boot_max (aA aI (aA (bB cF (by rfl) T.b_len p6 (aA (pv 0) aC)) aC))) aC)) (fun _ _ _=>bR) (fun _ _ _=>(aY dP (cJ eJ (pv 1) (cA (pv 0)) dJ) (cJ eJ (pv 1) dJ (cA (pv 0)))))) aC))))),?_⟩
  have isx:∀ i:Nat,i<x.length→bS (x.getD i 0):=fun i hi=>iE hx hi
  refine⟨fun σ H1=>∃ t:Nat,σ=[some (.str (S (iZ x t)))]∧Same H H1∧Ends x t,?_,?_⟩
  ·refine⟨fun m σ H1=>∃ t:Nat,m=x.length - t∧σ=[some (.str (S (iZ x t)))]∧Same H H1∧2 * t≤x.length∧∀ j,j<t→2 * j+1<x.length∧x.getD j 0=aZ (x.getD (x.length - 1 - j) 0),⟨_,0,rfl,by rw[cK];rfl,Same.refl H,by omega,fun j hj=>absurd hj (o9 _)⟩,?_⟩
   rintro m _ H1 ⟨t,rfl,rfl,s1,ht,hall⟩
   have ml:=iJ ht
   refine⟨_,rfl,_,rfl,by rw[aX];exact aK (by omega),_,_,rfl,rfl,_,rfl,dW (fun q=>?_) (fun q=>gJ ⟨t,rfl,s1,hall,fun c=>q (decide_eq_true ?_)⟩)⟩
   ·have q':=of_decide_eq_true q
    rw[aX] at q'
    have hz:bS (x.getD t 0):=isx _ (by omega)
    refine⟨_,rfl,_,rfl,_,_,x.getD (x.length - 1 - t) 0,rfl,rfl,by rw[aX];exact aK (by omega),?_,_,rfl,_,_,x.getD t 0,rfl,rfl,by rw[aX];exact aK (by omega),by rw[yG];exact wO (by decide) (by have:=nG (x:=x) (t:=t) (i:=0) (by omega);simpa using this),_,rfl,hz,fun H2 s2=>⟨rfl,_,rfl,?_⟩⟩
    ·rw[yG]
     refine yX ?_
     rw[nG (by omega)]
     congr 2
     omega
    rw[eY]
    refine dW (fun z=>?_) (fun z=>⟨t,rfl,s1.trans s2,hall,fun c=>z (decide_eq_true ?_)⟩)
    ·have z':x.getD (x.length - 1 - t) 0=aZ (x.getD t 0):=by simpa using z
     have z2:x.getD t 0=aZ (x.getD (x.length - 1 - t) 0):=by rw[z',bA hz]
     refine⟨fun σ' H'=>σ'=[some (.str (S (iZ x (t+1))))]∧Same H H',fun σ' H' ⟨a1,a2⟩=>⟨x.length - (t+1),by omega,t+1,rfl,a1,a2,by omega,fun j hj=>?_⟩,?_⟩
     ·by_cases c:j=t
      ·subst c;exact⟨by omega,z2⟩
      ·exact hall j (by omega)
     refine⟨_,rfl,_,rfl,_,rfl,_,rfl,_,rfl,by rw[aX];exact aK (by omega),?_,s1.trans s2⟩
     show [some (V.str (Txt.slice (S (iZ x t)) (some 1) (some (-1))))]=_
     rw[yH _ (by omega),ml,xF (by omega)]
    ·rw[c.2,bA (isx _ (by omega))]
   ·show (1:Int)<((S (iZ x t)).length:Int)
    rw[aX]
    omega
  rintro _ H1 ⟨t,rfl,s1,he⟩
  have ml:=iJ he.le
  have hy:=iP (m:=t) hx
  generalize hyy:iZ x t=y at ml hy
  obtain⟨N,hN0,hN1,hN2,hN3⟩:∃ N:Nat,(if ((S y).length:Int) > 1 then ((S y).length:Int) else 1)=(N:Int)∧1≤N∧N≤900∧(N=y.length∨(y=[]∧N=1)):=by
   rw[aX]
   by_cases c:(y.length:Int) > 1
   ·exact⟨y.length,by rw[if_pos c],by omega,by omega,.inl rfl⟩
   ·refine⟨1,by rw[if_neg c];rfl,by omega,by omega,?_⟩
    by_cases c2:y=[]
    ·exact .inr ⟨c2,rfl⟩
    ·have:=aQu.mpr c2
     exact .inl (by omega)
  refine⟨_,rfl,_,rfl,by rw[aX];exact aK (by omega),_,_,rfl,N,by show [V.int (if ((S y).length:Int) > 1 then ((S y).length:Int) else 1)]=_;rw[hN0],by omega,by omega,fun Dd hD=>?_⟩
  refine qN (lo:=0) (n:=(N:Int).toNat) (fun i H2=>Same H1 H2∧H2 Dd=some (.lst ((List.range i).map fun j=>V.str (S (bX y j))))) ⟨Same.new hD,aB⟩ ?_ ?_
  ·rintro i H2 hi ⟨s2,e2⟩
   have hi':i≤y.length:=by
    rcases hN3 with h | ⟨h,h'⟩
    ·omega
    ·omega
   refine⟨_,rfl,_,rfl,_,rfl,_,rfl,by rw[aX];exact aK (by omega),_,rfl,_,rfl,_,rfl,_,rfl,by rw[aX];exact aK (by omega),_,_,rfl,rfl,?_,?_⟩
   ·rw[fI _ (by omega) (by omega),dA _ (by omega) (by omega),aX,aX,u5,k9];exact aK (by omega)
   rw[fI _ (by omega) (by omega),dA _ (by omega) (by omega),lH,show ((0:Int)+(i:Nat)).toNat=i by omega]
   refine⟨_,e2,by rw[c6,aQ4];exact aU (by omega),s2.upd hD,?_⟩
   rw[aB,List.range_succ,i6]
   rfl
  rintro H2 ⟨s2,e2⟩
  rw[u9] at e2
  have len:∀ j,j<N→(bX y j).length=y.length:=fun j hj=>bK (by rcases hN3 with h | ⟨h,h'⟩ <;> omega)
  have xget:∀ i z,((List.range N).map fun j=>V.str (S (bX y j)))[i]?=some z→i<N∧z=.str (S (bX y i)):=fun i z hz=>by
   rw[f6] at hz
   by_cases c:i<N
   ·rw[aX5 c] at hz
    exact⟨c,(j7 hz).symm⟩
   ·rw[x2 (by simp;omega)] at hz;cases hz
  refine⟨Dd,(List.range N).map fun j=>V.str (S (bX y j)),fun i b kb H3=>Same H1 H3∧1≤i∧H3 Dd=some (.lst ((List.range N).map fun j=>V.str (S (bX y j))))∧∃ (j:Nat) (p a:Addr),j<N∧b=.str (S (bX y j))∧kb=.ref p∧H3 p=some (.tup [.int (y.length:Nat),.ref a])∧H3 a=some (.lst ((gM (bX y j)).map V.int))∧∀ j',j' < i→¬ MaR.Lt (gr y) y.length j' j,rfl,SqL.of e2,fun i b kb H3 h=>SqL.of h.2.2.1,⟨.str (S (bX y 0)),?_,bX y 0,rfl,oD hy,by rw[len 0 (by omega)];omega,fun p a H3 hp ha s3 ep ea=>⟨s2.trans s3,c8 _,s3 _ _ e2,0,p,a,by omega,rfl,rfl,by rw[← len 0 (by omega)];exact ep,ea,fun j' hj'=>?_⟩⟩,?_,?_⟩
  ·rw[f6,aX5 (by omega)];rfl
  ·have:j'=0:=by omega
   subst this
   exact MaR.Lt.irrefl _
  ·rintro i b kb H3 ⟨s3,hi1,e3,j,p,a,hj,rfl,rfl,ep,ea,hall⟩ z hz
   obtain⟨hi,rfl⟩:=xget i z hz
   have hNy:N=y.length:=by
    rcases hN3 with h | ⟨h,h'⟩
    ·exact h
    ·omega
   refine⟨bX y i,rfl,oD hy,by rw[len i hi];omega,fun p' a' H4 hp' ha' s4 ep' ea'=>?_⟩
   rw[len i hi] at ep'
   refine⟨p',p,a',a,_,_,_,rfl,rfl,ep',s4 _ _ ep,ea',s4 _ _ ea,by rw[cL,cL,len i hi,len j hj],(aN ea ha').symm,_,rfl,?_⟩
   cases ht:HT.lexLt (gM (bX y i)) (gM (bX y j)) with
   | true =>
    have z':=(qW (by omega) (by omega)).mp ht
    refine⟨s3.trans s4,by omega,s4 _ _ e3,i,p',a',hi,rfl,rfl,ep',ea',fun j' hj'=>?_⟩
    by_cases c0:j'=i
    ·subst c0;exact MaR.Lt.irrefl _
    ·exact fun z2=>hall j' (by omega) (z2.trans z')
   | false =>
    refine⟨s3.trans s4,by omega,s4 _ _ e3,j,p,a,hj,rfl,rfl,s4 _ _ ep,s4 _ _ ea,fun j' hj'=>?_⟩
    by_cases c0:j'=i
    ·subst c0
     intro z2
     rw[(qW (by omega) (by omega)).mpr z2] at ht
     cases ht
    ·exact hall j' (by omega)
  ·rintro b kb H3 ⟨s3,hi1,e3,j,p,a,hj,rfl,rfl,ep,ea,hall⟩
   refine k _ H3 ⟨t,j,he,?_,by rw[hyy]⟩ (s1.trans s3)
   rw[hyy]
   rcases hN3 with h | ⟨h,h'⟩
   ·refine .inr ⟨by omega,fun j' hj'=>hall j' ?_⟩
    rw[c6,aQ4];omega
   ·exact .inl ⟨h,by omega⟩
theorem B6{f:Addr}{fd:FuncData}(D:Df K mg "_law_retold" Bz ["_law_retelling","_law_word_here"] f fd)(T:Txt P w K mg D_ Ea D9 Eb)(c_zs:Cl P w K mg base "_law_back" ["_law_word_here"] 2 spBack)(c_zr:Cl P w K mg base "_law_laid" ["_law_text"] 2 spLay):Cl P w K mg base "_law_retold" ["_law_retelling","_law_word_here"] 3 (spRetold K):=by
 obtain⟨f_zs,fd_zs,G_zs,m_zs,k_zs,b_zs⟩:=c_zs
 obtain⟨f_zr,fd_zr,G_zr,m_zr,k_zr,b_zr⟩:=c_zr
 refine D.cl (D.F.ok sc_zo (fun vs H Q E h=>?_) (fun cdv A outer s H vs Q E hr h=>?_))
 ·obtain⟨a,rs,n,M,x,rfl,_⟩:=h
  rfl
 ·obtain⟨a,rs,n,M,x,rfl,hq,hr0,h1,h4,hM,hox,hxl,hxm,k⟩:=h
  refine⟨_,(aD (aQ (i:=2) sc_zo.nd rfl (Or.inl rfl) cH)
   (aD (dD p4 rfl (fD (pv 1)) (cB (i:=3) sc_zo.nd rfl (Or.inl rfl)) (aD (aQ (i:=4) sc_zo.nd rfl (Or.inl rfl) (bL (nU (K:=K) rfl) (pv 0) (cV (K:=K) rfl l3 aXV aXW (pQ rfl) cH (aA (cY (K:=K) rfl l3 aQc aQd kH (pv 3)) aC)) (fun _ _=>rfl)))
   (iD (dR (qV (cY (K:=K) rfl l3 PySem.F.slot_str_isupper PySem.F.type_str_isupper rP (pv 3))) (aH (aQ (i:=4) sc_zo.nd rfl (Or.inl rfl) (aJ G_zs (hr.mono (by decide)) (by rfl) m_zs k_zs b_zs .nil aR (aA (pv 4) aC)))) cS)
   (aH (aQ (i:=2) sc_zo.nd rfl (Or.inl rfl) (aY dP (pv 2) (pv 4)))))))
   (aH (aV (aJ G_zr (hr.mono (by decide)) (by rfl) m_zr k_zr b_zr .nil aR (aA (pv 2) aC)))))),?_⟩
  refine⟨_,rfl,S x,rfl,jP (w:=x) (fun i σ H1=>∃ v3 v4:Option V,σ=[some (.ref a),some (.str (S x)),some (.str (S (told rs (x.take i)))),v3,v4]∧Same H H1) ⟨none,none,by rw[iG];rfl,Same.refl H⟩ ?_ ?_⟩
  ·rintro i c σ H1 hc ⟨v3,v4,rfl,s1⟩
   have hi:i<x.length:=(c5.mp hc).1
   have hcn:=hox c (d7 hc)
   have hcL:bS c:=aE hcn
   have hc1:AllL [c]:=fun d hd=>by rw[c9.mp hd];exact hcL
   have tl:=iR hr0 (x.take i)
   have tm:(x.take i).length * M≤x.length * M:=Nat.mul_le_mul_right _ (by rw[k9];omega)
   have htk:told rs (x.take (i+1))=told rs (x.take i)++tell rs c:=by rw[bN hc,vO,gD,xV,w5]
   have hll:=pT hr0 c
   obtain⟨r,hr9⟩:∃ r,rs[lo c - 97]?=some r:=⟨_,c7 (CB hcn hr0.len h1 h4)⟩
   have hra:=hr0.all r (d7 hr9)
   have hrl:=hr0.le r (d7 hr9)
   refine⟨_,rfl,rfl,_,rfl,rfl,S [c],rfl,rfl,mI [c] hc1 (by simp),_,_,rfl,rfl,?_,a,dS rs,_,.str (S r),rfl,rfl,L2.SqT.same s1 hq,?_,?_⟩
   ·rw[gE hc1];exact(sQ hcL).1
   ·rw[gE hc1]
    show nQ (dS rs) (Txt.find (Str.ofString "abcd") (S [lo c]))=some (.str (S r))
    rw[(sQ hcL).2]
    exact fX (A_ hr9)
   refine⟨fun σ H2=>σ=[some (.ref a),some (.str (S x)),some (.str (S (told rs (x.take i)))),some (.str (S [c])),some (.str (S (tell rs c)))]∧Same H H2,?_,?_⟩
   ·refine⟨_,rfl,rfl,_,rfl,rfl,_,rfl,?_⟩
    rw[tY hcL]
    have ht:tell rs c=if bJ c=true then r else back r:=by
     unfold tell lo at *
     unfold bJ
     by_cases q:96<c
     ·rw[if_pos q] at hr9
      rw[if_pos (decide_eq_true q),if_pos (decide_eq_true q),d5,hr9];rfl
     ·rw[if_neg q] at hr9
      rw[if_neg (by simpa using q),if_neg (by simpa using q),d5,show c - 65=c+32 - 97 by omega,hr9];rfl
    cases hlow:bJ c with
    | true =>
     rw[hlow,if_pos rfl] at ht
     rw[ht]
     exact gJ ⟨rfl,s1⟩
    | false =>
     rw[hlow,if_neg (by decide)] at ht
     rw[ht]
     exact pE ⟨_,rfl,r,rfl,hra,by omega,fun H2 s2=>⟨rfl,s1.trans s2⟩⟩
   rintro _ H2 ⟨rfl,s2⟩
   refine⟨_,rfl,_,rfl,_,_,rfl,rfl,by rw[aX,aX];exact aK (by omega),some (.str (S [c])),some (.str (S (tell rs c))),?_,s2⟩
   rw[htk,lH]
   rfl
  ·rintro _ H1 ⟨v3,v4,rfl,s1⟩
   rw[p9]
   have tl:=iR hr0 x
   exact⟨_,rfl,told rs x,rfl,kT hr0 x,by omega,fun H2 s2=>k H2 (s1.trans s2)⟩
theorem C3{f:Addr}{fd:FuncData}(D:Df K mg "rank_of" AY ["letter"] f fd)(T:Txt P w K mg D_ Ea D9 Eb):Cl P w K mg base "rank_of" ["letter"] 1 spRank:=by
 refine D.cl (D.F.ok BV (fun vs H Q E h=>?_) (fun cdv A outer s H vs Q E hr h=>?_))
 ·obtain⟨c,rfl,_⟩:=h
  rfl
 ·obtain⟨c,rfl,hc,k⟩:=h
  refine⟨_,(aH (aV (bL (vA T.t_RANKS) (jK (v:=.ref Eb) (by rfl) T.m_RANKS rfl) (pv 0) (fun _ _=>rfl)))),?_⟩
  exact⟨_,rfl,rfl,_,rfl,.inr ⟨_,nZ hc,k H (Same.refl H)⟩⟩
theorem Cj{f:Addr}{fd:FuncData}(D:Df K mg "ends_off" A7 ["word"] f fd)(T:Txt P w K mg D_ Ea D9 Eb)(c_zy:Cl P w K mg base "contrary" ["letter"] 1 spCon):Cl P w K mg base "ends_off" ["word"] 2 spEnds:=by
 obtain⟨f_zy,fd_zy,G_zy,m_zy,k_zy,b_zy⟩:=c_zy
 refine D.cl (D.F.ok sc_zt (fun vs H Q E h=>?_) (fun cdv A outer s H vs Q E hr h=>?_))
 ·obtain⟨x,rfl,_⟩:=h
  rfl
 ·obtain⟨x,rfl,hx,hlen,k⟩:=h
  refine⟨_,(aD (aQ (i:=1) sc_zt.nd rfl (Or.inl rfl) aI)
   (aD (aQ (i:=2) sc_zt.nd rfl (Or.inl rfl) (aY kM (bB cF (by rfl) T.b_len p6 (aA (pv 0) aC)) aI))
   (aD (lD p4 (pw_and (aT pD (pv 1) (aY kM (pv 2) (pv 1)) (bG _)) (pw_and1 (aT iU (bL kY (pv 0) (pv 1) (fun _ _=>rfl)) (aJ G_zy (hr.mono (by decide)) (by rfl) m_zy k_zy b_zy .nil aR (aA (bL kY (pv 0) (aY kM (pv 2) (pv 1)) (fun _ _=>rfl)) aC)) (bG _)))).pt (aH (lF (i:=1) sc_zt.nd rfl (Or.inl rfl) aI kL)))
   (aH (aV (pv 1)))))),?_⟩
  refine⟨_,rfl,_,rfl,by rw[aX];exact aK (by omega),_,_,rfl,rfl,?_⟩
  have getx:∀ i:Nat,i<x.length→x[i]?=some (x.getD i 0):=fun i hi=>by rw[d5,c7 hi];rfl
  have isx:∀ i:Nat,i<x.length→bS (x.getD i 0):=fun i hi=>hx _ (d7 (getx i hi))
  refine⟨fun t σ H1=>∃ (m:Nat) (i1 i2:Int),i1=m∧i2=(x.length:Int) - 1∧t=x.length - m∧m≤x.length∧σ=[some (.str (S x)),some (.int i1),some (.int i2)]∧Same H H1∧∀ j,j<m→2 * j+1<x.length∧x.getD j 0=aZ (x.getD (x.length - 1 - j) 0),⟨x.length,0,0,_,rfl,by rw[aX],rfl,l5 _,rfl,Same.refl H,fun j hj=>absurd hj (o9 _)⟩,?_⟩
  rintro t _ H1 ⟨m,i1,i2,e1,e2,rfl,hm,rfl,s1,hall⟩
  refine⟨_,rfl,_,rfl,_,rfl,_,_,rfl,rfl,_,_,rfl,rfl,_,rfl,dW (fun q=>?_) (fun q=>gJ ?_)⟩
  ·have q':=of_decide_eq_true q
   have h2:2 * m+1<x.length:=by omega
   have hl2:bS (x.getD (x.length - 1 - m) 0):=isx _ (by omega)
   refine⟨_,rfl,_,rfl,_,_,x.getD m 0,rfl,rfl,by rw[aX];exact aK (by omega),AB (by omega) (by rw[show i1.toNat=m by omega];exact getx m (by omega)),_,rfl,_,rfl,_,rfl,_,_,rfl,rfl,_,_,x.getD (x.length - 1 - m) 0,rfl,rfl,by rw[aX];exact aK (by omega),AB (by omega) (by rw[show (i2 - i1).toNat=x.length - 1 - m by omega];exact getx _ (by omega)),_,rfl,hl2,fun H2 s2=>⟨rfl,_,rfl,?_⟩⟩
   rw[eY]
   refine dW (fun z=>?_) (fun z=>?_)
   ·have z':x.getD m 0=aZ (x.getD (x.length - 1 - m) 0):=by simpa using z
    refine⟨fun σ' H'=>∃ (i1 i2:Int),i1=(m+1:Nat)∧i2=(x.length:Int) - 1∧σ'=[some (.str (S x)),some (.int i1),some (.int i2)]∧Same H H',fun σ' H' ⟨j1,j2,a1,a2,a3,a4⟩=>⟨x.length - (m+1),by omega,m+1,j1,j2,a1,a2,rfl,by omega,a3,a4,fun j hj=>?_⟩,?_⟩
    ·by_cases c:j=m
     ·subst c;exact⟨h2,z'⟩
     ·exact hall j (by omega)
    ·exact⟨_,rfl,_,_,rfl,rfl,_,_,(by show i1+1=((m+1:Nat):Int);omega),e2,rfl,s1.trans s2⟩
   ·have z':¬ x.getD m 0=aZ (x.getD (x.length - 1 - m) 0):=by simpa using z
    refine⟨_,rfl,?_⟩
    rw[e1]
    exact k m H2 ⟨hall,fun c=>z' c.2⟩ (s1.trans s2)
  ·have q':¬ i1<i2 - i1:=fun c=>q (decide_eq_true c)
   refine⟨_,rfl,?_⟩
   rw[e1]
   exact k m H1 ⟨hall,fun c=>q' (by omega)⟩ s1
theorem CA{f:Addr}{fd:FuncData}(D:Df K mg "least_begin" yL ["word"] f fd)(T:Txt P w K mg D_ Ea D9 Eb)(c_z0:Cl P w K mg base "rank_of" ["letter"] 1 spRank):Cl P w K mg base "least_begin" ["word"] 2 spLeast:=by
 obtain⟨f_z0,fd_z0,G_z0,m_z0,k_z0,b_z0⟩:=c_z0
 refine D.cl (D.F.ok sc_zn (fun vs H Q E h=>?_) (fun cdv A outer s H vs Q E hr h=>?_))
 ·obtain⟨x,rfl,_⟩:=h
  rfl
 ·obtain⟨x,rfl,hx,hlen,k⟩:=h
  refine⟨_,(aD (kP (i:=1) (sc0:=aF yL) (N:=["word","ranks","size","one","other","like","left","right"]) (ix:=[]) sc_zn.nd rfl rfl (by decide +kernel) rfl rfl rfl (fD (pv 0)) (fun _ _ _=>bR) (fun _ _ _=>(aJ G_z0 (hr.mono (by decide)) (by rfl) m_z0 k_z0 b_z0 .nil aR (aA (pv 0) aC))))
   (aD (aQ (i:=2) sc_zn.nd rfl (Or.inl rfl) (bB (cE (K:=K) rfl) (by rfl) T.b_len p6 (aA (pv 1) aC)))
   (aD (aQ (i:=3) sc_zn.nd rfl (Or.inl rfl) aI)
   (aD (aQ (i:=4) sc_zn.nd rfl (Or.inl rfl) aI)
   (aD (aQ (i:=5) sc_zn.nd rfl (Or.inl rfl) aI)
   (aD (lD p4 (pw_and (aT pD (pv 3) (pv 2) (bG _)) (pw_and (aT pD (pv 4) (pv 2) (bG _)) (pw_and1 (aT pD (pv 5) (pv 2) (bG _))))).pt (aD (aQ (i:=6) sc_zn.nd rfl (Or.inl rfl) (bL (aW (K:=K) rfl) (pv 1) (aY fA (aY cN (pv 3) (pv 5)) (pv 2)) (fun _ _=>rfl)))
   (aD (aQ (i:=7) sc_zn.nd rfl (Or.inl rfl) (bL (aW (K:=K) rfl) (pv 1) (aY fA (aY cN (pv 4) (pv 5)) (pv 2)) (fun _ _=>rfl)))
   (aD (dR (aT iU (pv 6) (pv 7) (bG _)) (aD (lF (i:=5) sc_zn.nd rfl (Or.inl rfl) aI kL)
   (aH pY)) cS)
   (iD (dR (aT pO (pv 6) (pv 7) (bG _)) (aH (lF (i:=3) sc_zn.nd rfl (Or.inl rfl) (aY cN (pv 5) aI) kL)) (aH (lF (i:=4) sc_zn.nd rfl (Or.inl rfl) (aY cN (pv 5) aI) kL)))
   (iD (dR (aT iU (pv 3) (pv 4) (bG _)) (aH (lF (i:=4) sc_zn.nd rfl (Or.inl rfl) aI kL)) cS)
   (aH (aQ (i:=5) sc_zn.nd rfl (Or.inl rfl) aI))))))))
   (aH (aV (bB (mE rfl) (by rfl) T.b_min boot_min (aA (pv 3) (aA (pv 4) aC))))))))))),?_⟩
  refine⟨_,rfl,S x,rfl,fun Dd hD=>dU (w:=x) (fun i H1=>Same H H1∧H1 Dd=some (.lst ((x.take i).map fun c=>V.int (rk c:Nat)))) ⟨Same.new hD,aB⟩ ?_ ?_⟩
  ·rintro i c H1 hc ⟨s1,e1⟩
   have hi:i<x.length:=(c5.mp hc).1
   refine⟨_,rfl,c,rfl,hx c (d7 hc),fun H2 s2=>⟨_,s2 _ _ e1,?_,(s1.trans s2).upd hD,?_⟩⟩
   ·rw[c6,k9];exact Bl (by omega)
   ·rw[aB,bN hc,i6];rfl
  rintro H1 ⟨s1,e1⟩
  rw[p9] at e1
  refine⟨_,rfl,Dd,_,rfl,.inl (SqL.of e1),?_⟩
  have atx:∀ i:Nat,0<x.length→nQ (x.map fun c=>V.int (rk c:Nat)) (((i % x.length:Nat)):Int)=some (.int (gr x i:Nat)):=fun i hn=>by
   have hi:i % x.length<x.length:=u0 _ hn
   refine fX ?_
   rw[f6,c7 hi]
   unfold gr
   rw[d5,c7 hi]
   rfl
  refine⟨fun t σ H2=>∃ (o1 o2 li:Nat) (i0 i1 i2 i3:Int) (v6 v7:Option V),i0=x.length∧i1=o1∧i2=o2∧i3=li∧t=3 * x.length - (o1+o2+li)∧σ=[some (.str (S x)),some (.ref Dd),some (.int i0),some (.int i1),some (.int i2),some (.int i3),v6,v7]∧MaR.Walk (gr x) x.length o1 o2 li∧(x=[]→o1=0)∧Same H H2∧H2 Dd=some (.lst (x.map fun c=>V.int (rk c:Nat))),
   ⟨_,0,1,0,_,0,1,0,none,none,by rw[c6],rfl,rfl,rfl,rfl,rfl,MaR.walk_start,fun _=>rfl,s1,e1⟩,?_⟩
  rintro t _ H2 ⟨o1,o2,li,i0,i1,i2,i3,v6,v7,a0,a1,a2,a3,rfl,rfl,wk,w0,s2,e2⟩
  have fin:¬ (o1<x.length∧o2<x.length∧li<x.length)→Q (.int (if i2<i1 then i2 else i1)) H2:=fun hend=>by
   have e:(if i2<i1 then i2 else i1)=((min o1 o2:Nat):Int):=by split <;> omega
   rw[e]
   refine k _ H2 ?_ s2
   by_cases hn:x.length=0
   ·have hx0:x=[]:=l8.mp hn
    exact .inl ⟨hx0,by rw[w0 hx0];omega⟩
   ·exact .inr (MaR.walk_end (kC x) (by omega) wk hend)
  refine⟨_,rfl,_,rfl,_,_,rfl,rfl,_,rfl,dW (fun q1=>?_) (fun q1=>gJ ⟨_,rfl,_,rfl,_,_,rfl,fin fun c=>q1 (decide_eq_true (by omega))⟩)⟩
  refine⟨_,rfl,_,rfl,_,_,rfl,rfl,_,rfl,dW (fun q2=>?_) (fun q2=>gJ ⟨_,rfl,_,rfl,_,_,rfl,fin fun c=>q2 (decide_eq_true (by omega))⟩)⟩
  refine⟨_,rfl,_,rfl,_,_,rfl,rfl,_,rfl,dW (fun q3=>?_) (fun q3=>⟨_,rfl,_,rfl,_,_,rfl,fin fun c=>q3 (decide_eq_true (by omega))⟩)⟩
  have p1:=of_decide_eq_true q1
  have p2:=of_decide_eq_true q2
  have p3:=of_decide_eq_true q3
  have hn:0<x.length:=by omega
  refine⟨fun σ' H'=>∃ (o1' o2' li':Nat) (i0 i1 i2 i3:Int) (v6 v7:Option V),i0=x.length∧i1=o1'∧i2=o2'∧i3=li'∧o1+o2+li<o1' + o2' + li'∧σ'=[some (.str (S x)),some (.ref Dd),some (.int i0),some (.int i1),some (.int i2),some (.int i3),v6,v7]∧MaR.Walk (gr x) x.length o1' o2' li'∧Same H H'∧H' Dd=some (.lst (x.map fun c=>V.int (rk c:Nat))),
   fun σ' H' ⟨o1',o2',li',j0,j1,j2,j3,v6,v7,b0,b1,b2,b3,b4,b5,b6,b7,b8⟩=>⟨3 * x.length - (o1' + o2' + li'),by omega,o1',o2',li',j0,j1,j2,j3,v6,v7,b0,b1,b2,b3,rfl,b5,b6,fun z=>absurd (l8.mpr z) (by omega),b7,b8⟩,?_⟩
  have m1:(i1+i3) % i0=(((o1+li) % x.length:Nat):Int):=by rw[a0,a1,a3];norm_cast
  have m2:(i2+i3) % i0=(((o2+li) % x.length:Nat):Int):=by rw[a0,a2,a3];norm_cast
  refine⟨_,rfl,_,rfl,_,rfl,_,_,rfl,rfl,_,rfl,_,_,rfl,rfl,by omega,Dd,_,_,_,rfl,rfl,SqL.of e2,by rw[m1];exact atx (o1+li) hn,?_⟩
  refine⟨_,rfl,_,rfl,_,rfl,_,_,rfl,rfl,_,rfl,_,_,rfl,rfl,by omega,Dd,_,_,_,rfl,rfl,SqL.of e2,by rw[m2];exact atx (o2+li) hn,?_⟩
  refine⟨_,rfl,_,rfl,rfl,_,rfl,dW (fun z=>?_) (fun z=>?_)⟩
  ·have z':gr x (o1+li)=gr x (o2+li):=by
    have:=V.int.inj (of_decide_eq_true z)
    omega
   exact⟨_,rfl,_,_,rfl,rfl,o1,o2,li+1,i0,i1,i2,_,_,_,a0,a1,a2,(by show i3+1=((li+1:Nat):Int);omega),by omega,rfl,MaR.walk_like wk z',s2,e2⟩
  have z':¬ gr x (o1+li)=gr x (o2+li):=fun c=>z (decide_eq_true (by rw[c]))
  refine⟨fun σ' H'=>H'=H2∧∃ (j1 j2:Int) (v6 v7:Option V),σ'=[some (.str (S x)),some (.ref Dd),some (.int i0),some (.int j1),some (.int j2),some (.int i3),v6,v7]∧((j1=(o1+li+1:Nat)∧j2=o2∧gr x (o2+li)<gr x (o1+li))∨(j1=o1∧j2=(o2+li+1:Nat)∧gr x (o1+li)<gr x (o2+li))),?_,?_⟩
  ·refine⟨_,rfl,_,rfl,_,_,rfl,rfl,_,rfl,dW (fun y=>?_) (fun y=>?_)⟩
   ·have y':=of_decide_eq_true y
    exact⟨_,rfl,_,rfl,_,_,rfl,rfl,_,_,rfl,rfl,rfl,_,_,_,_,rfl,.inl ⟨(by show i1+(i3+1)=((o1+li+1:Nat):Int);omega),a2,by omega⟩⟩
   ·have y':¬ ((gr x (o2+li):Nat):Int)<((gr x (o1+li):Nat):Int):=fun c=>y (decide_eq_true c)
    exact⟨_,rfl,_,rfl,_,_,rfl,rfl,_,_,rfl,rfl,rfl,_,_,_,_,rfl,.inr ⟨a1,(by show i2+(i3+1)=((o2+li+1:Nat):Int);omega),by omega⟩⟩
  rintro _ H9 ⟨hH,j1,j2,u6,u7,rfl,hj⟩
  rw[hH]
  refine⟨fun σ' H'=>H'=H2∧∃ (l1 l2:Int) (o1' o2':Nat) (v6 v7:Option V),σ'=[some (.str (S x)),some (.ref Dd),some (.int i0),some (.int l1),some (.int l2),some (.int i3),v6,v7]∧l1=o1'∧l2=o2'∧o1+o2+li<o1' + o2'∧MaR.Walk (gr x) x.length o1' o2' 0,?_,?_⟩
  ·refine⟨_,rfl,_,rfl,rfl,_,rfl,?_⟩
   rcases hj with ⟨c1,c2,c3⟩ | ⟨c1,c2,c3⟩
   ·have wn:=MaR.walk_one (kC x) hn wk (by omega) c3
    refine dW (fun y=>?_) (fun y=>?_)
    ·have y':j1=j2:=V.int.inj (of_decide_eq_true y)
     rw[if_pos (by omega)] at wn
     exact⟨_,rfl,_,_,rfl,rfl,rfl,_,_,_,_,_,_,rfl,c1,(by show j2+1=((o2+1:Nat):Int);omega),by omega,wn⟩
    ·have y':¬ j1=j2:=fun c=>y (decide_eq_true (by rw[c]))
     rw[if_neg (by omega)] at wn
     exact⟨rfl,_,_,_,_,_,_,rfl,c1,c2,by omega,wn⟩
   ·have wn:=MaR.walk_other (kC x) hn wk (by omega) c3
    refine dW (fun y=>?_) (fun y=>?_)
    ·have y':j1=j2:=V.int.inj (of_decide_eq_true y)
     rw[if_pos (by omega)] at wn
     exact⟨_,rfl,_,_,rfl,rfl,rfl,_,_,_,_,_,_,rfl,c1,(by show j2+1=((o2+li+1+1:Nat):Int);omega),by omega,wn⟩
    ·have y':¬ j1=j2:=fun c=>y (decide_eq_true (by rw[c]))
     rw[if_neg (by omega)] at wn
     exact⟨rfl,_,_,_,_,_,_,rfl,c1,c2,by omega,wn⟩
  rintro _ H9 ⟨hH,l1,l2,o1',o2',u6,u7,rfl,d1,d2,d3,d4⟩
  rw[hH]
  exact⟨o1',o2',0,i0,l1,l2,0,_,_,a0,d1,d2,rfl,by omega,rfl,d4,s2,e2⟩
theorem B_{f:Addr}{fd:FuncData}(D:Df K mg "ring_of" A5 ["word"] f fd)(T:Txt P w K mg D_ Ea D9 Eb)(c_zt:Cl P w K mg base "ends_off" ["word"] 2 spEnds)(c_zn:Cl P w K mg base "least_begin" ["word"] 2 spLeast):Cl P w K mg base "ring_of" ["word"] 3 spRingOf:=by
 obtain⟨f_zt,fd_zt,G_zt,m_zt,k_zt,b_zt⟩:=c_zt
 obtain⟨f_zn,fd_zn,G_zn,m_zn,k_zn,b_zn⟩:=c_zn
 refine D.cl (D.F.ok sc_z2 (fun vs H Q E h=>?_) (fun cdv A outer s H vs Q E hr h=>?_))
 ·obtain⟨x,rfl,_⟩:=h
  rfl
 ·obtain⟨x,rfl,hx,hlen,k⟩:=h
  refine⟨_,(aD (aQ (i:=1) sc_z2.nd rfl (Or.inl rfl) (aJ G_zt (hr.mono (by decide)) (by rfl) m_zt k_zt b_zt .nil aR (aA (pv 0) aC)))
   (aD (aQ (i:=2) sc_z2.nd rfl (Or.inl rfl) (cJ eJ (pv 0) (cA (pv 1)) (cA (aY kM (bB cF (by rfl) T.b_len p6 (aA (pv 0) aC)) (pv 1)))))
   (aD (aQ (i:=3) sc_z2.nd rfl (Or.inl rfl) (aJ G_zn (hr.mono (by decide)) (by rfl) m_zn k_zn b_zn .nil aR (aA (pv 2) aC)))
   (aH (aV (aY dP (cJ eJ (pv 2) (cA (pv 3)) dJ) (cJ eJ (pv 2) dJ (cA (pv 3))))))))),?_⟩
  refine⟨_,rfl,x,rfl,hx,hlen,fun m H1 hm s1=>?_⟩
  have h2:=hm.le
  have ml:=iJ h2
  have sl:Txt.slice (S x) (some ((m:Nat):Int)) (some (((S x).length:Int) - ((m:Nat):Int)))=S (iZ x m):=by
   rw[aX,pZ x (by omega) (by omega) (by omega)]
   unfold iZ
   congr 2
   omega
  refine⟨_,rfl,_,rfl,_,rfl,_,rfl,_,rfl,by rw[aX];exact aK (by omega),_,rfl,_,_,rfl,rfl,_,rfl,_,rfl,by rw[aX];exact aK (by omega),?_⟩
  dsimp only
  rw[sl]
  refine⟨_,rfl,iZ x m,rfl,iP hx,by omega,fun b H2 hb s2=>?_⟩
  have hbl:=hb.le
  refine⟨_,rfl,_,rfl,_,rfl,_,rfl,by rw[aX];exact aK (by omega),_,rfl,_,rfl,_,rfl,_,rfl,by rw[aX];exact aK (by omega),_,_,rfl,rfl,?_,?_⟩
  ·rw[fI _ (by omega) (by omega),dA _ (by omega) (by omega),aX,aX,u5,k9];exact aK (by omega)
  ·rw[fI _ (by omega) (by omega),dA _ (by omega) (by omega),lH]
   exact k _ H2 ⟨m,b,hm,hb,by unfold bX;rw[show ((b:Nat):Int).toNat=b by omega]⟩ (s1.trans s2)
theorem B0{f:Addr}{fd:FuncData}(D:Df K mg "order_key" Ad ["word"] f fd)(T:Txt P w K mg D_ Ea D9 Eb)(c_z0:Cl P w K mg base "rank_of" ["letter"] 1 spRank):Cl P w K mg base "order_key" ["word"] 2 spKey:=by
 obtain⟨f_z0,fd_z0,G_z0,m_z0,k_z0,b_z0⟩:=c_z0
 refine D.cl (D.F.ok BU (fun vs H Q E h=>?_) (fun cdv A outer s H vs Q E hr h=>?_))
 ·obtain⟨x,rfl,_⟩:=h
  rfl
 ·obtain⟨x,rfl,hx,hlen,k⟩:=h
  refine⟨_,(aH (aV (eZ (aA (bB cF (by rfl) T.b_len p6 (aA (pv 0) aC)) (aA (bT (sc0:=aF Ad) (N:=["word"]) (ix:=[]) (by decide +kernel) rfl rfl rfl (fD (pv 0)) (fun _ _ _=>bR) (fun _ _ _=>(aJ G_z0 (hr.mono (by decide)) (by rfl) m_z0 k_z0 b_z0 .nil aR (aA (pv 0) aC)))) aC))))),?_⟩
  refine⟨_,rfl,_,rfl,by rw[aX];exact aK (by omega),_,rfl,S x,rfl,fun Dd hD=>dU (w:=x) (fun i H1=>Same H H1∧H1 Dd=some (.lst ((gM (x.take i)).map V.int))) ⟨Same.new hD,aB⟩ ?_ ?_⟩
  ·rintro i c H1 hc ⟨s1,e1⟩
   have hi:i<x.length:=(c5.mp hc).1
   have hcL:=hx c (d7 hc)
   refine⟨_,rfl,c,rfl,hcL,fun H2 s2=>⟨_,s2 _ _ e1,?_,(s1.trans s2).upd hD,?_⟩⟩
   ·rw[c6,cL,k9];exact aU (by omega)
   ·rw[aB,bN hc];unfold gM;rw[i6,i6];rfl
  ·rintro H1 ⟨s1,e1⟩
   rw[p9] at e1
   refine⟨aK (by simp),fun p hp=>?_⟩
   rw[aX]
   exact k p Dd _ (s1.free hp) hD (s1.upd' hp) aB (by rw[aG (aN e1 hp)];exact e1)
theorem BT{f:Addr}{fd:FuncData}(D:Df K mg "first_letters" AU ["n"] f fd)(T:Txt P w K mg D_ Ea D9 Eb):Cl P w K mg base "first_letters" ["n"] 1 spFirst:=by
 refine D.cl (D.F.ok CY (fun vs H Q E h=>?_) (fun cdv A outer s H vs Q E hr h=>?_))
 ·obtain⟨n,rfl,_⟩:=h
  rfl
 ·obtain⟨n,rfl,h1,h4,k⟩:=h
  refine⟨_,(aH (aV (uG (xD (K:=K) rfl) (jK (v:=.ref Ea) (by rfl) T.m_LETTERS rfl) dJ (cA (aY jW aI (pv 0))) (cA aI)))),?_⟩
  refine⟨_,rfl,_,_,rfl,rfl,.inl ⟨by decide,by decide⟩,_,rfl,_,rfl,Ea,letV,2 * n,rfl,T.t_LETTERS _,rfl,?_,rfl,?_,fun p hp=>?_⟩
  ·show some (2 * ((n:Nat):Int))=_;congr 1
  ·rw[wN];omega
  ·rw[tL h1 h4]
   exact k p _ hp (Same.new hp) aB
theorem B2{f:Addr}{fd:FuncData}(D:Df K mg "words_by_letter" AI ["retelling"] f fd)(T:Txt P w K mg D_ Ea D9 Eb)(c_zg:Cl P w K mg base "first_letters" ["n"] 1 spFirst)(c_zy:Cl P w K mg base "contrary" ["letter"] 1 spCon)(c_zm:Cl P w K mg base "turned_back" ["word"] 2 spBack):Cl P w K mg base "words_by_letter" ["retelling"] 3 (spTabX K):=by
 obtain⟨f_zg,fd_zg,G_zg,m_zg,k_zg,b_zg⟩:=c_zg
 obtain⟨f_zy,fd_zy,G_zy,m_zy,k_zy,b_zy⟩:=c_zy
 obtain⟨f_zm,fd_zm,G_zm,m_zm,k_zm,b_zm⟩:=c_zm
 refine D.cl (D.F.ok sc_zc (fun vs H Q E h=>?_) (fun cdv A outer s H vs Q E hr h=>?_))
 ·obtain⟨a,rs,n,M,rfl,_⟩:=h
  rfl
 ·obtain⟨a,rs,n,M,rfl,hq,hr0,h1,h4,hM,k⟩:=h
  refine⟨_,(aD (aQ (i:=1) sc_zc.nd rfl (Or.inl rfl) qD)
   (aD (dD p4 rfl (AM (K:=K) rfl (by rfl) T.b_zip (aA (aJ G_zg (hr.mono (by decide)) (by rfl) m_zg k_zg b_zg .nil aR (aA (bB (cE (K:=K) rfl) (by rfl) T.b_len p6 (aA (pv 0) aC)) aC)) (aA (pv 0) aC))) (vF (K:=K) rfl rfl (iI (cB (i:=2) sc_zc.nd rfl (Or.inl rfl)) (iI (cB (i:=3) sc_zc.nd rfl (Or.inl rfl)) sP))) (aD (hV (o6 (r6 (by decide:1≤64) _) hr.units) (pv 1) (pv 2) (pv 3) (by rfl))
   (aH (hV (o6 (r6 (by decide:1≤64) _) hr.units) (pv 1) (aJ G_zy (hr.mono (by decide)) (by rfl) m_zy k_zy b_zy .nil aR (aA (pv 2) aC)) (aJ G_zm (hr.mono (by decide)) (by rfl) m_zm k_zm b_zm .nil aR (aA (pv 3) aC)) (by rfl)))))
   (aH (aV (pv 1))))),?_⟩
  refine fun p hp=>?_
  have hq1:SqT K (upd H p (.dK [])) a (dS rs):=Lw.SqT.new hq hp
  refine⟨_,rfl,a,_,rfl,.inr hq1,n,by rw[eI,hr0.len];rfl,h1,h4,fun t H1 ht s1 et=>⟨_,rfl,t,a,rfl,⟨_,SqT.of et⟩,⟨_,L2.SqT.same s1 hq1⟩,?_⟩⟩
  have ll:(gN n).length=n:=(zU h1 h4).len
  have hpt:p≠t:=aN (aB (H:=H) (a:=p) (o:=HO.dK [])) ht
  refine zW (K:=K) (t:=t) (u:=a) (xs:=dS (gN n)) (ys:=dS rs) (fun i σ H2=>∃ (v2 v3:Option V) (kvs:List (bI×V)),σ=[some (.ref a),some (.ref p),v2,v3]∧Same H H2∧H2 p=some (.dK kvs)∧H2 t=some (.tup (dS (gN n)))∧kvs.length≤2 * i∧xS kvs rs i∧∀ kv∈kvs,∃ c∈aL n,kv=(.inr (S [c]),.str (S (tell rs c)))) ?_ ?_ ?_ ?_
  ·exact⟨none,none,[],rfl,(Same.new hp).trans s1,s1 _ _ aB,et,c8 _,(fun j hj=>absurd hj (o9 _)),fun kv hk=>nomatch hk⟩
  ·rintro i _ H2 _ ⟨v2,v3,kvs,rfl,s2,e2,t2,_⟩
   exact⟨SqT.of t2,L2.SqT.same s2 hq⟩
  ·rintro i x y q _ H2 hx hy hq2 ⟨v2,v3,kvs,rfl,s2,e2,t2,hl,htab,hkv⟩
   obtain⟨rfl,hi⟩:=sM h4 hx
   obtain⟨r,hri,rfl⟩:=jI hy
   have hra:=hr0.all r (d7 hri)
   have hrl:=hr0.le r (d7 hri)
   have hcL:bS (97+i):=by unfold bS;omega
   have e3:upd H2 q (.tup [.str (S [97+i]),.str (S r)]) p=some (.dK kvs):=by rw[aG (aN e2 hq2)];exact e2
   have s3:Same H (upd H2 q (.tup [.str (S [97+i]),.str (S r)])):=s2.upd' hq2
   have t3:upd H2 q (.tup [.str (S [97+i]),.str (S r)]) t=some (.tup (dS (gN n))):=by rw[aG (aN t2 hq2)];exact t2
   refine⟨q,_,rfl,.inr (SqT.of aB),rfl,_,_,rfl,_,_,rfl,rfl,?_⟩
   generalize upd H2 q (.tup [.str (S [97+i]),.str (S r)])=H3 at e3 s3 t3
   refine⟨_,rfl,_,rfl,_,rfl,p,_,rfl,DPut.k (k:=.inr (S [97+i])) e3 (aU (by omega)),?_⟩
   have s4:Same H (upd H3 p (.dK (bV kvs (.inr (S [97+i])) (.str (S r))))):=s3.upd hp
   have t4:upd H3 p (.dK (bV kvs (.inr (S [97+i])) (.str (S r)))) t=some (.tup (dS (gN n))):=by rw[aG hpt.symm];exact t3
   have e4:upd H3 p (.dK (bV kvs (.inr (S [97+i])) (.str (S r)))) p=some (.dK (bV kvs (.inr (S [97+i])) (.str (S r)))):=aB
   generalize upd H3 p (.dK (bV kvs (.inr (S [97+i])) (.str (S r))))=H4 at s4 t4 e4
   have l1:=cC kvs (.inr (S [97+i])) (.str (S r))
   have l2:=cC (bV kvs (.inr (S [97+i])) (.str (S r))) (.inr (S [aZ (97+i)])) (.str (S (back r)))
   refine⟨_,rfl,r,rfl,hra,by omega,fun H5 s5=>⟨_,rfl,_,rfl,97+i,rfl,hcL,fun H6 s6=>⟨p,_,rfl,DPut.k (k:=.inr (S [aZ (97+i)])) (s6 _ _ (s5 _ _ e4)) (aU (by omega)),?_⟩⟩⟩
   refine⟨_,_,_,rfl,((s4.trans s5).trans s6).upd hp,aB,by rw[aG hpt.symm];exact s6 _ _ (s5 _ _ t4),by omega,sK hri (by omega) htab,fun kv hk=>?_⟩
   have g1:tell rs (97+i)=r:=by unfold tell;rw[if_pos (fV h1 h4 hi).2.2.1,aXQ,d5,hri];rfl
   have g2:tell rs (aZ (97+i))=back r:=by rw[sS (by omega)];unfold tell;rw[if_neg (by rw[(fV h1 h4 hi).2.2.2.1];exact k6),aXQ,d5,hri];rfl
   rcases jV hk with hk | rfl
   ·rcases jV hk with hk | rfl
    ·exact hkv kv hk
    ·exact⟨97+i,(fV h1 h4 hi).1,by rw[g1]⟩
   ·exact⟨aZ (97+i),by rw[sS (by omega)];exact(fV h1 h4 hi).2.1,by rw[g2]⟩
  ·rintro _ H2 ⟨v2,v3,kvs,rfl,s2,e2,t2,hl,htab,hkv⟩
   have em:min (dS (gN n)).length (dS rs).length=n:=by rw[eI,eI,ll,hr0.len,aZj]
   rw[em] at htab hl
   exact⟨_,rfl,k p kvs H2 hp s2 e2 (rW hr0.len h1 h4 htab) hkv (by omega)⟩
theorem BQ{f:Addr}{fd:FuncData}(D:Df K mg "retold" yZ ["retelling","word"] f fd)(T:Txt P w K mg D_ Ea D9 Eb)(c_zv:Cl P w K mg base "laid_out" ["text"] 2 spLay)(c_zc:Cl P w K mg base "words_by_letter" ["retelling"] 3 (spTabX K)):Cl P w K mg base "retold" ["retelling","word"] 4 (spRetold K):=by
 obtain⟨f_zv,fd_zv,G_zv,m_zv,k_zv,b_zv⟩:=c_zv
 obtain⟨f_zc,fd_zc,G_zc,m_zc,k_zc,b_zc⟩:=c_zc
 refine D.cl (D.F.ok sc_z3 (fun vs H Q E h=>?_) (fun cdv A outer s H vs Q E hr h=>?_))
 ·obtain⟨a,rs,n,M,x,rfl,_⟩:=h
  rfl
 ·obtain⟨a,rs,n,M,x,rfl,hq,hr0,h1,h4,hM,hox,hxl,hxm,k⟩:=h
  refine⟨_,(aD (aQ (i:=2) sc_z3.nd rfl (Or.inr rfl) (aJ G_zc (hr.mono (by decide)) (by rfl) m_zc k_zc b_zc .nil aR (aA (pv 0) aC)))
   (aH (aV (aJ G_zv (hr.mono (by decide)) (by rfl) m_zv k_zv b_zv .nil aR (aA (cV (K:=K) rfl l3 x3 x4 (eN (K:=K) rfl) cH (aA (bT (sc0:=aF yZ) (N:=["retelling","word","told"]) (ix:=[2]) (by decide +kernel) rfl rfl rfl (fD (pv 1)) (fun _ _ _=>bR) (fun _ _ _=>(oB (o6 (r6 (by decide:1≤64) _) hr.units) (pv 1) (pv 0) (fun _ _=>rfl)))) aC)) aC))))),?_⟩
  refine⟨_,rfl,a,rs,n,M,rfl,hq,hr0,h1,h4,hM,fun p kvs H1 hp s1 e1 htab _ _=>?_⟩
  have tl:=iR hr0 x
  have ta:=kT hr0 x
  refine⟨rfl,_,rfl,S x,rfl,fun Dd hD=>dU (w:=x) (fun i H2=>Same H1 H2∧H2 Dd=some (.lst (dS ((x.take i).map (tell rs))))) ⟨Same.new hD,aB⟩ ?_ ?_⟩
  ·rintro i c H2 hc ⟨s2,e2⟩
   have hi:i<x.length:=(c5.mp hc).1
   have hcn:c∈aL rs.length:=by rw[hr0.len];exact hox c (d7 hc)
   refine⟨_,rfl,_,rfl,p,.str (S (tell rs c)),rfl,?_,_,e2,?_,s2.upd hD,?_⟩
   ·have:=DGet.k (k:=.inr (S [c])) (s2 _ _ e1)
    rw[htab c hcn] at this
    exact this
   ·rw[eI,c6,k9];exact k0 (show _<100000 by omega) (aK (c8 _))
   ·rw[aB,bN hc,i6]
    unfold dS
    rw[i6]
    rfl
  ·rintro H2 ⟨s2,e2⟩
   rw[p9] at e2
   have e3:SqL K H2 Dd (((x.map (tell rs)).map S).map V.str):=by
    have:((x.map (tell rs)).map S).map V.str=dS (x.map (tell rs)):=by unfold dS;rw[m6];rfl
    rw[this];exact SqL.of e2
   have ef:(x.map (tell rs)).flatten=told rs x:=by unfold told;rw[List.flatMap_def]
   refine⟨_,Dd,_,rfl,rfl,e3,?_,told rs x,?_,ta,by omega,fun H3 s3=>k H3 ((s1.trans s2).trans s3)⟩
   ·rw[rY,ef,iG,aX]
    simp
    omega
   ·rw[iG,mT,ef];rfl
theorem CF{f:Addr}{fd:FuncData}(D:Df K mg "ring_retold" AV ["retelling","ring"] f fd)(T:Txt P w K mg D_ Ea D9 Eb)(c_z2:Cl P w K mg base "ring_of" ["word"] 3 spRingOf)(c_z3:Cl P w K mg base "retold" ["retelling","word"] 4 (spRetold K)):Cl P w K mg base "ring_retold" ["retelling","ring"] 5 (spRingRetold K):=by
 obtain⟨f_z2,fd_z2,G_z2,m_z2,k_z2,b_z2⟩:=c_z2
 obtain⟨f_z3,fd_z3,G_z3,m_z3,k_z3,b_z3⟩:=c_z3
 refine D.cl (D.F.ok B3 (fun vs H Q E h=>?_) (fun cdv A outer s H vs Q E hr h=>?_))
 ·obtain⟨a,rs,n,M,x,rfl,_⟩:=h
  rfl
 ·obtain⟨a,rs,n,M,x,rfl,hq,hr0,h1,h4,hM,hox,hxl,hxm,k⟩:=h
  refine⟨_,(aH (aV (aJ G_z2 (hr.mono (by decide)) (by rfl) m_z2 k_z2 b_z2 .nil aR (aA (aJ G_z3 (hr.mono (by decide)) (by rfl) m_z3 k_z3 b_z3 .nil aR (aA (pv 0) (aA (pv 1) aC))) aC)))),?_⟩
  have lr:=pB hr0 x
  exact⟨_,rfl,_,rfl,a,rs,n,M,x,rfl,hq,hr0,h1,h4,hM,hox,by omega,by omega,fun H1 s1=>⟨retl rs x,rfl,vE hr0 x,by omega,fun r H2 hr s2=>k r H2 hr (s1.trans s2)⟩⟩
theorem CS{f:Addr}{fd:FuncData}(D:Df K mg "_law_exchange" Bq ["_law_flow_here","_law_n"] f fd)(T:Txt P w K mg D_ Ea D9 Eb)(c_zx:Cl P w K mg base "_law_pick" ["_law_flow_here","_law_many"] 1 spPick):Cl P w K mg base "_law_exchange" ["_law_flow_here","_law_n"] 2 spExchP:=by
 obtain⟨f_zx,fd_zx,G_zx,m_zx,k_zx,b_zx⟩:=c_zx
 refine D.cl (D.F.ok sc_zj (fun vs H Q E h=>?_) (fun cdv A outer s H vs Q E hr h=>?_))
 ·obtain⟨fl,sc,n,rfl,_⟩:=h
  rfl
 ·obtain⟨fl,sc,n,rfl,hf,h1,h4,k⟩:=h
  refine⟨_,(aD (aQ (i:=2) sc_zj.nd rfl (Or.inl rfl) (bY (fB rfl) (by rfl) T.b_list boot_list (aA (cJ eJ cH dJ (cA (pv 1))) aC)))
   (aD (aQ (i:=3) sc_zj.nd rfl (Or.inl rfl) (fO aC))
   (aD (dD p4 rfl (gB (by rfl) T.b_range (aA (pv 1) aC)) (cB (i:=4) sc_zj.nd rfl (Or.inl rfl)) (aD (aQ (i:=5) sc_zj.nd rfl (Or.inl rfl) (cV (K:=K) rfl u4 aQh aQi vJ (pv 2) (aA (aJ G_zx (hr.mono (by decide)) (by rfl) m_zx k_zx b_zx .nil aR (aA (pv 0) (aA (bB (cE (K:=K) rfl) (by rfl) T.b_len p6 (aA (pv 2) aC)) aC))) aC)))
   (aH (gG (cV (K:=K) rfl u4 aQD aQE dL (pv 3) (aA (bL (aW (K:=K) rfl) (fO (aA (pv 5) (aA (cY (K:=K) rfl l3 aQa aQb jU (pv 5)) aC))) (aJ G_zx (hr.mono (by decide)) (by rfl) m_zx k_zx b_zx .nil aR (aA (pv 0) (aA aI aC))) (fun _ _=>rfl)) aC))))))
   (aH (aV (bY (dY (K:=K) rfl) (by rfl) T.b_tuple boot_tuple (aA (pv 3) aC))))))),?_⟩
  refine⟨_,rfl,_,rfl,_,rfl,by decide +kernel,aS n,?_,?_,fun l hl=>?_⟩
  ·show [V.str (Txt.slice (Str.ofString "abcd") none (some ((n:Nat):Int)))]=_
   rw[rQ,dA _ (by omega) (by simp;omega)]
   rfl
  ·rw[cQ h4];omega
  refine⟨aK (by simp),fun fd hfd=>?_⟩
  have hlf:l≠fl:=hf.ne hl
  have hls:l≠sc:=hf.ne2 hl
  have hff:fd≠fl:=(hf.upd hl).ne hfd
  have hfs:fd≠sc:=(hf.upd hl).ne2 hfd
  have hld:l≠fd:=aN (aB (H:=H) (a:=l) (o:=HO.lst ((aS n).map fun c=>V.str (S [c])))) hfd
  have hfd0:H fd=none:=by rw[aG hld.symm] at hfd;exact hfd
  refine⟨_,rfl,(n:Nat),rfl,by omega,by omega,iV (lo:=0) (n:=((n:Nat):Int).toNat) (fun i σ H1=>∃ (v4 v5:Option V) (ls cs:List Nat),σ=[some (.ref fl),some (.int (n:Nat)),some (.ref l),some (.ref fd),v4,v5]∧IsFl H1 fl sc∧Kp fl H H1∧H1 l=some (.lst (aO ls))∧H1 fd=some (.lst (dS (bQ cs)))∧(∀ d∈ls,d∈aS n)∧ls.length+i=n∧cs.length=i∧(∀ c∈cs,c∈aL (n:Nat))∧(cs.map lo++ls).Perm (aS n)) ?_ ?_ ?_⟩
  ·refine⟨none,none,aS n,[],rfl,(hf.upd hl).upd hfd,((Kp.refl fl H).upd hl).upd hfd0,?_,aB,fun d hd=>hd,by rw[cQ h4];rfl,rfl,(fun x hx=>nomatch hx),aZP _⟩
   rw[aG hld,aB]
   rfl
  ·rintro i _ H1 hi ⟨v4,v5,ls,cs,rfl,f1,k1,el,ef,hls',hll,hsl,hst,hpm⟩
   have hpos:0<ls.length:=by omega
   refine⟨_,rfl,.inl ⟨rfl,_,SqL.of el⟩,_,rfl,_,rfl,l,_,rfl,.inl (SqL.of el),fl,sc,_,rfl,f1,by rw[aP];omega,by rw[aP];omega,fun g H2 g0 g1 f2 k2=>?_⟩
   rw[aP] at g1
   obtain⟨d,hd⟩:∃ d,ls[g.toNat]?=some d:=⟨_,c7 (by omega)⟩
   have hdm:=hls' d (d7 hd)
   have hdL:=hZ hdm
   have hdl:=cM hdm
   have hdn:=cI h1 h4 hdm
   have el2:=k2 _ _ el hlf
   refine⟨l,_,g,g.toNat,.str (S [d]),rfl,rfl,el2,by omega,by omega,?_,pW hd,?_⟩
   ·rw[aP]
    exact aZL g0 (by omega)
   rw[jT]
   have hel:(ls.eraseIdx g.toNat).length=ls.length - 1:=by rw[List.length_eraseIdx,if_pos (by omega)]
   have hes:∀ d∈ls.eraseIdx g.toNat,d∈aS n:=fun d hd=>hls' d (List.mem_of_mem_eraseIdx hd)
   have hpe:=qO hd
   generalize ls.eraseIdx g.toNat=ls2 at hel hes hpe
   have f3:IsFl (upd H2 l (.lst (aO ls2))) fl sc:=f2.set hlf hls
   have hl0:H l=none:=hl
   have k3:Kp fl H (upd H2 l (.lst (aO ls2))):=(k1.trans k2).upd hl0
   have el3:upd H2 l (.lst (aO ls2)) l=some (.lst (aO ls2)):=aB
   have ef3:upd H2 l (.lst (aO ls2)) fd=some (.lst (dS (bQ cs))):=by rw[aG hld.symm];exact k2 _ _ ef hff
   generalize upd H2 l (.lst (aO ls2))=H3 at f3 k3 el3 ef3
   refine⟨_,rfl,.inl ⟨rfl,_,SqL.of ef3⟩,_,rfl,_,rfl,rfl,S [d],rfl,rfl,by rw[fZ hdL hdl];exact mY _,aK (by simp),fun q hq=>?_⟩
   rw[fZ hdL hdl]
   refine⟨_,rfl,fl,sc,2,rfl,f3.upd hq,by decide,by decide,fun e H4 e0 e1 f4 k4=>?_⟩
   obtain⟨x,hx,hxn,hxl⟩:∃ x,nQ [V.str (S [d]),V.str (S [aZ d])] e=some (.str (S [x]))∧x∈aL (n:Nat)∧lo x=d:=by
    have:e=0∨e=1:=by omega
    rcases this with rfl | rfl
    ·exact⟨d,rfl,hdn,gW hdL hdl⟩
    ·exact⟨aZ d,rfl,cP (by omega) (by omega) hdn,wK hdL hdl⟩
   have hqf:q≠fl:=f3.ne hq
   have ef4:=k4 _ _ (show upd H3 q (.lst [.str (S [d]),.str (S [aZ d])]) fd=some (.lst (dS (bQ cs))) by rw[aG (aN ef3 hq)];exact ef3) hff
   have el4:=k4 _ _ (show upd H3 q (.lst [.str (S [d]),.str (S [aZ d])]) l=some (.lst (aO ls2)) by rw[aG (aN el3 hq)];exact el3) hlf
   have eq4:=k4 _ _ (aB (H:=H3) (a:=q) (o:=HO.lst [.str (S [d]),.str (S [aZ d])])) hqf
   refine⟨q,_,_,_,rfl,rfl,SqL.of eq4,hx,fd,_,_,rfl,rfl,ef4,by rw[eI];unfold bQ;rw[c6];exact aU (by omega),_,_,ls2,cs++[x],rfl,f4.set hff hfs,((k3.upd (k3.free hq hqf)).trans k4).upd hfd0,by rw[aG hld];exact el4,?_,hes,by omega,by rw[g9,hsl];rfl,fun y hy=>?_,?_⟩
   ·rw[aB];unfold dS bQ;rw[i6,i6];rfl
   ·rcases j8.mp hy with z | z
    ·exact hst y z
    ·rw[c9.mp z];exact hxn
   ·rw[i6,aQ6]
    show (cs.map lo++(lo x::ls2)).Perm _
    rw[hxl]
    exact(hpe.append_left _).trans hpm
  ·rintro _ H1 ⟨v4,v5,ls,cs,rfl,f1,k1,el,ef,hls',hll,hsl,hst,hpm⟩
   rw[u9] at hsl
   have hls0:ls=[]:=l8.mp (by have:ls.length+((n:Nat):Int).toNat=n:=hll;rw[u9] at this;omega)
   subst hls0
   rw[w5] at hpm
   refine⟨_,rfl,fd,_,rfl,.inl ⟨SqL.of ef,fun p hp=>k p cs _ (k1.free hp (f1.ne hp)) ⟨hsl,hst,hpm⟩ ⟨by unfold bQ;rw[c6];exact hsl,fun x hx=>?_,fun x hx=>?_⟩ (fun x hx=>?_) aB (f1.upd hp) (k1.upd (k1.free hp (f1.ne hp)))⟩⟩
   ·obtain⟨e,he,rfl⟩:=i4.mp hx
    exact sF (aE (hst e he))
   ·obtain⟨e,he,rfl⟩:=i4.mp hx
    exact c8 _
   ·obtain⟨e,he,rfl⟩:=i4.mp hx
    intro z hz
    rw[c9.mp hz];exact hst e he
theorem Cc{f:Addr}{fd:FuncData}(D:Df K mg "orders_round" zI ["ring"] f fd)(T:Txt P w K mg D_ Ea D9 Eb)(c_zy:Cl P w K mg base "contrary" ["letter"] 1 spCon):Cl P w K mg base "orders_round" ["ring"] 2 spOrds:=by
 obtain⟨f_zy,fd_zy,G_zy,m_zy,k_zy,b_zy⟩:=c_zy
 refine D.cl (D.F.ok sc_zh (fun vs H Q E h=>?_) (fun cdv A outer s H vs Q E hr h=>?_))
 ·obtain⟨x,rfl,_⟩:=h
  rfl
 ·obtain⟨x,rfl,hx,hxl,k⟩:=h
  refine⟨_,(aD (aQ (i:=1) sc_zh.nd rfl (Or.inl rfl) (eZ aC))
   (aD (aQ (i:=2) sc_zh.nd rfl (Or.inl rfl) (yQ (pv 1) mL (o6 (r6 (by decide:1≤64) _) hr.units)))
   (aD (dD p4 rfl (rO (by rfl) T.b_reversed (aA (aY dP (pv 0) (pv 0)) aC)) (cB (i:=3) sc_zh.nd rfl (Or.inr rfl)) (aD (aQ (i:=1) sc_zh.nd rfl (Or.inl rfl) (aY nR (eZ (aA (pv 3) aC)) (bY (dY (K:=K) rfl) (by rfl) T.b_tuple boot_tuple (aA (bT (sc0:=aF zI) (N:=["ring","order","orders","letter"]) (ix:=[3]) (by decide +kernel) rfl rfl rfl (hX (K:=K) rfl (pv 1)) (fun _ _ _=>jS (aT (eW (K:=K) rfl) (pv 0) (eZ (aA (pv 1) (aA (aJ G_zy (hr.mono (by decide)) (by rfl) m_zy k_zy b_zy .nil aR (aA (pv 1) aC)) aC))) (by rfl))) (fun _ _ _=>(pv 0))) aC))))
   (aH (hV (o6 (r6 (by decide:1≤64) _) hr.units) (pv 2) (pv 1) mL (by rfl)))))
   (aH (aV (bY (pS rfl) (by rfl) T.b_list boot_list (aA (pv 2) aC))))))),?_⟩
  have hxL:∀ c∈x,bS c:=fun c hc=>aE (hx c hc)
  refine⟨aK (by simp),fun t0 ht0 d hd=>⟨_,rfl,[],t0,rfl,?_,aB,?_⟩⟩
  ·rw[aG (aN (aB (H:=H) (a:=t0) (o:=HO.tup [])) hd)];exact aB
  have hd0:H d=none:=(Same.new ht0).free hd
  have hdt:t0≠d:=aN (aB (H:=H) (a:=t0) (o:=HO.tup [])) hd
  refine⟨_,rfl,_,rfl,_,_,rfl,rfl,by rw[aX];exact aK (by omega),S (x++x),by rw[lH],by rw[aX,g9];omega,?_⟩
  refine zF (w:=x++x) (fun i σ H2=>∃ (t:Addr) (v3:Option V) (kvs:List (List bI×V)),σ=[some (.str (S x)),some (.ref t),some (.ref d),v3]∧Same H H2∧H2 t=some (.tup (aO (cG x i)))∧H2 d=some (.dT kvs)∧kvs.length≤i+1∧(∀ kv∈kvs,∃ j,kv.1=tW (cG x j))∧∀ j,j≤i→∃ v,(tW (cG x j),v)∈kvs) ?_ ?_ ?_
  ·refine⟨t0,none,_,rfl,?_,?_,aB,c8 _,fun kv hk=>⟨0,?_⟩,fun j hj=>?_⟩
   ·exact(((Same.new ht0).upd' hd).upd hd0)
   ·rw[aG hdt,aG hdt,jB];exact aB
   ·rw[c9.mp hk,jB];rfl
   ·obtain rfl:j=0:=by omega
    rw[jB]
    exact⟨_,c9.mpr rfl⟩
  ·rintro i c _ H2 hc ⟨t,v3,kvs,rfl,s2,et,ed,hkl,hk1,hk2⟩
   have hi:i<2 * x.length:=by have:=(c5.mp hc).1;rw[t9,g9] at this;omega
   have hcx:c∈x:=by
    have:=y2.mp (d7 hc)
    rcases j8.mp this with z | z
    ·exact z
    ·exact z
   have hcL:=hxL c hcx
   have o4:=vT 4 (by decide) (by decide) hx i
   refine⟨_,rfl,aK (by simp),fun t1 ht1=>?_⟩
   have s3:Same H2 (upd H2 t1 (.tup [.str (S [c])])):=Same.new ht1
   have e3:upd H2 t1 (.tup [.str (S [c])]) t1=some (.tup (aO [c])):=aB
   generalize upd H2 t1 (.tup [.str (S [c])])=H3 at s3 e3
   refine⟨_,rfl,t,rfl,⟨_,SqT.of (s3 _ _ et)⟩,fun Dd hD=>fF (K:=K) (a:=t) (xs:=aO (cG x i)) (fun j H4=>Same H3 H4∧H4 Dd=some (.lst (aO (((cG x i).take j).filter fun d=>decide (d≠c∧d≠aZ c))))) ⟨Same.new hD,aB⟩ (fun j H4 _ pr=>SqT.of (pr.1 _ _ (s3 _ _ et))) ?_ ?_⟩
   ·rintro j v H4 hv ⟨s4,e4⟩
    obtain⟨o,ho,rfl⟩:∃ o,(cG x i)[j]?=some o∧v=.str (S [o]):=by
     unfold aO at hv
     rw[f6] at hv
     obtain⟨o,h1,h2⟩:=m8.mp hv
     exact⟨o,h1,h2.symm⟩
    have tk:=dX (fun d=>decide (d≠c∧d≠aZ c)) (cG x i) j o ho
    refine⟨_,rfl,_,rfl,_,rfl,c,rfl,hcL,fun H5 s5=>⟨aK (by simp),fun tt htt=>⟨tt,aO [c,aZ c],rfl,.inr (SqT.of aB),rfl,rfl,_,rfl,?_⟩⟩⟩
    rw[if_pos rfl,jR]
    have s6:Same H4 (upd H5 tt (.tup [.str (S [c]),.str (S [aZ c])])):=s5.upd' htt
    by_cases q:o∈[c,aZ c]
    ·rw[decide_eq_true q]
     refine gJ ⟨s4.trans s6,?_⟩
     rw[s6 _ _ e4,tk,if_neg,w5]
     intro z
     have z:=of_decide_eq_true z
     rcases d9.mp q with q | q
     ·exact z.1 q
     ·exact z.2 (c9.mp q)
    ·rw[decide_eq_false q]
     refine pE ⟨_,rfl,_,s6 _ _ e4,?_,(s4.trans s6).upd hD,?_⟩
     ·rw[aP]
      have:=y9 (fun d=>decide (d≠c∧d≠aZ c)) ((cG x i).take j)
      rw[k9] at this
      exact aU (by omega)
     ·rw[aB,tk,if_pos (decide_eq_true ⟨fun e=>q (by rw[e];exact j6),fun e=>q (by rw[e];exact i9 _ (c9.mpr rfl))⟩)]
      unfold aO;rw[i6];rfl
   ·rintro H4 ⟨s4,e4⟩
    rw[aP,p9] at e4
    refine⟨Dd,_,rfl,.inl ⟨SqL.of e4,fun p hp=>?_⟩⟩
    have s5:Same H4 (upd H4 p (.tup (aO ((cG x i).filter fun d=>decide (d≠c∧d≠aZ c))))):=Same.new hp
    have e5:upd H4 p (.tup (aO ((cG x i).filter fun d=>decide (d≠c∧d≠aZ c)))) p=some (.tup (aO ((cG x i).filter fun d=>decide (d≠c∧d≠aZ c)))):=aB
    generalize upd H4 p (.tup (aO ((cG x i).filter fun d=>decide (d≠c∧d≠aZ c))))=H5 at s5 e5
    have f4:=y9 (fun d=>decide (d≠c∧d≠aZ c)) (cG x i)
    refine⟨t1,p,_,_,rfl,rfl,s5 _ _ (s4 _ _ e3),e5,by rw[aP,aP];exact aK (m7 (r6 f4 _) (by show 1+_≤_;omega)),fun q H6 s6 e6=>?_⟩
    have e6:H6 q=some (.tup (aO (cG x (i+1)))):=by
     rw[uU hc]
     exact e6
    have s26:=((s3.trans s4).trans s5).trans s6
    have ed6:=s26 _ _ ed
    refine⟨_,rfl,_,rfl,d,_,rfl,DPut.t (k:=tW (cG x (i+1))) ed6 (by rw[sI];exact e6) (aU (by omega)),q,_,_,rfl,(s2.trans s26).upd hd0,?_,aB,?_,fun kv hk=>?_,fun j hj=>?_⟩
    ·rw[aG (eU e6 ed6 (by intro z;cases z))];exact e6
    ·have:=cC kvs (tW (cG x (i+1))) (.bl true);omega
    ·rcases jV hk with hk | rfl
     ·exact hk1 kv hk
     ·exact⟨i+1,rfl⟩
    ·refine vP ?_
     by_cases hji:j=i+1
     ·exact .inl (by rw[hji])
     ·exact .inr (hk2 j (by omega))
  ·rintro _ H2 ⟨t,v3,kvs,rfl,s2,et,ed,hkl,hk1,hk2⟩
   rw[g9] at hkl hk2
   refine⟨_,rfl,d,kvs,rfl,ed,fun l qs hl hql hq=>?_⟩
   have hget:∀ (j:Nat) (q:Addr),qs[j]?=some q→∃ kv,kvs[j]?=some kv:=fun j q hj=>⟨_,c7 (by have:=(c5.mp hj).1;omega)⟩
   have key:∀ (j:Nat) (q:Addr),qs[j]?=some q→∃ o,(∃ i,o=cG x i)∧H2 q=some (.tup (aO o))∧∀ kv,kvs[j]?=some kv→kv.1=tW o:=fun j q hj=>by
    obtain⟨kv,hkv⟩:=hget j q hj
    obtain⟨i,hi⟩:=hk1 kv (d7 hkv)
    refine⟨cG x i,⟨i,rfl⟩,?_,fun kv' h'=>by rw[hkv] at h';cases h';exact hi⟩
    rw[← sI,← hi]
    exact hq j q kv hj hkv
   obtain⟨ps,hp1,hp2,hp3⟩:∃ ps:List (Addr×List Nat),ps.map (·.1)=qs∧(∀ p∈ps,(∃ i,p.2=cG x i)∧H2 p.1=some (.tup (aO p.2)))∧∀ (j:Nat) (p:Addr×List Nat) (kv:List bI×V),ps[j]?=some p→kvs[j]?=some kv→kv.1=tW p.2:=rT qs (fun j q o=>(∃ i,o=cG x i)∧H2 q=some (.tup (aO o))∧∀ kv,kvs[j]?=some kv→kv.1=tW o) key fun ps hp h=>⟨ps,hp,fun p hpm=>by obtain⟨j,hj⟩:=y0 hpm;exact⟨(h j p hj).1,(h j p hj).2.1⟩,fun j p kv hj hkv=>(h j p hj).2.2 kv hkv⟩
   have hpl:ps.length=kvs.length:=by rw[← hql,← hp1,c6]
   have sl:=Same.new (o:=HO.lst (qs.map V.ref)) hl
   refine k l ps _ (s2.trans sl) ?_ (fun p hp=>sl _ _ (hp2 p hp).2) (fun p hp=>(hp2 p hp).1) (fun i hi=>?_) (by omega)
   ·rw[aB,← hp1,m6];rfl
   ·obtain⟨v,hv⟩:=hk2 i (by omega)
    obtain⟨j,hj⟩:=y0 hv
    have hjl:=(c5.mp hj).1
    refine⟨ps[j]'(by omega),q8 _,sA (hp3 j _ _ (c7 (by omega)) hj).symm⟩
theorem BW{f:Addr}{fd:FuncData}(D:Df K mg "exchange_from" uS ["n","order"] f fd)(T:Txt P w K mg D_ Ea D9 Eb)(c_zg:Cl P w K mg base "first_letters" ["n"] 1 spFirst)(c_zy:Cl P w K mg base "contrary" ["letter"] 1 spCon)(c_zc:Cl P w K mg base "words_by_letter" ["retelling"] 3 (spTabX K)):Cl P w K mg base "exchange_from" ["n","order"] 4 spExF:=by
 obtain⟨f_zg,fd_zg,G_zg,m_zg,k_zg,b_zg⟩:=c_zg
 obtain⟨f_zy,fd_zy,G_zy,m_zy,k_zy,b_zy⟩:=c_zy
 obtain⟨f_zc,fd_zc,G_zc,m_zc,k_zc,b_zc⟩:=c_zc
 refine D.cl (D.F.ok sc_ze (fun vs H Q E h=>?_) (fun cdv A outer s H vs Q E hr h=>?_))
 ·obtain⟨n,a,o,rfl,_⟩:=h
  rfl
 ·obtain⟨n,a,o,rfl,ea,h1,h4,ho,hap,k⟩:=h
  refine⟨_,(aD (aQ (i:=2) sc_ze.nd rfl (Or.inl rfl) (bY (dY (K:=K) rfl) (by rfl) T.b_tuple boot_tuple (aA (bT (sc0:=aF uS) (N:=["n","order","behind","told","letters"]) (ix:=[1]) (by decide +kernel) rfl rfl rfl (hX (K:=K) rfl (aJ G_zg (hr.mono (by decide)) (by rfl) m_zg k_zg b_zg .nil aR (aA (pv 0) aC))) (fun _ _ _=>jS (pw_and (aT (eW (K:=K) rfl) (pv 0) (pv 1) (by rfl)) (pw_and1 (aT (eW (K:=K) rfl) (aJ G_zy (hr.mono (by decide)) (by rfl) m_zy k_zy b_zy .nil aR (aA (pv 0) aC)) (pv 1) (by rfl)))).pt) (fun _ _ _=>(pv 0))) aC)))
   (aD (aQ (i:=3) sc_ze.nd rfl (Or.inl rfl) (aJ G_zc (hr.mono (by decide)) (by rfl) m_zc k_zc b_zc .nil aR (aA (aY nR (pv 1) (pv 2)) aC)))
   (aD (aQ (i:=4) sc_ze.nd rfl (Or.inr rfl) (bY (qX rfl) (by rfl) T.b_dict boot_dict (aA (xT (H0:=H) rfl (uE (sc0:=aF uS) (N:=["n","order","behind","told","letters"]) (ix:=[]) (by decide +kernel) (K:=K) rfl rfl rfl rfl (sZ (pv 3)) (fun _ _ _=>bR) (fun _ _ _=>(eZ (aA (pv 1) (aA (pv 0) aC)))))) aC)))
   (aH (aV (bY (dY (K:=K) rfl) (by rfl) T.b_tuple boot_tuple (aA (bT (sc0:=aF uS) (N:=["n","order","behind","told","letters"]) (ix:=[4]) (by decide +kernel) rfl rfl rfl (hX (K:=K) rfl (aJ G_zg (hr.mono (by decide)) (by rfl) m_zg k_zg b_zg .nil aR (aA (pv 0) aC))) (fun _ _ _=>bR) (fun _ _ _=>(oB (o6 (r6 (by decide:1≤64) _) hr.units) (pv 1) (pv 0) (fun _ _=>rfl)))) aC))))))),?_⟩
  have ll:(aS n).length=n:=cQ h4
  have ex:=eV h1 h4 ho hap
  have ol:o.length≤4:=by have:=ex.len;rw[g9] at this;omega
  refine⟨_,rfl,n,rfl,h1,h4,fun p H1 hp s1 ep=>⟨p,rfl,⟨_,SqT.of ep⟩,fun Dd hD=>?_⟩⟩
  rw[jJ] at ep
  refine fF (K:=K) (a:=p) (xs:=aO (aS n)) (fun j H2=>Same H1 H2∧H2 Dd=some (.lst (aO (((aS n).take j).filter (dG o))))) ⟨Same.new hD,aB⟩ (fun j H2 _ pr=>SqT.of (pr.1 _ _ ep)) ?_ ?_
  ·rintro j v H2 hv ⟨s2,e2⟩
   obtain⟨d,hd,rfl⟩:∃ d,(aS n)[j]?=some d∧v=.str (S [d]):=by
    unfold aO at hv
    rw[f6] at hv
    obtain⟨d,q1,q2⟩:=m8.mp hv
    exact⟨d,q1,q2.symm⟩
   have hdL:=aE (cI h1 h4 (d7 hd))
   have tk:=dX (dG o) (aS n) j d hd
   have ea2:=s2 _ _ (s1 _ _ ea)
   have no:dG o d=false→∀ H3,Same H2 H3→Same H1 H3∧H3 Dd=some (.lst (aO (((aS n).take (j+1)).filter (dG o)))):=fun z H3 s3=>by
    refine⟨s2.trans s3,?_⟩
    rw[s3 _ _ e2,tk,z,if_neg k6,w5]
   refine⟨_,rfl,_,rfl,a,_,rfl,.inr (SqT.of ea2),rfl,dO o,_,rfl,?_⟩
   rw[if_pos rfl,jR]
   by_cases q:d∈o
   ·rw[decide_eq_true q]
    exact gJ (gJ (no (by unfold dG;exact decide_eq_false fun z=>z.1 q) H2 (Same.refl H2)))
   ·rw[decide_eq_false q]
    refine pE ⟨_,rfl,d,rfl,hdL,fun H3 s3=>⟨_,rfl,a,_,rfl,.inr (SqT.of (s3 _ _ ea2)),rfl,dO o,_,rfl,?_⟩⟩
    rw[if_pos rfl,jR]
    by_cases q2:aZ d∈o
    ·rw[decide_eq_true q2]
     exact gJ (no (by unfold dG;exact decide_eq_false fun z=>z.2 q2) H3 s3)
    ·rw[decide_eq_false q2]
     refine pE ⟨_,rfl,_,s3 _ _ e2,?_,(s2.trans s3).upd hD,?_⟩
     ·rw[aP]
      have:=y9 (dG o) ((aS n).take j)
      rw[k9] at this
      exact aU (by omega)
     ·rw[aB,tk,if_pos (by unfold dG;exact decide_eq_true ⟨q,q2⟩)]
      unfold aO;rw[i6];rfl
  rintro H2 ⟨s2,e2⟩
  rw[aP,p9] at e2
  refine⟨Dd,_,rfl,.inl ⟨SqL.of e2,fun b hb=>?_⟩⟩
  have s3:Same H2 (upd H2 b (.tup (aO (cZ n o)))):=Same.new hb
  have e3:upd H2 b (.tup (aO (cZ n o))) b=some (.tup (aO (cZ n o))):=aB
  show BS _ _ _ _ (upd H2 b (.tup (aO (cZ n o))))
  generalize upd H2 b (.tup (aO (cZ n o)))=H3 at s3 e3
  have s03:=(s1.trans s2).trans s3
  have bl:=ex.len
  rw[g9] at bl
  refine⟨_,rfl,_,rfl,a,b,_,_,rfl,rfl,s03 _ _ ea,e3,by rw[aP,aP];exact aK (by omega),fun q H4 s4 e4=>?_⟩
  have e4:H4 q=some (.tup (dS (bQ (o++cZ n o)))):=by rw[gH];unfold aO at e4 ⊢;rw[i6];exact e4
  obtain⟨rt,rto⟩:=gY ex
  refine⟨q,bQ (o++cZ n o),n,1,rfl,SqT.of e4,rt,h1,h4,by decide,fun td kvs H5 htd s5 e5 htab hkv hk8=>?_⟩
  have tel:∀ c∈aL n,tell (bQ (o++cZ n o)) c=[gX (o++cZ n o) c]:=fun c hc=>ex.tell h1 h4 hc
  obtain⟨cl,rfl,hcl⟩:=yA (P:=fun c=>c∈aL n) (f:=fun c=>((Sum.inr (S [c]):bI),V.str (S [gX (o++cZ n o) c]))) (l:=kvs) fun kv hk=>by
   obtain⟨c,hc,e⟩:=hkv kv hk
   exact⟨c,hc,by rw[e,tel c hc]⟩
  have hall:∀ c∈aL n,c∈cl:=fun c hc=>by
   have:=oZ (htab c (by rw[rt.len];exact hc))
   obtain⟨c',hc',e⟩:=i4.mp this
   have:=(nP c' c).mp (Prod.mk.inj e).1
   rw[← this]
   exact hc'
  clear hkv htab
  rw[c6] at hk8
  have s05:=(s03.trans s4).trans s5
  have htd0:H td=none:=(s03.trans s4).free htd
  refine⟨_,rfl,td,_,rfl,.inl ⟨e5,fun ob D2 hD2=>?_⟩⟩
  have f5:upd H5 td (.frz ob (.dK (cl.map fun c=>((Sum.inr (S [c]):bI),V.str (S [gX (o++cZ n o) c]))))) td=some (.frz ob (.dK (cl.map fun c=>((Sum.inr (S [c]):bI),V.str (S [gX (o++cZ n o) c]))))):=aB
  have s6:Same H (upd H5 td (.frz ob (.dK (cl.map fun c=>((Sum.inr (S [c]):bI),V.str (S [gX (o++cZ n o) c])))))):=s05.upd htd0
  generalize upd H5 td (.frz ob (.dK (cl.map fun c=>((Sum.inr (S [c]):bI),V.str (S [gX (o++cZ n o) c])))))=H6 at f5 s6 hD2
  refine nJ (K:=K) (d:=td) (o:=ob) (kvs:=cl.map fun c=>((Sum.inr (S [c]):bI),V.str (S [gX (o++cZ n o) c]))) (fun j G=>∃ as:List Addr,Same H6 G∧G D2=some (.lst (as.map V.ref))∧as.length=j∧∀ (i:Nat) (p:Addr) (c:Nat),as[i]?=some p→cl[i]?=some c→G p=some (.tup [.str (S [gX (o++cZ n o) c]),.str (S [c])])) ⟨[],Same.new hD2,aB,rfl,fun i p c h=>by simp at h⟩ (fun j G _ ⟨_,s,_⟩=>s _ _ f5) ?_ ?_
  ·rintro j pa ky v G hkj hpa ⟨as,sG,eG,hal,has⟩
   rw[f6] at hkj
   obtain⟨c,hc,e⟩:=m8.mp hkj
   cases e
   have hj:=(c5.mp hc).1
   have s7:Same G (upd G pa (.tup [kV (.inr (S [c])),.str (S [gX (o++cZ n o) c])])):=Same.new hpa
   generalize upd G pa (.tup [kV (.inr (S [c])),.str (S [gX (o++cZ n o) c])])=G1 at s7
   refine⟨_,rfl,_,rfl,aK (by simp),fun q hq=>?_⟩
   have s8:Same G (upd G1 q (.tup [.str (S [gX (o++cZ n o) c]),kV (Sum.inr (S [c]))])):=s7.upd' hq
   have e8:upd G1 q (.tup [.str (S [gX (o++cZ n o) c]),kV (Sum.inr (S [c]))]) q=some (.tup [.str (S [gX (o++cZ n o) c]),.str (S [c])]):=aB
   generalize upd G1 q (.tup [.str (S [gX (o++cZ n o) c]),kV (Sum.inr (S [c]))])=G2 at s8 e8 ⊢
   have eD:=s8 _ _ eG
   refine⟨_,eD,by rw[c6];exact aU (by omega),as++[q],(sG.trans s8).upd hD2,by rw[aB,i6];rfl,by rw[g9,hal];rfl,fun i p c' hp hc'=>?_⟩
   by_cases hi:i<as.length
   ·rw[t6 hi] at hp
    have:=s8 _ _ (has i p c' hp hc')
    rw[aG (eU this eD (by intro z;cases z))];exact this
   ·have ei:i=as.length:=by
     have:=(c5.mp hp).1
     rw[g9,y6] at this
     omega
    subst ei
    rw[hal,hc] at hc'
    cases hc'
    have:q=p:=by simpa using hp
    subst this
    rw[aG (eU e8 eD (by intro z;cases z))];exact e8
  ·rintro G ⟨as,sG,eG,hal,has⟩
   rw[c6] at hal
   have s7:Same H (upd G td (.dK (cl.map fun c=>((Sum.inr (S [c]):bI),V.str (S [gX (o++cZ n o) c]))))):=(s6.trans sG).upd htd0
   have ft:=sG _ _ f5
   refine⟨_,.inr ⟨td,ob,_,ft,(fun o v=>by rw[htd0];intro z;cases z),rfl⟩,?_⟩
   have eD:upd G td (.dK (cl.map fun c=>((Sum.inr (S [c]):bI),V.str (S [gX (o++cZ n o) c])))) D2=some (.lst (as.map V.ref)):=by rw[aG (eU eG ft (by intro z;cases z))];exact eG
   have hasT:∀ (i:Nat) (p:Addr) (c:Nat),as[i]?=some p→cl[i]?=some c→upd G td (.dK (cl.map fun c=>((Sum.inr (S [c]):bI),V.str (S [gX (o++cZ n o) c])))) p=some (.tup [.str (S [gX (o++cZ n o) c]),.str (S [c])]):=fun i p c hp hc=>by
    have:=has i p c hp hc
    rw[aG (eU this ft (by intro z;cases z))];exact this
   generalize upd G td (.dK (cl.map fun c=>((Sum.inr (S [c]):bI),V.str (S [gX (o++cZ n o) c]))))=G1 at s7 eD hasT
   refine⟨D2,as,cl.map fun c=>((Sum.inr (S [gX (o++cZ n o) c]):bI),V.str (S [c])),rfl,eD,by rw[c6,hal],by rw[c6];omega,fun j p kv hp hk=>?_,fun ld hld=>?_⟩
   ·rw[f6] at hk
    obtain⟨c,hc,rfl⟩:=m8.mp hk
    exact hasT j p c hp hc
   have vl:∀ d∈aS n,cR (fK [] (cl.map fun c=>((Sum.inr (S [gX (o++cZ n o) c]):bI),V.str (S [c])))) (.inr (S [d]))=some (.str (S [rJ (o++cZ n o) d])):=fun d hd=>by
    obtain⟨b1,b2⟩:=ex.bk h1 h4 hd
    refine mB (fun kv hk e=>?_) (.inl ⟨_,i4.mpr ⟨_,hall _ b1,rfl⟩,by rw[b2]⟩)
    obtain⟨c,hc,rfl⟩:=i4.mp hk
    have:=(nP _ _).mp e
    rw[ex.ginj h1 h4 (hcl c hc) b1 (by rw[this,b2])]
   generalize fK [] (cl.map fun c=>((Sum.inr (S [gX (o++cZ n o) c]):bI),V.str (S [c])))=lk at vl
   have s8:Same H (upd G1 ld (.dK lk)):=s7.upd' hld
   have e8:upd G1 ld (.dK lk) ld=some (.dK lk):=aB
   generalize upd G1 ld (.dK lk)=G2 at s8 e8 ⊢
   refine⟨_,rfl,n,rfl,h1,h4,fun p' G3 hp' s9 ep'=>⟨p',rfl,⟨_,SqT.of ep'⟩,fun D3 hD3=>?_⟩⟩
   rw[jJ] at ep'
   refine fF (K:=K) (a:=p') (xs:=aO (aS n)) (fun j G4=>Same G3 G4∧G4 D3=some (.lst (aO (((aS n).take j).map (rJ (o++cZ n o)))))) ⟨Same.new hD3,aB⟩ (fun j G4 _ pr=>SqT.of (pr.1 _ _ ep')) ?_ ?_
   ·rintro j v G4 hv ⟨s10,e10⟩
    obtain⟨d,hd,rfl⟩:∃ d,(aS n)[j]?=some d∧v=.str (S [d]):=by
     unfold aO at hv
     rw[f6] at hv
     obtain⟨d,q1,q2⟩:=m8.mp hv
     exact⟨d,q1,q2.symm⟩
    have hj:=(c5.mp hd).1
    refine⟨_,rfl,_,rfl,ld,.str (S [rJ (o++cZ n o) d]),rfl,?_,_,e10,?_,s10.upd hD3,?_⟩
    ·have:=DGet.k (k:=.inr (S [d])) (s10 _ _ (s9 _ _ e8))
     rw[vl d (d7 hd)] at this
     exact this
    ·rw[aP,c6,k9];exact aU (by omega)
    ·rw[aB,bN hd,i6]
     unfold aO;rw[i6];rfl
   ·rintro G4 ⟨s10,e10⟩
    rw[aP,p9] at e10
    exact⟨D3,_,rfl,.inl ⟨SqL.of e10,fun q hq=>k q _ (((s8.trans s9).trans s10).upd' hq) aB⟩⟩
theorem B5{f:Addr}{fd:FuncData}(D:Df K mg "_law_exchanged" At ["_law_letters_here","_law_word_here"] f fd)(T:Txt P w K mg D_ Ea D9 Eb)(c_zi:Cl P w K mg base "_law_contrary" ["_law_letter"] 1 spCon):Cl P w K mg base "_law_exchanged" ["_law_letters_here","_law_word_here"] 2 (spXed K):=by
 obtain⟨f_zi,fd_zi,G_zi,m_zi,k_zi,b_zi⟩:=c_zi
 refine D.cl (D.F.ok sc_zf (fun vs H Q E h=>?_) (fun cdv A outer s H vs Q E hr h=>?_))
 ·obtain⟨a,cs,n,x,rfl,_⟩:=h
  rfl
 ·obtain⟨a,cs,n,x,rfl,ha,ex,h1,h4,hx,hxl,k⟩:=h
  refine⟨_,(aD (aQ (i:=2) sc_zf.nd rfl (Or.inr rfl) qD)
   (aD (dD p4 rfl (yN (by rfl) T.b_enumerate (aA (cJ eJ cH dJ (cA (bB (cE (K:=K) rfl) (by rfl) T.b_len p6 (aA (pv 0) aC)))) aC)) (vF (K:=K) rfl rfl (iI (cB (i:=3) sc_zf.nd rfl (Or.inl rfl)) (iI (cB (i:=4) sc_zf.nd rfl (Or.inl rfl)) sP))) (aD (hV (o6 (r6 (by decide:1≤64) _) hr.units) (pv 2) (pv 4) (bL (nU (K:=K) rfl) (pv 0) (pv 3) (fun _ _=>rfl)) (by rfl))
   (aH (hV (o6 (r6 (by decide:1≤64) _) hr.units) (pv 2) (cY (K:=K) rfl l3 aQa aQb jU (pv 4)) (aJ G_zi (hr.mono (by decide)) (by rfl) m_zi k_zi b_zi .nil aR (aA (bL (nU (K:=K) rfl) (pv 0) (pv 3) (fun _ _=>rfl)) aC)) (by rfl)))))
   (aH (aV (cV (K:=K) rfl l3 x3 x4 (eN (K:=K) rfl) cH (aA (bT (sc0:=aF At) (N:=["_law_letters_here","_law_word_here","_law_names","_law_k","_law_letter"]) (ix:=[2]) (by decide +kernel) rfl rfl rfl (fD (pv 1)) (fun _ _ _=>bR) (fun _ _ _=>(oB (o6 (r6 (by decide:1≤64) _) hr.units) (pv 1) (pv 0) (fun _ _=>rfl)))) aC)))))),?_⟩
  refine fun d hd=>?_
  have ha1:SqT K (upd H d (.dK [])) a (aO cs):=Lw.SqT.new ha hd
  refine⟨_,rfl,a,_,rfl,.inr ha1,_,rfl,_,rfl,by decide +kernel,S (aS n),?_,?_⟩
  ·show [V.str (Txt.slice (Str.ofString "abcd") none (some ((aO cs).length:Int)))]=_
   rw[aP,ex.len,rQ,dA _ (by omega) (by simp;omega)]
   rfl
  refine vD (w:=aS n) (fun i σ H2=>∃ (v3 v4:Option V) (kvs:List (bI×V)),σ=[some (.ref a),some (.str (S x)),some (.ref d),v3,v4]∧Same H H2∧H2 d=some (.dK kvs)∧kvs.length≤2 * i∧xS kvs (bQ cs) i) ⟨none,none,[],rfl,Same.new hd,aB,c8 _,fun j hj=>absurd hj (o9 _)⟩ ?_ ?_
  ·rintro i c p _ H2 hc hp ⟨v3,v4,kvs,rfl,s2,e2,hl,htab⟩
   obtain⟨rfl,hi⟩:=Ao h4 hc
   have hcs:i<cs.length:=by rw[ex.len];exact hi
   obtain⟨e,he⟩:∃ e,cs[i]?=some e:=⟨_,c7 hcs⟩
   have heL:=aE (ex.mem e (d7 he))
   obtain⟨l1,l2⟩:bS (97+i)∧bJ (97+i)=true:=⟨(nF (by omega)).1,(nF (by omega)).2.1⟩
   have at1:nQ (aO cs) ((i:Nat):Int)=some (.str (S [e])):=fX (by unfold aO;rw[f6,he];rfl)
   have s3:Same H2 (upd H2 p (.tup [.int (i:Nat),.str (S [97+i])])):=Same.new hp
   refine⟨p,_,rfl,.inr (SqT.of aB),rfl,_,_,rfl,_,_,rfl,rfl,?_⟩
   generalize upd H2 p (.tup [.int (i:Nat),.str (S [97+i])])=H3 at s3 ⊢
   have ha3:SqT K H3 a (aO cs):=L2.SqT.same (s2.trans s3) ha
   have e3:=s3 _ _ e2
   refine⟨_,rfl,_,rfl,a,_,_,_,rfl,rfl,ha3,at1,_,rfl,_,rfl,d,_,rfl,DPut.k (k:=.inr (S [97+i])) e3 (aU (by omega)),?_⟩
   have s4:Same H (upd H3 d (.dK (bV kvs (.inr (S [97+i])) (.str (S [e]))))):=(s2.trans s3).upd hd
   have e4:upd H3 d (.dK (bV kvs (.inr (S [97+i])) (.str (S [e])))) d=some (.dK (bV kvs (.inr (S [97+i])) (.str (S [e])))):=aB
   generalize upd H3 d (.dK (bV kvs (.inr (S [97+i])) (.str (S [e]))))=H4 at s4 e4 ⊢
   have l1':=cC kvs (.inr (S [97+i])) (.str (S [e]))
   have l2':=cC (bV kvs (.inr (S [97+i])) (.str (S [e]))) (.inr (S [aZ (97+i)])) (.str (S [aZ e]))
   refine⟨_,rfl,_,rfl,a,_,_,_,rfl,rfl,L2.SqT.same s4 ha,at1,e,rfl,heL,fun H5 s5=>⟨_,rfl,_,rfl,rfl,S [97+i],rfl,rfl,by rw[fZ l1 l2];exact mY _,?_⟩⟩
   rw[fZ l1 l2]
   exact⟨d,_,rfl,DPut.k (k:=.inr (S [aZ (97+i)])) (s5 _ _ e4) (aU (by omega)),_,_,_,rfl,(s4.trans s5).upd hd,aB,by omega,sK (r:=[e]) (by unfold bQ;rw[f6,he];rfl) (by omega) htab⟩
  ·rintro _ H2 ⟨v3,v4,kvs,rfl,s2,e2,hl,htab⟩
   rw[cQ h4] at htab
   have tb:=rW (gY ex).1.len h1 h4 htab
   refine⟨rfl,_,rfl,S x,rfl,fun Dd hD=>dU (w:=x) (fun i H3=>Same H2 H3∧H3 Dd=some (.lst (aO ((x.take i).map (gX cs))))) ⟨Same.new hD,aB⟩ ?_ ?_⟩
   ·rintro i c H3 hc ⟨s3,e3⟩
    have hi:i<x.length:=(c5.mp hc).1
    have hcn:=hx c (d7 hc)
    refine⟨_,rfl,_,rfl,d,.str (S [gX cs c]),rfl,?_,_,e3,?_,s3.upd hD,?_⟩
    ·have:=DGet.k (k:=.inr (S [c])) (s3 _ _ e2)
     rw[tb c (by rw[(gY ex).1.len];exact hcn),ex.tell h1 h4 hcn] at this
     exact this
    ·rw[aP,c6,k9];exact aU (by omega)
    ·rw[aB,bN hc,i6]
     unfold aO;rw[i6];rfl
   ·rintro H3 ⟨s3,e3⟩
    rw[p9] at e3
    have e4:SqL K H3 Dd (((x.map (gX cs)).map fun c=>S [c]).map V.str):=by rw[← fC];exact SqL.of e3
    refine⟨_,Dd,_,rfl,rfl,e4,?_,?_⟩
    ·rw[m6,iG]
     have:∀ l:List Nat,(l.map ((·.length) ∘ fun c=>S [c])).sum=l.length:=fun l=>by
      induction l with
      | nil=>rfl
      | cons a l ih=>rw[k7,aZU,ih,l9];show 1+_=_;omega
     rw[this,c6]
     show _+_ * 0≤_
     omega
    ·have ej:Txt.join (Str.ofString "") ((x.map (gX cs)).map fun c=>S [c])=S (x.map (gX cs)):=by
      have em:∀ l:List Nat,(l.map fun c=>S [c])=(l.map fun c=>[c]).map S:=fun l=>by rw[m6];rfl
      rw[em,iG,mT,fU]
     rw[ej]
     exact k H3 (s2.trans s3)
theorem C4{f:Addr}{fd:FuncData}(D:Df K mg "_law_all_exchanges" A9 [] f fd)(T:Txt P w K mg D_ Ea D9 Eb)(c_zi:Cl P w K mg base "_law_contrary" ["_law_letter"] 1 spCon):Cl P w K mg base "_law_all_exchanges" [] 2 spAllX:=by
 obtain⟨f_zi,fd_zi,G_zi,m_zi,k_zi,b_zi⟩:=c_zi
 refine D.cl (D.F.ok sc_za (fun vs H Q E h=>?_) (fun cdv A outer s H vs Q E hr h=>?_))
 ·obtain⟨rfl,_⟩:=h
  rfl
 ·obtain⟨rfl,k⟩:=h
  refine⟨_,(aD (aQ (i:=0) sc_za.nd rfl (Or.inl rfl) (fO (aA (eZ aC) aC)))
   (aD (dD p4 rfl (gB (by rfl) T.b_range (aA aI aC)) (cB (i:=1) sc_za.nd rfl (Or.inl rfl)) (aD (aQ (i:=2) sc_za.nd rfl (Or.inl rfl) (fO aC))
   (aD (dD p4 rfl (iC (K:=K) rfl (pv 0)) (cB (i:=3) sc_za.nd rfl (Or.inl rfl)) (aH (dD p4 rfl (fD cH) (cB (i:=4) sc_za.nd rfl (Or.inl rfl)) (aH (dR (pw_and (aT (eW (K:=K) rfl) (pv 4) (pv 3) (by rfl)) (pw_and1 (aT (eW (K:=K) rfl) (aJ G_zi (hr.mono (by decide)) (by rfl) m_zi k_zi b_zi .nil aR (aA (pv 4) aC)) (pv 3) (by rfl)))).pt (aH (gG (cV (K:=K) rfl u4 aQD aQE dL (pv 2) (aA (aY nR (pv 3) (eZ (aA (pv 4) aC))) aC)))) cS)))))
   (aH (aQ (i:=0) sc_za.nd rfl (Or.inl rfl) (pv 2))))))
   (aH (aV (pv 0))))),?_⟩
  refine⟨aK (by simp),fun t0 ht0=>⟨aK (by simp),fun l0 hl0=>?_⟩⟩
  have e0:=(aG (o:=HO.lst [.ref t0]) (aN (aB (H:=H) (a:=t0) (o:=HO.tup [])) hl0)).trans (aB (H:=H) (a:=t0) (o:=HO.tup []))
  have s0:Same H (upd (upd H t0 (.tup [])) l0 (.lst [.ref t0])):=(Same.new ht0).upd' hl0
  have el0:upd (upd H t0 (.tup [])) l0 (.lst [.ref t0]) l0=some (.lst [.ref t0]):=aB
  generalize upd (upd H t0 (.tup [])) l0 (.lst [.ref t0])=H0 at e0 s0 el0 ⊢
  refine⟨4,rfl,by decide,by decide,iV (lo:=0) (n:=(4:Int).toNat) (fun i σ H1=>∃ (l:Addr) (ps:List (Addr×List Nat)) (v1 v2 v3 v4:Option V),σ=[some (.ref l),v1,v2,v3,v4]∧Same H H1∧H1 l=some (.lst (ps.map fun p=>V.ref p.1))∧(∀ q∈ps,H1 q.1=some (.tup (aO q.2)))∧(∀ cs,Ak i cs↔∃ q∈ps,q.2=cs)∧ps.length≤8 ^ i) ⟨l0,[(t0,[])],none,none,none,none,rfl,s0,el0,?_,?_,c8 _⟩ ?_ ?_⟩
  ·intro q hq
   rw[c9.mp hq]
   exact e0
  ·intro cs
   constructor
   ·intro h
    exact⟨_,c9.mpr rfl,(l8.mp h.1).symm⟩
   ·rintro⟨q,hq,rfl⟩
    rw[c9.mp hq]
    exact⟨rfl,(fun c hc=>nomatch hc),trivial⟩
  ·rintro i _ H1 hi ⟨l,ps,v1,v2,v3,v4,rfl,s1,el,hps,hap,hpl⟩
   have hi4:i<4:=hi
   have p8:8 ^ i≤8 ^ 3:=Nat.pow_le_pow_right (by decide) (by omega)
   have p8':(8:Nat) ^ 3=512:=by decide
   refine⟨aK (by simp),fun m hm=>?_⟩
   have sm:Same H1 (upd H1 m (.lst [])):=Same.new hm
   have em:upd H1 m (.lst []) m=some (.lst []):=aB
   have hm0:H m=none:=s1.free hm
   generalize upd H1 m (.lst [])=H2 at sm em ⊢
   refine⟨_,rfl,l,rfl,⟨_,SqL.of (sm _ _ el)⟩,?_⟩
   refine vM (K:=K) (a:=l) (xs:=ps.map fun p=>V.ref p.1) (fun j σ H3=>∃ (qs:List (Addr×List Nat)) (v1 v3 v4:Option V),σ=[some (.ref l),v1,some (.ref m),v3,v4]∧Same H1 H3∧H3 m=some (.lst (qs.map fun p=>V.ref p.1))∧(∀ q∈qs,H3 q.1=some (.tup (aO q.2)))∧(∀ cs,(∃ q∈qs,q.2=cs)↔∃ p∈ps.take j,∃ c∈aL (4:Nat),c ∉ p.2∧aZ c ∉ p.2∧cs=p.2++[c])∧qs.length≤8 * j) ⟨[],_,v3,v4,rfl,sm,em,(fun q hq=>nomatch hq),fun cs=>⟨fun ⟨_,h,_⟩=>(nomatch h),fun ⟨_,h,_⟩=>(nomatch h)⟩,c8 _⟩ (fun j σ H3 _ ⟨_,_,_,_,_,s,_⟩=>SqL.of (s _ _ el)) ?_ ?_
   ·rintro j v _ H3 hv ⟨qs,v1,v3,v4,rfl,s3,e3,hqs,hqa,hql⟩
    rw[f6] at hv
    obtain⟨pr,hpr,rfl⟩:=m8.mp hv
    have hpm:=d7 hpr
    have hj:j<ps.length:=(c5.mp hpr).1
    obtain⟨prl,pro,pra⟩:=(hap pr.2).mpr ⟨pr,hpm,rfl⟩
    have hpe:=hps pr hpm
    refine⟨S (aL (4:Nat)),congrArg V.str (by decide +kernel),jP (w:=aL (4:Nat)) (fun k σ H4=>∃ (rs:List (Addr×List Nat)) (v1 v4:Option V),σ=[some (.ref l),v1,some (.ref m),some (.ref pr.1),v4]∧Same H1 H4∧H4 m=some (.lst (rs.map fun p=>V.ref p.1))∧(∀ q∈rs,H4 q.1=some (.tup (aO q.2)))∧(∀ cs,(∃ q∈rs,q.2=cs)↔(∃ q∈qs,q.2=cs)∨∃ c∈(aL (4:Nat)).take k,c ∉ pr.2∧aZ c ∉ pr.2∧cs=pr.2++[c])∧rs.length≤qs.length+k) ⟨qs,_,v4,rfl,s3,e3,hqs,fun cs=>⟨.inl,fun h=>h.elim id fun ⟨_,h,_⟩=>(nomatch h)⟩,c8 _⟩ ?_ ?_⟩
    ·rintro k c _ H4 hc ⟨rs,v1,v4,rfl,s4,e4,hrs,hra,hrl⟩
     have hk:k<8:=(c5.mp hc).1
     have hcL:=aE (d7 hc)
     have tk:(aL (4:Nat)).take (k+1)=(aL (4:Nat)).take k++[c]:=bN hc
     have hp4:=s4 _ _ hpe
     have no:¬ (c ∉ pr.2∧aZ c ∉ pr.2)→∀ cs,(∃ q∈rs,q.2=cs)↔(∃ q∈qs,q.2=cs)∨∃ c'∈(aL (4:Nat)).take (k+1),c' ∉ pr.2∧aZ c' ∉ pr.2∧cs=pr.2++[c']:=fun z cs=>by
      rw[hra cs,tk]
      refine or_congr_right ⟨fun ⟨c',h1,h2⟩=>⟨c',n9 _ h1,h2⟩,fun ⟨c',h1,h2,h3,h4⟩=>?_⟩
      rcases j8.mp h1 with h1 | h1
      ·exact⟨c',h1,h2,h3,h4⟩
      ·rw[c9.mp h1] at h2 h3
       exact absurd ⟨h2,h3⟩ z
     refine⟨_,rfl,_,rfl,pr.1,_,rfl,.inr (SqT.of hp4),rfl,dO _,_,rfl,?_⟩
     rw[if_pos rfl,jR]
     by_cases q:c∈pr.2
     ·rw[decide_eq_true q]
      exact gJ (gJ ⟨rs,_,_,rfl,s4,e4,hrs,no (fun z=>z.1 q),by omega⟩)
     rw[decide_eq_false q]
     refine pE ⟨_,rfl,c,rfl,hcL,fun H5 s5=>⟨_,rfl,pr.1,_,rfl,.inr (SqT.of (s5 _ _ hp4)),rfl,dO _,_,rfl,?_⟩⟩
     rw[if_pos rfl,jR]
     have hrs5:∀ q∈rs,H5 q.1=some (.tup (aO q.2)):=fun q hq=>s5 _ _ (hrs q hq)
     by_cases q2:aZ c∈pr.2
     ·rw[decide_eq_true q2]
      exact gJ ⟨rs,_,_,rfl,s4.trans s5,s5 _ _ e4,hrs5,no (fun z=>z.2 q2),by omega⟩
     rw[decide_eq_false q2]
     refine pE ⟨_,rfl,.inl ⟨rfl,_,SqL.of (s5 _ _ e4)⟩,_,rfl,_,rfl,aK (by simp),fun t ht=>?_⟩
     have s6:Same H5 (upd H5 t (.tup [.str (S [c])])):=Same.new ht
     have e6:upd H5 t (.tup [.str (S [c])]) t=some (.tup (aO [c])):=aB
     generalize upd H5 t (.tup [.str (S [c])])=H6 at s6 e6 ⊢
     refine⟨pr.1,t,_,_,rfl,rfl,s6 _ _ (s5 _ _ hp4),e6,by rw[aP,aP,prl];exact aK (show i+1≤_ by omega),fun p' H7 s7 e7=>?_⟩
     have e7:H7 p'=some (.tup (aO (pr.2++[c]))):=by unfold aO at e7 ⊢;rw[i6];exact e7
     have s47:=(s5.trans s6).trans s7
     have em7:=s47 _ _ e4
     refine⟨m,_,_,rfl,rfl,em7,by rw[c6];exact k0 (show _<100000 by omega) (aK (c8 _)),rs++[(p',pr.2++[c])],_,_,rfl,(s4.trans s47).upd hm,by rw[aB,i6];rfl,fun q hq=>?_,fun cs=>?_,by rw[g9,y6];omega⟩
     ·rcases j8.mp hq with z | z
      ·have w7:=s47 _ _ (hrs q z)
       exact(aG (eU w7 em7 (by intro z;cases z))).trans w7
      ·rw[c9.mp z];exact(aG (eU e7 em7 (by intro z;cases z))).trans e7
     ·rw[tk]
      constructor
      ·rintro⟨q',hq',rfl⟩
       rcases j8.mp hq' with z | z
       ·rcases(hra _).mp ⟨q',z,rfl⟩ with y | ⟨c',h1,h2⟩
        ·exact .inl y
        ·exact .inr ⟨c',n9 _ h1,h2⟩
       ·rw[c9.mp z]
        exact .inr ⟨c,e9 _ (c9.mpr rfl),q,q2,rfl⟩
      ·intro h
       have fin:((∃ q∈qs,q.2=cs)∨∃ c'∈(aL (4:Nat)).take k,c' ∉ pr.2∧aZ c' ∉ pr.2∧cs=pr.2++[c'])∨cs=pr.2++[c]:=by
        rcases h with h | ⟨c',h1,h2,h3,h4⟩
        ·exact .inl (.inl h)
        ·rcases j8.mp h1 with z | z
         ·exact .inl (.inr ⟨c',z,h2,h3,h4⟩)
         ·exact .inr (by rw[h4,c9.mp z])
       rcases fin with h | h
       ·obtain⟨q',h1,h2⟩:=(hra cs).mpr h
        exact⟨q',n9 _ h1,h2⟩
       ·exact⟨_,e9 _ (c9.mpr rfl),h.symm⟩
    ·rintro _ H4 ⟨rs,v1,v4,rfl,s4,e4,hrs,hra,hrl⟩
     have h8:(aL (4:Nat)).length=8:=by decide
     rw[h8] at hrl
     refine⟨rs,_,_,_,rfl,s4,e4,hrs,fun cs=>?_,by omega⟩
     rw[hra cs,u8 (c8 _),hqa cs,aQ1,hpr]
     constructor
     ·rintro(⟨p,h1,h2⟩ | h)
      ·exact⟨p,n9 _ h1,h2⟩
      ·exact⟨pr,e9 _ (c9.mpr rfl),h⟩
     ·rintro⟨p,h1,h2⟩
      rcases j8.mp h1 with z | z
      ·exact .inl ⟨p,z,h2⟩
      ·rw[show p=pr from c9.mp z] at h2
       exact .inr h2
   ·rintro _ H3 ⟨qs,v1,v3,v4,rfl,s3,e3,hqs,hqa,hql⟩
    rw[c6] at hql hqa
    refine⟨_,rfl,m,qs,_,_,_,_,rfl,s1.trans s3,e3,hqs,fun cs=>?_,?_⟩
    ·rw[hqa cs,u8 (c8 _)]
     exact uM hap
    ·rw[Nat.pow_succ];omega
  ·rintro _ H1 ⟨l,ps,v1,v2,v3,v4,rfl,s1,el,hps,hap,hpl⟩
   exact⟨_,rfl,k l ps H1 s1 el hps (fun cs=>(wG cs).trans (hap cs)) hpl⟩
theorem Cr{f:Addr}{fd:FuncData}(D:Df K mg "_law_stage_word" Bn ["_law_flow_here","_law_n"] f fd)(T:Txt P w K mg D_ Ea D9 Eb)(c_zx:Cl P w K mg base "_law_pick" ["_law_flow_here","_law_many"] 1 spPick)(c_zw:Cl P w K mg base "_law_word" ["_law_flow_here","_law_n","_law_most"] 2 spWord)(c_zo:Cl P w K mg base "_law_retold" ["_law_retelling","_law_word_here"] 3 (spRetold K))(c_zj:Cl P w K mg base "_law_exchange" ["_law_flow_here","_law_n"] 2 spExchP):Cl P w K mg base "_law_stage_word" ["_law_flow_here","_law_n"] 4 spStg:=by
 obtain⟨f_zx,fd_zx,G_zx,m_zx,k_zx,b_zx⟩:=c_zx
 obtain⟨f_zw,fd_zw,G_zw,m_zw,k_zw,b_zw⟩:=c_zw
 obtain⟨f_zo,fd_zo,G_zo,m_zo,k_zo,b_zo⟩:=c_zo
 obtain⟨f_zj,fd_zj,G_zj,m_zj,k_zj,b_zj⟩:=c_zj
 refine D.cl (D.F.ok sc_zd (fun vs H Q E h=>?_) (fun cdv A outer s H vs Q E hr h=>?_))
 ·obtain⟨fl,sc,n,rfl,_⟩:=h
  rfl
 ·obtain⟨fl,sc,n,rfl,hf,n1,n4,k⟩:=h
  refine⟨_,(aD (aQ (i:=2) sc_zd.nd rfl (Or.inl rfl) (aY cN aI (aJ G_zx (hr.mono (by decide)) (by rfl) m_zx k_zx b_zx .nil aR (aA (pv 0) (aA (bB (mE rfl) (by rfl) T.b_min boot_min (aA (pv 1) (aA aI aC))) aC)))))
   (aD (aQ (i:=3) sc_zd.nd rfl (Or.inl rfl) (aJ G_zw (hr.mono (by decide)) (by rfl) m_zw k_zw b_zw .nil aR (aA (pv 0) (aA (pv 2) (aA (bL (aW (K:=K) rfl) (fO (aA aI (aA aI (aA aI aC)))) (aY kM (pv 2) aI) (fun _ _=>rfl)) aC)))))
   (aH (aV (aJ G_zo (hr.mono (by decide)) (by rfl) m_zo k_zo b_zo .nil aR (aA (aJ G_zj (hr.mono (by decide)) (by rfl) m_zj k_zj b_zj .nil aR (aA (pv 0) (aA (pv 1) aC))) (aA (pv 3) aC))))))),?_⟩
  refine⟨_,rfl,_,rfl,_,_,rfl,?_⟩
  obtain⟨mm,hmm,m1,m3,mn⟩:∃ mm:Nat,(if (3:Int)<((n:Nat):Int) then 3 else ((n:Nat):Int))=(mm:Int)∧1≤mm∧mm≤3∧mm≤n:=by
   by_cases q:(3:Int)<((n:Nat):Int)
   ·rw[if_pos q];exact⟨3,rfl,by decide,by decide,by omega⟩
   ·rw[if_neg q];exact⟨n,rfl,n1,by omega,c8 _⟩
  rw[hmm]
  refine⟨fl,sc,(mm:Int),rfl,hf,by omega,by omega,fun d H1 d0 d1 f1 k1=>⟨_,_,rfl,rfl,?_⟩⟩
  obtain⟨m,hm⟩:∃ m:Nat,1+d=(m:Int):=⟨(1+d).toNat,by omega⟩
  have hd:V.int (1+d)=V.int (m:Nat):=by rw[← hm]
  rw[hd]
  have q1:1≤m:=by omega
  have q3:m≤3:=by omega
  have qn:m≤n:=by omega
  refine⟨_,rfl,_,rfl,aK (by simp),fun L hL=>?_⟩
  have hLf:L≠fl:=f1.ne hL
  have f2:=f1.upd (o:=HO.lst [.int 10,.int 10,.int 7]) hL
  have k2:Kp fl H (upd H1 L (.lst [.int 10,.int 10,.int 7])):=k1.upd (k1.free hL hLf)
  have e2:upd H1 L (.lst [.int 10,.int 10,.int 7]) L=some (.lst [.int 10,.int 10,.int 7]):=aB
  generalize upd H1 L (.lst [.int 10,.int 10,.int 7])=H2 at f2 k2 e2
  obtain⟨most,hat,o0,o10⟩:∃ most:Int,nQ [V.int 10,V.int 10,V.int 7] (((m:Nat):Int) - 1)=some (.int most)∧0≤most∧most≤10:=by
   have:m=1∨m=2∨m=3:=by omega
   rcases this with rfl | rfl | rfl
   ·exact⟨10,rfl,by decide,by decide⟩
   ·exact⟨10,rfl,by decide,by decide⟩
   ·exact⟨7,rfl,by decide,by decide⟩
  refine⟨_,rfl,_,_,rfl,rfl,L,_,_,.int most,rfl,rfl,SqL.of e2,hat,fl,sc,(m:Nat),most,rfl,f2,by omega,by omega,o0,by omega,fun w H3 ow pw wl f3 k3=>?_⟩
  have hwn:OfN n w:=Bs q1 qn n4 ow
  refine⟨_,rfl,_,rfl,fl,sc,n,rfl,f3,n1,n4,fun p cs H4 hp ex hrt hofn ep f4 k4=>?_⟩
  refine⟨_,rfl,p,bQ cs,n,1,w,rfl,SqT.of ep,hrt,n1,n4,by decide,hwn,by omega,by omega,fun H5 s5=>?_⟩
  have hl:=pB hrt w
  exact k _ H5 (yI n1 n4 hofn w) (sV _) (by omega) (f4.same s5) (((k2.trans k3).trans k4).trans s5.kp)
theorem B4{f:Addr}{fd:FuncData}(D:Df K mg "letters_to_form" oQ ["n","ring"] f fd)(T:Txt P w K mg D_ Ea D9 Eb){c0:Addr}(hM:DF K fd c0 P1)(hB:BM base mg)(c_zp:Cl P w K mg base "order_key" ["word"] 2 spKey)(c_zl:Cl P w K mg base "ring_retold" ["retelling","ring"] 5 (spRingRetold K))(c_zh:Cl P w K mg base "orders_round" ["ring"] 2 spOrds)(c_ze:Cl P w K mg base "exchange_from" ["n","order"] 4 spExF):Cl P w K mg base "letters_to_form" ["n","ring"] 8 (spToF (tbs P1)):=by
 obtain⟨f_zp,fd_zp,G_zp,m_zp,k_zp,b_zp⟩:=c_zp
 obtain⟨f_zl,fd_zl,G_zl,m_zl,k_zl,b_zl⟩:=c_zl
 obtain⟨f_zh,fd_zh,G_zh,m_zh,k_zh,b_zh⟩:=c_zh
 obtain⟨f_ze,fd_ze,G_ze,m_ze,k_ze,b_ze⟩:=c_ze
 refine D.cl (D.F.okM sc_zb (fun vs H Q E h=>?_) (fun cdv A outer s H vs Q E hcv hr h=>?_))
 ·obtain⟨n,x,rfl,_⟩:=h
  rfl
 ·obtain⟨n,x,rfl,h1,h4,hx,hxl,hT,k⟩:=h
  refine⟨_,(aD (kP (i:=2) (sc0:=aF oQ) (N:=["n","ring","exchanges"]) (ix:=[0]) sc_zb.nd rfl rfl (by decide +kernel) rfl rfl rfl (iC (K:=K) rfl (aJ G_zh (hr.mono (by decide)) (by rfl) m_zh k_zh b_zh .nil aR (aA (pv 1) aC))) (fun _ _ _=>bR) (fun _ _ _=>(aJ G_ze (hr.mono (by decide)) (by rfl) m_ze k_ze b_ze .nil aR (aA (pv 1) (aA (pv 0) aC)))))
   (aH (aV (rN (K:=K) (k:=1) (sc0:=aF oQ) (N:=["n","ring","exchanges"]) (ix:=[1]) rfl ⟨hcv.symm.trans hM.1,hM.2,hB⟩ (by decide +kernel) rfl rfl rfl rfl (hr.mono (by decide)) (jE hr) rfl (by rfl) T.b_min (aA (pv 2) aC) (fun _ _ _ _=>(aJ G_zp (((hr.mono (by decide)).in1).deeper _) (by rfl) m_zp k_zp b_zp .nil aR (aA (aJ G_zl (((hr.mono (by decide)).in1).deeper _) (by rfl) m_zl k_zl b_zl .nil aR (aA (pv 0) (aA (pv 1) aC))) aC))) (fun _ _ _ _ _=>rfl) rfl)))),?_⟩
  have hxo:=hx.ofn
  have hxL:∀ c∈x,bS c:=fun c hc=>aE (hxo c hc)
  obtain⟨hxa,hxp,_⟩:=cO hx
  refine⟨_,rfl,x,rfl,xX h1 h4 hxo,by omega,fun l ps H1 s1 el hps ho1 ho2 hpl=>⟨l,rfl,⟨_,SqL.of el⟩,fun Dd hD=>?_⟩⟩
  refine fQ (K:=K) (a:=l) (xs:=ps.map fun p=>V.ref p.1) (fun j H2=>Same H1 H2∧∃ qs:List (Addr×List Nat),H2 Dd=some (.lst (qs.map fun p=>V.ref p.1))∧(∀ q∈qs,H2 q.1=some (.tup (aO q.2)))∧qs.length=j∧qs.map (·.2)=((ps.map (·.2)).take j).map fun o=>xB n (o++cZ n o)) ⟨Same.new hD,[],aB,fun q hq=>(nomatch hq),rfl,rfl⟩ (fun j H2 _ pr=>SqL.of (pr.1 _ _ el)) ?_ ?_
  ·rintro j v H2 hv ⟨s2,qs,e2,hqs,hql,hqF⟩
   rw[f6] at hv
   obtain⟨pr,hpr,rfl⟩:=m8.mp hv
   have hj:j<ps.length:=(c5.mp hpr).1
   have hpm:=d7 hpr
   obtain⟨i,hi⟩:=ho1 pr hpm
   have hpo:OfN n pr.2:=by rw[hi];exact fun d hd=>hxo d (jY hd)
   have hpa:Apt pr.2:=by rw[hi];exact eQ _
   refine⟨_,rfl,_,rfl,n,pr.1,pr.2,rfl,s2 _ _ (hps pr hpm),h1,h4,hpo,hpa,fun q H3 s3 e3=>?_⟩
   have eD:=s3 _ _ e2
   refine⟨_,eD,by rw[c6];exact aU (by omega),(s2.trans s3).upd hD,qs++[(q,xB n (pr.2++cZ n pr.2))],by rw[aB,i6];rfl,fun q' hq'=>?_,by rw[g9,hql];rfl,?_⟩
   ·rcases j8.mp hq' with z | z
    ·have w3:=s3 _ _ (hqs q' z)
     exact(aG (eU w3 eD (by intro z;cases z))).trans w3
    ·rw[c9.mp z];exact(aG (eU e3 eD (by intro z;cases z))).trans e3
   ·rw[i6,hqF,aQ1,f6,hpr,i6];rfl
  ·rintro H2 ⟨s2,qs,e2,hqs,hql,hqF⟩
   rw[c6] at hql hqF
   rw[u8 (by rw[c6];exact c8 _)] at hqF
   have sT:SameT (tbs P1) H H2:=.of (s1.trans s2)
   have fwd:∀ q∈qs,∃ p∈ps,q.2=xB n (p.2++cZ n p.2):=fun q hq=>by
    have:q.2∈qs.map (·.2):=i4.mpr ⟨q,hq,rfl⟩
    rw[hqF,m6] at this
    obtain⟨p,hp,e⟩:=i4.mp this
    exact⟨p,hp,e.symm⟩
   have bwd:∀ p∈ps,∃ q∈qs,q.2=xB n (p.2++cZ n p.2):=fun p hp=>by
    have:xB n (p.2++cZ n p.2)∈qs.map (·.2):=by rw[hqF,m6];exact i4.mpr ⟨p,hp,rfl⟩
    obtain⟨q,hq,e⟩:=i4.mp this
    exact⟨q,hq,e⟩
   have exq:∀ q∈qs,Exch n q.2:=fun q hq=>by
    obtain⟨p,hp,e⟩:=fwd q hq
    obtain⟨i,hi⟩:=ho1 p hp
    rw[e]
    exact(eV h1 h4 (by rw[hi];exact fun d hd=>hxo d (jY hd)) (by rw[hi];exact eQ _)).back h1 h4
   have hne:qs≠[]:=fun z=>by
    obtain⟨p,hp,_⟩:=ho2 0 (l5 _)
    obtain⟨q,hq,_⟩:=bwd p hp
    rw[z] at hq
    cases hq
   refine⟨_,rfl,uV (t:=lamTb2 P1 "letters_to_form" oQ) (ts:=tbs P1) (L:=x.length) (RR:=fun cs r=>RingR (x.map (gX cs)) r) (by simp[tbs]) (sT.tabs hT) e2 hne (fun H' p Q hp s3 kk=>?_) (fun p r H' hp hr hm s3=>?_)⟩
   ·have ex:=exq p hp
    obtain⟨rt,rto⟩:=gY ex
    refine⟨_,rfl,_,rfl,p.1,bQ p.2,n,1,x,rfl,by rw[gH];exact SqT.of (s3.tup (hqs p hp)),rt,h1,h4,by decide,hxo,by omega,by omega,fun r H3 hr s4=>?_⟩
    rw[ex.retl h1 h4 hxo hxp] at hr
    have hrl:=(eF h1 h4 ex hx hr).1
    refine⟨r,rfl,dI (dQ h1 h4 ex hxo) hr,by omega,fun u a H4 hu ha s5 e5 f5=>kk u a r H4 (s4.free hu) (s4.free ha) (s4.trans s5) hr hrl ?_ f5⟩
    rw[← hrl]
    exact e5
   ·refine k p.1 p.2 r H' (sT.trans s3) (s3.tup (hqs p hp)) (exq p hp) hr (uB h1 h4 hx (exq p hp) hr fun b hb=>?_)
    obtain⟨o,ho,e⟩:=ho2 (2 * x.length - b) (by omega)
    rw[vG hxL hb] at e
    obtain⟨q,hq,e2⟩:=bwd o ho
    obtain⟨r',h1',h2'⟩:=hm q hq
    rw[e2,e] at h1'
    exact⟨r',h1',h2'⟩
theorem CT{f:Addr}{fd:FuncData}(D:Df K mg "form_of" AZ ["ring"] f fd)(T:Txt P w K mg D_ Ea D9 Eb)(c_zl:Cl P w K mg base "ring_retold" ["retelling","ring"] 5 (spRingRetold K))(c_zb:Cl P w K mg base "letters_to_form" ["n","ring"] 8 (spToF (tbs P1))):Cl P w K mg base "form_of" ["ring"] 9 (spFormO (tbs P1)):=by
 obtain⟨f_zl,fd_zl,G_zl,m_zl,k_zl,b_zl⟩:=c_zl
 obtain⟨f_zb,fd_zb,G_zb,m_zb,k_zb,b_zb⟩:=c_zb
 refine D.cl (D.F.ok CK (fun vs H Q E h=>?_) (fun cdv A outer s H vs Q E hr h=>?_))
 ·obtain⟨x,rfl,_⟩:=h
  rfl
 ·obtain⟨x,rfl,hx,hxl,hT,k⟩:=h
  refine⟨_,(aH (aV (aJ G_zl (hr.mono (by decide)) (by rfl) m_zl k_zl b_zl .nil aR (aA (aJ G_zb (hr.mono (by decide)) (by rfl) m_zb k_zb b_zb .nil aR (aA (xA (z:=4) (by rfl) T.m_MOST_LETTERS) (aA (pv 0) aC))) (aA (pv 0) aC))))),?_⟩
  have hxo:=hx.ofn
  obtain⟨hxa,hxp,_⟩:=cO hx
  refine⟨_,rfl,4,x,rfl,by decide,by decide,hx,hxl,hT,fun p cs r H1 s1 e1 ex hr hf=>?_⟩
  obtain⟨rt,rto⟩:=gY ex
  refine⟨_,rfl,p,bQ cs,4,1,x,rfl,by rw[gH];exact SqT.of e1,rt,by decide,by decide,by decide,hxo,by omega,by omega,fun r' H2 hr' s2=>?_⟩
  rw[ex.retl (by decide) (by decide) hxo hxp] at hr'
  rw[RingR.inj (dQ (by decide) (by decide) ex hxo) hr' hr]
  exact k r H2 (s1.trans (.of s2)) hf
theorem Bk{f:Addr}{fd:FuncData}(D:Df K mg "law" lZ ["_law_script"] f fd)(T:Txt P w K mg D_ Ea D9 Eb)(c_zb:Cl P w K mg base "letters_to_form" ["n","ring"] 8 (spToF (tbs P1)))(c_zz:Cl P w K mg base "form_of" ["ring"] 9 (spFormO (tbs P1)))(c_zq:Cl P w K mg base "_law_flow" ["_law_script"] 1 (spFlow K))(c_zx:Cl P w K mg base "_law_pick" ["_law_flow_here","_law_many"] 1 spPick)(c_z1:Cl P w K mg base "_law_key" ["_law_word_here"] 1 spKey)(c_zu:Cl P w K mg base "_law_ring" ["_law_word_here"] 3 spRingL)(c_zj:Cl P w K mg base "_law_exchange" ["_law_flow_here","_law_n"] 2 spExchP)(c_zd:Cl P w K mg base "_law_stage_word" ["_law_flow_here","_law_n"] 4 spStg)(c_za:Cl P w K mg base "_law_all_exchanges" [] 2 spAllX)(c_zf:Cl P w K mg base "_law_exchanged" ["_law_letters_here","_law_word_here"] 2 (spXed K)):FnOk P w K mg base qF 10 f fd ["_law_script"] (spLawT K (tbs P1)):=by
 obtain⟨f_zb,fd_zb,G_zb,m_zb,k_zb,b_zb⟩:=c_zb
 obtain⟨f_zz,fd_zz,G_zz,m_zz,k_zz,b_zz⟩:=c_zz
 obtain⟨f_zq,fd_zq,G_zq,m_zq,k_zq,b_zq⟩:=c_zq
 obtain⟨f_zx,fd_zx,G_zx,m_zx,k_zx,b_zx⟩:=c_zx
 obtain⟨f_z1,fd_z1,G_z1,m_z1,k_z1,b_z1⟩:=c_z1
 obtain⟨f_zu,fd_zu,G_zu,m_zu,k_zu,b_zu⟩:=c_zu
 obtain⟨f_zj,fd_zj,G_zj,m_zj,k_zj,b_zj⟩:=c_zj
 obtain⟨f_zd,fd_zd,G_zd,m_zd,k_zd,b_zd⟩:=c_zd
 obtain⟨f_za,fd_za,G_za,m_za,k_za,b_za⟩:=c_za
 obtain⟨f_zf,fd_zf,G_zf,m_zf,k_zf,b_zf⟩:=c_zf
 refine D.F.ok sc_law (fun vs H Q E h=>?_) (fun cdv A outer s H vs Q E hr h=>?_)
 ·obtain⟨a,ns,rfl,_⟩:=h
  rfl
 ·obtain⟨a,ns,rfl,hs,hl,hT,k⟩:=h
  refine⟨_,(aD (aQ (i:=1) sc_law.nd rfl (Or.inl rfl) (aJ G_zq (hr.mono (by decide)) (by rfl) m_zq k_zq b_zq .nil aR (aA (pv 0) aC)))
   (aD (aQ (i:=2) sc_law.nd rfl (Or.inl rfl) (aY cN aI (aJ G_zx (hr.mono (by decide)) (by rfl) m_zx k_zx b_zx .nil aR (aA (pv 1) (aA aI aC)))))
   (aD (aQ (i:=3) sc_law.nd rfl (Or.inr rfl) (aJ G_zu (hr.mono (by decide)) (by rfl) m_zu k_zu b_zu .nil aR (aA (aJ G_zd (hr.mono (by decide)) (by rfl) m_zd k_zd b_zd .nil aR (aA (pv 1) (aA (pv 2) aC))) aC)))
   (aD (aQ (i:=4) sc_law.nd rfl (Or.inl rfl) (oX (K:=K) rfl G_z1 (hr.mono (by decide)) b_z1 (jE hr) rfl (by rfl) T.b_min (by rfl) m_z1 (aA (bT (sc0:=aF lZ) (N:=["_law_script","_law_flow_here","_law_n","_law_ring_here","_law_due","_law_other","_law_one","_law_letters_here"]) (ix:=[3]) (by decide +kernel) rfl rfl rfl (iC (K:=K) rfl (wF G_za (hr.mono (by decide)) (by rfl) m_za k_za b_za .nil aR)) (fun _ _ _=>bR) (fun _ _ _=>(aJ G_zu (hr.mono (by decide)) (by rfl) m_zu k_zu b_zu .nil aR (aA (aJ G_zf (hr.mono (by decide)) (by rfl) m_zf k_zf b_zf .nil aR (aA (pv 0) (aA (pv 1) aC))) aC)))) aC)))
   (aD (aQ (i:=5) sc_law.nd rfl (Or.inl rfl) (aJ G_zu (hr.mono (by decide)) (by rfl) m_zu k_zu b_zu .nil aR (aA (aJ G_zf (hr.mono (by decide)) (by rfl) m_zf k_zf b_zf .nil aR (aA (aJ G_zj (hr.mono (by decide)) (by rfl) m_zj k_zj b_zj .nil aR (aA (pv 1) (aA (pv 2) aC))) (aA (pv 3) aC))) aC)))
   (aD (dR (pw_or (aT mR (aJ G_zz (hr.mono (by decide)) (by rfl) m_zz k_zz b_zz .nil aR (aA (pv 3) aC)) (pv 4) (bG _)) (pw_or (aT mR (aJ G_zz (hr.mono (by decide)) (by rfl) m_zz k_zz b_zz .nil aR (aA (pv 5) aC)) (pv 4) (bG _)) (pw_or1 (aT mR (aJ G_zz (hr.mono (by decide)) (by rfl) m_zz k_zz b_zz .nil aR (aA (pv 4) aC)) (pv 4) (bG _))))).pt (aH (aV mL)) cS)
   (aD (dD p4 rfl (hX (K:=K) rfl (eZ (aA (pv 3) (aA (pv 5) (aA (pv 3) aC))))) (cB (i:=6) sc_law.nd rfl (Or.inl rfl)) (aD (aQ (i:=7) sc_law.nd rfl (Or.inl rfl) (aJ G_zb (hr.mono (by decide)) (by rfl) m_zb k_zb b_zb .nil aR (aA (pv 2) (aA (pv 6) aC))))
   (aD (dR (pw_or (AS (qV (bB (uT (K:=K) rfl) (by rfl) T.b_isinstance boot_isinstance (aA (pv 7) (aA (CI (by rfl) T.b_tuple boot_tuple) aC))))) (pw_or1 (aT mR (bB (cE (K:=K) rfl) (by rfl) T.b_len p6 (aA (pv 7) aC)) (pv 2) (bG _)))).pt (aH (aV mL)) cS)
   (aD (dR (aT (Af (K:=K) rfl hr.units0) (bB (qP (K:=K) rfl) (by rfl) T.b_sorted boot_sorted (aA (bT (sc0:=aF lZ) (N:=["_law_script","_law_flow_here","_law_n","_law_ring_here","_law_due","_law_other","_law_one","_law_letters_here"]) (ix:=[]) (by decide +kernel) rfl rfl rfl (hX (K:=K) rfl (pv 7)) (fun _ _ _=>bR) (fun _ _ _=>(cY (K:=K) rfl l3 aQc aQd kH (pv 0)))) aC)) (bY (fB rfl) (by rfl) T.b_list boot_list (aA (cJ eJ cH dJ (cA (pv 2))) aC)) (bG _)) (aH (aV mL)) cS)
   (aH (dR (aT mR (aJ G_zu (hr.mono (by decide)) (by rfl) m_zu k_zu b_zu .nil aR (aA (aJ G_zf (hr.mono (by decide)) (by rfl) m_zf k_zf b_zf .nil aR (aA (pv 7) (aA (pv 6) aC))) aC)) (pv 4) (bG _)) (aH (aV mL)) cS))))))
   (aH (aV (zT iU (aJ G_zz (hr.mono (by decide)) (by rfl) m_zz k_zz b_zz .nil aR (aA (pv 3) aC)) (pv 4) (bG _))))))))))),?_⟩
  refine⟨_,rfl,a,ns,rfl,hs,hl,fun fl sc H1 hfl s1 f1=>?_⟩
  have t1:dH (tbs P1) H1:=(SameT.of s1).tabs hT
  refine⟨_,rfl,fl,sc,4,rfl,f1,by decide,by decide,fun d H2 d0 d1 f2 k2=>⟨_,_,rfl,rfl,?_⟩⟩
  obtain⟨n,hn⟩:∃ n:Nat,1+d=(n:Int):=⟨(1+d).toNat,by omega⟩
  have hd:V.int (1+d)=V.int (n:Nat):=by rw[← hn]
  rw[hd]
  have n1:1≤n:=by omega
  have n4:n≤4:=by omega
  have t2:=mX f1 k2 t1
  refine⟨_,rfl,_,rfl,fl,sc,n,rfl,f2,n1,n4,fun w H3 ow pw wl f3 k3=>?_⟩
  have t3:=mX f2 k3 t2
  refine⟨w,rfl,ow.all,by omega,fun r H4 hr s4=>?_⟩
  have f4:=f3.same s4
  have t4:dH (tbs P1) H4:=(SameT.of s4).tabs t3
  have rl:=hr.len
  have rg:RgN n r:=⟨w,ow,pw,hr⟩
  have rg4:=rg.four n1 n4
  have ro4:=rg4.ofn
  have rll:r.length≤10:=by omega
  refine⟨rfl,fun l ps H5 s5 el hps hall hpl=>⟨l,rfl,⟨_,SqL.of el⟩,fun Dd hD=>?_⟩⟩
  refine fQ (K:=K) (a:=l) (xs:=ps.map fun p=>V.ref p.1) (fun j H6=>Same H5 H6∧∃ ws:List (List Nat),H6 Dd=some (.lst (dS ws))∧ws.length=j∧(∀ x∈ws,AllL x∧x.length=r.length)∧∀ (i:Nat) (x:List Nat) (p:Addr×List Nat),ws[i]?=some x→ps[i]?=some p→RingR (r.map (gX p.2)) x) ⟨Same.new hD,[],aB,rfl,(fun x hx=>nomatch hx),fun i x p h=>by simp at h⟩ (fun j H6 _ pr=>SqL.of (pr.1 _ _ el)) ?_ ?_
  ·rintro j v H6 hv ⟨s6,ws,e6,hwl,hw1,hw2⟩
   rw[f6] at hv
   obtain⟨pr,hpr,rfl⟩:=m8.mp hv
   have hj:j<ps.length:=(c5.mp hpr).1
   have hpm:=d7 hpr
   have ex:=(hall pr.2).mpr ⟨pr,hpm,rfl⟩
   refine⟨_,rfl,_,rfl,pr.1,pr.2,4,r,rfl,SqT.of (s6 _ _ (hps pr hpm)),ex,by decide,by decide,ro4,by omega,fun H7 s7=>⟨_,rfl,dQ (by decide) (by decide) ex ro4,by rw[c6];omega,fun q H8 hq s8=>?_⟩⟩
   have hql:=(eF (by decide) (by decide) ex rg4 hq).1
   refine⟨_,s8 _ _ (s7 _ _ e6),by rw[eI];exact k0 (show _<100000 by omega) (aK (c8 _)),((s6.trans s7).trans s8).upd hD,ws++[q],by rw[aB];unfold dS;rw[i6];rfl,by rw[g9,hwl];rfl,fun x hx=>?_,fun i x p hx hp=>?_⟩
   ·rcases j8.mp hx with z | z
    ·exact hw1 x z
    ·rw[c9.mp z];exact⟨dI (dQ (by decide) (by decide) ex ro4) hq,hql⟩
   ·by_cases hi:i<ws.length
    ·rw[t6 hi] at hx
     exact hw2 i x p hx hp
    ·have ei:i=ws.length:=by
      have:=(c5.mp hx).1
      rw[g9,y6] at this
      omega
     subst ei
     rw[hwl,hpr] at hp
     cases hp
     have:q=x:=by simpa using hx
     subst this
     exact hq
  rintro H6 ⟨s6,ws,e6,hwl,hw1,hw2⟩
  rw[c6] at hwl
  have hne:ws≠[]:=fun z=>by
   obtain⟨q,hq,_⟩:=(hall _).mp uJ
   rw[z] at hwl
   rw[l8.mp hwl.symm] at hq
   cases hq
  refine oR (ws:=ws) (L:=r.length) e6 hne hw1 (by omega) fun dd H7 hdd hmin s7=>?_
  have hF:=pC ro4 hwl hall hw2 hdd hmin
  have ddl:dd.length=r.length:=(hw1 dd hdd).2
  clear hw1 hw2 hmin hdd hne hwl
  have s47:=(s5.trans s6).trans s7
  have f7:=f4.same s47
  have t7:dH (tbs P1) H7:=(SameT.of s47).tabs t4
  refine⟨_,rfl,_,rfl,fl,sc,n,rfl,f7,n1,n4,fun p cs H8 hp ex rt rto ep f8 k8=>⟨_,rfl,p,cs,n,r,rfl,by rw[← gH];exact SqT.of ep,ex,n1,n4,rg.ofn,by omega,fun H9 s9=>⟨_,rfl,dQ n1 n4 ex rg.ofn,by rw[c6];omega,fun o H10 ho s10=>?_⟩⟩⟩
  have t10:dH (tbs P1) H10:=(SameT.of (s9.trans s10)).tabs (mX f7 k8 t7)
  have og:RgN n o:=rg.exn n1 n4 ex ho
  have og4:=og.four n1 n4
  have hol:=(eF n1 n4 ex rg ho).1
  have ho':RingR (r.map (gX (ext4 n cs))) o:=by rw[oN n1 n4 ex rg.ofn];exact ho
  have oF:=(pR rg4 (ex.ext4 n1 n4) ho').mp hF
  have dF:=uR rg4 hF
  obtain⟨ce,e4,re4⟩:=hF.1
  have dg4:RgN 4 dd:=rg4.ex e4 re4
  refine⟨_,rfl,r,rfl,rg4,by omega,t10,fun d1 H11 s11 q1=>?_⟩
  obtain rfl:=IsForm.inj ro4 q1 hF
  refine⟨_,rfl,rfl,_,rfl,kU (by rw[decide_eq_true rfl];rfl) ?_⟩
  refine⟨_,rfl,o,rfl,og4,by omega,s11.tabs t10,fun d2 H12 s12 q2=>?_⟩
  obtain rfl:=IsForm.inj og4.ofn q2 oF
  refine⟨_,rfl,rfl,_,rfl,kU (by rw[decide_eq_true rfl];rfl) ?_⟩
  refine⟨_,rfl,d2,rfl,dg4,by omega,s12.tabs (s11.tabs t10),fun d3 H13 s13 q3=>?_⟩
  obtain rfl:=IsForm.inj dg4.ofn q3 dF
  refine⟨_,rfl,rfl,_,rfl,kU (by rw[decide_eq_true rfl];rfl) ?_⟩
  have t13:=s13.tabs (s12.tabs (s11.tabs t10))
  refine⟨_,rfl,_,rfl,_,rfl,aK (by simp),fun t ht=>⟨t,rfl,⟨_,SqT.of aB⟩,?_⟩⟩
  have et:upd H13 t (.tup [.str (S r),.str (S o),.str (S r)]) t=some (.tup (dS [r,o,r])):=aB
  have t14:dH (tbs P1) (upd H13 t (.tup [.str (S r),.str (S o),.str (S r)])):=(SameT.of (Same.new ht)).tabs t13
  generalize upd H13 t (.tup [.str (S r),.str (S o),.str (S r)])=H14 at et t14 ⊢
  have hys:∀ y∈[r,o,r],RgN n y∧y.length≤10∧IsForm y d3:=fun y hy=>by
   rcases d9.mp hy with rfl | hy
   ·exact⟨rg,rll,hF⟩
   rcases d9.mp hy with rfl | hy
   ·exact⟨og,by omega,oF⟩
   rw[c9.mp hy]
   exact⟨rg,rll,hF⟩
  refine zV (K:=K) (a:=t) (xs:=dS [r,o,r]) (fun i σ G=>∃ v6 v7:Option V,σ=[some (.ref a),some (.ref fl),some (.int (n:Nat)),some (.str (S r)),some (.str (S d3)),some (.str (S o)),v6,v7]∧SameT (tbs P1) H14 G) ⟨none,none,rfl,SameT.refl⟩ (fun i σ G _ ⟨_,_,_,s⟩=>SqT.of (s.tup et)) ?_ ?_
  ·rintro i v _ G hv ⟨v6,v7,rfl,sG⟩
   obtain⟨y,hy,rfl⟩:=jI hv
   obtain⟨yg,yl,yF⟩:=hys y (d7 hy)
   have yo:=yg.ofn
   refine⟨_,rfl,_,rfl,n,y,rfl,n1,n4,yg,by omega,sG.tabs t14,fun p cs q G1 s1' e1' ex' hq hqF=>?_⟩
   obtain rfl:=IsForm.inj (yg.four n1 n4).ofn hqF yF
   have sT:=sG.trans s1'
   refine⟨_,rfl,_,_,.tup (SqT.of e1'),.inl ⟨"tuple",rfl,by decide,_,rfl,kU rfl ?_⟩⟩
   refine⟨_,rfl,p,_,rfl,.inr (SqT.of e1'),_,rfl,rfl,_,rfl,kU (by rw[aP,ex'.len,decide_eq_true rfl];rfl) ?_⟩
   refine⟨_,rfl,p,rfl,⟨_,SqT.of e1'⟩,fun D2 hD2=>?_⟩
   refine fF (K:=K) (a:=p) (xs:=aO cs) (fun j G2=>Same G1 G2∧G2 D2=some (.lst (aO ((cs.take j).map lo)))) ⟨Same.new hD2,aB⟩ (fun j G2 _ pr=>SqT.of (pr.1 _ _ e1')) ?_ ?_
   ·rintro j v G2 hv2 ⟨s2',e2'⟩
    obtain⟨c,hc,rfl⟩:∃ c,cs[j]?=some c∧v=.str (S [c]):=by
     unfold aO at hv2
     rw[f6] at hv2
     obtain⟨c,q1,q2⟩:=m8.mp hv2
     exact⟨c,q1,q2.symm⟩
    have hj:j<cs.length:=(c5.mp hc).1
    have hcl:=ex'.len
    have hcL:AllL [c]:=sF (aE (ex'.mem c (d7 hc)))
    refine⟨_,rfl,rfl,S [c],rfl,rfl,mI [c] hcL (by simp),?_⟩
    rw[gE hcL]
    refine⟨_,e2',by rw[aP,c6,k9];exact aU (by omega),s2'.upd hD2,?_⟩
    rw[aB,bN hc,i6]
    unfold aO
    rw[i6]
    rfl
   rintro G2 ⟨s2',e2'⟩
   rw[aP,p9] at e2'
   refine⟨D2,(cs.map lo).map fun c=>S [c],rfl,by rw[← fC];exact SqL.of e2',by rw[c6,c6,ex'.len];omega,fun p3 ss hp3 hperm hsort=>?_⟩
   have hss:ss=(aS n).map fun c=>S [c]:=pX n1 n4 (hperm.trans (ex'.perm.map _)) hsort
   subst hss
   rw[← fC]
   have s3':Same G2 (upd G2 p3 (.lst (aO (aS n)))):=Same.new hp3
   have e3':upd G2 p3 (.lst (aO (aS n))) p3=some (.lst (aO (aS n))):=aB
   generalize upd G2 p3 (.lst (aO (aS n)))=G3 at s3' e3' ⊢
   refine⟨_,rfl,_,rfl,_,rfl,by decide +kernel,aS n,?_,?_,fun l4 hl4=>?_⟩
   ·show [V.str (Txt.slice (Str.ofString "abcd") none (some ((n:Nat):Int)))]=_
    rw[rQ,dA _ (by omega) (by simp;omega)]
    rfl
   ·rw[cQ n4];omega
   have s4':Same G3 (upd G3 l4 (.lst ((aS n).map fun c=>V.str (S [c])))):=Same.new hl4
   have e4':upd G3 l4 (.lst ((aS n).map fun c=>V.str (S [c]))) l4=some (.lst (aO (aS n))):=aB
   generalize upd G3 l4 (.lst ((aS n).map fun c=>V.str (S [c])))=G4 at s4' e4' ⊢
   refine⟨p3,l4,_,_,rfl,rfl,.inl ⟨SqL.of (s4' _ _ e3'),SqL.of e4'⟩,dO _,dO _,_,rfl,kU (by rw[if_pos rfl,← jJ,xK,decide_eq_true rfl];rfl) ?_⟩
   have s14:=(s2'.trans s3').trans s4'
   refine⟨_,rfl,_,rfl,p,cs,n,y,rfl,SqT.of (s14 _ _ e1'),ex',n1,n4,yo,by omega,fun G5 s5'=>⟨_,rfl,dQ n1 n4 ex' yo,by rw[c6];omega,fun q' G6 hq' s6'=>?_⟩⟩
   obtain rfl:=RingR.inj (dQ n1 n4 ex' yo) hq' hq
   exact⟨_,rfl,rfl,_,rfl,kU (by rw[decide_eq_true rfl];rfl) ⟨_,_,rfl,sT.trans (.of ((s14.trans s5').trans s6'))⟩⟩
  ·rintro _ G ⟨v6,v7,rfl,sG⟩
   refine⟨_,rfl,r,rfl,rg4,by omega,sG.tabs t14,fun d4 G1 s1' q4=>?_⟩
   obtain rfl:=IsForm.inj ro4 q4 hF
   refine⟨_,rfl,rfl,?_⟩
   rw[decide_eq_true rfl]
   exact k G1
end
theorem all_mk{l:PySem.W.OpenLaw}{w:World}{K:b9}{h:Heap}{mg:Str→Option Value}{fa:Addr}(X:K.In h)(G:h.Ns mainGlobals mg)(hfa:mg "law"=some (.ref fa))
  {f_0 f_1 f_2 f_3 f_4 f_5 f_6 f_7 f_8 f_9 f_10 f_11 f_12 f_13 f_14 f_15 f_16 f_17 f_18 f_19 f_20 f_21 f_22 f_23 f_24 f_25 f_26 f_27 f_28 f_29 f_30 D_ Ea D9 Eb:Addr}
  {od_0 an_0 od_1 an_1 od_2 an_2 od_3 an_3 od_4 an_4 od_5 an_5 od_6 an_6 od_7 an_7 od_8 an_8 od_9 an_9 od_10 an_10 od_11 an_11 od_12 an_12 od_13 an_13 od_14 an_14 od_15 an_15 od_16 an_16 od_17 an_17 od_18 an_18 od_19 an_19 od_20 an_20 od_21 an_21 od_22 an_22 od_23 an_23 od_24 an_24 od_25 an_25 od_26 an_26 od_27 an_27 od_28 an_28 od_29 an_29 od_30 an_30:Option Addr} {sl_0 sl_1 sl_2 sl_3 sl_4 sl_5 sl_6 sl_7 sl_8 sl_9 sl_10 sl_11 sl_12 sl_13 sl_14 sl_15 sl_16 sl_17 sl_18 sl_19 sl_20 sl_21 sl_22 sl_23 sl_24 sl_25 sl_26 sl_27 sl_28 sl_29 sl_30:Array (Option Value)} {oc_0 kV_0 dc_0 pm_0 cd_0 ct_0 oc_1 kV_1 dc_1 pm_1 cd_1 ct_1 oc_2 kV_2 dc_2 pm_2 cd_2 ct_2 oc_3 kV_3 dc_3 pm_3 cd_3 ct_3 oc_4 kV_4 dc_4 pm_4 cd_4 ct_4 oc_5 kV_5 dc_5 pm_5 cd_5 ct_5 oc_6 kV_6 dc_6 pm_6 cd_6 ct_6 oc_7 kV_7 dc_7 pm_7 cd_7 ct_7 oc_8 kV_8 dc_8 pm_8 cd_8 ct_8 oc_9 kV_9 dc_9 pm_9 cd_9 ct_9 oc_10 kV_10 dc_10 pm_10 cd_10 ct_10 oc_11 kV_11 dc_11 pm_11 cd_11 ct_11 oc_12 kV_12 dc_12 pm_12 cd_12 ct_12 oc_13 kV_13 dc_13 pm_13 cd_13 ct_13 oc_14 kV_14 dc_14 pm_14 cd_14 ct_14 oc_15 kV_15 dc_15 pm_15 cd_15 ct_15 oc_16 kV_16 dc_16 pm_16 cd_16 ct_16 oc_17 kV_17 dc_17 pm_17 cd_17 ct_17 oc_18 kV_18 dc_18 pm_18 cd_18 ct_18 oc_19 kV_19 dc_19 pm_19 cd_19 ct_19 oc_20 kV_20 dc_20 pm_20 cd_20 ct_20 oc_21 kV_21 dc_21 pm_21 cd_21 ct_21 oc_22 kV_22 dc_22 pm_22 cd_22 ct_22 oc_23 kV_23 dc_23 pm_23 cd_23 ct_23 oc_24 kV_24 dc_24 pm_24 cd_24 ct_24 oc_25 kV_25 dc_25 pm_25 cd_25 ct_25 oc_26 kV_26 dc_26 pm_26 cd_26 ct_26 oc_27 kV_27 dc_27 pm_27 cd_27 ct_27 oc_28 kV_28 dc_28 pm_28 cd_28 ct_28 oc_29 kV_29 dc_29 pm_29 cd_29 ct_29 oc_30 kV_30 dc_30 pm_30 cd_30 ct_30:Value}
  (na_0:PySem.W.nsIn K mainGlobals "first_letters"=some (some (.ref f_0))) (nl_0:K.lookup f_0=some ⟨oc_0,od_0,.func (fR "first_letters" AU kV_0 dc_0 pm_0 an_0 cd_0 ct_0),sl_0⟩) (nc_0:PySem.W.codeIn K cd_0 "first_letters"=true) (nk_0:PySem.W.keepIn K (.ref f_0)=true)
  (na_1:PySem.W.nsIn K mainGlobals "contrary"=some (some (.ref f_1))) (nl_1:K.lookup f_1=some ⟨oc_1,od_1,.func (fR "contrary" Bv kV_1 dc_1 pm_1 an_1 cd_1 ct_1),sl_1⟩) (nc_1:PySem.W.codeIn K cd_1 "contrary"=true) (nk_1:PySem.W.keepIn K (.ref f_1)=true)
  (na_2:PySem.W.nsIn K mainGlobals "rank_of"=some (some (.ref f_2))) (nl_2:K.lookup f_2=some ⟨oc_2,od_2,.func (fR "rank_of" AY kV_2 dc_2 pm_2 an_2 cd_2 ct_2),sl_2⟩) (nc_2:PySem.W.codeIn K cd_2 "rank_of"=true) (nk_2:PySem.W.keepIn K (.ref f_2)=true)
  (na_3:PySem.W.nsIn K mainGlobals "ends_off"=some (some (.ref f_3))) (nl_3:K.lookup f_3=some ⟨oc_3,od_3,.func (fR "ends_off" A7 kV_3 dc_3 pm_3 an_3 cd_3 ct_3),sl_3⟩) (nc_3:PySem.W.codeIn K cd_3 "ends_off"=true) (nk_3:PySem.W.keepIn K (.ref f_3)=true)
  (na_4:PySem.W.nsIn K mainGlobals "least_begin"=some (some (.ref f_4))) (nl_4:K.lookup f_4=some ⟨oc_4,od_4,.func (fR "least_begin" yL kV_4 dc_4 pm_4 an_4 cd_4 ct_4),sl_4⟩) (nc_4:PySem.W.codeIn K cd_4 "least_begin"=true) (nk_4:PySem.W.keepIn K (.ref f_4)=true)
  (na_5:PySem.W.nsIn K mainGlobals "ring_of"=some (some (.ref f_5))) (nl_5:K.lookup f_5=some ⟨oc_5,od_5,.func (fR "ring_of" A5 kV_5 dc_5 pm_5 an_5 cd_5 ct_5),sl_5⟩) (nc_5:PySem.W.codeIn K cd_5 "ring_of"=true) (nk_5:PySem.W.keepIn K (.ref f_5)=true)
  (na_6:PySem.W.nsIn K mainGlobals "laid_out"=some (some (.ref f_6))) (nl_6:K.lookup f_6=some ⟨oc_6,od_6,.func (fR "laid_out" BA kV_6 dc_6 pm_6 an_6 cd_6 ct_6),sl_6⟩) (nc_6:PySem.W.codeIn K cd_6 "laid_out"=true) (nk_6:PySem.W.keepIn K (.ref f_6)=true)
  (na_7:PySem.W.nsIn K mainGlobals "turned_back"=some (some (.ref f_7))) (nl_7:K.lookup f_7=some ⟨oc_7,od_7,.func (fR "turned_back" zA kV_7 dc_7 pm_7 an_7 cd_7 ct_7),sl_7⟩) (nc_7:PySem.W.codeIn K cd_7 "turned_back"=true) (nk_7:PySem.W.keepIn K (.ref f_7)=true)
  (na_8:PySem.W.nsIn K mainGlobals "order_key"=some (some (.ref f_8))) (nl_8:K.lookup f_8=some ⟨oc_8,od_8,.func (fR "order_key" Ad kV_8 dc_8 pm_8 an_8 cd_8 ct_8),sl_8⟩) (nc_8:PySem.W.codeIn K cd_8 "order_key"=true) (nk_8:PySem.W.keepIn K (.ref f_8)=true)
  (na_9:PySem.W.nsIn K mainGlobals "words_by_letter"=some (some (.ref f_9))) (nl_9:K.lookup f_9=some ⟨oc_9,od_9,.func (fR "words_by_letter" AI kV_9 dc_9 pm_9 an_9 cd_9 ct_9),sl_9⟩) (nc_9:PySem.W.codeIn K cd_9 "words_by_letter"=true) (nk_9:PySem.W.keepIn K (.ref f_9)=true)
  (na_10:PySem.W.nsIn K mainGlobals "retold"=some (some (.ref f_10))) (nl_10:K.lookup f_10=some ⟨oc_10,od_10,.func (fR "retold" yZ kV_10 dc_10 pm_10 an_10 cd_10 ct_10),sl_10⟩) (nc_10:PySem.W.codeIn K cd_10 "retold"=true) (nk_10:PySem.W.keepIn K (.ref f_10)=true)
  (na_11:PySem.W.nsIn K mainGlobals "ring_retold"=some (some (.ref f_11))) (nl_11:K.lookup f_11=some ⟨oc_11,od_11,.func (fR "ring_retold" AV kV_11 dc_11 pm_11 an_11 cd_11 ct_11),sl_11⟩) (nc_11:PySem.W.codeIn K cd_11 "ring_retold"=true) (nk_11:PySem.W.keepIn K (.ref f_11)=true)
  (na_12:PySem.W.nsIn K mainGlobals "orders_round"=some (some (.ref f_12))) (nl_12:K.lookup f_12=some ⟨oc_12,od_12,.func (fR "orders_round" zI kV_12 dc_12 pm_12 an_12 cd_12 ct_12),sl_12⟩) (nc_12:PySem.W.codeIn K cd_12 "orders_round"=true) (nk_12:PySem.W.keepIn K (.ref f_12)=true)
  (na_13:PySem.W.nsIn K mainGlobals "exchange_from"=some (some (.ref f_13))) (nl_13:K.lookup f_13=some ⟨oc_13,od_13,.func (fR "exchange_from" uS kV_13 dc_13 pm_13 an_13 cd_13 ct_13),sl_13⟩) (nc_13:PySem.W.codeIn K cd_13 "exchange_from"=true) (nk_13:PySem.W.keepIn K (.ref f_13)=true)
  (na_14:PySem.W.nsIn K mainGlobals "letters_to_form"=some (some (.ref f_14))) (nl_14:K.lookup f_14=some ⟨oc_14,od_14,.func (fR "letters_to_form" oQ kV_14 dc_14 pm_14 an_14 cd_14 ct_14),sl_14⟩) (nc_14:PySem.W.codeIn K cd_14 "letters_to_form"=true) (nk_14:PySem.W.keepIn K (.ref f_14)=true)
  (na_15:PySem.W.nsIn K mainGlobals "form_of"=some (some (.ref f_15))) (nl_15:K.lookup f_15=some ⟨oc_15,od_15,.func (fR "form_of" AZ kV_15 dc_15 pm_15 an_15 cd_15 ct_15),sl_15⟩) (nc_15:PySem.W.codeIn K cd_15 "form_of"=true) (nk_15:PySem.W.keepIn K (.ref f_15)=true)
  (na_16:PySem.W.nsIn K mainGlobals "_law_flow"=some (some (.ref f_16))) (nl_16:K.lookup f_16=some ⟨oc_16,od_16,.func (fR "_law_flow" Bp kV_16 dc_16 pm_16 an_16 cd_16 ct_16),sl_16⟩) (nc_16:PySem.W.codeIn K cd_16 "_law_flow"=true) (nk_16:PySem.W.keepIn K (.ref f_16)=true)
  (na_17:PySem.W.nsIn K mainGlobals "_law_pick"=some (some (.ref f_17))) (nl_17:K.lookup f_17=some ⟨oc_17,od_17,.func (fR "_law_pick" AX kV_17 dc_17 pm_17 an_17 cd_17 ct_17),sl_17⟩) (nc_17:PySem.W.codeIn K cd_17 "_law_pick"=true) (nk_17:PySem.W.keepIn K (.ref f_17)=true)
  (na_18:PySem.W.nsIn K mainGlobals "_law_letters"=some (some (.ref f_18))) (nl_18:K.lookup f_18=some ⟨oc_18,od_18,.func (fR "_law_letters" Bj kV_18 dc_18 pm_18 an_18 cd_18 ct_18),sl_18⟩) (nc_18:PySem.W.codeIn K cd_18 "_law_letters"=true) (nk_18:PySem.W.keepIn K (.ref f_18)=true)
  (na_19:PySem.W.nsIn K mainGlobals "_law_contrary"=some (some (.ref f_19))) (nl_19:K.lookup f_19=some ⟨oc_19,od_19,.func (fR "_law_contrary" AT kV_19 dc_19 pm_19 an_19 cd_19 ct_19),sl_19⟩) (nc_19:PySem.W.codeIn K cd_19 "_law_contrary"=true) (nk_19:PySem.W.keepIn K (.ref f_19)=true)
  (na_20:PySem.W.nsIn K mainGlobals "_law_key"=some (some (.ref f_20))) (nl_20:K.lookup f_20=some ⟨oc_20,od_20,.func (fR "_law_key" zE kV_20 dc_20 pm_20 an_20 cd_20 ct_20),sl_20⟩) (nc_20:PySem.W.codeIn K cd_20 "_law_key"=true) (nk_20:PySem.W.keepIn K (.ref f_20)=true)
  (na_21:PySem.W.nsIn K mainGlobals "_law_back"=some (some (.ref f_21))) (nl_21:K.lookup f_21=some ⟨oc_21,od_21,.func (fR "_law_back" zZ kV_21 dc_21 pm_21 an_21 cd_21 ct_21),sl_21⟩) (nc_21:PySem.W.codeIn K cd_21 "_law_back"=true) (nk_21:PySem.W.keepIn K (.ref f_21)=true)
  (na_22:PySem.W.nsIn K mainGlobals "_law_laid"=some (some (.ref f_22))) (nl_22:K.lookup f_22=some ⟨oc_22,od_22,.func (fR "_law_laid" A0 kV_22 dc_22 pm_22 an_22 cd_22 ct_22),sl_22⟩) (nc_22:PySem.W.codeIn K cd_22 "_law_laid"=true) (nk_22:PySem.W.keepIn K (.ref f_22)=true)
  (na_23:PySem.W.nsIn K mainGlobals "_law_word"=some (some (.ref f_23))) (nl_23:K.lookup f_23=some ⟨oc_23,od_23,.func (fR "_law_word" Aq kV_23 dc_23 pm_23 an_23 cd_23 ct_23),sl_23⟩) (nc_23:PySem.W.codeIn K cd_23 "_law_word"=true) (nk_23:PySem.W.keepIn K (.ref f_23)=true)
  (na_24:PySem.W.nsIn K mainGlobals "_law_ring"=some (some (.ref f_24))) (nl_24:K.lookup f_24=some ⟨oc_24,od_24,.func (fR "_law_ring" zJ kV_24 dc_24 pm_24 an_24 cd_24 ct_24),sl_24⟩) (nc_24:PySem.W.codeIn K cd_24 "_law_ring"=true) (nk_24:PySem.W.keepIn K (.ref f_24)=true)
  (na_25:PySem.W.nsIn K mainGlobals "_law_retold"=some (some (.ref f_25))) (nl_25:K.lookup f_25=some ⟨oc_25,od_25,.func (fR "_law_retold" Bz kV_25 dc_25 pm_25 an_25 cd_25 ct_25),sl_25⟩) (nc_25:PySem.W.codeIn K cd_25 "_law_retold"=true) (nk_25:PySem.W.keepIn K (.ref f_25)=true)
  (na_26:PySem.W.nsIn K mainGlobals "_law_exchange"=some (some (.ref f_26))) (nl_26:K.lookup f_26=some ⟨oc_26,od_26,.func (fR "_law_exchange" Bq kV_26 dc_26 pm_26 an_26 cd_26 ct_26),sl_26⟩) (nc_26:PySem.W.codeIn K cd_26 "_law_exchange"=true) (nk_26:PySem.W.keepIn K (.ref f_26)=true)
  (na_27:PySem.W.nsIn K mainGlobals "_law_stage_word"=some (some (.ref f_27))) (nl_27:K.lookup f_27=some ⟨oc_27,od_27,.func (fR "_law_stage_word" Bn kV_27 dc_27 pm_27 an_27 cd_27 ct_27),sl_27⟩) (nc_27:PySem.W.codeIn K cd_27 "_law_stage_word"=true) (nk_27:PySem.W.keepIn K (.ref f_27)=true)
  (na_28:PySem.W.nsIn K mainGlobals "_law_all_exchanges"=some (some (.ref f_28))) (nl_28:K.lookup f_28=some ⟨oc_28,od_28,.func (fR "_law_all_exchanges" A9 kV_28 dc_28 pm_28 an_28 cd_28 ct_28),sl_28⟩) (nc_28:PySem.W.codeIn K cd_28 "_law_all_exchanges"=true) (nk_28:PySem.W.keepIn K (.ref f_28)=true)
  (na_29:PySem.W.nsIn K mainGlobals "_law_exchanged"=some (some (.ref f_29))) (nl_29:K.lookup f_29=some ⟨oc_29,od_29,.func (fR "_law_exchanged" At kV_29 dc_29 pm_29 an_29 cd_29 ct_29),sl_29⟩) (nc_29:PySem.W.codeIn K cd_29 "_law_exchanged"=true) (nk_29:PySem.W.keepIn K (.ref f_29)=true)
  (na_30:PySem.W.nsIn K mainGlobals "law"=some (some (.ref f_30))) (nl_30:K.lookup f_30=some ⟨oc_30,od_30,.func (fR "law" lZ kV_30 dc_30 pm_30 an_30 cd_30 ct_30),sl_30⟩) (nc_30:PySem.W.codeIn K cd_30 "law"=true) (nk_30:PySem.W.keepIn K (.ref f_30)=true)
  {cc_14 P1:Addr}
  (mc_14:cd_14=.ref cc_14) (mh_14:PySem.W.codeHdIn K cc_14 P1=true)
  (nb_dict:PySem.W.nsIn K mainGlobals "dict"=some none)
  (nb_enumerate:PySem.W.nsIn K mainGlobals "enumerate"=some none)
  (nb_isinstance:PySem.W.nsIn K mainGlobals "isinstance"=some none)
  (nb_len:PySem.W.nsIn K mainGlobals "len"=some none)
  (nb_list:PySem.W.nsIn K mainGlobals "list"=some none)
  (nb_max:PySem.W.nsIn K mainGlobals "max"=some none)
  (nb_min:PySem.W.nsIn K mainGlobals "min"=some none)
  (nb_range:PySem.W.nsIn K mainGlobals "range"=some none)
  (nb_reversed:PySem.W.nsIn K mainGlobals "reversed"=some none)
  (nb_sorted:PySem.W.nsIn K mainGlobals "sorted"=some none)
  (nb_tuple:PySem.W.nsIn K mainGlobals "tuple"=some none)
  (nb_zip:PySem.W.nsIn K mainGlobals "zip"=some none)
  (nm_CONTRARIES:PySem.W.nsIn K mainGlobals "CONTRARIES"=some (some (.ref D_)))
  (nt_CONTRARIES:KTD.tabLook KTD.flatLooks (fun b=>K.lookup b) D_ conTab_rows=true) (nh_CONTRARIES:KTD.hashesOf (fun b=>K.lookup b) D_=conTab_rows.map fun p=>(PySem.strKind l.prog w).hash p.1)
  (nm_LETTERS:PySem.W.nsIn K mainGlobals "LETTERS"=some (some (.ref Ea)))
  {i_LETTERS:Array Value} {n_LETTERS:Nat} (nt_LETTERS:K.lookup Ea=some ⟨.type "tuple",none,.seq i_LETTERS n_LETTERS,#[]⟩) (nv_LETTERS:Vals letV i_LETTERS.toList)
  {t_MOST_LETTERS:Tok} (nm_MOST_LETTERS:PySem.W.nsIn K mainGlobals "MOST_LETTERS"=some (some (.int 4 t_MOST_LETTERS)))
  (nm_RANKS:PySem.W.nsIn K mainGlobals "RANKS"=some (some (.ref Eb)))
  (nt_RANKS:KTD.tabLook KTD.flatLooks (fun b=>K.lookup b) Eb rankTab_rows=true) (nh_RANKS:KTD.hashesOf (fun b=>K.lookup b) Eb=rankTab_rows.map fun p=>(PySem.strKind l.prog w).hash p.1)
  : ∃ fd:FuncData,(∀ (s:Shared) (v:Value),BindsTo s fd ⟨[v],[]⟩ [("_law_script",v)])∧∀ base:Heap,K.In base→base.Ns mainGlobals mg→BM base mg→FnOk l.prog w K mg base qF 40 fa fd ["_law_script"] (spLawT K (tbs P1)):=by
 have e:=hfa.symm.trans (i8 X G na_30)
 have e2:f_30=fa:=by cases e;rfl
 subst e2
 have T:Txt l.prog w K mg D_ Ea D9 Eb:=⟨p5 X G nb_dict,p5 X G nb_enumerate,p5 X G nb_isinstance,p5 X G nb_len,p5 X G nb_list,p5 X G nb_max,p5 X G nb_min,p5 X G nb_range,p5 X G nb_reversed,p5 X G nb_sorted,p5 X G nb_tuple,p5 X G nb_zip,i8 X G nm_CONTRARIES,fun h x=>aXq l.prog w x nt_CONTRARIES (by decide +kernel) nh_CONTRARIES,i8 X G nm_LETTERS,fun H=>.inr ⟨_,_,_,nt_LETTERS,rfl,rfl,Ah nv_LETTERS (by decide),nv_LETTERS⟩,⟨_,i8 X G nm_MOST_LETTERS⟩,i8 X G nm_RANKS,fun h x=>aXq l.prog w x nt_RANKS (by decide +kernel) nh_RANKS⟩
 have D_0:=gT (ps:=["n"]) nl_0 nc_0 nk_0 (i8 X G na_0) (fun _ _ _ _ _ _ u h=>match u,h with | [_],_=>rfl)
 have D_1:=gT (ps:=["letter"]) nl_1 nc_1 nk_1 (i8 X G na_1) (fun _ _ _ _ _ _ u h=>match u,h with | [_],_=>rfl)
 have D_2:=gT (ps:=["letter"]) nl_2 nc_2 nk_2 (i8 X G na_2) (fun _ _ _ _ _ _ u h=>match u,h with | [_],_=>rfl)
 have D_3:=gT (ps:=["word"]) nl_3 nc_3 nk_3 (i8 X G na_3) (fun _ _ _ _ _ _ u h=>match u,h with | [_],_=>rfl)
 have D_4:=gT (ps:=["word"]) nl_4 nc_4 nk_4 (i8 X G na_4) (fun _ _ _ _ _ _ u h=>match u,h with | [_],_=>rfl)
 have D_5:=gT (ps:=["word"]) nl_5 nc_5 nk_5 (i8 X G na_5) (fun _ _ _ _ _ _ u h=>match u,h with | [_],_=>rfl)
 have D_6:=gT (ps:=["text"]) nl_6 nc_6 nk_6 (i8 X G na_6) (fun _ _ _ _ _ _ u h=>match u,h with | [_],_=>rfl)
 have D_7:=gT (ps:=["word"]) nl_7 nc_7 nk_7 (i8 X G na_7) (fun _ _ _ _ _ _ u h=>match u,h with | [_],_=>rfl)
 have D_8:=gT (ps:=["word"]) nl_8 nc_8 nk_8 (i8 X G na_8) (fun _ _ _ _ _ _ u h=>match u,h with | [_],_=>rfl)
 have D_9:=gT (ps:=["retelling"]) nl_9 nc_9 nk_9 (i8 X G na_9) (fun _ _ _ _ _ _ u h=>match u,h with | [_],_=>rfl)
 have D_10:=gT (ps:=["retelling","word"]) nl_10 nc_10 nk_10 (i8 X G na_10) (fun _ _ _ _ _ _ u h=>match u,h with | [_,_],_=>rfl)
 have D_11:=gT (ps:=["retelling","ring"]) nl_11 nc_11 nk_11 (i8 X G na_11) (fun _ _ _ _ _ _ u h=>match u,h with | [_,_],_=>rfl)
 have D_12:=gT (ps:=["ring"]) nl_12 nc_12 nk_12 (i8 X G na_12) (fun _ _ _ _ _ _ u h=>match u,h with | [_],_=>rfl)
 have D_13:=gT (ps:=["n","order"]) nl_13 nc_13 nk_13 (i8 X G na_13) (fun _ _ _ _ _ _ u h=>match u,h with | [_,_],_=>rfl)
 have D_14:=gT (ps:=["n","ring"]) nl_14 nc_14 nk_14 (i8 X G na_14) (fun _ _ _ _ _ _ u h=>match u,h with | [_,_],_=>rfl)
 have D_15:=gT (ps:=["ring"]) nl_15 nc_15 nk_15 (i8 X G na_15) (fun _ _ _ _ _ _ u h=>match u,h with | [_],_=>rfl)
 have D_16:=gT (ps:=["_law_script"]) nl_16 nc_16 nk_16 (i8 X G na_16) (fun _ _ _ _ _ _ u h=>match u,h with | [_],_=>rfl)
 have D_17:=gT (ps:=["_law_flow_here","_law_many"]) nl_17 nc_17 nk_17 (i8 X G na_17) (fun _ _ _ _ _ _ u h=>match u,h with | [_,_],_=>rfl)
 have D_18:=gT (ps:=["_law_n"]) nl_18 nc_18 nk_18 (i8 X G na_18) (fun _ _ _ _ _ _ u h=>match u,h with | [_],_=>rfl)
 have D_19:=gT (ps:=["_law_letter"]) nl_19 nc_19 nk_19 (i8 X G na_19) (fun _ _ _ _ _ _ u h=>match u,h with | [_],_=>rfl)
 have D_20:=gT (ps:=["_law_word_here"]) nl_20 nc_20 nk_20 (i8 X G na_20) (fun _ _ _ _ _ _ u h=>match u,h with | [_],_=>rfl)
 have D_21:=gT (ps:=["_law_word_here"]) nl_21 nc_21 nk_21 (i8 X G na_21) (fun _ _ _ _ _ _ u h=>match u,h with | [_],_=>rfl)
 have D_22:=gT (ps:=["_law_text"]) nl_22 nc_22 nk_22 (i8 X G na_22) (fun _ _ _ _ _ _ u h=>match u,h with | [_],_=>rfl)
 have D_23:=gT (ps:=["_law_flow_here","_law_n","_law_most"]) nl_23 nc_23 nk_23 (i8 X G na_23) (fun _ _ _ _ _ _ u h=>match u,h with | [_,_,_],_=>rfl)
 have D_24:=gT (ps:=["_law_word_here"]) nl_24 nc_24 nk_24 (i8 X G na_24) (fun _ _ _ _ _ _ u h=>match u,h with | [_],_=>rfl)
 have D_25:=gT (ps:=["_law_retelling","_law_word_here"]) nl_25 nc_25 nk_25 (i8 X G na_25) (fun _ _ _ _ _ _ u h=>match u,h with | [_,_],_=>rfl)
 have D_26:=gT (ps:=["_law_flow_here","_law_n"]) nl_26 nc_26 nk_26 (i8 X G na_26) (fun _ _ _ _ _ _ u h=>match u,h with | [_,_],_=>rfl)
 have D_27:=gT (ps:=["_law_flow_here","_law_n"]) nl_27 nc_27 nk_27 (i8 X G na_27) (fun _ _ _ _ _ _ u h=>match u,h with | [_,_],_=>rfl)
 have D_28:=gT (ps:=[]) nl_28 nc_28 nk_28 (i8 X G na_28) (fun _ _ _ _ _ _ u h=>match u,h with | [],_=>rfl)
 have D_29:=gT (ps:=["_law_letters_here","_law_word_here"]) nl_29 nc_29 nk_29 (i8 X G na_29) (fun _ _ _ _ _ _ u h=>match u,h with | [_,_],_=>rfl)
 have D_30:=gT (ps:=["_law_script"]) nl_30 nc_30 nk_30 (i8 X G na_30) (fun _ _ _ _ _ _ u h=>match u,h with | [_],_=>rfl)
 refine⟨fR "law" lZ kV_30 dc_30 pm_30 an_30 cd_30 ct_30,fun s v=>.of_eq rfl,fun base _ _ hB=>?_⟩
 have c_zq:=Cd (base:=base) D_16 T
 have c_zx:=BG (base:=base) D_17 T
 have c_zi:=CN (base:=base) D_19 T
 have c_zk:=Cb (base:=base) D_18 T
 have c_zr:=CO (base:=base) D_22 T c_zi
 have c_zw:=C0 (base:=base) D_23 T c_zx c_zk c_zi
 have c_zs:=B7 (base:=base) D_21 T c_zi
 have c_zy:=BP (base:=base) D_1 T
 have c_zv:=Ce (base:=base) D_6 T c_zy
 have c_zm:=CC (base:=base) D_7 T c_zy
 have c_z1:=C1 (base:=base) D_20 T
 have c_zu:=B1 (base:=base) D_24 T c_zi c_z1
 have c_zo:=B6 (base:=base) D_25 T c_zs c_zr
 have c_z0:=C3 (base:=base) D_2 T
 have c_zt:=Cj (base:=base) D_3 T c_zy
 have c_zn:=CA (base:=base) D_4 T c_z0
 have c_z2:=B_ (base:=base) D_5 T c_zt c_zn
 have c_zp:=B0 (base:=base) D_8 T c_z0
 have c_zg:=BT (base:=base) D_0 T
 have c_zc:=B2 (base:=base) D_9 T c_zg c_zy c_zm
 have c_z3:=BQ (base:=base) D_10 T c_zv c_zc
 have c_zl:=CF (base:=base) D_11 T c_z2 c_z3
 have c_zj:=CS (base:=base) D_26 T c_zx
 have c_zh:=Cc (base:=base) D_12 T c_zy
 have c_ze:=BW (base:=base) D_13 T c_zg c_zy c_zc
 have c_zf:=B5 (base:=base) D_29 T c_zi
 have c_za:=C4 (base:=base) D_28 T c_zi
 have c_zd:=Cr (base:=base) D_27 T c_zx c_zw c_zo c_zj
 have c_zb:=B4 (base:=base) D_14 T ⟨mc_14,mh_14⟩ hB (P1:=P1) c_zp c_zl c_zh c_ze
 have c_zz:=CT (base:=base) D_15 T c_zl c_zb
 exact FnOk.mono (k:=40) (Bk D_30 T c_zb c_zz c_zq c_zx c_z1 c_zu c_zj c_zd c_za c_zf) (by decide)
theorem walk{l:PySem.W.OpenLaw}{q:Program}{loose:List Str}{XP:(Str→Option Value)→Heap→Prop}{YP:World→Heap→Prop}{d:DefRec}{K:Params→b9}{CP1 P1:Addr}(hd:∀ t∈tbs P1,∀ t'∈tbs P1,t.P=t'.P→t=t')(hn:l.most=some 63)(hdf:d.params.defaults=[])
  (hY:∀ (w:World) (h:Heap),YP w h→(K w.params).In h) (hYt:∀ (w:World) (h:Heap),YP w h→∀ t∈([(CP1,P1)]:List (Addr×Addr)),h.get? t.2=some (PySem.W.tabObj #[])) (hts:∀ w:World,∀ t∈([(CP1,P1)]:List (Addr×Addr)),PySem.W.codeHdIn (K w.params) t.1 t.2=true∧(K w.params).lookup t.2=none)
  (F:∀ (w:World) (mg:Str→Option Value) (fa:Addr) (h:Heap),(K w.params).In h→h.Ns mainGlobals mg→mg d.name=some (.ref fa) →
   ∃ fd:FuncData,(∀ (s:Shared) (u:Value),BindsTo s fd ⟨[u],[]⟩ [("_law_script",u)])∧∀ base:Heap,(K w.params).In base→base.Ns mainGlobals mg→BM base mg→FnOk l.prog w (K w.params) mg base qF 40 fa fd ["_law_script"] (spLawT (K w.params) (tbs P1))) :
  PySem.W.WalkO q loose XP YP l.row.toRowW d [] (fun f vs=>PySem.call f vs) :=
 L2.walk_ofT (n:=63) (k:=40) (x:="_law_script") (sp:=fun w=>spLawT (K w.params) (tbs P1)) hn (by decide) hdf ⟨rfl,by decide,by decide⟩ hY hYt hts F (fun _ H a ns hl hT hS=>⟨a,ns,rfl,hS,hl,⟨hd,fun t ht=>.inl (by
  have ht:t∈[lamTb2 P1 "letters_to_form" oQ]:=ht
  simp only [d9,j9,or_false] at ht
  rcases ht with rfl
  ·exact hT (CP1,P1) (by simp))⟩,fun _=>rfl⟩)
end Lw
def PySem.W.Fast.tw15950771470470348601:Nat:=0
def PySem.W.Fast.tw7188117182649944551:Nat:=0
def PySem.W.Fast.tw6651334113587653403:Nat:=0
def PySem.W.Fast.tw10680447878580119028:Nat:=0
def PySem.W.Fast.tw5984189899454824881:Nat:=0
def PySem.W.Fast.tw3671098183679103268:Nat:=0
def PySem.W.Fast.tw2321330139832819709:Nat:=0
def PySem.W.Fast.tw2931084809213671452:Nat:=0
def PySem.W.Fast.tw7646062219352407817:Nat:=0
def PySem.W.Fast.tw14578105784037629703:Nat:=0
def PySem.W.Fast.tw7650188717573010558:Nat:=0
def PySem.W.Fast.tw3951470849860224871:Nat:=0
def PySem.W.Fast.tw15811686105194447197:Nat:=0
def PySem.W.Fast.tw17021618852384371612:Nat:=0
def PySem.W.Fast.tw11923261680128129823:Nat:=0
def PySem.W.Fast.tw12941166352885803486:Nat:=0
def PySem.W.Fast.tw15091410181230493231:Nat:=0
def PySem.W.Fast.tw2751553084470810238:Nat:=0
def PySem.W.Fast.tw2097396230454333965:Nat:=0
def PySem.W.Fast.tw13000653883264101103:Nat:=0
def PySem.W.Fast.tw15585628338440721892:Nat:=0
def PySem.W.Fast.tw798991343613813648:Nat:=0
def PySem.W.Fast.tw14389821823396829509:Nat:=0
def PySem.W.Fast.tw11571397389698975824:Nat:=0
def PySem.W.Fast.tw9187617552379801627:Nat:=0
def PySem.W.Fast.tw6012147161985770113:Nat:=0
def PySem.W.Fast.tw13446750189979542653:Nat:=0
def PySem.W.Fast.tw7013107274014425661:Nat:=0
def PySem.W.Fast.tw1469113760466123541:Nat:=0
def PySem.W.Fast.tw370581720784950747:Nat:=0
def PySem.W.Fast.tw16904520241289457960:Nat:=0
def PySem.W.Fast.tw12362545987627720836:Nat:=0
def PySem.W.Fast.tw2619098146268377082:Nat:=0
def PySem.W.Fast.tw8554157546737656127:Nat:=0
def PySem.W.Fast.tw12562953923030490668:Nat:=0
def PySem.W.Fast.tw9295640852564692258:Nat:=0
def PySem.W.Fast.tw11372731517366523227:Nat:=0
def PySem.W.Fast.tw989161995542463082:Nat:=0
def PySem.W.Fast.tw7289696468315796516:Nat:=0
def PySem.W.Fast.tw5094433771537063492:Nat:=0
def PySem.W.Fast.tw17429515578697189438:Nat:=0
def PySem.W.Fast.tw16626535696697102171:Nat:=0
def PySem.W.Fast.tw8449886540824929200:Nat:=0
open PySem PySem.W PyProof.Rows
set_option maxRecDepth 100000 in
set_option maxHeartbeats 0 in
theorem PySem.Challenge.cw_newletters_k41_forms_of_rings_holds : PySem.Challenge.rw_newletters_k41_forms_of_rings.Holds := by
 w_on;o_law;k_head;(case hw=>w_witness2)
 k_fill
 refine Lw.walk (l:=PySem.Challenge.rw_newletters_k41_forms_of_rings) (CP1:=107) (P1:=105) ?D rfl rfl (fun w h Y=>PySem.W.km_in_of Y) ?Y ?T ?F
 case D =>
  intro t ht t' ht' e
  simp only [Lw.tbs,d9,j9,or_false] at ht ht'
  rcases ht with rfl <;> rcases ht' with rfl <;> first | rfl | exact absurd e (by simp[L2.lamTb,L2.lamTb2])
 case Y =>
  intro w h Y t ht
  refine PySem.W.km_tabs_of Y t.2 ?_
  simp only [d9,j9,or_false] at ht ⊢
  rcases ht with rfl <;> simp
 case T =>
  intro w t ht
  simp only [d9,j9,or_false] at ht
  rcases ht with rfl
  all_goals exact⟨by kernel_rfl,by kernel_rfl⟩
 case F =>
  intro w mg fa h KX G hmg
  refine' Lw.all_mk (D9:=(0:Nat)) KX G hmg ?na_0 ?nl_0 ?nc_0 ?nk_0 ?na_1 ?nl_1 ?nc_1 ?nk_1 ?na_2 ?nl_2 ?nc_2 ?nk_2 ?na_3 ?nl_3 ?nc_3 ?nk_3 ?na_4 ?nl_4 ?nc_4 ?nk_4 ?na_5 ?nl_5 ?nc_5 ?nk_5 ?na_6 ?nl_6 ?nc_6 ?nk_6 ?na_7 ?nl_7 ?nc_7 ?nk_7 ?na_8 ?nl_8 ?nc_8 ?nk_8 ?na_9 ?nl_9 ?nc_9 ?nk_9 ?na_10 ?nl_10 ?nc_10 ?nk_10 ?na_11 ?nl_11 ?nc_11 ?nk_11 ?na_12 ?nl_12 ?nc_12 ?nk_12 ?na_13 ?nl_13 ?nc_13 ?nk_13 ?na_14 ?nl_14 ?nc_14 ?nk_14 ?na_15 ?nl_15 ?nc_15 ?nk_15 ?na_16 ?nl_16 ?nc_16 ?nk_16 ?na_17 ?nl_17 ?nc_17 ?nk_17 ?na_18 ?nl_18 ?nc_18 ?nk_18 ?na_19 ?nl_19 ?nc_19 ?nk_19 ?na_20 ?nl_20 ?nc_20 ?nk_20 ?na_21 ?nl_21 ?nc_21 ?nk_21 ?na_22 ?nl_22 ?nc_22 ?nk_22 ?na_23 ?nl_23 ?nc_23 ?nk_23 ?na_24 ?nl_24 ?nc_24 ?nk_24 ?na_25 ?nl_25 ?nc_25 ?nk_25 ?na_26 ?nl_26 ?nc_26 ?nk_26 ?na_27 ?nl_27 ?nc_27 ?nk_27 ?na_28 ?nl_28 ?nc_28 ?nk_28 ?na_29 ?nl_29 ?nc_29 ?nk_29 ?na_30 ?nl_30 ?nc_30 ?nk_30 ?mc_14 ?mh_14 ?nb_dict ?nb_enumerate ?nb_isinstance ?nb_len ?nb_list ?nb_max ?nb_min ?nb_range ?nb_reversed ?nb_sorted ?nb_tuple ?nb_zip ?nm_CONTRARIES ?nt_CONTRARIES ?nh_CONTRARIES ?nm_LETTERS ?nt_LETTERS ?nv_LETTERS ?nm_MOST_LETTERS ?nm_RANKS ?nt_RANKS ?nh_RANKS
  (case na_0=>k_is);(case nl_0=>k_is);(case nc_0=>k_is);(case nk_0=>k_is)
  (case na_1=>k_is);(case nl_1=>k_is);(case nc_1=>k_is);(case nk_1=>k_is)
  (case na_2=>k_is);(case nl_2=>k_is);(case nc_2=>k_is);(case nk_2=>k_is)
  (case na_3=>k_is);(case nl_3=>k_is);(case nc_3=>k_is);(case nk_3=>k_is)
  (case na_4=>k_is);(case nl_4=>k_is);(case nc_4=>k_is);(case nk_4=>k_is)
  (case na_5=>k_is);(case nl_5=>k_is);(case nc_5=>k_is);(case nk_5=>k_is)
  (case na_6=>k_is);(case nl_6=>k_is);(case nc_6=>k_is);(case nk_6=>k_is)
  (case na_7=>k_is);(case nl_7=>k_is);(case nc_7=>k_is);(case nk_7=>k_is)
  (case na_8=>k_is);(case nl_8=>k_is);(case nc_8=>k_is);(case nk_8=>k_is)
  (case na_9=>k_is);(case nl_9=>k_is);(case nc_9=>k_is);(case nk_9=>k_is)
  (case na_10=>k_is);(case nl_10=>k_is);(case nc_10=>k_is);(case nk_10=>k_is)
  (case na_11=>k_is);(case nl_11=>k_is);(case nc_11=>k_is);(case nk_11=>k_is)
  (case na_12=>k_is);(case nl_12=>k_is);(case nc_12=>k_is);(case nk_12=>k_is)
  (case na_13=>k_is);(case nl_13=>k_is);(case nc_13=>k_is);(case nk_13=>k_is)
  (case na_14=>k_is);(case nl_14=>k_is);(case nc_14=>k_is);(case nk_14=>k_is)
  (case na_15=>k_is);(case nl_15=>k_is);(case nc_15=>k_is);(case nk_15=>k_is)
  (case na_16=>k_is);(case nl_16=>k_is);(case nc_16=>k_is);(case nk_16=>k_is)
  (case na_17=>k_is);(case nl_17=>k_is);(case nc_17=>k_is);(case nk_17=>k_is)
  (case na_18=>k_is);(case nl_18=>k_is);(case nc_18=>k_is);(case nk_18=>k_is)
  (case na_19=>k_is);(case nl_19=>k_is);(case nc_19=>k_is);(case nk_19=>k_is)
  (case na_20=>k_is);(case nl_20=>k_is);(case nc_20=>k_is);(case nk_20=>k_is)
  (case na_21=>k_is);(case nl_21=>k_is);(case nc_21=>k_is);(case nk_21=>k_is)
  (case na_22=>k_is);(case nl_22=>k_is);(case nc_22=>k_is);(case nk_22=>k_is)
  (case na_23=>k_is);(case nl_23=>k_is);(case nc_23=>k_is);(case nk_23=>k_is)
  (case na_24=>k_is);(case nl_24=>k_is);(case nc_24=>k_is);(case nk_24=>k_is)
  (case na_25=>k_is);(case nl_25=>k_is);(case nc_25=>k_is);(case nk_25=>k_is)
  (case na_26=>k_is);(case nl_26=>k_is);(case nc_26=>k_is);(case nk_26=>k_is)
  (case na_27=>k_is);(case nl_27=>k_is);(case nc_27=>k_is);(case nk_27=>k_is)
  (case na_28=>k_is);(case nl_28=>k_is);(case nc_28=>k_is);(case nk_28=>k_is)
  (case na_29=>k_is);(case nl_29=>k_is);(case nc_29=>k_is);(case nk_29=>k_is)
  (case na_30=>k_is);(case nl_30=>k_is);(case nc_30=>k_is);(case nk_30=>k_is)
  (case nb_dict=>k_is);(case nb_enumerate=>k_is);(case nb_isinstance=>k_is);(case nb_len=>k_is)
  (case nb_list=>k_is);(case nb_max=>k_is);(case nb_min=>k_is);(case nb_range=>k_is)
  (case nb_reversed=>k_is);(case nb_sorted=>k_is);(case nb_tuple=>k_is);(case nb_zip=>k_is)
  (case nm_CONTRARIES=>k_is);(case nm_LETTERS=>k_is);(case nt_LETTERS=>k_is);(case nm_MOST_LETTERS=>k_is)
  (case nm_RANKS=>k_is)
  (case mc_14=>rfl)
  (case mh_14=>kernel_rfl)
  (case nt_CONTRARIES=>kernel_rfl)
  (case nh_CONTRARIES=>kernel_rfl)
  (case nv_LETTERS=>exact .cons ⟨_,rfl⟩ (.cons ⟨_,rfl⟩ (.cons ⟨_,rfl⟩ (.cons ⟨_,rfl⟩ (.cons ⟨_,rfl⟩ (.cons ⟨_,rfl⟩ (.cons ⟨_,rfl⟩ (.cons ⟨_,rfl⟩ .nil))))))))
  (case nt_RANKS=>kernel_rfl)
  (case nh_RANKS=>kernel_rfl)
