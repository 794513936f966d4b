import PyProof.Rows.All
import Wide.All
import OpenK.AllK
import Wide.FinOn
import Lean
import PyProof.EqAt
import PyProof.EqKinds
import PyProof.TupleCall
import KE.KMinKey
import KE.KSortTup
import KE.KLam
import KE.KNestM
import KE.KItemsList
import PyProof.SeqI2
import PyProof.SeqI3
import PyProof.WalksMore
import PySem.Challenge.RW_newletters_k14_webs_told
open List renaming getElem?_eq_some_iff → a8, getElem?_eq_getElem → a9, mem_of_getElem? → b6, length_map → b7, size_toArray → b8, length_append → b9, mem_cons → c4, getElem?_map → c5, getD_eq_getElem?_getD → c6, mem_cons_of_mem → c8, mem_singleton → c9, map_cons → d3, mem_append_right → d6, mem_cons_self → d8, map_append → d9, mem_map → g9, mem_append → i5, length_take → i6, take_length → i9, length_cons → j1, nodup_cons → j7, length_set → k0, append_assoc → k7, getElem?_append_left → l5, not_mem_nil → l6, mem_append_left → l7, getElem?_of_mem → l8, take_add_one → m4, append_nil → m6, length_eq_zero_iff → m9, reverse_cons → n9, lookup_cons → o0, mem_of_mem_take → o6, take_of_length_le → p0, map_congr_left → p7, sum_cons → p8, all_eq_true → p9, map_map → t4, length_reverse → t8, getElem?_set_self → t9, getElem?_append_right → u0, getElem?_set_ne → u7, reverse_reverse → u8, flatMap_cons → u9, dropLast_concat_getLast → x5, drop_eq_getElem_cons → y6, filterMap_cons → y9, mem_singleton_self → z4, mem_filter → z7, find?_cons → aQC, nodup_append → aQL, length_singleton → aQM, length_filter_le → aQQ, mem_reverse → aQR, map_nil → aQU, flatten_cons → aQY, length_range → aQZ, length_pos_of_mem → aQ0, any_cons → aQ3, length_replicate → aQ6, getElem?_reverse → aQ8, getElem?_eq_none → aQa, eraseIdxIfInBounds_toArray → aQb, foldl_cons → aQe, idxOf_cons → aQj, length_eraseIdx → aQk, toList_toArray → aQo, foldl_append → aQw, ext_getElem? → aQx, getElem?_eq_none_iff → aQy, mem_of_find?_eq_some → aQz, getElem?_zip_eq_some → aXA, getElem_inj → aXB, getElem?_take_of_lt → aXD, getElem_mem → aXG, map_reverse → aXH, length_filterMap_le → aXI, mem_flatMap → aXJ, any_eq_true → aXL, filter_cons_of_neg → aXR, filter_cons_of_pos → aXS, getElem?_cons_succ → aXU, of_mem_zip → aXV, sum_append → aXW, find?_cons_of_neg → aXZ, mem_range → aX2, take_append_drop → aX3, getElem?_zipIdx → aX6, replicate_succ' → aX7, all_cons → aX8, flatMap_append → aXe, getElem_of_mem → aXg, mem_filterMap → aXj, all_map → aXp, pairwise_cons → aXs, find?_eq_none → aXt, countP_append → aXu, length_zipIdx → aXv, mem_replicate → aXw, filter_append → aXx, pairwise_map → aZG, countP_congr → aZH, map_id → aZL, length_drop → aZN, getElem_map → aZV, forIn_cons → aZZ, length_nil → aZ1, find?_some → aZ3, filter_nil → aZ4, map_set → aJC
open PySem.W renaming Frag → b0, mg_none_of → l9, mg_of → z6, kia_one → z9, kia_tup → aQA, methodCall_KW → aQ5, plainGet_of → aQn, cellsFrom_some → aXX, callWith_K0 → aXa, callWith_K → aXl, kitx_tuple → aXo, kitx_none → aXy, kitx_bool → aXz, kitx_list → aZA, kitx_int → aZQ, kitx_str → aZR, kIn_of → aZ6
open Nat renaming le_refl → b5, ne_of_lt → d5, le_trans → j0, zero_le → j6, lt_of_lt_of_le → j8, lt_of_le_of_lt → j9, add_le_add_left → m7, lt_irrefl → x0, le_of_lt → x8, le_succ → aQD, mul_le_mul → aQX, not_le_of_lt → aQ4, ne_of_gt → aQc, mul_le_mul_right → aQf, not_lt_zero → aQg, lt_succ_self → aXC, le_add_right → aXK, le_of_eq → aXk, lt_succ_of_lt → aZE, min_self → aZz, succ_mul → aJA, zero_add → aJD
open PySem.Heap renaming get?_push_of_some → c0, lt_size → c7, get?_push_size → g8, get?_update_self → u5, get?_update_other → aQE, size_push → aQp, get?_push_ne → aZD
open Bool renaming false_ne_true → g7, and_eq_true → r9, eq_iff_iff → z8, false_eq_true → aQB, and_true → aX9, and_false → aZ5, or_false → aZ9
open PySem.F renaming plainAttrs_list → i0, plainAttrs_str → j3, slot_list_append → j4, type_list_append → j5, slot_dict_keyiterator_next → t5, slot_dict_get → u6, plainAttrs_dict → x3, slot_dict_setdefault → x6, slot_list_pop → y1, type_list_pop → y2, entry_dict_get → aQF, slot_str_lower → aQG, type_str_lower → aQH, slot_str_join → aQO, type_str_join → aQP, slot_str_upper → aQ1, type_str_upper → aQ2, args_dict_keyiterator_next_1 → aQh, args_dict_setdefault_3 → aQi, entry_dict_keyiterator_next → aQl, entry_dict_setdefault → aQm, type_dict_setdefault → aQq, slot_str_getitem → aQs, args_tuple_add_2 → aXE, slot_str_isupper → aXM, type_str_isupper → aXN, entry_tuple_add → aXO, args_dict_get_2 → aXP, args_dict_get_3 → aXQ, slot_list_index → aXT, slot_tuple_add → aXY, slot_str_index → aX0, type_str_index → aX1, type_dict_get → aX4, entry_list_pop → aZP, slot_dict_iter → aZW, slot_list_pop → aZY
open Option.some renaming inj → i3
open PySem.PassesOwn renaming never → i7
open Option renaming map_eq_some_iff → i8, map_some → y0, isSome_iff_exists → y7, isSome_map → aZC, getD_none → aZO
open PySem renaming boot_len → j2, mem_of_lookup → o5, evalArgs_none → aXb
open PyProof.Rows renaming slot_tuple_getitem → l4, callWith_type1 → t7, callWith_builtin1 → aZX, lt_int → aJJ
open Array renaming length_toList → p5, perm_iff_toList_perm → y3, getElem?_toList → aQN, getD_eq_getD_getElem? → aQt, forIn_toList → aXr, toList_inj → aZT
open PySem.Heap.SameBut renaming update → p6, refl → aJM
open PySem.Calls renaming callWith_builtin → q8, spliced_cons → r6, evalArgs_plain → y4, spliced_nil → aQJ, Name_function_global → aQv
open Ne renaming symm → x4
open PySem.Obj renaming data_mapFields → x9, data_mapDictKeys → aQS, isFreed_of_fields → aQ7, isFreed_of_dict → aXf, cls_mapFields → aZB
open PySem.Paired renaming length → z5, snoc → aZK
open PySem.StrLaws renaming seqIndex_nonneg → aQI, glued_eq_join → aQ9
open PySem.EqBoolInt renaming of_rcne → aQK
open Int renaming emod_nonneg → aQT, emod_lt_of_pos → aQW, toNat_of_nonneg → aXd, toNat_natCast → aZF
open PySem.SeqAt.EqAt renaming int_int → aQV, same → aQd, of_refs → aQu, int_str → aXh, str_int → aXi
open PyProof.Rows.IsTup renaming new → aQr
open PySem.Txt renaming slice_le → aXF
open PySem.Around renaming under_plainId → aX5
open PySem.SeqAt.RcNeAt renaming tuples → aXc, lists → aXq, lists_lengths → aZc
open PySem.Heap.IsSliceOf renaming new → aXm
open PyProof.V renaming same_str → aXn
open List.Sublist renaming refl → aZI
open Sum.inl renaming inj → aZJ
open Prod.mk renaming inj → aZM
open PySem.SeqAt renaming eq_tupleAt → aZS, eq_listAt → aZ0
open PySem.SeqAt.RcAt renaming lists → aZU
open Array.Perm renaming refl → aZ2
open PySem.Walks renaming strAscii → aZ7, strWide → aZa, tuple → aJH, list → aJI
open List.Perm renaming refl → aZ8
open PyProof.Rows.LSm renaming kept_iter → aZb
open PySem.EqNone renaming eq_none_none → aZd, eq_none_bool → aZe, eq_bool_none → aZf, ne_none_none → aZi, ne_none_bool → aZj, ne_bool_none → aZk, eq_none_int → aZn, eq_none_str → aZo, eq_int_none → aZp, eq_str_none → aZr, ne_none_int → aZt, ne_none_str → aZu, ne_int_none → aZv, ne_str_none → aZx
open PySem.EqMixed renaming eq_bool_str → aZg, eq_str_bool → aZh, ne_bool_str → aZl, ne_str_bool → aZm, eq_int_str → aZq, eq_str_int → aZs, ne_int_str → aZw, ne_str_int → aZy
open List.Pairwise renaming imp_of_mem → aJB
open Sum.inr renaming inj → aJE
open PyProof.V.Flat renaming str_inv → aJF, int_inv → aJG
open PySem.W.Looks renaming here → aJK
open PySem.Within renaming cons → aJL
open PySem.Heap.DictOf renaming new → aJN
set_option Elab.async false
set_option maxHeartbeats 4000000
set_option maxRecDepth 100000
set_option linter.all false
namespace L2
open PySem PySem.Spec PyProof.Rows
abbrev cI:=Sum Int Str
def rN:cI→Value→Bool
 | .inl k,v=>Value.isInt k v
 | .inr x,v=>Value.isStrOf x v
def IF(w:World):cI→Int
 | .inl k=>hashInt k
 | .inr x=>hashStr w x
theorem cL:∀ {k:cI} {v:Value},rN k v=true→(∃ i t,k=Sum.inl i∧v=Value.int i t)∨(∃ x t,k=Sum.inr x∧v=Value.str x t)
 | .inl i,v,h=>by
  obtain⟨t,e⟩:=Value.isInt_shape (k:=i) (v:=v) h
  exact .inl ⟨i,t,rfl,e⟩
 | .inr x,v,h=>by
  obtain⟨t,e⟩:=Value.isStrOf_shape (x:=x) (v:=v) h
  exact .inr ⟨x,t,rfl,e⟩
theorem A6(i:Int)(t:Tok):rN (.inl i) (.int i t)=true:=by simp[rN,Value.isInt]
theorem Av(x:Str)(t:Tok):rN (.inr x) (.str x t)=true:=by simp[rN,Value.isStrOf]
theorem F0(a b:Int):decide ((Sum.inl a:cI)=Sum.inl b)=(a == b):=by
 by_cases e:a=b
 ·subst e;simp
 ·have h:¬ (Sum.inl a:cI)=Sum.inl b:=fun q=>e (aZJ q)
  rw[decide_eq_false h]
  exact(beq_eq_false_iff_ne.mpr e).symm
theorem EW(a b:Str):decide ((Sum.inr a:cI)=Sum.inr b)=decide (a=b):=by
 by_cases e:a=b
 ·subst e;simp
 ·have h:¬ (Sum.inr a:cI)=Sum.inr b:=fun q=>e (aJE q)
  rw[decide_eq_false h,decide_eq_false e]
theorem FZ(a:Int)(b:Str):decide ((Sum.inl a:cI)=Sum.inr b)=false:=decide_eq_false (fun q=>nomatch q)
theorem EO(a:Str)(b:Int):decide ((Sum.inr a:cI)=Sum.inl b)=false:=decide_eq_false (fun q=>nomatch q)
def bJ(prog:Program)(w:World):PySem.KeyKind prog w cI where
 is:=rN
 hash:=IF w
 inj:=fun v a b ha hb=>by
  rcases cL ha with ⟨i,t,rfl,rfl⟩ | ⟨x,t,rfl,rfl⟩
  ·rcases cL hb with ⟨j,u,rfl,e⟩ | ⟨y,u,rfl,e⟩
   ·injection e with e1 _;rw[e1]
   ·exact nomatch e
  ·rcases cL hb with ⟨j,u,rfl,e⟩ | ⟨y,u,rfl,e⟩
   ·exact nomatch e
   ·injection e with e1 _;rw[e1]
 byValue:=fun k v h=>by
  rcases cL h with ⟨i,t,rfl,rfl⟩ | ⟨x,t,rfl,rfl⟩ <;> rfl
 pyHash:=fun hv h=>by
  rcases cL hv with ⟨i,t,rfl,rfl⟩ | ⟨x,t,rfl,rfl⟩
  ·exact wpAny_pyHash_int h
  ·exact wpAny_pyHash_str h
 eqBool:=fun hu hv h=>by
  rcases cL hu with ⟨i,t,rfl,rfl⟩ | ⟨x,t,rfl,rfl⟩
  ·rcases cL hv with ⟨j,u,rfl,rfl⟩ | ⟨y,u,rfl,rfl⟩
   ·rw[F0] at h;exact wpAny_eqBool_int h
   ·rw[FZ] at h;exact aXh i t y u _ _ _ _ h
  ·rcases cL hv with ⟨j,u,rfl,rfl⟩ | ⟨y,u,rfl,rfl⟩
   ·rw[EO] at h;exact aXi x t j u _ _ _ _ h
   ·rw[EW] at h;exact wpAny_eqBool_str h
 «strs»:=fun k x t v h=>by
  rcases cL h with ⟨i,u,rfl,e⟩ | ⟨y,u,rfl,e⟩
  ·exact nomatch e
  ·injection e with e1 _
   subst e1
   cases v <;> rfl
theorem wC(prog:Program)(w:World)(i:Int)(t:Tok):(bJ prog w).is (.inl i) (.int i t)=true:=A6 i t
theorem uV(prog:Program)(w:World)(x:Str)(t:Tok):(bJ prog w).is (.inr x) (.str x t)=true:=Av x t
inductive V where
 | non | bl (b:Bool) | int (i:Int) | str (x:Str) | byt (b:Array UInt8) | flt (b:UInt64) | ref (a:Addr) | ty (n:String)
 deriving DecidableEq
def RelV:V→Value→Prop
 | .non,u=>u=Value.none
 | .bl b,u=>u=Value.bool b
 | .int i,u=>∃ t,u=Value.int i t
 | .str x,u=>∃ t,u=Value.str x t
 | .byt b,u=>∃ t,u=Value.bytes b t
 | .flt b,u=>∃ t,u=Value.float b t
 | .ref a,u=>u=Value.ref a
 | .ty n,u=>u=Value.type n
abbrev Vals:List V→List Value→Prop:=Paired RelV
theorem Vals.length{xs:List V}{us:List Value}(r:Vals xs us):xs.length=us.length:=z5 r
theorem Vals.get:∀ {xs:List V} {us:List Value} {i:Nat} {x:V},Vals xs us→xs[i]?=some x→∃ u,us[i]?=some u∧RelV x u
 | _,_,_,_,.nil,e=>by simp at e
 | _,_,0,_,.cons r _,e=>by simp at e;subst e;exact⟨_,rfl,r⟩
 | _,_,i+1,x,.cons _ t,e=>by
  obtain⟨u,h1,h2⟩:=Vals.get (i:=i) (x:=x) t (by simpa using e)
  exact⟨u,by simpa using h1,h2⟩
theorem Vals.set{x:V}{u:Value}(r:RelV x u):∀ {xs:List V} {us:List Value} (i:Nat),Vals xs us→Vals (xs.set i x) (us.set i u)
 | _,_,_,.nil=>.nil
 | _,_,0,.cons _ t=>.cons r t
 | _,_,i+1,.cons q t=>.cons q (Vals.set r i t)
theorem Vals.append:∀ {xs ys:List V} {us ws:List Value},Vals xs us→Vals ys ws→Vals (xs++ys) (us++ws)
 | _,_,_,_,.nil,s=>s
 | _,_,_,_,.cons r t,s=>.cons r (Vals.append t s)
theorem Vals.take:∀ {xs:List V} {us:List Value} (n:Nat),Vals xs us→Vals (xs.take n) (us.take n)
 | _,_,0,_=>.nil
 | _,_,_+1,.nil=>.nil
 | _,_,n+1,.cons r t=>.cons r (Vals.take n t)
theorem Vals.drop:∀ {xs:List V} {us:List Value} (n:Nat),Vals xs us→Vals (xs.drop n) (us.drop n)
 | _,_,0,r=>r
 | _,_,_+1,.nil=>.nil
 | _,_,n+1,.cons _ t=>Vals.drop n t
def RelO:Option V→Option Value→Prop
 | some v,some u=>RelV v u
 | none,none=>True
 | _,_=>False
def KV{κ:Type}:List (κ×V)→List (κ×Value)→Prop:=Paired fun (p:κ×V) (q:κ×Value)=>p.1=q.1∧RelV p.2 q.2
def kV:cI→V
 | .inl i=>.int i
 | .inr x=>.str x
inductive HO where
 | lst (xs:List V)
 | tup (xs:List V)
 | dK (kvs:List (cI×V)) | dT (kvs:List (List cI×V))
 | set (S:Int→Bool) (n:Nat)
 | ins (C dx:Addr) (fs:List (Str×V))
 | own (x:Addr)
 | xd (fs:List (Str×V))
 | met (f x:Addr)
 | rng (lo hi:Int)
 | frz (o:Obj) (u:HO)
 | tbl (ps:Array Value)
 | ext (φ:Heap→Prop)
abbrev Hp:=Addr→Option HO
def upd(H:Hp)(a:Addr)(o:HO):Hp:=fun b=>if b=a then some o else H b
theorem aC{H:Hp}{a:Addr}{o:HO}:upd H a o a=some o:=by unfold upd;rw[if_pos rfl]
theorem aE{H:Hp}{a b:Addr}{o:HO}(h:b≠a):upd H a o b=H b:=by unfold upd;rw[if_neg h]
theorem bS{H:Hp}{a b:Addr}{o u:HO}(h:H a=some o)(h':H b=some u)(d:o≠u):a≠b:=by
 intro e;subst e;rw[h] at h';exact d (i3 h')
theorem aI{H:Hp}{a b:Addr}{o:HO}(h:H a=some o)(h':H b=none):a≠b:=by
 intro e;subst e;rw[h] at h';cases h'
def NoD(h:Heap)(a:Addr):Prop:=∃ o,h.get? a=some o∧o.dict=none
theorem NoD.new(h:Heap)(items:Array Value):NoD (h.push { cls:=.type "tuple",data:=.seq items }) h.objs.size:=⟨_,g8 _ rfl,rfl⟩
section
variable (P:Program)(w:World)
def ObjOk(H:Hp)(h:Heap)(a:Addr):HO→Prop
 | .lst xs=>xs.length≤sizeLine∧∃ (its:List Value) (n:Nat),Vals xs its∧h.get? a=some { cls:=.type "list",data:=.seq its.toArray n }
 | .tup xs=>xs.length≤sizeLine∧∃ its:List Value,Vals xs its∧IsTup h a its.toArray∧NoD h a
 | .dK kvs=>kvs.length≤sizeLine∧(a == sysModules)=false∧∃ vs,KV kvs vs∧h.DictOf (bJ P w) a vs
 | .dT kvs=>kvs.length≤sizeLine∧(a == sysModules)=false∧∃ xs:List (List cI×Addr×Value),
   Paired (fun (p:List cI×V) (q:List cI×Addr×Value)=>p.1=q.1∧H q.2.1=some (.tup (p.1.map kV))∧RelV p.2 q.2.2) kvs xs ∧
   ∃ o es ep,h.get? a=some o∧o.ExactDict∧o.data=.dict es ep∧es.toList=xs.map (entryOfKey (tupleKind (bJ P w)))∧(xs.map (·.1)).Nodup
 | .set S n=>h.SetOf (intKind P w) a S n
 | .ins C dx fs=>H dx=some (.own a)∧fs.length≤1000∧dx≠a∧h.get? a=some (PySem.W.instObj C dx) ∧
   ∃ mA,h.Ns1 dx mA∧(∀ f,RelO (fs.lookup f) (mA f))∧PySem.Within mA (fs.map (·.1))
 | .own _=>∃ o,h.get? a=some o
 | .xd fs=>∃ mA,h.Ns1 a mA∧∀ f,RelO (fs.lookup f) (mA f)
 | .rng lo hi=>∃ t u v,h.get? a=some { cls:=.type "range",data:=.fields #[.int lo t,.int hi u,.int 1 v] }
 | .frz o u=>h.get? a=some o∧ObjOk H h a u
 | .tbl ps=>h.get? a=some { cls:=.none,data:=.fields ps }
 | .met f x=>h.get? a=some (PySem.W.methodObj (.ref f) (.ref x))
 | .ext φ=>φ h∧(∃ o,h.get? a=some o)∧∀ h1 h2:Heap,φ h1→(∀ o,h1.get? a=some o→h2.get? a=some o)→φ h2
def HOk(H:Hp)(h:Heap):Prop:=∀ a o,H a=some o→ObjOk P w H h a o
end
section
variable {P:Program}{w:World}{H H':Hp}{h h':Heap}{a:Addr}{o:HO}
theorem ObjOk.lt(x:ObjOk P w H h a o):a<h.objs.size:=by
 cases o with
 | lst xs=>obtain⟨_,_,_,_,e⟩:=x;exact c7 e
 | tup xs=>obtain⟨_,_,_,p⟩:=x;exact p.1.lt
 | dK kvs=>obtain⟨_,_,_,_,o,_,_,e,_⟩:=x;exact c7 e
 | dT kvs=>obtain⟨_,_,_,_,o,_,_,e,_⟩:=x;exact c7 e
 | set S n=>obtain⟨o,_,_,_,e,_⟩:=x;exact c7 e
 | ins C dx fs=>obtain⟨_,_,_,e,_⟩:=x;exact c7 e
 | own y=>obtain⟨_,e⟩:=x;exact c7 e
 | xd fs=>obtain⟨_,⟨_,_,_,e,_⟩,_⟩:=x;exact c7 e
 | rng lo hi=>obtain⟨_,_,_,e⟩:=x;exact c7 e
 | frz ob u=>obtain⟨e,_⟩:=x;exact c7 e
 | tbl ps=>exact c7 (show h.get? a=some _ from x)
 | met f y=>exact c7 (show h.get? a=some _ from x)
 | ext φ=>obtain⟨_,⟨_,e⟩,_⟩:=x;exact c7 e
theorem Paired.mapP{α β:Type}{F G:α→β→Prop}:∀ {l₁:List α} {l₂:List β},Paired F l₁ l₂→(∀ a b,F a b→G a b)→Paired G l₁ l₂
 | _,_,.nil,_=>.nil
 | _,_,.cons r t,f=>.cons (f _ _ r) (Paired.mapP t f)
theorem ObjOk.stay(x:ObjOk P w H h a o)(k:∀ b u,(b=a∨H b=some (.own a))→h.get? b=some u→h'.get? b=some u)
  (ho:∀ b,H b=some (.own a)→H' b=some (.own a)) (ht:∀ b xs,H b=some (.tup xs)→H' b=some (.tup xs)):ObjOk P w H' h' a o:=by
 induction o with
 | lst xs=>obtain⟨z,its,n,r,e⟩:=x;exact⟨z,its,n,r,k _ _ (.inl rfl) e⟩
 | tup xs=>obtain⟨z,its,r,⟨ob,e,c⟩,od,e2,c2⟩:=x;exact⟨z,its,r,⟨ob,k _ _ (.inl rfl) e,c⟩,od,k _ _ (.inl rfl) e2,c2⟩
 | dK kvs=>obtain⟨z,y,vs,r,ob,es,ep,e,c⟩:=x;exact⟨z,y,vs,r,ob,es,ep,k _ _ (.inl rfl) e,c⟩
 | dT kvs =>
  obtain⟨z,y,xs,r,ob,es,ep,e,c⟩:=x
  exact⟨z,y,xs,Paired.mapP r fun p q z=>⟨z.1,ht _ _ z.2.1,z.2.2⟩,ob,es,ep,k _ _ (.inl rfl) e,c⟩
 | set S n=>obtain⟨ob,es,ep,t,e,c⟩:=x;exact⟨ob,es,ep,t,k _ _ (.inl rfl) e,c⟩
 | ins C dx fs =>
  obtain⟨d,z,ne,e,mA,⟨od,es,ep,e2,c⟩,r⟩:=x
  exact⟨ho _ d,z,ne,k _ _ (.inl rfl) e,mA,⟨od,es,ep,k _ _ (.inr d) e2,c⟩,r⟩
 | own y=>obtain⟨ob,e⟩:=x;exact⟨ob,k _ _ (.inl rfl) e⟩
 | xd fs=>obtain⟨mA,⟨od,es,ep,e,c⟩,r⟩:=x;exact⟨mA,⟨od,es,ep,k _ _ (.inl rfl) e,c⟩,r⟩
 | rng lo hi=>obtain⟨t,u,v,e⟩:=x;exact⟨t,u,v,k _ _ (.inl rfl) e⟩
 | frz ob u ih=>obtain⟨e,q⟩:=x;exact⟨k _ _ (.inl rfl) e,ih q⟩
 | tbl ps =>
  have e:h.get? a=some { cls:=.none,data:=.fields ps }:=x
  show h'.get? a=some { cls:=.none,data:=.fields ps }
  exact k a _ (.inl rfl) e
 | met f y =>
  have e:h.get? a=some (PySem.W.methodObj (.ref f) (.ref y)):=x
  show h'.get? a=some (PySem.W.methodObj (.ref f) (.ref y))
  exact k a _ (.inl rfl) e
 | ext φ=>obtain⟨p,⟨o,e⟩,st⟩:=x;exact⟨st _ _ p fun o q=>k _ _ (.inl rfl) q,⟨o,k _ _ (.inl rfl) e⟩,st⟩
theorem HOk.lt(x:HOk P w H h)(e:H a=some o):a<h.objs.size:=(x a o e).lt
theorem HOk.fresh(x:HOk P w H h)(e:h.objs.size≤a):H a=none:=by
 cases q:H a with
 | none=>rfl
 | some u=>exact absurd (j8 (x.lt q) e) (x0 _)
theorem HOk.kept(x:HOk P w H h)(k:∀ b u,h.get? b=some u→h'.get? b=some u):HOk P w H h':=fun a o e =>
 (x a o e).stay (fun b u _ q=>k b u q) (fun _ q=>q) fun _ _ q=>q
theorem HOk.laid(x:HOk P w H h)(k:∀ b u,h.get? b=some u→h'.get? b=some u)(hp:h.objs.size≤a)(new:ObjOk P w (upd H a o) h' a o):HOk P w (upd H a o) h':=fun b u e=>by
 have hn:=x.fresh hp
 by_cases hb:b=a
 ·subst hb;rw[aC] at e;cases e;exact new
 ·rw[aE hb] at e
  exact(x b u e).stay (fun c v _ q=>k c v q) (fun c q=>by rw[aE (aI q hn)];exact q) fun c xs q=>by rw[aE (aI q hn)];exact q
end
def Rd(H:Hp)(a:Addr)(u:HO):Prop:=H a=some u∨∃ o,H a=some (.frz o u)
theorem Rd.ok{P:Program}{w:World}{H:Hp}{h:Heap}{a:Addr}{u:HO}(r:Rd H a u)(x:HOk P w H h):ObjOk P w H h a u:=by
 rcases r with r | ⟨o,r⟩
 ·exact x a u r
 ·obtain⟨_,q⟩:=x a _ r
  exact q
def GD:Option HO→Prop
 | some (.lst _)=>True
 | some (.dK _)=>True
 | some (.dT _)=>True
 | some (.set _ _)=>True
 | some (.ins _ _ _)=>True
 | some (.ext _)=>True
 | _=>False
section
variable {P:Program}{w:World}{H:Hp}{h h':Heap}{x e:Addr}{o':HO}
theorem HOk.write(ok:HOk P w H h)(mu:GD (H x))(he:e=x∨H e=some (.own x))(k:∀ b u,b≠e→h.get? b=some u→h'.get? b=some u)(heo:∃ u,h'.get? e=some u)
  (new:ObjOk P w (upd H x o') h' x o'):HOk P w (upd H x o') h':=fun b u q=>by
 have nown:∀ c y,H c=some (.own y)→c≠x:=fun c y r z=>by subst z;rw[r] at mu;exact mu
 have ntup:∀ c xs,H c=some (.tup xs)→c≠x:=fun c xs r z=>by subst z;rw[r] at mu;exact mu
 by_cases hb:b=x
 ·subst hb;rw[aC] at q;cases q;exact new
 ·rw[aE hb] at q
  by_cases hbe:b=e
  ·have q':H b=some (.own x):=by
    rcases he with z | z
    ·exact absurd (hbe.trans z) hb
    ·rw[hbe];exact z
   rw[q] at q';cases q'
   obtain⟨v,hv⟩:=heo
   exact⟨v,by rw[hbe];exact hv⟩
  ·refine(ok b u q).stay (fun c v hc r=>k c v ?_ r) (fun c r=>by rw[aE (nown c b r)];exact r) fun c xs r=>by rw[aE (ntup c xs r)];exact r
   rcases hc with rfl | hc
   ·exact hbe
   ·rintro rfl
    rcases he with z | z
    ·exact nown c b hc z
    ·rw[hc] at z;cases z;exact hb rfl
end
structure Un(fs ex:List Addr)(H H':Hp)(h h':Heap):Prop where
 keep:∀ b o,h.get? b=some o→H b=none→b ∉ fs→b ∉ ex→h'.get? b=some o
 slot:∀ b o,h.get? b=some o→H b=none→b∈fs→b ∉ ex→∃ sl,h'.get? b=some { o with slots:=sl }
 free:∀ b o,h.get? b=some o→H b=none→b ∉ ex→H' b=none
 there:∀ b o,h.get? b=some o→b ∉ ex→∃ o',h'.get? b=some o'
 tups:∀ b xs,H b=some (.tup xs)→H' b=some (.tup xs)
 frzs:∀ b o u,H b=some (.frz o u)→H' b=some (.frz o u)
 tbls:∀ b ps,H b=some (.tbl ps)→∃ more,H' b=some (.tbl (ps++more))
section
variable {fs fs' ex ex':List Addr}{H H1 H2:Hp}{h h1 h2 h':Heap}{a x e:Addr}{o:HO}
theorem Un.any(u:Un fs ex H H1 h h1){b:Addr}{ob:Obj}(q:h.get? b=some ob)(n:H b=none)(hx:b ∉ ex):∃ sl,h1.get? b=some { ob with slots:=sl }:=by
 by_cases hb:b∈fs
 ·exact u.slot b ob q n hb hx
 ·exact⟨ob.slots,u.keep b ob q n hb hx⟩
theorem Un.kept(k:∀ b u,h.get? b=some u→h'.get? b=some u):Un fs ex H H h h' :=
 ⟨fun b ob q _ _ _=>k b ob q,fun b ob q _ _ _=>⟨ob.slots,k b ob q⟩,fun _ _ _ n _=>n,fun b ob q _=>⟨ob,k b ob q⟩,fun _ _ q=>q,fun _ _ _ q=>q,fun _ ps q=>⟨#[],by rw[q];simp⟩⟩
theorem Un.refl:Un fs ex H H h h:=Un.kept fun _ _ q=>q
theorem Un.laid(k:∀ b u,h.get? b=some u→h'.get? b=some u)(hp:h.objs.size≤a)(hn:H a=none):Un fs ex H (upd H a o) h h' where
 keep:=fun b u q _ _ _=>k b u q
 slot:=fun b u q _ _ _=>⟨u.slots,k b u q⟩
 free:=fun b u q n _=>by rw[aE (d5 (j8 (c7 q) hp))];exact n
 there:=fun b u q _=>⟨u,k b u q⟩
 tups:=fun b xs q=>by rw[aE (aI q hn)];exact q
 frzs:=fun b u xs q=>by rw[aE (aI q hn)];exact q
 tbls:=fun b ps q=>⟨#[],by rw[aE (aI q hn),q];simp⟩
theorem Un.write(mu:GD (H x))(he:e=x∨H e=some (.own x))(k:∀ b u,b≠e→h.get? b=some u→h'.get? b=some u)(heo:∃ u,h'.get? e=some u):Un fs ex H (upd H x o) h h':=by
 have hx:∀ b,H b=none→b≠x:=fun b n z=>by subst z;rw[n] at mu;exact mu
 have hb:∀ b,H b=none→b≠e:=fun b n z=>by
  subst z
  rcases he with r | r
  ·exact hx b n r
  ·rw[n] at r;cases r
 have hm:∀ b u,H b=some u→¬ GD (some u)→b≠x:=fun b u q nm z=>by subst z;rw[q] at mu;exact nm mu
 refine⟨fun b u q n _ _=>k b u (hb b n) q,fun b u q n _ _=>⟨u.slots,k b u (hb b n) q⟩,fun b u q n _=>by rw[aE (hx b n)];exact n,fun b u q _=>?_,
  fun b xs q=>by rw[aE (hm b _ q fun z=>z)];exact q,fun b u xs q=>by rw[aE (hm b _ q fun z=>z)];exact q,fun b ps q=>⟨#[],by rw[aE (hm b _ q fun z=>z),q];simp⟩⟩
 by_cases hbe:b=e
 ·subst hbe;exact heo
 ·exact⟨u,k b u hbe q⟩
end
def Id(h:Heap)(H:Hp):List Addr:=(List.range h.objs.size).filter fun a=>(H a).isSome
def sM(h:Heap)(H:Hp):Heap:=PySem.W.hideAll h (Id h H)
theorem AZ(h:Heap)(H:Hp):(sM h H).objs.size=h.objs.size:=PySem.W.hideAll_size _ _
theorem Ct{h:Heap}{H:Hp}{b:Addr}{o:Obj}(e:h.get? b=some o)(n:H b=none):(sM h H).get? b=some o :=
 PySem.W.hideAll_get _ e fun hm=>by
  have q:(H b).isSome=true:=(z7.mp hm).2
  rw[n] at q;simp at q
theorem C4{h:Heap}{H:Hp}{b:Addr}{o:Obj}(e:(sM h H).get? b=some o):h.get? b=some o∧H b=none:=by
 have e':h.get? b=some o:=PySem.W.of_hideAll (Id h H) e
 refine⟨e',?_⟩
 cases q:H b with
 | none=>rfl
 | some x =>
  have hm:b∈Id h H:=z7.mpr ⟨aX2.mpr (c7 e'),by simp[q]⟩
  have z:(sM h H).get? b=none:=PySem.W.hideAll_none (Id h H) hm
  rw[z] at e;cases e
structure Mod(K:b0)(mg:Str→Option Value)(base:Heap):Prop where
 kin:K.In base
 glob:base.Ns mainGlobals mg
 blt:∃ mb,base.Ns builtinsNs mb∧∀ x:Str,x≠"__name__"→mb x=bootBuiltins x
 nolimit:base.NoLimit
structure Cx where
 prog:Program
 w:World
 K:b0
 mg:Str→Option Value
 base:Heap
 A:Around
 N:List Str
 s₀:Shared
 H₀:Hp
 env:Env
 outer:List Env
 stack:List Env
 ex:List Addr
 fn:Str→Bool
 calm:Bool
 pn:List (Addr×Obj)
 xe:Value→Shared→Prop
def AR(l:List Env):List Addr:=l.filterMap (·.frame)
abbrev Cx.fs(X:Cx):List Addr:=AR X.outer
def Gy(sc:Scope)(x:Str):Prop:=sc.names.lookup x=some .local∨sc.names.lookup x=some .cell∨sc.names.lookup x=some .free
def Ia(sc:Scope)(x:Str):Prop:=sc.names.lookup x=some .local∨sc.names.lookup x=some .cell
def IC(env:Env)(h:Heap)(m:Str→Option Value)(x:Str)(u:Value):Prop :=
 (env.kindOf x=some .local∧m x=some u)∨((env.kindOf x=some .cell∨env.kindOf x=some .free)∧∃ c,env.cells.lookup x=some c∧h.IsCell c (some u))
structure Cx.Ok(X:Cx):Prop where
 mod:Mod X.K X.mg X.base
 kind:X.env.scope.kind=.function
 glob:X.env.globals=mainGlobals
 blt:X.env.builtins=builtinsNs
 above:X.s₀.heap.objs.size≤X.env.locals
 inj:∀ x y c,X.env.cells.lookup x=some c→X.env.cells.lookup y=some c→x=y
 has:∀ x,(X.env.kindOf x=some .cell∨X.env.kindOf x=some .free)→∃ c,X.env.cells.lookup x=some c
 cab:∀ x c,X.fn x=true→X.env.cells.lookup x=some c→X.s₀.heap.objs.size≤c
 hd:X.calm=true→X.A.handled=none
 frames:X.A.frames=some X.stack
 stk:X.stack=X.outer∨(X.stack=X.env::X.outer∧X.env.frame=some X.env.locals)
 exf:∀ b∈X.ex,b≠X.env.locals∧∀ x c,X.env.cells.lookup x=some c→c≠b
 bs:∀ b o,X.base.get? b=some o→X.s₀.heap.get? b=some o∧X.H₀ b=none
 bsz:X.base.objs.size≤X.s₀.heap.objs.size
 noex:∀ b o,X.base.get? b=some o→b ∉ X.ex
 exfs:∀ b∈X.ex,b ∉ X.fs
 funs:X.s₀.heap.FunFrames X.base X.outer
 frf:∀ b∈X.fs,X.H₀ b=none
structure Inv(X:Cx)(pins:List (Addr×Obj))(σ:List (Option V))(H:Hp)(s:Shared):Prop where
 ok:X.Ok
 os:s.os=X.s₀.os
 bare:AllBare s.gens
 base:Un X.fs X.ex X.H₀ H X.s₀.heap s.heap
 loc:∃ m,s.heap.Ns X.env.locals m∧∀ (i:Nat) (x:Str) (v:V),X.N[i]?=some x→σ[i]?=some (some v)→Gy X.env.scope x→∃ u,RelV v u∧IC X.env s.heap m x u
 cell:∀ x c,X.env.cells.lookup x=some c→∃ v,s.heap.IsCell c v
 free:H X.env.locals=none
 freeC:∀ x c,X.env.cells.lookup x=some c→H c=none
 pin:∀ p∈X.pn++pins,s.heap.get? p.1=some p.2∧H p.1=none∧p.1≠X.env.locals∧p.1 ∉ X.fs∧∀ v,p.2.data≠.cell v
 hok:HOk X.prog X.w H s.heap
 len:σ.length=X.N.length
section
variable {X:Cx}{pins:List (Addr×Obj)}{σ:List (Option V)}{H H':Hp}{s:Shared}{h':Heap}
theorem Cx.Ok.nofr(ok:X.Ok){b:Addr}{o:Obj}(e:X.base.get? b=some o):b ∉ X.fs:=fun hb=>by
 have:=(ok.funs.mem hb).1
 rw[e] at this;cases this
theorem Inv.bs(I:Inv X pins σ H s):∀ b o,X.base.get? b=some o→s.heap.get? b=some o∧H b=none:=fun b o e =>
 ⟨I.base.keep b o (I.ok.bs b o e).1 (I.ok.bs b o e).2 (I.ok.nofr e) (I.ok.noex b o e),I.base.free b o (I.ok.bs b o e).1 (I.ok.bs b o e).2 (I.ok.noex b o e)⟩
theorem Inv.bk(I:Inv X pins σ H s):∀ b o,X.base.get? b=some o→s.heap.get? b=some o:=fun b o e=>(I.bs b o e).1
theorem Inv.mod(I:Inv X pins σ H s):Mod X.K X.mg X.base:=I.ok.mod
theorem Inv.kIn(I:Inv X pins σ H s):X.K.In s.heap:=I.ok.mod.kin.keeps I.bk
theorem Inv.lt(I:Inv X pins σ H s):X.env.locals<s.heap.objs.size:=let ⟨_,hn,_⟩:=I.loc;hn.lt
theorem Inv.sz(I:Inv X pins σ H s):X.s₀.heap.objs.size≤s.heap.objs.size:=j0 I.ok.above (x8 I.lt)
theorem Inv.nofs(I:Inv X pins σ H s){a:Addr}(h:s.heap.objs.size≤a):a ∉ X.fs:=fun hb=>by
 obtain⟨_,o,ho,_⟩:=I.ok.funs.mem hb
 exact absurd (j8 (c7 ho) (j0 I.sz h)) (x0 _)
theorem Inv.cne(I:Inv X pins σ H s):∀ x c,X.env.cells.lookup x=some c→c≠X.env.locals:=fun x c e z=>by
 obtain⟨v,o,ho,hd⟩:=I.cell x c e
 obtain⟨m,⟨o',es,ep,ho',hd',_⟩,_⟩:=I.loc
 rw[z,ho'] at ho;cases ho;rw[hd'] at hd;cases hd
theorem Inv.funs(I:Inv X pins σ H s):s.heap.FunFrames X.base X.outer:=by
 have all:∀ (l:List Env),(∀ b∈AR l,b∈X.fs)→X.s₀.heap.FunFrames X.base l→s.heap.FunFrames X.base l:=by
  intro l
  induction l with
  | nil=>intro _ _;trivial
  | cons env r ih =>
   intro hs hl
   obtain⟨hk,⟨L,o,hf,hn,ho,hd⟩,hr⟩:=hl
   have hL:L∈X.fs:=hs L (by unfold AR;rw[y9,hf];exact d8)
   obtain⟨sl,e⟩:=I.base.slot L o ho (I.ok.frf L hL) hL fun z=>I.ok.exfs L z hL
   exact⟨hk,⟨L,_,hf,hn,e,hd⟩,ih (fun b hb=>hs b (by unfold AR;rw[y9,hf];exact c8 _ hb)) hr⟩
 exact all X.outer (fun _ hb=>hb) I.ok.funs
theorem Inv.stack(I:Inv X pins σ H s):s.heap.FunFrames X.base X.stack:=by
 rcases I.ok.stk with e | ⟨e,hf⟩
 ·rw[e];exact I.funs
 ·rw[e]
  obtain⟨m,hn,_⟩:=I.loc
  refine .cons (by rw[I.ok.kind];decide) hf hn ?_ I.funs
  exact Heap.get?_none_of_le (j0 I.ok.bsz I.ok.above)
theorem Inv.stkSub(I:Inv X pins σ H s):∀ b∈AR X.stack,b∈X.env.locals::X.fs:=fun b hb=>by
 rcases I.ok.stk with e | ⟨e,hf⟩
 ·rw[e] at hb;exact c8 _ hb
 ·rw[e] at hb
  unfold AR at hb
  rw[y9,hf] at hb
  exact hb
theorem Inv.stkFree(I:Inv X pins σ H s):∀ b∈AR X.stack,H b=none:=fun b hb=>by
 rcases c4.mp (I.stkSub b hb) with e | hb
 ·rw[e];exact I.free
 ·obtain⟨_,o,ho,_⟩:=I.ok.funs.mem hb
  exact I.base.free b o ho (I.ok.frf b hb) fun z=>I.ok.exfs b z hb
theorem Inv.step{g':Array GenState}{t':Nat}{d':Drawn}{ch:List Addr}(I:Inv X pins σ H s)
  (hch:∀ b∈ch,(b∈X.ex∨X.s₀.heap.objs.size≤b)∧b≠X.env.locals∧(∀ x c,X.env.cells.lookup x=some c→c≠b)∧∀ p∈X.pn++pins,p.1≠b)
  (keep:∀ b o,b≠X.env.locals→b ∉ X.fs→b ∉ ch→s.heap.get? b=some o→H b=none→h'.get? b=some o)
  (slot:∀ b o,b≠X.env.locals→b∈X.fs→b ∉ ch→s.heap.get? b=some o→H b=none→∃ sl,h'.get? b=some { o with slots:=sl }) (free:∀ b o,b ∉ ch→s.heap.get? b=some o→H b=none→H' b=none)
  (there:∀ b o,b ∉ ch→s.heap.get? b=some o→∃ o',h'.get? b=some o')
  (tups:∀ b xs,H b=some (.tup xs)→H' b=some (.tup xs)) (frzs:∀ b o u,H b=some (.frz o u)→H' b=some (.frz o u)) (tbls:∀ b ps,H b=some (.tbl ps)→∃ more,H' b=some (.tbl (ps++more)))
  (ns:∀ m,s.heap.Ns X.env.locals m→h'.Ns X.env.locals m) (hok:HOk X.prog X.w H' h') (hg:AllBare g') :
  Inv X pins σ H' { s with heap:=h',gens:=g',drawn:=d',toks:=t' }:=by
 have neL:∀ b o,X.s₀.heap.get? b=some o→b≠X.env.locals:=fun b o e=>d5 (j8 (c7 e) I.ok.above)
 have neC:∀ b o,X.s₀.heap.get? b=some o→b ∉ X.ex→b ∉ ch:=fun b o e hx hb=>by
  rcases(hch b hb).1 with z | z
  ·exact hx z
  ·exact absurd (j8 (c7 e) z) (x0 _)
 have cellK:∀ x c,X.env.cells.lookup x=some c→∀ v,s.heap.IsCell c v→h'.IsCell c v:=fun x c e v ⟨o,ho,hd⟩=>by
  have nch:c ∉ ch:=fun z=>(hch c z).2.2.1 x c e rfl
  by_cases hc:c∈X.fs
  ·obtain⟨sl,q⟩:=slot c o (I.cne x c e) hc nch ho (I.freeC x c e)
   exact⟨_,q,hd⟩
  ·exact⟨o,keep c o (I.cne x c e) hc nch ho (I.freeC x c e),hd⟩
 refine⟨I.ok,I.os,hg,⟨fun b o e n hb hx=>?_,fun b o e n hb hx=>?_,fun b o e n hx=>?_,fun b o e hx=>?_,fun b xs e=>tups b xs (I.base.tups b xs e),fun b o xs e=>frzs b o xs (I.base.frzs b o xs e),fun b ps e=>?_⟩,?_,fun x c e=>?_,?_,fun x c e=>?_,fun p hp=>?_,hok,I.len⟩
 ·exact keep b o (neL b o e) hb (neC b o e hx) (I.base.keep b o e n hb hx) (I.base.free b o e n hx)
 ·obtain⟨sl,e1⟩:=I.base.slot b o e n hb hx
  obtain⟨sl',e2⟩:=slot b _ (neL b o e) hb (neC b o e hx) e1 (I.base.free b o e n hx)
  exact⟨sl',e2⟩
 ·obtain⟨o',e1⟩:=I.base.there b o e hx
  exact free b o' (neC b o e hx) e1 (I.base.free b o e n hx)
 ·obtain⟨o',e1⟩:=I.base.there b o e hx
  exact there b o' (neC b o e hx) e1
 ·obtain⟨m1,e1⟩:=I.base.tbls b ps e
  obtain⟨m2,e2⟩:=tbls b _ e1
  exact⟨m1++m2,by rw[e2,Array.append_assoc]⟩
 ·obtain⟨m,hn,hl⟩:=I.loc
  refine⟨m,ns m hn,fun i x v e1 e2 e3=>?_⟩
  obtain⟨u,r,l⟩:=hl i x v e1 e2 e3
  refine⟨u,r,?_⟩
  rcases l with l | ⟨k,c,e,z⟩
  ·exact .inl l
  ·exact .inr ⟨k,c,e,cellK x c e _ z⟩
 ·obtain⟨v,z⟩:=I.cell x c e
  exact⟨v,cellK x c e v z⟩
 ·obtain⟨m,⟨o,_,_,ho,_⟩,_⟩:=I.loc
  exact free _ o (fun z=>(hch _ z).2.1 rfl) ho I.free
 ·obtain⟨v,o,ho,hd⟩:=I.cell x c e
  exact free c o (fun z=>(hch c z).2.2.1 x c e rfl) ho (I.freeC x c e)
 ·obtain⟨e,n,ne,nf,d⟩:=I.pin p hp
  have nch:p.1 ∉ ch:=fun z=>(hch p.1 z).2.2.2 p hp rfl
  exact⟨keep p.1 p.2 ne nf nch e n,free p.1 p.2 nch e n,ne,nf,d⟩
theorem Inv.un{t':Nat}(I:Inv X pins σ H s)(u:Un X.fs [] H H' s.heap h')(hok:HOk X.prog X.w H' h'):Inv X pins σ H' { s with heap:=h',toks:=t' }:=by
 obtain⟨m,⟨o,es,ep,ho,r⟩,_⟩:=id I.loc
 obtain⟨sl,hL⟩:=u.any ho I.free (by simp)
 exact I.step (g':=s.gens) (d':=s.drawn) (ch:=[]) (fun _ z=>nomatch z) (fun b o _ hb _ e n=>u.keep b o e n hb (by simp)) (fun b o _ hb _ e n=>u.slot b o e n hb (by simp)) (fun b o _ e n=>u.free b o e n (by simp)) (fun b o _ e=>u.there b o e (by simp)) u.tups u.frzs u.tbls (fun m' hm=>by
  obtain⟨o',es',ep',ho',r'⟩:=hm
  rw[ho] at ho';cases ho'
  exact⟨_,es',ep',hL,r'⟩) hok I.bare
theorem Inv.call{g':Array GenState}{t':Nat}{d':Drawn}{ch:List Addr}(I:Inv X pins σ H s)(u:Un (AR X.stack) ch H H' s.heap h')(hok:HOk X.prog X.w H' h')(hg:AllBare g')
  (hch:∀ b∈ch,(b∈X.ex∨X.s₀.heap.objs.size≤b)∧b≠X.env.locals∧(∀ x c,X.env.cells.lookup x=some c→c≠b)∧∀ p∈X.pn++pins,p.1≠b) :
  Inv X pins σ H' { s with heap:=h',gens:=g',drawn:=d',toks:=t' }:=by
 obtain⟨m,⟨o,es,ep,ho,r⟩,_⟩:=id I.loc
 obtain⟨sl,hL⟩:=u.any ho I.free fun z=>(hch _ z).2.1 rfl
 exact I.step (ch:=ch) hch (fun b o hL hb hc e n=>u.keep b o e n (fun z=>(c4.mp (I.stkSub b z)).elim hL hb) hc) (fun b o _ _ hc e n=>u.any e n hc) (fun b o hc e n=>u.free b o e n hc) (fun b o hc e=>u.there b o e hc) u.tups u.frzs u.tbls (fun m' hm=>by
  obtain⟨o',es',ep',ho',r'⟩:=hm
  rw[ho] at ho';cases ho'
  exact⟨_,es',ep',hL,r'⟩) hok hg
theorem Inv.turned{t':Nat}{it:Addr}(I:Inv X pins σ H s)(k:∀ b o,b≠it→s.heap.get? b=some o→h'.get? b=some o)(hn:H it=none)(hL:it≠X.env.locals)
  (h1:it∈X.ex∨X.s₀.heap.objs.size≤it) (h2:∀ x c,X.env.cells.lookup x=some c→c≠it) (h3:∀ p∈X.pn++pins,p.1≠it):Inv X pins σ H { s with heap:=h',toks:=t' }:=by
 have nit:∀ b u,H b=some u→b≠it:=fun b u e z=>by rw[z,hn] at e;cases e
 refine I.step (g':=s.gens) (d':=s.drawn) (ch:=[it]) (fun b hb=>?_) (fun b o _ _ hc e _=>k b o (fun z=>hc (by simp[z])) e) (fun b o _ _ hc e _=>⟨o.slots,k b o (fun z=>hc (by simp[z])) e⟩) (fun _ _ _ _ n=>n)
  (fun b o hc e=>⟨o,k b o (fun z=>hc (by simp[z])) e⟩) (fun _ _ e=>e) (fun _ _ _ e=>e) (fun b ps e=>⟨#[],by rw[e];simp⟩) (fun m hm=>?_) (fun b u e=>?_) I.bare
 ·have e:b=it:=by simpa using hb
  subst e
  exact⟨h1,hL,h2,h3⟩
 ·obtain⟨o,es,ep,ho,r⟩:=hm
  exact⟨o,es,ep,k _ o (x4 hL) ho,r⟩
 ·refine(I.hok b u e).stay (fun c v hc q=>k c v ?_ q) (fun _ q=>q) fun _ _ q=>q
  rcases hc with z | z
  ·rw[z];exact nit b u e
  ·exact nit c _ z
theorem Inv.tok(I:Inv X pins σ H s)(t:Nat):Inv X pins σ H { s with toks:=t }:=I.un (h':=s.heap) (t':=t) Un.refl I.hok
theorem Inv.kept{t':Nat}(I:Inv X pins σ H s)(k:∀ b u,s.heap.get? b=some u→h'.get? b=some u):Inv X pins σ H { s with heap:=h',toks:=t' }:=I.un (Un.kept k) (I.hok.kept k)
theorem Inv.laid{a:Addr}{o:HO}{t':Nat}(I:Inv X pins σ H s)(k:∀ b u,s.heap.get? b=some u→h'.get? b=some u)(hp:s.heap.objs.size≤a)(new:ObjOk X.prog X.w (upd H a o) h' a o) :
  Inv X pins σ (upd H a o) { s with heap:=h',toks:=t' }:=I.un (Un.laid k hp (I.hok.fresh hp)) (I.hok.laid k hp new)
theorem Inv.write{x e:Addr}{o:HO}{t':Nat}(I:Inv X pins σ H s)(mu:GD (H x))(he:e=x∨H e=some (.own x))(k:∀ b u,b≠e→s.heap.get? b=some u→h'.get? b=some u)(heo:∃ u,h'.get? e=some u)
  (new:ObjOk X.prog X.w (upd H x o) h' x o):Inv X pins σ (upd H x o) { s with heap:=h',toks:=t' }:=I.un (Un.write mu he k heo) (I.hok.write mu he k heo new)
theorem Inv.pins_of{pins':List (Addr×Obj)}(I:Inv X pins σ H s)(h:∀ p∈pins',s.heap.get? p.1=some p.2∧H p.1=none∧p.1≠X.env.locals∧p.1 ∉ X.fs∧∀ v,p.2.data≠.cell v):Inv X pins' σ H s :=
 ⟨I.ok,I.os,I.bare,I.base,I.loc,I.cell,I.free,I.freeC,fun p hp=>(i5.mp hp).elim (fun z=>I.pin p (l7 _ z)) (h p),I.hok,I.len⟩
theorem uU{N:List Str}(hN:N.Nodup){i j:Nat}{x:Str}(a:N[i]?=some x)(b:N[j]?=some x):i=j:=by
 obtain⟨h1,e1⟩:=a8.mp a
 obtain⟨h2,e2⟩:=a8.mp b
 exact(aXB hN).mp (e1.trans e2.symm)
theorem lR{M:Model}{A:Around}{E:Value→Shared→Prop}{i:Nat}{x:Str}{v:V}{u:Value}{Q:Unit→Shared→Prop}(I:Inv X pins σ H s)(hN:X.N.Nodup)(hi:X.N[i]?=some x)(hx:Ia X.env.scope x)(r:RelV v u)
  (h:∀ s',Inv X pins (σ.set i (some v)) H s'→(∃ a,Heap.SameBut a s.heap s'.heap∧(a=X.env.locals∨X.env.cells.lookup x=some a))→Q () s') (hf:X.fn x=true∨X.env.scope.names.lookup x=some .local:=by first | exact .inl rfl | exact .inr rfl | assumption):wpAny M A (storeName X.env x u) Q E s:=by
 obtain⟨m,hn,hl⟩:=id I.loc
 have hcls:(X.env.scope.kind == .class || (X.env.scope.kind == .module && X.env.locals != X.env.globals))=false:=by rw[I.ok.kind];rfl
 have hiσ:i<σ.length:=by rw[I.len];exact(a8.mp hi).1
 have cne:=I.cne
 have tracked:∀ {a:Addr} {h':Heap},(∃ o,s.heap.get? a=some o∧H a=none)→Heap.SameBut a s.heap h'→HOk X.prog X.w H h':=fun {a h'} ha hs b ob e=>by
  obtain⟨_,_,hfree⟩:=ha
  refine(I.hok b ob e).stay (fun c w' hc q=>(hs.2 c ?_).trans q) (fun _ q=>q) fun _ _ q=>q
  rintro rfl
  rcases hc with rfl | hc
  ·rw[hfree] at e;cases e
  ·rw[hfree] at hc;cases hc
 rcases hx with hk | hk
 ·refine wpAny_storeName_local hk hn (fun h' hn' hs=>?_) hcls
  obtain⟨oL,_,_,hoL,_⟩:=id hn
  refine h _ ⟨I.ok,I.os,I.bare,⟨fun b o e n hb hx=>?_,fun b o e n hb hx=>?_,I.base.free,fun b o e hx=>?_,I.base.tups,I.base.frzs,I.base.tbls⟩,⟨_,hn',fun j y v' e1 e2 e3=>?_⟩,fun y c e=>?_,I.free,I.freeC,fun p hp=>?_,tracked ⟨oL,hoL,I.free⟩ hs,by simpa using I.len⟩ ⟨_,hs,.inl rfl⟩
  ·exact(hs.2 b (d5 (j8 (c7 e) I.ok.above))).trans (I.base.keep b o e n hb hx)
  ·obtain⟨sl,e1⟩:=I.base.slot b o e n hb hx
   exact⟨sl,(hs.2 b (d5 (j8 (c7 e) I.ok.above))).trans e1⟩
  ·obtain⟨o',e1⟩:=I.base.there b o e hx
   exact⟨o',(hs.2 b (d5 (j8 (c7 e) I.ok.above))).trans e1⟩
  ·by_cases hj:j=i
   ·subst hj
    rw[hi] at e1;cases e1
    rw[t9 hiσ] at e2
    cases e2
    exact⟨u,r,.inl ⟨hk,by simp⟩⟩
   ·rw[u7 (x4 hj)] at e2
    obtain⟨u',r',q⟩:=hl j y v' e1 e2 e3
    refine⟨u',r',?_⟩
    rcases q with ⟨k,e⟩ | ⟨k,c,e,z⟩
    ·refine .inl ⟨k,?_⟩
     have:y≠x:=fun e=>hj (uU hN e1 (e ▸ hi))
     simp[this,e]
    ·exact .inr ⟨k,c,e,z.sameBut hs (cne y c e)⟩
  ·obtain⟨w',z⟩:=I.cell y c e
   exact⟨w',z.sameBut hs (cne y c e)⟩
  ·obtain⟨e,n,ne,nf,d⟩:=I.pin p hp
   exact⟨(hs.2 p.1 ne).trans e,n,ne,nf,d⟩
 ·have hfn:X.fn x=true:=by
   rcases hf with z | z
   ·exact z
   ·rw[z] at hk;cases hk
  obtain⟨c,hc⟩:=I.ok.has x (.inl hk)
  obtain⟨w',z⟩:=I.cell x c hc
  refine wpAny_storeName_cell I.ok.kind hk hc z (fun h' hc' hs=>?_)
  obtain⟨oc,hoc,hocd⟩:=id z
  refine h { s with heap:=h' } ⟨I.ok,I.os,I.bare,⟨fun b o e n hb hx=>?_,fun b o e n hb hx=>?_,I.base.free,fun b o e hx=>?_,I.base.tups,I.base.frzs,I.base.tbls⟩,⟨m,hn.sameBut hs (x4 (cne x c hc)),fun j y v' e1 e2 e3=>?_⟩,fun y c' e=>?_,I.free,I.freeC,fun p hp=>?_,tracked ⟨oc,hoc,I.freeC x c hc⟩ hs,by simpa using I.len⟩ ⟨c,hs,.inr hc⟩
  ·exact(hs.2 b (d5 (j8 (c7 e) (I.ok.cab x c hfn hc)))).trans (I.base.keep b o e n hb hx)
  ·obtain⟨sl,e1⟩:=I.base.slot b o e n hb hx
   exact⟨sl,(hs.2 b (d5 (j8 (c7 e) (I.ok.cab x c hfn hc)))).trans e1⟩
  ·obtain⟨o',e1⟩:=I.base.there b o e hx
   exact⟨o',(hs.2 b (d5 (j8 (c7 e) (I.ok.cab x c hfn hc)))).trans e1⟩
  ·by_cases hj:j=i
   ·subst hj
    rw[hi] at e1;cases e1
    rw[t9 hiσ] at e2
    cases e2
    exact⟨u,r,.inr ⟨.inl hk,c,hc,hc'⟩⟩
   ·rw[u7 (x4 hj)] at e2
    obtain⟨u',r',q⟩:=hl j y v' e1 e2 e3
    refine⟨u',r',?_⟩
    rcases q with q | ⟨k,c',e,z'⟩
    ·exact .inl q
    ·refine .inr ⟨k,c',e,z'.sameBut hs ?_⟩
     rintro rfl
     exact hj (uU hN e1 (I.ok.inj _ _ _ e hc ▸ hi))
  ·by_cases hcc:c'=c
   ·subst hcc;exact⟨_,hc'⟩
   ·obtain⟨w2,z2⟩:=I.cell y c' e
    exact⟨w2,z2.sameBut hs hcc⟩
  ·obtain⟨e,n,ne,nf,d⟩:=I.pin p hp
   refine⟨(hs.2 p.1 ?_).trans e,n,ne,nf,d⟩
   intro q
   rw[q,hoc] at e
   have q':oc=p.2:=i3 e
   exact d w' (by rw[← q'];exact hocd)
theorem eO{M:Model}{A:Around}{E:Value→Shared→Prop}{i:Nat}{x:Str}{v:V}{u:Value}{Q:Unit→Shared→Prop}(I:Inv X pins σ H s)(hN:X.N.Nodup)(hi:X.N[i]?=some x)(hx:Ia X.env.scope x)(r:RelV v u)
  (h:∀ s',Inv X pins (σ.set i (some v)) H s'→Q () s') (hf:X.fn x=true∨X.env.scope.names.lookup x=some .local:=by first | exact .inl rfl | exact .inr rfl | assumption):wpAny M A (storeName X.env x u) Q E s :=
 lR I hN hi hx r (fun s' I' _=>h s' I') hf
theorem Inv.call'{s':Shared}{ch:List Addr}(I:Inv X pins σ H s)(ho:s'.os=s.os)(u:Un (AR X.stack) ch H H' s.heap s'.heap)(hok:HOk X.prog X.w H' s'.heap)(hg:AllBare s'.gens)
  (hch:∀ b∈ch,(b∈X.ex∨X.s₀.heap.objs.size≤b)∧b≠X.env.locals∧(∀ x c,X.env.cells.lookup x=some c→c≠b)∧∀ p∈X.pn++pins,p.1≠b):Inv X pins σ H' s':=by
 obtain⟨h',g',d',t',o'⟩:=s'
 have e:o'=s.os:=ho
 subst e
 exact I.call (g':=g') (t':=t') (d':=d') u hok hg hch
end
abbrev XK:=Value→Option Addr→Hp→Prop
abbrev St:=List (Option V)
abbrev VK:=V→Hp→Prop
abbrev TE:=St→Hp→VK→Prop
abbrev TT:=St→Hp→(Bool→Hp→Prop)→Prop
abbrev TA:=St→Hp→(List V→Hp→Prop)→Prop
structure Ends where
 nx:St→Hp→Prop
 rt:VK
 bk:St→Hp→Prop:=fun _ _=>False
 ct:St→Hp→Prop:=fun _ _=>False
abbrev TS:=Ends→St→Hp→Prop
def EP(X:Cx)(pins:List (Addr×Obj))(σ:St)(Q:VK)(u:Value)(s':Shared):Prop:=∃ v H',Inv X pins σ H' s'∧RelV v u∧Q v H'
def TP(X:Cx)(pins:List (Addr×Obj))(σ:St)(Q:Bool→Hp→Prop)(b:Bool)(s':Shared):Prop:=∃ H',Inv X pins σ H' s'∧Q b H'
def AP(X:Cx)(pins:List (Addr×Obj))(σ:St)(Q:List V→Hp→Prop)(us:List Value)(s':Shared):Prop:=∃ vs H',Inv X pins σ H' s'∧Vals vs us∧Q vs H'
def SP(X:Cx)(pins:List (Addr×Obj))(D:Ends)(f:Flow)(s':Shared):Prop :=
 match f with
 | .next=>∃ σ' H',Inv X pins σ' H' s'∧D.nx σ' H'
 | .brk=>∃ σ' H',Inv X pins σ' H' s'∧D.bk σ' H'
 | .cont=>∃ σ' H',Inv X pins σ' H' s'∧D.ct σ' H'
 | .ret u=>∃ v σ' H',Inv X pins σ' H' s'∧RelV v u∧D.rt v H'
def PE(X:Cx)(e:Expr)(t:TE):Prop :=
 ∀ (pins:List (Addr×Obj)) (s:Shared) (σ:St) (H:Hp) (Q:VK),Inv X pins σ H s→t σ H Q→wpAny (model X.prog X.w) X.A (eval e X.env) (EP X pins σ Q) X.xe s
def PT(X:Cx)(e:Expr)(t:TT):Prop :=
 ∀ (pins:List (Addr×Obj)) (s:Shared) (σ:St) (H:Hp) (Q:Bool→Hp→Prop),Inv X pins σ H s→t σ H Q→wpAny (model X.prog X.w) X.A (isTrue e X.env (eval e X.env)) (TP X pins σ Q) X.xe s
def PW(X:Cx)(e:Expr)(t:TT):Prop :=
 ∀ (whole:Sem Value) (pins:List (Addr×Obj)) (s:Shared) (σ:St) (H:Hp) (Q:Bool→Hp→Prop),Inv X pins σ H s→t σ H Q→wpAny (model X.prog X.w) X.A (isTrue e X.env whole) (TP X pins σ Q) X.xe s
theorem PW.pt{X:Cx}{e:Expr}{t:TT}(h:PW X e t):PT X e t:=h _
def PA(X:Cx)(es:List Expr)(t:TA):Prop :=
 ∀ (pos:Pos) (pins:List (Addr×Obj)) (s:Shared) (σ:St) (H:Hp) (Q:List V→Hp→Prop),Inv X pins σ H s→t σ H Q→wpAny (model X.prog X.w) X.A (spliced (backTo pos (starEach es X.env))) (AP X pins σ Q) X.xe s
def PS(X:Cx)(st:Stmt)(t:TS):Prop :=
 ∀ (pins:List (Addr×Obj)) (s:Shared) (σ:St) (H:Hp) (D:Ends),Inv X pins σ H s→t D σ H→wpAny (model X.prog X.w) X.A (exec st X.env) (SP X pins D) X.xe s
def PSs(X:Cx)(st:List Stmt)(t:TS):Prop :=
 ∀ (pins:List (Addr×Obj)) (s:Shared) (σ:St) (H:Hp) (D:Ends),Inv X pins σ H s→t D σ H→wpAny (model X.prog X.w) X.A (execs st X.env) (SP X pins D) X.xe s
theorem bP{α:Type}{t:Sem α}{Q Q':α→Shared→Prop}{M:Model}{A:Around}{E:Value→Shared→Prop}{s:Shared}(h:wpAny M A t Q E s)(hQ:∀ a s,Q a s→Q' a s):wpAny M A t Q' E s:=wpAny_mono h hQ fun _ _ x=>x
section
variable {X:Cx}
theorem JG{a b:Expr}{ta tb:TE}(ha:PE X a ta)(hb:PE X b tb){pins:List (Addr×Obj)}{s:Shared}{σ:St}{H:Hp}{R:V→V→Hp→Prop}(I:Inv X pins σ H s)(h:ta σ H fun x H1=>tb σ H1 fun y H2=>R x y H2)
  {α:Type} {Q:α→Shared→Prop} {f:Value→Value→Sem α}
  (hf:∀ v u s2 x y H2,Inv X pins σ H2 s2→RelV x v→RelV y u→R x y H2→wpAny (model X.prog X.w) X.A (f v u) Q X.xe s2) :
  wpAny (model X.prog X.w) X.A (eval a X.env) (fun v s₁=>wpAny (model X.prog X.w) X.A (eval b X.env) (fun u s₂=>wpAny (model X.prog X.w) X.A (f v u) Q X.xe s₂) X.xe s₁) X.xe s:=by
 refine bP (ha pins s σ H _ I h) fun v s1 ⟨x,H1,I1,r1,q1⟩=>?_
 refine bP (hb pins s1 σ H1 _ I1 q1) fun u s2 ⟨y,H2,I2,r2,q2⟩=>?_
 exact hf v u s2 x y H2 I2 r1 r2 q2
def C5(i:Nat):TE:=fun σ H Q=>∃ v,σ[i]?=some (some v)∧Q v H
def tC(v:V):TE:=fun _ H Q=>Q v H
theorem FU{i:Nat}{x:Str}{pos:Pos}(hN:X.N[i]?=some x)(hv:Gy X.env.scope x)(hd:(x == ("__debug__":Str))=false:=by decide)(hcd:(x == ("__classdict__":Str))=false:=by decide):PE X (.Name x pos) (C5 i):=by
 intro pins s σ H Q I h
 obtain⟨v,e,h⟩:=h
 obtain⟨m,hn,hl⟩:=I.loc
 obtain⟨u,r,l⟩:=hl i x v hN e hv
 have fin:EP X pins σ Q u s:=⟨v,H,I,r,h⟩
 rcases l with ⟨hk,hm⟩ | ⟨hk,c,hc,hcell⟩
 ·exact wpAny_Name (wpAny_loadName_local I.ok.kind hk hn hm fin) hd
 ·rcases hk with hk | hk
  ·exact wpAny_Name (wpAny_loadName_cell I.ok.kind hk hc hcell fin) hd
  ·exact wpAny_Name (wpAny_loadName_free I.ok.kind hk hc hcell fin hcd) hd
theorem aG{i j pos}:PE X (.Constant (.int i) j pos) (tC (.int i)):=fun _ _ _ H _ I h=>wpAny_Constant_int ⟨.int i,H,I.tok _,⟨_,rfl⟩,h⟩
theorem yO{b j pos}:PE X (.Constant (.bool b) j pos) (tC (.bl b)):=fun _ _ _ H _ I h=>Constant_bool ⟨.bl b,H,I,rfl,h⟩
theorem gJ{j pos}:PE X (.Constant .none j pos) (tC .non):=fun _ _ _ H _ I h=>Constant_none ⟨.non,H,I,rfl,h⟩
theorem cU{x j pos}:PE X (.Constant (.str x) j pos) (tC (.str x)):=fun _ _ _ H _ I h=>Calls.Constant_str ⟨.str x,H,I.tok _,⟨_,rfl⟩,h⟩
def Gl(X:Cx)(x:Str):Prop:=X.env.kindOf x=some .globalImplicit
theorem sJ{E:Value→Shared→Prop}{pins:List (Addr×Obj)}{s:Shared}{σ:St}{H:Hp}{x:Str}{u:Value}{pos:Pos}{Q:Value→Shared→Prop}(I:Inv X pins σ H s)(hg:Gl X x)(hm:X.mg x=some u)(h:Q u s)
  (hd:(x == ("__debug__":Str))=false:=by decide):wpAny (model X.prog X.w) X.A (eval (.Name x pos) X.env) Q E s :=
 aQv I.ok.kind hg (Calls.loadGlobal_global (by rw[I.ok.glob];exact I.mod.glob.keeps I.bk) hm h) hd
theorem jA{E:Value→Shared→Prop}{pins:List (Addr×Obj)}{s:Shared}{σ:St}{H:Hp}{x:Str}{u:Value}{pos:Pos}{Q:Value→Shared→Prop}(I:Inv X pins σ H s)(hg:Gl X x)(hm:X.mg x=none)(hv:bootBuiltins x=some u)(h:Q u s)
  (hn:x≠"__name__":=by decide) (hd:(x == ("__debug__":Str))=false:=by decide):wpAny (model X.prog X.w) X.A (eval (.Name x pos) X.env) Q E s:=by
 obtain⟨mb,h1,h2⟩:=I.mod.blt
 exact aQv I.ok.kind hg (Calls.loadGlobal_builtin (by rw[I.ok.glob];exact I.mod.glob.keeps I.bk) hm (by rw[I.ok.blt];exact h1.keeps I.bk) ((h2 x hn).trans hv) h) hd
theorem nI{x:Str}{v:V}{u:Value}{pos:Pos}(hg:Gl X x)(hm:X.mg x=some u)(r:RelV v u)(hd:(x == ("__debug__":Str))=false:=by decide):PE X (.Name x pos) (tC v) :=
 fun _ _ _ H _ I h=>sJ I hg hm ⟨v,H,I,r,h⟩ hd
theorem DQ{x:Str}{v:V}{u:Value}{pos:Pos}(hg:Gl X x)(hm:X.mg x=none)(hv:bootBuiltins x=some u)(r:RelV v u)(hn:x≠"__name__":=by decide)(hd:(x == ("__debug__":Str))=false:=by decide):PE X (.Name x pos) (tC v) :=
 fun _ _ _ H _ I h=>jA I hg hm hv ⟨v,H,I,r,h⟩ hn hd
variable {a b:Expr}{ta tb:TE}{pos:Pos}
def PC(X:Cx)(op:CmpOp)(a b:Expr)(t:TE):Prop :=
 ∀ (pins:List (Addr×Obj)) (s:Shared) (σ:St) (H:Hp) (Q:VK),Inv X pins σ H s→t σ H Q →
  wpAny (model X.prog X.w) X.A (eval a X.env) (fun v s₁=>wpAny (model X.prog X.w) X.A (eval b X.env) (fun u s₂=>wpAny (model X.prog X.w) X.A (compareOp op v u) (EP X pins σ Q) X.xe s₂) X.xe s₁) X.xe s
def tB(t:TE):TT:=fun σ H Q=>t σ H fun x H1=>∃ c,x=.bl c∧Q c H1
theorem FV{op:CmpOp}{t:TE}(h:PC X op a b t)(h1:behindInMarks op b=false:=by first | exact nobehind _ (by decide) (by decide) | rfl):PT X (.Compare a [op] [b] pos) (tB t):=by
 intro pins s σ H Q I hw
 refine wpAny_isTrue_Compare1 (bP (h pins s σ H _ I hw) fun v s1 h1=>bP h1 fun u s2 h2=>bP h2 fun c s3 ⟨x,H1,I1,r1,q1⟩=>?_) h1
 obtain⟨d,rfl,q⟩:=q1
 cases r1
 exact wpAny_truthy_bool ⟨H1,I1,q⟩
theorem gI{e:Expr}{t:TE}(h:PE X e t)(he:∀ whole,isTrue e X.env whole=(do let v ← whole;standAt e.pos;holding [v] (truthy v)):=by intro _;rfl):PT X e (tB t):=by
 intro pins s σ H Q I hw
 refine isTrue_plain (bP (h pins s σ H _ I hw) fun v s1 ⟨x,H1,I1,r1,q1⟩=>?_) (he _)
 obtain⟨d,rfl,q⟩:=q1
 cases r1
 exact wpAny_truthy_bool ⟨H1,I1,q⟩
variable {tA tB':TT}{rest:List Expr}
def IN(t u:TT):TT:=fun σ H Q=>t σ H fun c H1=>if c=true then u σ H1 Q else Q false H1
def Jn(t u:TT):TT:=fun σ H Q=>t σ H fun c H1=>if c=true then Q true H1 else u σ H1 Q
def Je(t:TT):TT:=fun σ H Q=>t σ H fun c H1=>Q (!c) H1
theorem pw_and1(ha:PT X a tA):PW X (.BoolOp .And [a] pos) tA:=by
 intro wh pins s σ H Q I h
 refine isTrue_and (bP (ha pins s σ H Q I h) fun c s1 e=>?_)
 cases c with
 | true=>exact isTrue_and_nil e
 | false=>exact e
theorem pw_or1(ha:PT X a tA):PW X (.BoolOp .Or [a] pos) tA:=by
 intro wh pins s σ H Q I h
 refine isTrue_or (bP (ha pins s σ H Q I h) fun c s1 e=>?_)
 cases c with
 | false=>exact isTrue_or_nil e
 | true=>exact e
theorem pw_and(ha:PT X a tA)(hb:PW X (.BoolOp .And (b::rest) pos) tB'):PW X (.BoolOp .And (a::b::rest) pos) (IN tA tB'):=by
 intro wh pins s σ H Q I h
 refine isTrue_and (bP (ha pins s σ H _ I h) fun c s1 ⟨H1,I1,q1⟩=>?_)
 cases c with
 | true=>exact hb wh pins s1 σ H1 Q I1 q1
 | false=>exact⟨H1,I1,q1⟩
theorem pw_or(ha:PT X a tA)(hb:PW X (.BoolOp .Or (b::rest) pos) tB'):PW X (.BoolOp .Or (a::b::rest) pos) (Jn tA tB'):=by
 intro wh pins s σ H Q I h
 refine isTrue_or (bP (ha pins s σ H _ I h) fun c s1 ⟨H1,I1,q1⟩=>?_)
 cases c with
 | true=>exact⟨H1,I1,q1⟩
 | false=>exact hb wh pins s1 σ H1 Q I1 q1
theorem BH(ha:PT X a tA):PT X (.UnaryOp .Not a pos) (Je tA):=by
 intro pins s σ H Q I h
 exact isTrue_not (ha pins s σ H (fun c H1=>Q (!c) H1) I h)
def HC(ta tb:TE):TE:=fun σ H Q=>ta σ H fun x H1=>∃ c,x=.bl c∧if c=true then tb σ H1 Q else Q (.bl false) H1
theorem kE{op}{t:TE}(h:PE X a t):PE X (.BoolOp op [a] pos) t:=fun pins s σ H Q I hw=>BoolOp_one (h pins s σ H Q I hw)
theorem kI(ha:PE X a ta)(hb:PE X (.BoolOp .And (b::rest) pos) tb):PE X (.BoolOp .And (a::b::rest) pos) (HC ta tb):=by
 intro pins s σ H Q I h
 refine BoolOp_and (bP (ha pins s σ H _ I h) fun v s1 ⟨x,H1,I1,r1,q1⟩=>?_)
 obtain⟨c,rfl,q1⟩:=q1
 cases r1
 refine wpAny_truthy_bool ?_
 cases c with
 | true=>exact hb pins s1 σ H1 Q I1 q1
 | false=>exact⟨.bl false,H1,I1,rfl,q1⟩
def Jp(t:TT)(ta tb:TE):TE:=fun σ H Q=>t σ H fun c H1=>if c=true then ta σ H1 Q else tb σ H1 Q
theorem fZ{c:Expr}(hc:PT X c tA)(ha:PE X a ta)(hb:PE X b tb):PE X (.IfExp c a b pos) (Jp tA ta tb):=by
 intro pins s σ H Q I h
 refine wpAny_IfExp (bP (hc pins s σ H _ I h) fun d s1 ⟨H1,I1,q1⟩=>?_)
 cases d with
 | true=>exact ha pins s1 σ H1 Q I1 q1
 | false=>exact hb pins s1 σ H1 Q I1 q1
end
def SqL(K:b0)(H:Hp)(a:Addr)(xs:List V):Prop :=
 Rd H a (.lst xs) ∨
  ∃ (o:Obj) (its:Array Value) (n:Nat),K.lookup a=some o∧o.cls=.type "list"∧o.dict=none∧o.data=.seq its n∧its.size≤sizeLine∧Vals xs its.toList
def SqT(K:b0)(H:Hp)(a:Addr)(xs:List V):Prop :=
 Rd H a (.tup xs) ∨
  ∃ (o:Obj) (its:Array Value) (n:Nat),K.lookup a=some o∧o.cls=.type "tuple"∧o.data=.seq its n∧its.size≤sizeLine∧Vals xs its.toList
def IL:Value→Option V
 | .none=>some .non
 | .bool b=>some (.bl b)
 | .int i _=>some (.int i)
 | .str x _=>some (.str x)
 | .bytes b _=>some (.byt b)
 | .float b _=>some (.flt b)
 | .ref a=>some (.ref a)
 | .type n=>some (.ty n)
 | _=>none
theorem RelV.abs{x:V}{u:Value}(r:RelV x u):IL u=some x:=by
 cases x with
 | non=>cases r;rfl
 | bl _=>cases r;rfl
 | int _=>obtain⟨t,rfl⟩:=r;rfl
 | str _=>obtain⟨t,rfl⟩:=r;rfl
 | byt _=>obtain⟨t,rfl⟩:=r;rfl
 | flt _=>obtain⟨t,rfl⟩:=r;rfl
 | ref _=>cases r;rfl
 | ty _=>cases r;rfl
theorem RelV.inj{x y:V}{u:Value}(r:RelV x u)(q:RelV y u):x=y:=i3 (r.abs.symm.trans q.abs)
theorem Vals.inj:∀ {xs ys:List V} {us:List Value},Vals xs us→Vals ys us→xs=ys
 | _,_,_,.nil,.nil=>rfl
 | _,_,_,.cons r t,.cons r' t'=>by rw[r.inj r',Vals.inj t t']
section
variable {X:Cx}{pins:List (Addr×Obj)}{σ:St}{H:Hp}{s:Shared}{a:Addr}{xs ys:List V}
theorem SqL.of{K:b0}(h:H a=some (.lst xs)):SqL K H a xs:=.inl (.inl h)
theorem SqT.of{K:b0}(h:H a=some (.tup xs)):SqT K H a xs:=.inl (.inl h)
theorem Inv.list(I:Inv X pins σ H s)(h:SqL X.K H a xs):∃ its:List Value,Vals xs its∧PlainL s.heap a its.toArray∧xs.length≤sizeLine:=by
 rcases h with h | ⟨o,its,n,hk,hc,hd,hs,hz,r⟩
 ·obtain⟨z,its,n,r,e⟩:=h.ok I.hok
  exact⟨its,r,⟨_,n,e,rfl,rfl,rfl⟩,z⟩
 ·refine⟨its.toList,r,⟨o,n,I.kIn a o hk,hc,hd,by simpa using hs⟩,?_⟩
  have e:=r.length
  simp only [p5] at e
  omega
theorem Inv.tuple(I:Inv X pins σ H s)(h:SqT X.K H a xs):∃ its:List Value,Vals xs its∧IsTup s.heap a its.toArray∧xs.length≤sizeLine:=by
 rcases h with h | ⟨o,its,n,hk,hc,hs,hz,r⟩
 ·obtain⟨z,its,r,p,_⟩:=h.ok I.hok
  exact⟨its,r,p,z⟩
 ·refine⟨its.toList,r,⟨o,I.kIn a o hk,hc,n,by simpa using hs⟩,?_⟩
  have e:=r.length
  simp only [p5] at e
  omega
theorem Inv.list_inj(I:Inv X pins σ H s)(h:SqL X.K H a xs)(h':SqL X.K H a ys):xs=ys:=by
 obtain⟨its,r,⟨o,n,e,_,_,d⟩,_⟩:=I.list h
 obtain⟨its',r',⟨o',n',e',_,_,d'⟩,_⟩:=I.list h'
 rw[e] at e';cases e'
 rw[d] at d'
 injection d' with d1 _
 have:its=its':=by simpa using congrArg Array.toList d1
 subst this
 exact r.inj r'
theorem Inv.tuple_inj(I:Inv X pins σ H s)(h:SqT X.K H a xs)(h':SqT X.K H a ys):xs=ys:=by
 obtain⟨its,r,⟨o,e,_,n,d⟩,_⟩:=I.tuple h
 obtain⟨its',r',⟨o',e',_,n',d'⟩,_⟩:=I.tuple h'
 rw[e] at e';cases e'
 rw[d] at d'
 injection d' with d1 _
 have:its=its':=by simpa using congrArg Array.toList d1
 subst this
 exact r.inj r'
end
abbrev Cx.wish(X:Cx)(E:Value→Shared→Prop):Cx:={ X with xe:=E }
abbrev Cx.nox(X:Cx):Cx:=X.wish fun _ _=>False
theorem Cx.Ok.wish{X:Cx}(ok:X.Ok)(E:Value→Shared→Prop):(X.wish E).Ok :=
 ⟨ok.mod,ok.kind,ok.glob,ok.blt,ok.above,ok.inj,ok.has,ok.cab,ok.hd,ok.frames,ok.stk,ok.exf,ok.bs,ok.bsz,ok.noex,ok.exfs,ok.funs,ok.frf⟩
theorem Cx.Ok.unwish{X:Cx}{E:Value→Shared→Prop}(ok:(X.wish E).Ok):X.Ok :=
 ⟨ok.mod,ok.kind,ok.glob,ok.blt,ok.above,ok.inj,ok.has,ok.cab,ok.hd,ok.frames,ok.stk,ok.exf,ok.bs,ok.bsz,ok.noex,ok.exfs,ok.funs,ok.frf⟩
section
variable {X:Cx}{pins:List (Addr×Obj)}{σ:St}{H:Hp}{s:Shared}{E:Value→Shared→Prop}
theorem Inv.wish(I:Inv X pins σ H s)(E:Value→Shared→Prop):Inv (X.wish E) pins σ H s:=⟨I.ok.wish E,I.os,I.bare,I.base,I.loc,I.cell,I.free,I.freeC,I.pin,I.hok,I.len⟩
theorem Inv.unwish(I:Inv (X.wish E) pins σ H s):Inv X pins σ H s:=⟨I.ok.unwish,I.os,I.bare,I.base,I.loc,I.cell,I.free,I.freeC,I.pin,I.hok,I.len⟩
theorem SP.unwish{D:Ends}{f:Flow}{s':Shared}(h:SP (X.wish E) pins D f s'):SP X pins D f s':=by
 cases f with
 | next=>obtain⟨σ',H',I,q⟩:=h;exact⟨σ',H',I.unwish,q⟩
 | brk=>obtain⟨σ',H',I,q⟩:=h;exact⟨σ',H',I.unwish,q⟩
 | cont=>obtain⟨σ',H',I,q⟩:=h;exact⟨σ',H',I.unwish,q⟩
 | ret u=>obtain⟨v,σ',H',I,r,q⟩:=h;exact⟨v,σ',H',I.unwish,r,q⟩
theorem PSs.nox{st:List Stmt}{t:TS}(h:PSs X.nox st t):PSs X st t:=fun pins s σ H D I hw =>
 wpAny_mono (h pins s σ H D (I.wish _) hw) (fun _ _ q=>q.unwish) fun _ _ z=>False.elim z
end
section
variable {X:Cx}{st:Stmt}{rest:List Stmt}{t u:TS}{e:Expr}{te:TE}{pos:Pos}
def Em:TS:=fun D σ H=>D.nx σ H
def mZ(t u:TS):TS:=fun D σ H=>t { D with nx:=u D } σ H
theorem bU:PSs X [] Em:=fun _ _ σ H _ I h=>wpAny_execs_nil ⟨σ,H,I,h⟩
theorem aD(h1:PS X st t)(h2:PSs X rest u):PSs X (st::rest) (mZ t u):=by
 intro pins s σ H D I h
 refine wpAny_execs_cons (bP (h1 pins s σ H { D with nx:=u D } I h) fun f s1 q=>?_)
 cases f with
 | next =>
  obtain⟨σ',H',I',q⟩:=q
  exact h2 pins s1 σ' H' D I' q
 | ret v=>exact q
 | brk=>exact q
 | cont=>exact q
theorem aF(h1:PS X st t):PSs X [st] t:=by
 intro pins s σ H D I h
 refine wpAny_execs_cons (bP (h1 pins s σ H D I h) fun f s1 q=>?_)
 cases f with
 | next=>exact wpAny_execs_nil q
 | ret v=>exact q
 | brk=>exact q
 | cont=>exact q
theorem Inv.quiet{pins:List (Addr×Obj)}{σ:St}{H:Hp}{s:Shared}(I:Inv X pins σ H s):interactive X.env=false:=by simp[interactive,I.ok.kind]
def Gn(te:TE):TS:=fun D σ H=>te σ H fun _ H1=>D.nx σ H1
theorem bM(he:PE X e te)(hs:swapsWith e none pos.line X.env=pure false:=by rfl):PS X (.Expr e pos) (Gn te):=by
 intro pins s σ H D I h
 exact wpAny_Expr_any (bP (he pins s σ H _ I h) fun v s1 ⟨x,H1,I1,r1,q1⟩=>⟨σ,H1,I1,q1⟩) I.quiet hs
def IM(te:TE):TS:=fun D σ H=>te σ H D.rt
theorem aT(he:PE X e te):PS X (.Return (some e) pos) (IM te):=by
 intro pins s σ H D I h
 exact wpAny_Return_some (bP (he pins s σ H _ I h) fun v s1 ⟨x,H1,I1,r1,q1⟩=>⟨x,σ,H1,I1,r1,q1⟩)
def Iw(c:TT)(t u:TS):TS:=fun D σ H=>c σ H fun b H1=>if b=true then t D σ H1 else u D σ H1
theorem dH{c:Expr}{a b:List Stmt}{tc:TT}(hc:PT X c tc)(ha:PSs X a t)(hb:PSs X b u):PS X (.If c a b pos) (Iw tc t u):=by
 intro pins s σ H D I h
 refine wpAny_If (bP (hc pins s σ H _ I h) fun d s1 ⟨H1,I1,q1⟩=>?_)
 cases d with
 | true=>exact ha pins s1 σ H1 D I1 q1
 | false=>exact hb pins s1 σ H1 D I1 q1
def Eu:TS:=fun _ _ _=>False
theorem rF{sts:List Stmt}:PSs X sts Eu:=fun _ _ _ _ _ _ h=>h.elim
end
abbrev TG:=V→St→Hp→(St→Hp→Prop)→Prop
abbrev F_:=List V→St→Hp→(St→Hp→Prop)→Prop
def PG(X:Cx)(target:Expr)(t:TG):Prop :=
 ∀ (pins:List (Addr×Obj)) (s:Shared) (σ:St) (H:Hp) (v:V) (u:Value) (Q:St→Hp→Prop),Inv X pins σ H s→RelV v u→t v σ H Q →
  wpAny (model X.prog X.w) X.A (assign target X.env u) (fun _ s'=>∃ σ' H',Inv X pins σ' H' s'∧Q σ' H') X.xe s
def Ie(X:Cx)(ts:List Expr)(t:F_):Prop :=
 ∀ (pins:List (Addr×Obj)) (s:Shared) (σ:St) (H:Hp) (vs:List V) (us:List Value) (Q:St→Hp→Prop),Inv X pins σ H s→Vals vs us→t vs σ H Q →
  wpAny (model X.prog X.w) X.A (assignInOrder ((assignEach ts X.env).map (·.2)) us) (fun _ s'=>∃ σ' H',Inv X pins σ' H' s'∧Q σ' H') X.xe s
abbrev F5:=V→V→V→Hp→(Hp→Prop)→Prop
def Go(X:Cx)(t:F5):Prop :=
 ∀ (pins:List (Addr×Obj)) (s:Shared) (σ:St) (H:Hp) (o i v:V) (ov iv u:Value) (Q:Hp→Prop),Inv X pins σ H s→RelV o ov→RelV i iv→RelV v u→t o i v H Q →
  wpAny (model X.prog X.w) X.A (setItem ov iv u) (fun _ s'=>∃ H',Inv X pins σ H' s'∧Q H') X.xe s
abbrev Ij:=V→V→Hp→VK→Prop
def Jj(X:Cx)(op:Operator)(t:Ij):Prop :=
 ∀ (pins:List (Addr×Obj)) (s:Shared) (σ:St) (H:Hp) (x y:V) (v u:Value) (Q:VK),Inv X pins σ H s→RelV x v→RelV y u→t x y H Q →
  wpAny (model X.prog X.w) X.A (inplaceOp op v u) (EP X pins σ Q) X.xe s
section
variable {X:Cx}{pos:Pos}
def D9(i:Nat):TG:=fun v σ H Q=>Q (σ.set i (some v)) H
theorem aX{i:Nat}{x:Str}(hN:X.N.Nodup)(hi:X.N[i]?=some x)(hx:Ia X.env.scope x)(hf:X.fn x=true∨X.env.scope.names.lookup x=some .local:=by first | exact .inl rfl | exact .inr rfl | assumption):PG X (.Name x pos) (D9 i):=by
 intro pins s σ H v u Q I r h
 exact wpAny_assign_Name (eO I hN hi hx r (fun s' I'=>⟨_,H,I',h⟩) hf)
def Ja:F_:=fun vs σ H Q=>vs=[]∧Q σ H
def GS(t:TG)(u:F_):F_:=fun vs σ H Q=>∃ v r,vs=v::r∧t v σ H fun σ' H'=>u r σ' H' Q
theorem gE:Ie X [] Ja:=by
 intro pins s σ H vs us Q I r h
 obtain⟨e,h⟩:=h
 subst e
 cases r
 exact assignInOrder_nil ⟨σ,H,I,h⟩
theorem bZ{e:Expr}{es:List Expr}{t:TG}{u:F_}(h1:PG X e t)(h2:Ie X es u)
  (hs:(assignEach (e::es) X.env).map (·.2)=assign e X.env::(assignEach es X.env).map (·.2):=by rfl):Ie X (e::es) (GS t u):=by
 intro pins s σ H vs us Q I r h
 obtain⟨v,vr,e1,h⟩:=h
 subst e1
 cases r with
 | cons r rr =>
  rw[hs]
  refine assignInOrder_cons (bP (h1 pins s σ H _ _ _ I r h) fun _ s1 ⟨σ1,H1,I1,q1⟩=>?_)
  exact h2 pins s1 σ1 H1 _ _ Q I1 rr q1
def IY(to ti:TE)(t:F5):TG:=fun v σ H Q=>to σ H fun o H1=>ti σ H1 fun i H2=>t o i v H2 fun H3=>Q σ H3
theorem gL{o i:Expr}{to ti:TE}{t:F5}(ho:PE X o to)(hi:PE X i ti)(hs:Go X t)
  (ha:∀ v,assign (.Subscript o i pos) X.env v=(do
   let ov ← holding [v] (eval o X.env)
   let iv ← holding [v,ov] (eval i X.env)
   standAt pos
   holding [v,ov,iv] (setItem ov iv v)
   release [v,ov,iv] []):=by intro _;rfl):PG X (.Subscript o i pos) (IY to ti t):=by
 intro pins s σ H v u Q I r h
 rw[ha]
 refine wpAny_bind (wpAny_holding (bP (ho pins s σ H _ I h) fun ov s1 ⟨x,H1,I1,r1,q1⟩=>?_))
 refine wpAny_bind (wpAny_holding (bP (hi pins s1 σ H1 _ I1 q1) fun iv s2 ⟨y,H2,I2,r2,q2⟩=>?_))
 refine wpAny_bind (wpAny_standAt (wpAny_bind (wpAny_holding (bP (hs pins s2 σ H2 x y v ov iv u _ I2 r1 r2 r q2) fun _ s3 ⟨H3,I3,q3⟩=>?_))))
 exact wpAny_release ⟨σ,H3,I3,q3⟩
def Gv(te:TE)(g:TG):TS:=fun D σ H=>te σ H fun x H1=>g x σ H1 D.nx
theorem fJ{tg e:Expr}{te:TE}{g:TG}(he:PE X e te)(hg:PG X tg g)(hs:swapsWithSole [tg] e pos.line X.env=pure false:=by rfl)(hw:swappedStores [tg] e X.env=pure none:=by rfl)
  (h1:(assignEach [tg] X.env).map (·.2)=[assign tg X.env]:=by rfl):PS X (.Assign [tg] e pos) (Gv te g):=by
 intro pins s σ H D I h
 refine wpAny_Assign_stores (bP (he pins s σ H _ I h) fun v s1 ⟨x,H1,I1,r1,q1⟩=>?_) hs hw
 rw[h1]
 exact bP (hg pins s1 σ H1 x v _ I1 r1 q1) fun _ s2 q=>q
theorem aM{i:Nat}{x:Str}{e:Expr}{te:TE}{pos':Pos}(hN:X.N.Nodup)(hi:X.N[i]?=some x)(hx:Ia X.env.scope x)(he:PE X e te)(hs:swapsWith e (some (.Name x pos')) pos.line X.env=pure false:=by rfl)(hf:X.fn x=true∨X.env.scope.names.lookup x=some .local:=by first | exact .inl rfl | exact .inr rfl | assumption) :
  PS X (.Assign [.Name x pos'] e pos) (Gv te (D9 i)):=by
 intro pins s σ H D I h
 refine wpAny_Assign_Name (bP (he pins s σ H _ I h) fun v s1 ⟨y,H1,I1,r1,q1⟩=>?_) hs
 exact eO I1 hN hi hx r1 (fun s2 I2=>⟨_,H1,I2,q1⟩) hf
def IU(i j:Nat)(ta:TA):TS:=fun D σ H=>ta σ H fun vs H1=>∃ v w,vs=[v,w]∧D.nx ((σ.set i (some v)).set j (some w)) H1
theorem B1{i j:Nat}{x y:Str}{a b:Expr}{ta:TA}{px py pt:Pos}{kt k2 pt2}(hc:X.calm=true)(hN:X.N.Nodup)(hi:X.N[i]?=some x)(hj:X.N[j]?=some y)(hij:i≠j)
  (hx:X.env.scope.names.lookup x=some .local) (hy:X.env.scope.names.lookup y=some .local) (ha:PA X [a,b] ta)
  (hw:swappedStores [.Tuple [.Name x px,.Name y py] kt pt] (.Tuple [a,b] k2 pt2) X.env=pure (some [x,y]))
  (hs:swapsWithSole [.Tuple [.Name x px,.Name y py] kt pt] (.Tuple [a,b] k2 pt2) pos.line X.env=pure false:=by rfl) :
  PS X (.Assign [.Tuple [.Name x px,.Name y py] kt pt] (.Tuple [a,b] k2 pt2) pos) (IU i j ta):=by
 intro pins s σ H D I h
 rw[exec_Assign_arm]
 refine wpAny_bind (wpAny_standAt ?_)
 rw[hs]
 refine wpAny_bind (wpAny_pure ?_)
 rw[if_neg (by decide)]
 refine wpAny_bind (Tuple_ (bP (ha _ pins s σ H _ I h) fun us s1 ⟨vs,H1,I1,r1,q1⟩=>?_))
 obtain⟨v,w,e1,q1⟩:=q1
 subst e1
 obtain⟨u1,u2,rfl,rv,rw'⟩:∃ u1 u2,us=[u1,u2]∧RelV v u1∧RelV w u2:=by
  cases r1 with
  | cons p q =>
   cases q with
   | cons p' q' =>
    cases q'
    exact⟨_,_,rfl,p,p'⟩
 refine wpAny_newObj_type ?_ (by show 2≤sizeLine;decide)
 have I2:Inv X pins σ H1 { s1 with heap:=s1.heap.push { cls:=.type "tuple",data:=.seq [u1,u2].toArray } }:=I1.kept (t':=s1.toks) fun b o e=>c0 _ e
 rw[hw]
 refine wpAny_bind (wpAny_pure ?_)
 show wpAny (model X.prog X.w) X.A (do rule "assign.swapped-stores";let items ← unpackItems (.ref s1.heap.objs.size) 2 none;assignInOrder [fun v=>bindName X.env y v,fun v=>bindName X.env x v] items.reverse;pure Flow.next) _ _ _
 refine wpAny_bind (wpAny_rule (wpAny_bind (unpackItems_tuple (items:=#[u1,u2]) (I.ok.hd hc) (aQr s1.heap _) fun h' hx'=>?_)))
 have I3:=I2.kept (h':=h') (t':=s1.toks) fun b o e=>hx' b o (d5 (c7 e)) e
 show wpAny _ _ (assignInOrder [fun v=>bindName X.env y v,fun v=>bindName X.env x v] [u2,u1] >>= fun _=>pure Flow.next) _ _ _
 refine wpAny_bind (assignInOrder_cons (wpAny_bindName (eO I3 hN hj (.inl hy) rw' (fun s2 I4=>?_) (.inr hy))))
 refine assignInOrder_cons (wpAny_bindName (eO I4 hN hi (.inl hx) rv (fun s3 I5=>assignInOrder_nil (wpAny_pure ?_)) (.inr hx)))
 rw[List.set_comm _ _ (x4 hij)] at I5
 exact⟨_,H1,I5,q1⟩
def Ir(i:Nat)(te:TE)(ti:Ij):TS:=fun D σ H=>∃ x,σ[i]?=some (some x)∧te σ H fun y H1=>ti x y H1 fun z H2=>D.nx (σ.set i (some z)) H2
theorem FS{i:Nat}{x:Str}{e:Expr}{te:TE}{op:Operator}{ti:Ij}{pos':Pos}(hN:X.N.Nodup)(hi:X.N[i]?=some x)(hx:Ia X.env.scope x)(he:PE X e te)(ho:Jj X op ti)(hf:X.fn x=true∨X.env.scope.names.lookup x=some .local:=by first | exact .inl rfl | exact .inr rfl | assumption) :
  PS X (.AugAssign (.Name x pos') op e pos) (Ir i te ti):=by
 intro pins s σ H D I h
 obtain⟨v,e1,h⟩:=h
 obtain⟨m,hn,hl⟩:=I.loc
 have vis:Gy X.env.scope x:=by rcases hx with k | k;exact .inl k;exact .inr (.inl k)
 obtain⟨u,r,l⟩:=hl i x v hi e1 vis
 refine wpAny_AugAssign_Name ?_
 have go:wpAny (model X.prog X.w) X.A (eval e X.env) (fun w s₂=>wpAny (model X.prog X.w) X.A (inplaceOp op u w) (fun r s₃=>wpAny (model X.prog X.w) X.A (storeName X.env x r) (fun _=>SP X pins D .next) X.xe s₃) X.xe s₂) X.xe s:=by
  refine bP (he pins s σ H _ I h) fun w s1 ⟨y,H1,I1,r1,q1⟩=>?_
  refine bP (ho pins s1 σ H1 v y u w _ I1 r r1 q1) fun z s2 ⟨zv,H2,I2,r2,q2⟩=>?_
  exact eO I2 hN hi hx r2 (fun s3 I3=>⟨_,H2,I3,q2⟩) hf
 rcases l with ⟨hk,hm⟩ | ⟨hk,c,hc,hcell⟩
 ·exact wpAny_loadName_local I.ok.kind hk hn hm go
 ·rcases hk with hk | hk
  ·exact wpAny_loadName_cell I.ok.kind hk hc hcell go
  ·rcases hx with k | k
   ·have:X.env.scope.names.lookup x=some .free:=hk
    rw[k] at this;cases this
   ·have:X.env.scope.names.lookup x=some .free:=hk
    rw[k] at this;cases this
def Jq(f:Int→Int→Int):Ij:=fun x y H Q=>∃ i j,x=.int i∧y=.int j∧Q (.int (f i j)) H
theorem Fb:Jj X .Add (Jq fun i j=>i+j):=by
 intro pins s σ H x y v u Q I r1 r2 h
 obtain⟨i,j,e1,e2,q⟩:=h
 subst e1;subst e2
 obtain⟨t,rfl⟩:=r1
 obtain⟨t',rfl⟩:=r2
 exact iadd_int ⟨.int _,H,I.tok _,⟨_,rfl⟩,q⟩
end
section
variable {X:Cx}{pos:Pos}
def Es(c:TT)(tb:TS):TS:=fun D σ H=>∃ W:Nat→St→Hp→Prop,(∃ m,W m σ H)∧∀ m σ H,W m σ H →
 c σ H fun b H1=>if b=true then ∃ N:St→Hp→Prop,(∀ σ' H',N σ' H'→∃ m',m' < m∧W m' σ' H')∧tb { D with nx:=N,ct:=N,bk:=D.nx } σ H1 else D.nx σ H1
theorem fW{c:Expr}{body:List Stmt}{tc:TT}{tb:TS}(hp:PassesOwn (model X.prog X.w) X.A X.env X.xe)(hc:PT X c tc)(hb:PSs X body tb):PS X (.While c body [] pos) (Es tc tb):=by
 intro pins s σ H D I h
 obtain⟨W,⟨m0,w0⟩,turn⟩:=h
 refine wpAny_While (codeAny_whileLoop (fun n s'=>∃ σ' H',Inv X pins σ' H' s'∧W n σ' H') ?_ m0 ⟨σ,H,I,w0⟩)
 rintro n s1 ⟨σ1,H1,I1,w1⟩
 refine wpAny_passesOwn hp (bP (hc pins s1 σ1 H1 _ I1 (turn n σ1 H1 w1)) fun b s2 ⟨H2,I2,q2⟩=>?_)
 cases b with
 | true =>
  obtain⟨N,hN,q2⟩:=q2
  rw[if_pos rfl]
  refine wpAny_passesOwn hp (bP (hb pins s2 σ1 H2 _ I2 q2) fun f s3 q3=>?_)
  cases f with
  | next =>
   obtain⟨σ3,H3,I3,n3⟩:=q3
   obtain⟨m',hm,w3⟩:=hN σ3 H3 n3
   exact⟨m',hm,σ3,H3,I3,w3⟩
  | cont =>
   obtain⟨σ3,H3,I3,n3⟩:=q3
   obtain⟨m',hm,w3⟩:=hN σ3 H3 n3
   exact⟨m',hm,σ3,H3,I3,w3⟩
  | brk=>exact q3
  | ret v=>exact q3
 | false =>
  rw[if_neg g7]
  exact wpAny_execs_nil ⟨σ1,H2,I2,q2⟩
end
structure It where
 go:Nat→Hp→Prop
 yld:Nat→Hp→V→Hp→Prop
 stop:Nat→Hp→Prop
def gB(X:Cx)(pins:List (Addr×Obj))(H:Hp)(b:Addr):Prop :=
 H b=none∧b≠X.env.locals∧b ∉ X.fs∧(b∈X.ex∨X.s₀.heap.objs.size≤b)∧(∀ x c,X.env.cells.lookup x=some c→c≠b)∧∀ p∈X.pn++pins,p.1≠b
theorem Inv.fpOk{X:Cx}{pins:List (Addr×Obj)}{σ:St}{H H':Hp}{s:Shared}{b:Addr}(I:Inv X pins σ H s)(hb:s.heap.objs.size≤b)(hn:H' b=none):gB X pins H' b:=by
 refine⟨hn,aQc (j8 I.lt hb),I.nofs hb,.inr (j0 I.sz hb),fun x c e z=>?_,fun p hp z=>?_⟩
 ·obtain⟨v,q⟩:=I.cell x c e
  exact absurd (j8 q.lt (by rw[z];exact hb)) (x0 _)
 ·exact absurd (j8 (c7 (I.pin p hp).1) (by rw[z];exact hb)) (x0 _)
structure Turn(P:Program)(w:World)(K:b0)(tg:Expr)(J:It)(fp:List Addr)(it:Addr)(tn:Nat→Heap→Prop):Prop where
 mem:it∈fp
 obj:∀ i h,tn i h→∀ b∈fp,∃ o,h.get? b=some o∧∀ v,o.data≠.cell v
 keep:∀ i h h',tn i h→(∀ b∈fp,∀ o,h.get? b=some o→h'.get? b=some o)→tn i h'
 item:∀ (X:Cx),X.prog=P→X.w=w→X.K=K→X.calm=true→∀ (i:Nat) (pins:List (Addr×Obj)) (s:Shared) (σ:St) (H:Hp) (E:Value→Shared→Prop),Inv X pins σ H s→(∀ b∈fp,gB X pins H b)→tn i s.heap→J.go i H →
  wpAny (model P w) X.A (pyNext (.ref it)) (fun r s1=>∃ u,r=some u ∧
   wpAny (model P w) X.A (letOwnedTupleGo tg (.ref it) u) (fun _ s2=>∃ x H',Inv X pins σ H' s2∧RelV x u∧J.yld i H x H'∧tn (i+1) s2.heap∧∀ b∈fp,H' b=none) E s1) E s
 done:∀ (X:Cx),X.prog=P→X.w=w→X.K=K→X.calm=true→∀ (i:Nat) (pins:List (Addr×Obj)) (s:Shared) (σ:St) (H:Hp) (E:Value→Shared→Prop),Inv X pins σ H s→(∀ b∈fp,gB X pins H b)→tn i s.heap→J.stop i H →
  wpAny (model P w) X.A (pyNext (.ref it)) (fun r s1=>r=none∧Inv X pins σ H s1) E s
 self:∀ (A:Around) (i:Nat) (s:Shared) (Q:Value→Shared→Prop) (E:Value→Shared→Prop),tn i s.heap→Q (.ref it) s→wpAny (model P w) A (pyIter (.ref it)) Q E s
abbrev TI:=St→Hp→(It→Hp→Prop)→Prop
def Jh(X:Cx)(pins:List (Addr×Obj))(σ:St)(tg:Expr)(R:It→Hp→Prop)(itv:Value)(s2:Shared):Prop :=
 ∃ (it:Addr) (fp:List Addr) (tn:Nat→Heap→Prop) (J:It) (H':Hp),itv=.ref it∧Inv X pins σ H' s2∧Turn X.prog X.w X.K tg J fp it tn∧tn 0 s2.heap∧(∀ b∈fp,gB X pins H' b)∧R J H'
def PI(X:Cx)(tg iter:Expr)(wi:TI):Prop :=
 ∀ (pins:List (Addr×Obj)) (s:Shared) (σ:St) (H:Hp) (R:It→Hp→Prop),Inv X pins σ H s→wi σ H R →
  wpAny (model X.prog X.w) X.A (eval iter X.env) (fun v s1=>wpAny (model X.prog X.w) X.A (pyIter v) (Jh X pins σ tg R) X.xe s1) X.xe s
theorem qN{M:Model}{A:Around}{E:Value→Shared→Prop}{s:Shared}{tg:Expr}{it:Addr}{u:Value}{o:Obj}{n:String}{vs:Array Value}{Q:Unit→Shared→Prop}(ho:s.heap.get? it=some o)(hc:o.cls=.type n)(hd:o.data=.fields vs)
  (hn:["enumerate","zip","dict_itemiterator","dict_reverseitemiterator","odict_iterator","itertools.zip_longest","itertools.pairwise"].contains n=false) (hQ:Q () s):wpAny M A (letOwnedTupleGo tg (.ref it) u) Q E s:=by
 unfold letOwnedTupleGo
 cases tg <;> first
  | exact wpAny_pure hQ
  | (cases u <;> first
    | exact wpAny_pure hQ
    | (refine wpAny_bind (wpAny_load ho ?_)
       rw[hc,hd]
       show wpAny M A (if (["enumerate","zip","dict_itemiterator","dict_reverseitemiterator","odict_iterator","itertools.zip_longest","itertools.pairwise"].contains n && vs[0]? == some (rawInt _))=true then _ else _) Q E s
       rw[if_neg (by intro h;rw[hn,Bool.false_and] at h;cases h)]
       exact wpAny_pure hQ))
def Fl(K:b0)(a:Addr):It :=
 ⟨fun i H=>∃ xs x,SqL K H a xs∧xs[i]?=some x,fun i H x H'=>H'=H∧∀ xs,SqL K H a xs→xs[i]?=some x,fun i H=>∃ xs,SqL K H a xs∧xs.length≤i⟩
def Gg(K:b0)(a:Addr):It :=
 ⟨fun i H=>∃ xs x,SqT K H a xs∧xs[i]?=some x,fun i H x H'=>H'=H∧∀ xs,SqT K H a xs→xs[i]?=some x,fun i H=>∃ xs,SqT K H a xs∧xs.length≤i⟩
def FL(lo:Int)(n:Nat):It:=⟨fun i _=>i<n,fun i H x H'=>H'=H∧x=.int (lo+i),fun i _=>n≤i⟩
theorem AX{P:Program}{w:World}{K:b0}{tg:Expr}(a it:Addr):Turn P w K tg (Fl K a) [it] it (fun i h=>h.IsListIter it a i) where
 mem:=by simp
 obj:=fun i h st b hb=>by
  have e:b=it:=by simpa using hb
  subst e
  obtain⟨o,e,c,d⟩:=st
  exact⟨o,e,fun v z=>by rw[d] at z;cases z⟩
 keep:=fun i h h' st k=>st.at fun o e=>k it (by simp) o e
 item:=by
  intro X hP hw hK hc i pins s σ H E I hf st hg
  subst hP hw hK
  obtain⟨xs,x,hq,hx⟩:=hg
  obtain⟨its,rv,p,hz⟩:=I.list hq
  obtain⟨u,hu,ru⟩:=rv.get hx
  obtain⟨f0,f1,f2,f3,f4,f5⟩:=hf it (by simp)
  refine wpAny_pyNext_list_item st p.isList (x:=u) (by simpa using hu) fun h' st' sb=>?_
  have I1:Inv X pins σ H { s with heap:=h' }:=I.turned (t':=s.toks) (fun b o hb e=>(sb.2 b hb).trans e) f0 f1 f3 f4 f5
  obtain⟨o,e,c,d⟩:=id st'
  exact⟨u,rfl,qN (s:={ s with heap:=h' }) e c d (by decide) ⟨x,H,I1,ru,⟨rfl,fun ys hy=>by rw[I.list_inj hy hq];exact hx⟩,st',fun b hb=>(hf b hb).1⟩⟩
 done:=by
  intro X hP hw hK hc i pins s σ H E I hf st hg
  subst hP hw hK
  obtain⟨xs,hq,hx⟩:=hg
  obtain⟨its,rv,p,hz⟩:=I.list hq
  obtain⟨f0,f1,f2,f3,f4,f5⟩:=hf it (by simp)
  have hl:=rv.length
  exact wpAny_pyNext_list_end (I.ok.hd hc) st p.isList (by simp;omega) fun h' eb=>⟨rfl,I.turned (t':=s.toks) (fun b o hb e=>eb b o hb e) f0 f1 f3 f4 f5⟩
 self:=fun _ _ _ _ _ st h=>wpAny_pyIter_listiter st h
theorem yC{P:Program}{w:World}{K:b0}{tg:Expr}(a it:Addr):Turn P w K tg (Gg K a) [it] it (fun i h=>h.IsTupleIter it a i) where
 mem:=by simp
 obj:=fun i h st b hb=>by
  have e:b=it:=by simpa using hb
  subst e
  obtain⟨o,e,c,d⟩:=st
  exact⟨o,e,fun v z=>by rw[d] at z;cases z⟩
 keep:=fun i h h' st k=>st.at fun o e=>k it (by simp) o e
 item:=by
  intro X hP hw hK hc i pins s σ H E I hf st hg
  subst hP hw hK
  obtain⟨xs,x,hq,hx⟩:=hg
  obtain⟨its,rv,p,hz⟩:=I.tuple hq
  obtain⟨u,hu,ru⟩:=rv.get hx
  obtain⟨f0,f1,f2,f3,f4,f5⟩:=hf it (by simp)
  refine wpAny_pyNext_tuple_item st (show s.heap.IsTuple a its.toArray from p) (x:=u) (by simpa using hu) fun h' st' sb=>?_
  have I1:Inv X pins σ H { s with heap:=h' }:=I.turned (t':=s.toks) (fun b o hb e=>(sb.2 b hb).trans e) f0 f1 f3 f4 f5
  obtain⟨o,e,c,d⟩:=id st'
  exact⟨u,rfl,qN (s:={ s with heap:=h' }) e c d (by decide) ⟨x,H,I1,ru,⟨rfl,fun ys hy=>by rw[I.tuple_inj hy hq];exact hx⟩,st',fun b hb=>(hf b hb).1⟩⟩
 done:=by
  intro X hP hw hK hc i pins s σ H E I hf st hg
  subst hP hw hK
  obtain⟨xs,hq,hx⟩:=hg
  obtain⟨its,rv,p,hz⟩:=I.tuple hq
  obtain⟨f0,f1,f2,f3,f4,f5⟩:=hf it (by simp)
  have hl:=rv.length
  exact wpAny_pyNext_tuple_end (I.ok.hd hc) st (show s.heap.IsTuple a its.toArray from p) (by simp;omega) fun h' eb=>⟨rfl,I.turned (t':=s.toks) (fun b o hb e=>eb b o hb e) f0 f1 f3 f4 f5⟩
 self:=fun _ _ _ _ _ st h=>wpAny_pyIter_tupleiter st h
theorem xE{P:Program}{w:World}{K:b0}{tg:Expr}(it:Addr)(lo:Int)(n:Nat):Turn P w K tg (FL lo n) [it] it (fun i h=>IsRangeIter h it (lo+(i:Nat) * 1) ((n:Int) - (i:Nat)) 1) where
 mem:=by simp
 obj:=fun i h st b hb=>by
  have e:b=it:=by simpa using hb
  subst e
  exact⟨_,st,fun v z=>by
   have z':Data.fields _=Data.cell v:=z
   cases z'⟩
 keep:=fun i h h' st k=>k it (by simp) _ st
 item:=by
  intro X hP hw hK hc i pins s σ H E I hf st hg
  subst hP hw hK
  obtain⟨f0,f1,f2,f3,f4,f5⟩:=hf it (by simp)
  have W:=Walks.range (prog:=X.prog) (w:=X.w) (I.ok.hd hc) it lo 1 n
  refine W.item i s _ _ hg st fun v h' tk hv st' kk=>?_
  obtain⟨t,rfl⟩:=hv
  have I1:Inv X pins σ H { s with heap:=h',toks:=tk }:=I.turned (fun b o hb e=>kk b o (by simpa using hb) e) f0 f1 f3 f4 f5
  refine⟨_,rfl,qN (s:={ s with heap:=h',toks:=tk }) (n:="range_iterator") st' rfl rfl (by decide) ⟨.int (lo+i),H,I1,⟨t,?_⟩,⟨rfl,rfl⟩,st',fun b hb=>(hf b hb).1⟩⟩
  rw[Int.mul_one]
 done:=by
  intro X hP hw hK hc i pins s σ H E I hf st hg
  subst hP hw hK
  obtain⟨f0,f1,f2,f3,f4,f5⟩:=hf it (by simp)
  exact wpAny_pyNext_range_end (I.ok.hd hc) st (by have:n≤i:=hg;omega) fun h' eb=>⟨rfl,I.turned (t':=s.toks) (fun b o hb e=>eb b o hb e) f0 f1 f3 f4 f5⟩
 self:=fun _ _ _ _ _ st h=>wpAny_pyIter_rangeiter st h
section
variable {X:Cx}{tg:Expr}
def Eb(K:b0)(tl:TE):TI:=fun σ H R=>tl σ H fun x H1=>∃ a,x=.ref a∧(∃ xs,SqL K H1 a xs)∧R (Fl K a) H1
def HK(K:b0)(tl:TE):TI:=fun σ H R=>tl σ H fun x H1=>∃ a,x=.ref a∧(∃ xs,SqT K H1 a xs)∧R (Gg K a) H1
theorem DG{l:Expr}{tl:TE}(hl:PE X l tl):PI X tg l (Eb X.K tl):=by
 intro pins s σ H R I h
 refine bP (hl pins s σ H _ I h) fun v s1 ⟨x,H1,I1,r1,q1⟩=>?_
 obtain⟨a,e,⟨xs,hq⟩,q⟩:=q1
 subst e
 cases r1
 obtain⟨its,rv,p,hz⟩:=I1.list hq
 refine wpAny_pyIter_list p.isList ?_
 refine⟨s1.heap.objs.size,[s1.heap.objs.size],_,_,H1,rfl,I1.kept (t':=s1.toks) fun b o e=>c0 _ e,AX a _,⟨_,g8 _ rfl,rfl,rfl⟩,fun b hb=>?_,q⟩
 have e:b=s1.heap.objs.size:=by simpa using hb
 subst e
 exact I1.fpOk (b5 _) (I1.hok.fresh (b5 _))
theorem EN{l:Expr}{tl:TE}(hl:PE X l tl):PI X tg l (HK X.K tl):=by
 intro pins s σ H R I h
 refine bP (hl pins s σ H _ I h) fun v s1 ⟨x,H1,I1,r1,q1⟩=>?_
 obtain⟨a,e,⟨xs,hq⟩,q⟩:=q1
 subst e
 cases r1
 obtain⟨its,rv,p,hz⟩:=I1.tuple hq
 refine wpAny_pyIter_tuple (show s1.heap.IsTuple a its.toArray from p) ?_
 refine⟨s1.heap.objs.size,[s1.heap.objs.size],_,_,H1,rfl,I1.kept (t':=s1.toks) fun b o e=>c0 _ e,yC a _,⟨_,g8 _ rfl,rfl,rfl⟩,fun b hb=>?_,q⟩
 have e:b=s1.heap.objs.size:=by simpa using hb
 subst e
 exact I1.fpOk (b5 _) (I1.hok.fresh (b5 _))
theorem BL{pins:List (Addr×Obj)}{σ:St}{H:Hp}{s:Shared}{R:It→Hp→Prop}{E:Value→Shared→Prop}{lo hi:Int}{t u v:Tok}{tk:Nat}(I:Inv X pins σ H s)(h1:-(2 ^ 62)≤lo)(h2:lo<2 ^ 62)(h3:-(2 ^ 62)≤hi)(h4:hi<2 ^ 62)
  (q:R (FL lo (hi - lo).toNat) H):wpAny (model X.prog X.w) X.A (pyIter (.ref s.heap.objs.size)) (Jh X pins σ tg R) E { s with heap:=s.heap.push { cls:=.type "range",data:=.fields #[.int lo t,.int hi u,.int 1 v] },toks:=tk }:=by
 refine wpAny_pyIter_range (IsRange.new ..) (small_one h1 h2 h3 h4) ?_
 have I1:Inv X pins σ H { s with heap:=s.heap.push { cls:=.type "range",data:=.fields #[.int lo t,.int hi u,.int 1 v] },toks:=tk }:=I.kept fun b o e=>c0 _ e
 refine⟨(s.heap.push { cls:=.type "range",data:=.fields #[.int lo t,.int hi u,.int 1 v] }).objs.size,[(s.heap.push { cls:=.type "range",data:=.fields #[.int lo t,.int hi u,.int 1 v] }).objs.size],_,_,H,rfl,
  I1.kept (t':=tk) fun b o e=>c0 _ e,xE _ lo (hi - lo).toNat,?_,fun b hb=>?_,q⟩
 ·have e1:lo+((0:Nat):Int) * 1=lo:=by simp
  have e2:(((hi - lo).toNat:Nat):Int) - ((0:Nat):Int)=Builtin.Range.rangeSize lo hi 1:=by rw[rangeSize_one];split <;> omega
  show IsRangeIter _ _ (lo+((0:Nat):Int) * 1) ((((hi - lo).toNat:Nat):Int) - ((0:Nat):Int)) 1
  rw[e1,e2]
  exact g8 _ rfl
 ·have e:b=(s.heap.push { cls:=.type "range",data:=.fields #[.int lo t,.int hi u,.int 1 v] }).objs.size:=by simpa using hb
  subst e
  exact I1.fpOk (b5 _) (I1.hok.fresh (b5 _))
def Hh(ta:TA):TI:=fun σ H R=>ta σ H fun vs H1=>∃ j:Int,vs=[.int j]∧-(2 ^ 62)≤j∧j<2 ^ 62∧R (FL 0 j.toNat) H1
theorem eX{a:Expr}{ta:TA}{p pos:Pos}(hg:Gl X "range")(hm:X.mg "range"=none)(ha:PA X [a] ta)(hs:starEach [a] X.env=[(false,eval a X.env)]:=by rfl):PI X tg (.Call (.Name "range" p) [a] [] pos) (Hh ta):=by
 intro pins s σ H R I h
 refine Call_ (jA I hg hm boot_range (t7 (bP (ha pos pins s σ H _ I h) fun us s1 ⟨vs,H1,I1,r1,q1⟩=>?_) hs rfl))
 obtain⟨j,e,q1,q2,q⟩:=q1
 subst e
 cases r1 with
 | cons r rr =>
  cases rr
  obtain⟨t,rfl⟩:=r
  exact call_range_1 (BL I1 (by omega) (by omega) q1 q2 (by simpa using q))
def Iv(wi:TI)(g:TG)(tb:TS):TS:=fun D σ H=>wi σ H fun J H1=>∃ W:Nat→Nat→St→Hp→Prop,(∃ m,W 0 m σ H1)∧∀ i m σ H,W i m σ H →
 (J.stop i H∧D.nx σ H)∨(J.go i H∧∃ N:St→Hp→Prop,(∀ σ' H',N σ' H'→∃ m',m' < m∧W (i+1) m' σ' H')∧∀ x H',J.yld i H x H'→g x σ H' fun σ2 H2=>tb { D with nx:=N,ct:=N,bk:=D.nx } σ2 H2)
def jK(fp:List Addr)(h:Heap):List (Addr×Obj):=fp.filterMap fun b=>(h.get? b).map fun o=>(b,o)
theorem fB{fp:List Addr}{h:Heap}{b:Addr}{o:Obj}(hb:b∈fp)(e:h.get? b=some o):(b,o)∈jK fp h:=aXj.mpr ⟨b,hb,by rw[e];rfl⟩
theorem Ar{fp:List Addr}{h:Heap}{p:Addr×Obj}(hp:p∈jK fp h):p.1∈fp∧h.get? p.1=some p.2:=by
 obtain⟨b,hb,e⟩:=aXj.mp hp
 cases q:h.get? b with
 | none=>rw[q] at e;cases e
 | some o =>
  rw[q] at e
  have e':(b,o)=p:=i3 e
  subst e'
  exact⟨hb,q⟩
theorem Inv.pinned{pins:List (Addr×Obj)}{σ:St}{H:Hp}{s:Shared}{fp:List Addr}(I:Inv X pins σ H s)(hf:∀ b∈fp,gB X pins H b)(ho:∀ b∈fp,∃ o,s.heap.get? b=some o∧∀ v,o.data≠.cell v):Inv X (pins++jK fp s.heap) σ H s :=
 I.pins_of fun p hp=>(i5.mp hp).elim (fun z=>I.pin p (d6 _ z)) fun z=>by
  obtain⟨hb,e⟩:=Ar z
  obtain⟨f0,f1,f2,_⟩:=hf p.1 hb
  obtain⟨o,e',d⟩:=ho p.1 hb
  rw[e] at e';cases e'
  exact⟨e,f0,f1,f2,d⟩
theorem Inv.unpinned{pins pl:List (Addr×Obj)}{σ:St}{H:Hp}{s:Shared}(I:Inv X (pins++pl) σ H s):Inv X pins σ H s:=I.pins_of fun p hp=>I.pin p (d6 _ (l7 _ hp))
theorem cV{iter:Expr}{body:List Stmt}{wi:TI}{g:TG}{tb:TS}{pos:Pos}(hp:PassesOwn (model X.prog X.w) X.A X.env X.xe)(hc:X.calm=true)(hi:PI X tg iter wi)(hg:PG X tg g)(hb:PSs X body tb)
  (hs:∀ x,foldedSetIterable iter X.env x=pure x:=by intro _;rfl):PS X (.For tg iter body [] pos) (Iv wi g tb):=by
 intro pins s σ H D I h
 refine wpAny_For (bP (hi pins s σ H _ I h) fun v s1 h1=>bP h1 fun itv s2 h2=>?_) hs
 obtain⟨it,fp,tn,J,H2,e,I2,T,st2,f2,W,⟨m0,w0⟩,turn⟩:=h2
 subst e
 -- what stays true of the iterator's objects through the loop
 have stat:∀ {H':Hp},(∀ b∈fp,H' b=none)→∀ b∈fp,gB X pins H' b:=fun hn b hb=>⟨hn b hb,(f2 b hb).2⟩
 refine codeAny_forLoop_any (fun n s'=>∃ i σ' H',Inv X pins σ' H' s'∧tn i s'.heap∧(∀ b∈fp,H' b=none)∧W i n σ' H') ?_ m0 ⟨0,σ,H2,I2,st2,fun b hb=>(f2 b hb).1,w0⟩
 rintro n s3 ⟨i,σ3,H3,I3,st3,fr3,w3⟩
 rcases turn i n σ3 H3 w3 with ⟨stop,qn⟩ | ⟨go,N,hN,step⟩
 ·refine wpAny_passesOwn hp (bP (T.done X rfl rfl rfl hc i pins s3 σ3 H3 X.xe I3 (stat fr3) st3 stop) fun r s4 ⟨hr,I4⟩=>?_)
  subst hr
  exact wpAny_execs_nil ⟨σ3,H3,I4,qn⟩
 ·refine wpAny_passesOwn hp (bP (T.item X rfl rfl rfl hc i pins s3 σ3 H3 X.xe I3 (stat fr3) st3 go) fun r s4 ⟨u,hr,h4⟩=>?_)
  subst hr
  refine wpAny_passesOwn hp (bP h4 fun _ s5 ⟨x,H5,I5,r5,y5,st5,fr5⟩=>?_)
  have I5':=I5.pinned (stat fr5) (T.obj _ _ st5)
  refine wpAny_passesOwn hp (bP (hg _ s5 σ3 H5 x u _ I5' r5 (step x H5 y5)) fun _ s6 ⟨σ6,H6,I6,q6⟩=>?_)
  refine wpAny_passesOwn hp (bP (hb _ s6 σ6 H6 _ I6 q6) fun f s7 q7=>?_)
  have again:∀ {σ7:St} {H7:Hp},Inv X (pins++jK fp s5.heap) σ7 H7 s7→N σ7 H7→∃ m,m<n∧∃ i σ' H',Inv X pins σ' H' s7∧tn i s7.heap∧(∀ b∈fp,H' b=none)∧W i m σ' H':=fun {σ7 H7} I7 n7=>by
   obtain⟨m',hm,w7⟩:=hN σ7 H7 n7
   refine⟨m',hm,i+1,σ7,H7,I7.unpinned,T.keep _ _ _ st5 fun b hb o e=>(I7.pin (b,o) (d6 _ (d6 _ (fB hb e)))).1,fun b hb=>?_,w7⟩
   obtain⟨o,e,d⟩:=T.obj _ _ st5 b hb
   exact(I7.pin (b,o) (d6 _ (d6 _ (fB hb e)))).2.1
  cases f with
  | next=>obtain⟨σ7,H7,I7,n7⟩:=q7;exact again I7 n7
  | cont=>obtain⟨σ7,H7,I7,n7⟩:=q7;exact again I7 n7
  | brk=>obtain⟨σ7,H7,I7,q7⟩:=q7;exact⟨σ7,H7,I7.unpinned,q7⟩
  | ret v=>obtain⟨x7,σ7,H7,I7,r7,q7⟩:=q7;exact⟨x7,σ7,H7,I7.unpinned,r7,q7⟩
end
theorem eM{K:b0}{a:Addr}{xs:List V}{g:TG}{tb:TS}{D:Ends}{σ:St}{H:Hp}(Pv:Nat→St→Hp→Prop)(h0:Pv 0 σ H)(hl:∀ i σ H,i≤xs.length→Pv i σ H→SqL K H a xs)
  (hs:∀ i x σ H,xs[i]?=some x→Pv i σ H→g x σ H fun σ2 H2=>tb { D with nx:=Pv (i+1),ct:=Pv (i+1),bk:=D.nx } σ2 H2) (hd:∀ σ H,Pv xs.length σ H→D.nx σ H) :
  ∃ W:Nat→Nat→St→Hp→Prop,(∃ m,W 0 m σ H)∧∀ i m σ H,W i m σ H →
   ((Fl K a).stop i H∧D.nx σ H)∨((Fl K a).go i H∧∃ N:St→Hp→Prop,(∀ σ' H',N σ' H'→∃ m',m' < m∧W (i+1) m' σ' H')∧∀ x H',(Fl K a).yld i H x H'→g x σ H' fun σ2 H2=>tb { D with nx:=N,ct:=N,bk:=D.nx } σ2 H2):=by
 refine⟨fun i m σ H=>m=xs.length - i∧i≤xs.length∧Pv i σ H,⟨xs.length,by simp,j6 _,h0⟩,?_⟩
 rintro i m σ H ⟨rfl,hi,p⟩
 have q:=hl i σ H hi p
 by_cases hlt:i<xs.length
 ·refine .inr ⟨⟨xs,xs[i],q,by simp[hlt]⟩,Pv (i+1),fun σ' H' p'=>⟨xs.length - (i+1),by omega,rfl,hlt,p'⟩,fun x H' y=>?_⟩
  obtain⟨e,y⟩:=y
  subst e
  exact hs i x σ _ (y xs q) p
 ·have e:i=xs.length:=by omega
  subst e
  exact .inl ⟨⟨xs,q,b5 _⟩,hd σ H p⟩
theorem zY{K:b0}{a:Addr}{xs:List V}{g:TG}{tb:TS}{D:Ends}{σ:St}{H:Hp}(Pv:Nat→St→Hp→Prop)(h0:Pv 0 σ H)(hl:∀ i σ H,i≤xs.length→Pv i σ H→SqT K H a xs)
  (hs:∀ i x σ H,xs[i]?=some x→Pv i σ H→g x σ H fun σ2 H2=>tb { D with nx:=Pv (i+1),ct:=Pv (i+1),bk:=D.nx } σ2 H2) (hd:∀ σ H,Pv xs.length σ H→D.nx σ H) :
  ∃ W:Nat→Nat→St→Hp→Prop,(∃ m,W 0 m σ H)∧∀ i m σ H,W i m σ H →
   ((Gg K a).stop i H∧D.nx σ H)∨((Gg K a).go i H∧∃ N:St→Hp→Prop,(∀ σ' H',N σ' H'→∃ m',m' < m∧W (i+1) m' σ' H')∧∀ x H',(Gg K a).yld i H x H'→g x σ H' fun σ2 H2=>tb { D with nx:=N,ct:=N,bk:=D.nx } σ2 H2):=by
 refine⟨fun i m σ H=>m=xs.length - i∧i≤xs.length∧Pv i σ H,⟨xs.length,by simp,j6 _,h0⟩,?_⟩
 rintro i m σ H ⟨rfl,hi,p⟩
 have q:=hl i σ H hi p
 by_cases hlt:i<xs.length
 ·refine .inr ⟨⟨xs,xs[i],q,by simp[hlt]⟩,Pv (i+1),fun σ' H' p'=>⟨xs.length - (i+1),by omega,rfl,hlt,p'⟩,fun x H' y=>?_⟩
  obtain⟨e,y⟩:=y
  subst e
  exact hs i x σ _ (y xs q) p
 ·have e:i=xs.length:=by omega
  subst e
  exact .inl ⟨⟨xs,q,b5 _⟩,hd σ H p⟩
theorem jS{lo:Int}{n:Nat}{g:TG}{tb:TS}{D:Ends}{σ:St}{H:Hp}(Pv:Nat→St→Hp→Prop)(h0:Pv 0 σ H)
  (hs:∀ i σ H,i<n→Pv i σ H→g (.int (lo+i)) σ H fun σ2 H2=>tb { D with nx:=Pv (i+1),ct:=Pv (i+1),bk:=D.nx } σ2 H2) (hd:∀ σ H,Pv n σ H→D.nx σ H) :
  ∃ W:Nat→Nat→St→Hp→Prop,(∃ m,W 0 m σ H)∧∀ i m σ H,W i m σ H →
   ((FL lo n).stop i H∧D.nx σ H)∨((FL lo n).go i H∧∃ N:St→Hp→Prop,(∀ σ' H',N σ' H'→∃ m',m' < m∧W (i+1) m' σ' H')∧∀ x H',(FL lo n).yld i H x H'→g x σ H' fun σ2 H2=>tb { D with nx:=N,ct:=N,bk:=D.nx } σ2 H2):=by
 refine⟨fun i m σ H=>m=n - i∧i≤n∧Pv i σ H,⟨n,by simp,j6 _,h0⟩,?_⟩
 rintro i m σ H ⟨rfl,hi,p⟩
 by_cases hlt:i<n
 ·refine .inr ⟨hlt,Pv (i+1),fun σ' H' p'=>⟨n - (i+1),by omega,rfl,hlt,p'⟩,fun x H' y=>?_⟩
  obtain⟨e,y⟩:=y
  subst e y
  exact hs i σ _ hlt p
 ·have e:i=n:=by omega
  subst e
  exact .inl ⟨b5 _,hd σ H p⟩
abbrev R2:=V→V→Hp→VK→Prop
def iZ(X:Cx)(f:Value→Value→Sem Value)(r:R2):Prop :=
 ∀ (pins:List (Addr×Obj)) (s:Shared) (σ:St) (H:Hp) (x y:V) (v u:Value) (Q:VK),Inv X pins σ H s→RelV x v→RelV y u→r x y H Q →
  wpAny (model X.prog X.w) X.A (f v u) (EP X pins σ Q) X.xe s
def Iu(X:Cx)(f:Value→Sem Value)(r:V→Hp→VK→Prop):Prop :=
 ∀ (pins:List (Addr×Obj)) (s:Shared) (σ:St) (H:Hp) (x:V) (v:Value) (Q:VK),Inv X pins σ H s→RelV x v→r x H Q →
  wpAny (model X.prog X.w) X.A (f v) (EP X pins σ Q) X.xe s
def dX(X:Cx)(f:Value)(r:List V→Hp→VK→Prop):Prop :=
 ∀ (pins:List (Addr×Obj)) (s:Shared) (σ:St) (H:Hp) (xs:List V) (us:List Value) (Q:VK),Inv X pins σ H s→Vals xs us→r xs H Q →
  wpAny (model X.prog X.w) X.A (call f us) (EP X pins σ Q) X.xe s
def Im(r:R2)(ta tb:TE):TE:=fun σ H Q=>ta σ H fun x H1=>tb σ H1 fun y H2=>r x y H2 Q
def JE(r:V→Hp→VK→Prop)(ta:TE):TE:=fun σ H Q=>ta σ H fun x H1=>r x H1 Q
def rI(C:Int→Int→Prop)(g:Int→Int→V):R2:=fun x y H Q=>∃ i j,x=.int i∧y=.int j∧C i j∧Q (g i j) H
def Eo(g:Int→Int→V):R2:=fun x y H Q=>∃ i j,x=.int i∧y=.int j∧Q (g i j) H
def rU(g:Int→V):V→Hp→VK→Prop:=fun x H Q=>∃ i,x=.int i∧Q (g i) H
section
variable {X:Cx}{a b c:Expr}{ta tb tc:TE}{pos:Pos}
theorem FD(ha:PE X a ta)(hb:PE X b tb){pins:List (Addr×Obj)}{s:Shared}{σ:St}{H:Hp}{R:V→V→Hp→Prop}(I:Inv X pins σ H s)
  (h:ta σ H fun x H1=>tb σ H1 fun y H2=>R x y H2) {Q:Value→Shared→Prop} {f:Value→Value→Sem Value}
  (hf:∀ v u s2 x y H2,Inv X pins σ H2 s2→RelV x v→RelV y u→R x y H2→wpAny (model X.prog X.w) X.A (f v u) Q X.xe s2) :
  wpAny (model X.prog X.w) X.A (eval a X.env) (fun v s₁=>wpAny (model X.prog X.w) X.A (eval b X.env) (fun u s₂=>wpAny (model X.prog X.w) X.A (f v u) Q X.xe s₂) X.xe s₁) X.xe s:=by
 refine bP (ha pins s σ H _ I h) fun v s1 ⟨x,H1,I1,r1,q1⟩=>?_
 refine bP (hb pins s1 σ H1 _ I1 q1) fun u s2 ⟨y,H2,I2,r2,q2⟩=>?_
 exact hf v u s2 x y H2 I2 r1 r2 q2
theorem bE{op:Operator}{r:R2}(ho:iZ X (binaryOp op) r)(ha:PE X a ta)(hb:PE X b tb):PE X (.BinOp a op b pos) (Im r ta tb):=by
 intro pins s σ H Q I h
 exact wpAny_BinOp (FD ha hb I h fun v u s2 x y H2 I2 rx ry q=>ho pins s2 σ H2 x y v u Q I2 rx ry q)
theorem BM{op:UnaryOp}{r:V→Hp→VK→Prop}(ho:Iu X (unaryOp op) r)(ha:PE X a ta):PE X (.UnaryOp op a pos) (JE r ta):=by
 intro pins s σ H Q I h
 exact UnaryOp_ (bP (ha pins s σ H _ I h) fun v s1 ⟨x,H1,I1,r1,q1⟩=>ho pins s1 σ H1 x v Q I1 r1 q1)
theorem Ic{f:Value→Value→Sem Value}{C:Int→Int→Prop}{g:Int→Int→Int}
  (rule:∀ (i j:Int) (t u:Tok) (s:Shared) (Q:Value→Shared→Prop) (E:Value→Shared→Prop),C i j→Q (.int (g i j) s.toks) { s with toks:=s.toks+1 }→wpAny (model X.prog X.w) X.A (f (.int i t) (.int j u)) Q E s) :
  iZ X f (rI C fun i j=>.int (g i j)):=by
 intro pins s σ H x y v u Q I rx ry h
 obtain⟨i,j,rfl,rfl,hc,q⟩:=h
 obtain⟨t,rfl⟩:=rx
 obtain⟨t',rfl⟩:=ry
 exact rule i j t t' s _ _ hc ⟨.int (g i j),H,I.tok _,⟨_,rfl⟩,q⟩
theorem GH{f:Value→Value→Sem Value}{g:Int→Int→Int}
  (rule:∀ (i j:Int) (t u:Tok) (s:Shared) (Q:Value→Shared→Prop) (E:Value→Shared→Prop),Q (.int (g i j) s.toks) { s with toks:=s.toks+1 }→wpAny (model X.prog X.w) X.A (f (.int i t) (.int j u)) Q E s) :
  iZ X f (Eo fun i j=>.int (g i j)):=by
 intro pins s σ H x y v u Q I rx ry h
 obtain⟨i,j,rfl,rfl,q⟩:=h
 obtain⟨t,rfl⟩:=rx
 obtain⟨t',rfl⟩:=ry
 exact rule i j t t' s _ _ ⟨.int (g i j),H,I.tok _,⟨_,rfl⟩,q⟩
theorem DX{f:Value→Value→Sem Value}{g:Int→Int→Bool}
  (rule:∀ (i j:Int) (t u:Tok) (s:Shared) (Q:Value→Shared→Prop) (E:Value→Shared→Prop),Q (.bool (g i j)) s→wpAny (model X.prog X.w) X.A (f (.int i t) (.int j u)) Q E s) :
  iZ X f (Eo fun i j=>.bl (g i j)):=by
 intro pins s σ H x y v u Q I rx ry h
 obtain⟨i,j,rfl,rfl,q⟩:=h
 obtain⟨t,rfl⟩:=rx
 obtain⟨t',rfl⟩:=ry
 exact rule i j t t' s _ _ ⟨.bl (g i j),H,I,rfl,q⟩
def Iy(i j:Int):Prop:=0<j∧j<1073741824
def IX(i j:Int):Prop:=0≤j∧j≤1000000∧i.natAbs<2 ^ 64
def CMul(i j:Int):Prop:=(-(2 ^ 64)<i∧i<2 ^ 64)∨(-(2 ^ 64)<j∧j<2 ^ 64)
theorem CMul.ok{i j:Int}(h:CMul i j):IntMulOk i j:=by
 rcases h with ⟨h1,h2⟩ | ⟨h1,h2⟩
 ·exact .of_left (intBits_le_64 h1 h2)
 ·exact .of_right (intBits_le_64 h1 h2)
theorem eP:iZ X (binaryOp .Add) (Eo fun i j=>.int (i+j)):=GH fun _ _ _ _ _ _ _ q=>add_int q
theorem CG:iZ X (binaryOp .Sub) (Eo fun i j=>.int (i - j)):=GH fun _ _ _ _ _ _ _ q=>sub_int q
theorem iD:iZ X (binaryOp .Mult) (rI CMul fun i j=>.int (i * j)):=Ic fun _ _ _ _ _ _ _ hc q=>mul_int q hc.ok
theorem sR:iZ X (binaryOp .FloorDiv) (rI Iy fun i j=>.int (i / j)):=Ic fun i j _ _ _ _ _ hc q=>by
 have h1:(0:Int)<j:=hc.1
 have h2:j<1073741824:=hc.2
 exact floordiv_int (by omega) (by rw[Int.fdiv_eq_ediv_of_nonneg i (by omega)];exact q) (.inl (PyProof.noPylong_small (by omega)))
theorem kL:iZ X (binaryOp .Mod) (rI (fun _ j=>0<j) fun i j=>.int (i % j)):=Ic fun i j _ _ _ _ _ hc q=>by
 have h1:(0:Int)<j:=hc
 exact mod_int' (by omega) (by rw[Int.fmod_eq_emod_of_nonneg i (by omega)];exact q)
theorem EV:iZ X (binaryOp .Pow) (rI IX fun i j=>.int (i ^ j.toNat)):=Ic fun _ _ _ _ _ _ _ hc q=>pow_int_small hc.1 hc.2.1 hc.2.2 q
theorem Jo{f:Value→Sem Value}{g:Int→Int}
  (rule:∀ (i:Int) (t:Tok) (s:Shared) (Q:Value→Shared→Prop) (E:Value→Shared→Prop),Q (.int (g i) s.toks) { s with toks:=s.toks+1 }→wpAny (model X.prog X.w) X.A (f (.int i t)) Q E s) :
  Iu X f (rU fun i=>.int (g i)):=by
 intro pins s σ H x v Q I rx h
 obtain⟨i,rfl,q⟩:=h
 obtain⟨t,rfl⟩:=rx
 exact rule i t s _ _ ⟨.int (g i),H,I.tok _,⟨_,rfl⟩,q⟩
theorem wW:Iu X (unaryOp .USub) (rU fun i=>.int (-i)):=Jo fun _ _ _ _ _ q=>neg_int q
end
def HV:V→V→Bool
 | .non,.non=>true | .non,.int _=>true | .int _,.non=>true | .non,.bl _=>true | .bl _,.non=>true | .non,.str _=>true | .str _,.non=>true
 | .int _,.int _=>true | .bl _,.bl _=>true | .str _,.str _=>true | .byt _,.byt _=>true
 | .int _,.str _=>true | .str _,.int _=>true | .bl _,.str _=>true | .str _,.bl _=>true
 | _,_=>false
def Jz:R2:=fun x y H Q=>HV x y=true∧Q (.bl (decide (x=y))) H
def JA:R2:=fun x y H Q=>HV x y=true∧Q (.bl (!decide (x=y))) H
theorem zM{i j:Int}:decide (V.int i=V.int j)=(i == j):=by
 rw[z8]
 simp
theorem CK{i j:Bool}:decide (V.bl i=V.bl j)=(i == j):=by
 rw[z8]
 simp
theorem zI{i j:Str}:decide (V.str i=V.str j)=(i == j):=by
 rw[z8]
 simp
theorem yF{i j:Array UInt8}:decide (V.byt i=V.byt j)=(i.toList == j.toList):=by
 rw[z8]
 cases i
 cases j
 simp
section
variable {X:Cx}{a b c:Expr}{ta tb tc:TE}{pos:Pos}
theorem bL{pins:List (Addr×Obj)}{σ:St}{H:Hp}{s:Shared}{Q:VK}{k k':Bool}(I:Inv X pins σ H s)(q:Q (.bl k) H)(e:k=k'):EP X pins σ Q (.bool k') s:=by
 subst e
 exact⟨.bl k,H,I,rfl,q⟩
theorem eR:iZ X (compareOp .Eq) Jz:=by
 intro pins s σ H x y v u Q I rx ry h
 obtain⟨hs,q⟩:=h
 cases x with
 | non =>
  cases rx
  cases y with
  | non=>cases ry;exact aZd (bL I q (by simp))
  | bl j=>cases ry;exact aZe (bL I q (by simp))
  | int j=>obtain⟨t',rfl⟩:=ry;exact aZn (bL I q (by simp))
  | str j=>obtain⟨t',rfl⟩:=ry;exact aZo (bL I q (by simp))
  | _=>exact absurd (show false=true from hs) g7
 | bl i =>
  cases rx
  cases y with
  | non=>cases ry;exact aZf (bL I q (by simp))
  | bl j=>cases ry;exact eq_bool (bL I q CK)
  | str j=>obtain⟨t',rfl⟩:=ry;exact aZg (bL I q (by simp))
  | _=>exact absurd (show false=true from hs) g7
 | int i =>
  obtain⟨t,rfl⟩:=rx
  cases y with
  | non=>cases ry;exact aZp (bL I q (by simp))
  | int j=>obtain⟨t',rfl⟩:=ry;exact eq_int (bL I q zM)
  | str j=>obtain⟨t',rfl⟩:=ry;exact aZq (bL I q (by simp))
  | _=>exact absurd (show false=true from hs) g7
 | str i =>
  obtain⟨t,rfl⟩:=rx
  cases y with
  | non=>cases ry;exact aZr (bL I q (by simp))
  | bl j=>cases ry;exact aZh (bL I q (by simp))
  | int j=>obtain⟨t',rfl⟩:=ry;exact aZs (bL I q (by simp))
  | str j=>obtain⟨t',rfl⟩:=ry;exact eq_str (bL I q zI)
  | _=>exact absurd (show false=true from hs) g7
 | byt i =>
  obtain⟨t,rfl⟩:=rx
  cases y with
  | byt j=>obtain⟨t',rfl⟩:=ry;exact PySem.W.eq_bytes (bL I q yF)
  | _=>exact absurd (show false=true from hs) g7
 | _=>cases y <;> exact absurd (show false=true from hs) g7
theorem jB:iZ X (compareOp .NotEq) JA:=by
 intro pins s σ H x y v u Q I rx ry h
 obtain⟨hs,q⟩:=h
 cases x with
 | non =>
  cases rx
  cases y with
  | non=>cases ry;exact aZi (bL I q (by simp))
  | bl j=>cases ry;exact aZj (bL I q (by simp))
  | int j=>obtain⟨t',rfl⟩:=ry;exact aZt (bL I q (by simp))
  | str j=>obtain⟨t',rfl⟩:=ry;exact aZu (bL I q (by simp))
  | _=>exact absurd (show false=true from hs) g7
 | bl i =>
  cases rx
  cases y with
  | non=>cases ry;exact aZk (bL I q (by simp))
  | bl j=>cases ry;exact ne_bool (bL I q (congrArg not CK))
  | str j=>obtain⟨t',rfl⟩:=ry;exact aZl (bL I q (by simp))
  | _=>exact absurd (show false=true from hs) g7
 | int i =>
  obtain⟨t,rfl⟩:=rx
  cases y with
  | non=>cases ry;exact aZv (bL I q (by simp))
  | int j=>obtain⟨t',rfl⟩:=ry;exact ne_int (bL I q (congrArg not zM))
  | str j=>obtain⟨t',rfl⟩:=ry;exact aZw (bL I q (by simp))
  | _=>exact absurd (show false=true from hs) g7
 | str i =>
  obtain⟨t,rfl⟩:=rx
  cases y with
  | non=>cases ry;exact aZx (bL I q (by simp))
  | bl j=>cases ry;exact aZm (bL I q (by simp))
  | int j=>obtain⟨t',rfl⟩:=ry;exact aZy (bL I q (by simp))
  | str j=>obtain⟨t',rfl⟩:=ry;exact ne_str (bL I q (congrArg not zI))
  | _=>exact absurd (show false=true from hs) g7
 | byt i =>
  obtain⟨t,rfl⟩:=rx
  cases y with
  | byt j=>obtain⟨t',rfl⟩:=ry;exact PySem.W.ne_bytes (bL I q (congrArg not yF))
  | _=>exact absurd (show false=true from hs) g7
 | _=>cases y <;> exact absurd (show false=true from hs) g7
theorem yJ:iZ X (compareOp .Lt) (Eo fun i j=>.bl (decide (i<j))):=DX fun _ _ _ _ _ _ _ q=>lt_int q
theorem HI:iZ X (compareOp .LtE) (Eo fun i j=>.bl (decide (i≤j))):=DX fun _ _ _ _ _ _ _ q=>le_int q
theorem mV:iZ X (compareOp .Gt) (Eo fun i j=>.bl (decide (j<i))):=DX fun _ _ _ _ _ _ _ q=>gt_int q
theorem Gq:iZ X (compareOp .GtE) (Eo fun i j=>.bl (decide (j≤i))):=DX fun _ _ _ _ _ _ _ q=>ge_int q
theorem xH:iZ X (compareOp .Is) (fun x y H Q=>y=.non∧Q (.bl (decide (x=.non))) H):=by
 intro pins s σ H x y v u Q I rx ry h
 obtain⟨rfl,q⟩:=h
 cases ry
 refine is_none_gen (bL I q ?_)
 cases x <;> first
  | (cases rx;rfl)
  | (obtain⟨t,rfl⟩:=rx;rfl)
theorem yT:iZ X (compareOp .IsNot) (fun x y H Q=>y=.non∧Q (.bl (!decide (x=.non))) H):=by
 intro pins s σ H x y v u Q I rx ry h
 obtain⟨rfl,q⟩:=h
 cases ry
 refine isnot_none_gen (bL I q ?_)
 cases x <;> first
  | (cases rx;rfl)
  | (obtain⟨t,rfl⟩:=rx;rfl)
theorem aQ(b:Expr){op:CmpOp}(h:op≠.In:=by decide)(h2:op≠.NotIn:=by decide):behindInMarks op b=false:=by
 have e1:(op == CmpOp.In)=false:=by cases op <;> first | rfl | exact absurd rfl h
 have e2:(op == CmpOp.NotIn)=false:=by cases op <;> first | rfl | exact absurd rfl h2
 cases b <;> simp[behindInMarks,e1,e2]
theorem dD{op:CmpOp}{r:R2}(ho:iZ X (compareOp op) r)(ha:PE X a ta)(hb:PE X b tb)(hm:behindInMarks op b=false):PE X (.Compare a [op] [b] pos) (Im r ta tb):=by
 intro pins s σ H Q I h
 exact wpAny_Compare1 (FD ha hb I h fun v u s2 x y H2 I2 rx ry q=>ho pins s2 σ H2 x y v u Q I2 rx ry q) hm
def HA(t:TE):TT:=fun σ H Q=>t σ H fun x H'=>∃ k,x=.bl k∧Q k H'
theorem aR{op:CmpOp}{r:R2}(ho:iZ X (compareOp op) r)(ha:PE X a ta)(hb:PE X b tb)(hm:behindInMarks op b=false):PT X (.Compare a [op] [b] pos) (HA (Im r ta tb)):=by
 intro pins s σ H Q I h
 refine wpAny_isTrue_Compare1 (bP (ha pins s σ H _ I h) fun v s1 ⟨x,H1,I1,r1,q1⟩=>bP (hb pins s1 σ H1 _ I1 q1) fun u s2 ⟨y,H2,I2,r2,q2⟩ =>
  bP (ho pins s2 σ H2 x y v u _ I2 r1 r2 q2) fun c s3 ⟨z,H3,I3,r3,k,e,q3⟩=>?_) hm
 subst e
 cases r3
 exact wpAny_truthy_bool ⟨H3,I3,q3⟩
theorem lU:(sizeLine:Nat)<2 ^ 63:=by rw[sizeLine_eq];decide
theorem dP:iZ X (binaryOp .Add) (fun x y H Q=>∃ i j,x=.str i∧y=.str j∧i.length+j.length≤sizeLine∧Q (.str (i++j)) H):=by
 intro pins s σ H x y v u Q I rx ry h
 obtain⟨i,j,rfl,rfl,hz,q⟩:=h
 obtain⟨t,rfl⟩:=rx
 obtain⟨t',rfl⟩:=ry
 exact add_str (fun t' tk=>⟨.str (i++j),H,I.tok _,⟨_,rfl⟩,q⟩) hz
theorem kW{x:V}{us:List Value}(r:Vals [x] us):∃ u,us=[u]∧RelV x u:=by
 cases r with
 | cons r1 r2=>cases r2;exact⟨_,rfl,r1⟩
theorem gS:dX X (.type "int") (fun xs H Q=>(∃ i,xs=[.int i]∧Q (.int i) H)∨∃ k,xs=[.bl k]∧Q (.int (if k then 1 else 0)) H):=by
 intro pins s σ H xs us Q I r h
 rcases h with ⟨i,rfl,q⟩ | ⟨k,rfl,q⟩
 ·obtain⟨u,rfl,t,rfl⟩:=kW r
  exact call_int_int ⟨.int i,H,I,⟨_,rfl⟩,q⟩
 ·obtain⟨u,rfl,r1⟩:=kW r
  cases r1
  exact call_int_bool ⟨.int (if k then 1 else 0),H,I.tok _,⟨_,rfl⟩,q⟩
end
structure ObjM(h:Heap)(x dx C:Addr)(mA:Str→Option Value):Prop where
 obj:h.get? x=some (PySem.W.instObj C dx)
 ns:h.Ns1 dx mA
 ne:dx≠x
theorem Ag{h:Heap}{dx:Addr}{mA:Str→Option Value}(n:h.Ns1 dx mA):∃ od,h.get? dx=some od∧∀ name,PySem.W.lookIn name od=some (mA name):=by
 obtain⟨o,es,ep,ho,hd,hk,_,hm⟩:=n
 refine⟨o,ho,fun name=>?_⟩
 have e:=hm name
 unfold nsFind findBy at e
 rw[← Array.find?_toList] at e
 unfold PySem.W.lookIn
 rw[hd]
 dsimp only
 split
 ·rename_i y q
  rw[q] at e
  exact congrArg some e
 ·rename_i q
  rw[q] at e
  have a:es.toList.any (·.refKey)=false:=by
   rw[List.any_eq_false]
   intro y hy
   obtain⟨z,t,hkey⟩:=hk y (Array.mem_toList_iff.mp hy)
   simp[DictEntry.refKey,hkey]
  have a':¬ es.toList.any (·.refKey)=true:=by rw[a];exact g7
  rw[if_neg a']
  exact congrArg some e
theorem ObjM.look{h:Heap}{x dx C:Addr}{mA:Str→Option Value}(I:ObjM h x dx C mA):∃ od,PySem.W.InstAt h x (PySem.W.instObj C dx) C (some od)∧∀ name,PySem.W.lookIn name od=some (mA name) :=
 let ⟨od,ho,hl⟩:=Ag I.ns
 ⟨od,⟨I.obj,rfl,rfl,ho⟩,hl⟩
section
variable {prog:Program}{w:World}{A:Around}{E:Value→Shared→Prop}{s:Shared}{K:b0}{x dx C f:Addr}{mA:Str→Option Value}{name:Str}{v:Value}
theorem Dm{expr:Bool}{Q:Value→Shared→Prop}(X:K.In s.heap)(I:ObjM s.heap x dx C mA)(hg:PySem.W.plainGet K C name=true)(hh:PySem.W.hasDictIn K C=true)
  (ha:PySem.W.findIn K (.ref C) name=some none) (hv:mA name=some v) (hv':PySem.W.handedIn v=true) (h:Q v { s with toks:=s.toks+1 }) :
  wpAny (model prog w) A (getAttr (.ref x) name expr) Q E s:=by
 obtain⟨od,J,hl⟩:=I.look
 exact PySem.W.get_value X J (aQn hg).1 (PySem.W.findObj_own hh ha rfl (by rw[hl,hv])) hv' h
theorem BZ{pl:Sem Bool}{Q:Value×List Value→Shared→Prop}(X:K.In s.heap)(I:ObjM s.heap x dx C mA)(hg:PySem.W.plainGet K C name=true)
  (hf:PySem.W.findIn K (.ref C) name=some (some (.ref f))) (ht:PySem.W.isFn K (.ref f)=true) (hv:mA name=none) (h:Q (.ref f,[.ref x]) s) :
  wpAny (model prog w) A (getMethod (.ref x) name pl) Q E s:=by
 obtain⟨od,J,hl⟩:=I.look
 exact PySem.W.method_fn X J (aQn hg).1 (aQn hg).2 hf (beq_iff_eq.mp ht) (by show (PySem.W.lookIn name od).map (·.isSome)=some false;rw[hl,hv];rfl) h
theorem DH{ns:List Str}{Q:Unit→Shared→Prop}(X:K.In s.heap)(I:ObjM s.heap x dx C mA)
  (hs:PySem.W.findIn K (.ref C) "__setattr__"=some (some (.builtin "object.__setattr__"))) (hp:PySem.W.plainOver K C=true) (ht:PySem.W.takerIn K C name=some none) (hh:PySem.W.hasDictIn K C=true)
  (hw:PySem.Within mA ns) (hsz:ns.length≤sizeLine)
  (h:∀ h',ObjM h' x dx C (fun y=>if y=name then some v else mA y)→Heap.SameBut dx s.heap h'→Q () { s with heap:=h',toks:=s.toks+2 }) :
  wpAny (model prog w) A (setAttr (.ref x) name v) Q E s:=by
 obtain⟨od,J,hl⟩:=I.look
 refine PySem.W.set_plain X J hs (PySem.W.osa_open (s:={ s with toks:=s.toks+1 }) (r:=none) X J hp ht fun b=>?_)
 obtain⟨cd,hc,hd'⟩:=PySem.W.any_some hh
 have hx:s.heap.get? x=some ⟨.ref C,some dx,.plain,#[]⟩:=I.obj
 refine wpAny_bind (wpAny_pure (wpAny_bind (wpAny_bind (wpAny_loadPart hx (wpAny_bind (aJK (s:={ s with toks:=s.toks+1 }) (PySem.W.looks_clsIn X hc) ?_))))))
 rw[hd']
 refine wpAny_pure (a:=some dx) (wpAny_bind (wpAny_pure (wpAny_bind ?_)))
 refine wpAny_nsSet1 (s:={ s with toks:=s.toks+1 }) I.ns fun h' hn2 hs2=>?_
 obtain⟨oD,esD,epD,hoD,hdD,hcD⟩:=hn2.count (aJL name v hw)
 refine wpAny_bind (wpAny_lookBehind hoD (by rw[hdD];exact pastItsLine_dict (j0 hcD (by rw[j1];omega))) ?_)
 exact wpAny_pure (h _ ⟨(hs2.2 _ (x4 I.ne)).trans I.obj,hn2,I.ne⟩ hs2)
theorem Cm{R:Result→Shared→Prop}{vs:List Value}{kw:List (Str×Value)}(X:K.In s.heap)(hm:PySem.W.makesIn K C=true)
  (hi:PySem.W.findIn K (.ref C) "__init__"=some (some (.ref f))) (hf:PySem.W.typeIn K (.ref f)=some (.type "function"))
  (h:codeAny (model prog w) (A.under (.builtin "type.__call__" ⟨.ref C::vs,kw⟩)) (.call (.ref f) ⟨.ref (s.heap.objs.size+1)::vs,kw⟩) (PySem.W.InitBack (s.heap.objs.size+1) R)
   { s with heap:=(s.heap.push PySem.W.emptyDict).push (PySem.W.instObj C s.heap.objs.size) }) :
  codeAny (model prog w) A (.call (.ref C) ⟨vs,kw⟩) R s:=by
 obtain⟨hh,g,d,t,os⟩:=s
 exact PySem.W.make_core (PySem.W.makes_of X hm) (PySem.W.looks_findIn X hi) (fun self=>PySem.W.bind_fn X self hf) (.inl rfl) h
end
def fF(f:Str)(v:V):List (Str×V)→List (Str×V)
 | []=>[(f,v)]
 | (g,x)::r=>if g=f then (g,v)::r else (g,x)::fF f v r
theorem bC(f g:Str)(v:V):∀ fs:List (Str×V),(fF f v fs).lookup g=if g=f then some v else fs.lookup g
 | []=>by
  show List.lookup g [(f,v)]=_
  by_cases h:g=f
  ·have hb:(g == f)=true:=beq_iff_eq.mpr h
   simp only [List.lookup,hb,if_pos h]
  ·have hb:(g == f)=false:=beq_eq_false_iff_ne.mpr h
   simp only [List.lookup,hb,if_neg h]
 | (k,x)::r=>by
  have ih:=bC f g v r
  rw[show fF f v ((k,x)::r)=(if k=f then (k,v)::r else (k,x)::fF f v r) from rfl]
  by_cases hk:k=f
  ·rw[if_pos hk]
   by_cases h:g=k
   ·have hb:(g == k)=true:=beq_iff_eq.mpr h
    simp only [List.lookup,hb,if_pos (h.trans hk)]
   ·have hb:(g == k)=false:=beq_eq_false_iff_ne.mpr h
    simp only [List.lookup,hb,if_neg (fun e:g=f=>h (e.trans hk.symm))]
  ·rw[if_neg hk]
   by_cases h:g=k
   ·have hb:(g == k)=true:=beq_iff_eq.mpr h
    simp only [List.lookup,hb,if_neg (fun e:g=f=>hk (h.symm.trans e))]
   ·have hb:(g == k)=false:=beq_eq_false_iff_ne.mpr h
    simp only [List.lookup,hb]
    exact ih
theorem mJ(f:Str)(v:V):∀ fs:List (Str×V),f∈(fF f v fs).map (·.1)∧∀ g,g∈fs.map (·.1)→g∈(fF f v fs).map (·.1)
 | []=>⟨by simp[fF],fun g h=>by simp at h⟩
 | (k,x)::r=>by
  obtain⟨i1,i2⟩:=mJ f v r
  rw[show fF f v ((k,x)::r)=(if k=f then (k,v)::r else (k,x)::fF f v r) from rfl]
  by_cases hk:k=f
  ·rw[if_pos hk]
   subst hk
   exact⟨by simp,fun g h=>by simpa using h⟩
  ·rw[if_neg hk]
   refine⟨?_,fun g h=>?_⟩
   ·rw[d3]
    exact c8 _ i1
   ·rw[d3] at h ⊢
    rcases c4.mp h with e | e
    ·exact c4.mpr (.inl e)
    ·exact c8 _ (i2 g e)
theorem mN(f:Str)(v:V):∀ fs:List (Str×V),(fF f v fs).length≤fs.length+1
 | []=>by simp[fF]
 | (k,x)::r=>by
  have ih:=mN f v r
  rw[show fF f v ((k,x)::r)=(if k=f then (k,v)::r else (k,x)::fF f v r) from rfl]
  by_cases hk:k=f
  ·rw[if_pos hk,j1,j1];omega
  ·rw[if_neg hk,j1,j1];omega
theorem RelO.some_of{v:V}{o:Option Value}(r:RelO (some v) o):∃ u,o=some u∧RelV v u:=by
 cases o with
 | none=>exact(show False from r).elim
 | some u=>exact⟨u,rfl,r⟩
theorem RelO.none_of{o:Option Value}(r:RelO none o):o=none:=by
 cases o with
 | none=>rfl
 | some u=>exact(show False from r).elim
theorem AD{v:V}{u:Value}(r:RelV v u):PySem.W.handedIn u=true:=by
 cases v with
 | non=>cases (show u=Value.none from r);rfl
 | bl b=>cases (show u=Value.bool b from r);rfl
 | int i=>obtain⟨t,e⟩:=(show ∃ t,u=Value.int i t from r);cases e;rfl
 | str x=>obtain⟨t,e⟩:=(show ∃ t,u=Value.str x t from r);cases e;rfl
 | byt b=>obtain⟨t,e⟩:=(show ∃ t,u=Value.bytes b t from r);cases e;rfl
 | flt b=>obtain⟨t,e⟩:=(show ∃ t,u=Value.float b t from r);cases e;rfl
 | ref a=>cases (show u=Value.ref a from r);rfl
 | ty n=>cases (show u=Value.type n from r);rfl
section
variable {P:Program}{w:World}{H H':Hp}{h h':Heap}{a C dx:Addr}{fs fs':List (Str×V)}
theorem tO(hok:HOk P w H h)(e:H a=some (.ins C dx fs)):∃ mA,ObjM h a dx C mA∧(∀ f,RelO (fs.lookup f) (mA f))∧PySem.Within mA (fs.map (·.1))∧fs.length≤1000∧H dx=some (.own a):=by
 obtain⟨d,z,ne,ob,mA,n,r,q⟩:=(show ObjOk P w H h a (.ins C dx fs) from hok a _ e)
 exact⟨mA,⟨ob,n,ne⟩,r,q,z,d⟩
end
structure Cls(K:b0)(C:Addr):Prop where
 pg:PySem.W.plainGet K C Str.empty=true
 hd:PySem.W.hasDictIn K C=true
 po:PySem.W.plainOver K C=true
 sa:PySem.W.findIn K (.ref C) "__setattr__"=some (some (.builtin "object.__setattr__"))
theorem Cls.get{K:b0}{C:Addr}(c:Cls K C)(f:Str):PySem.W.plainGet K C f=true:=c.pg
def NoAttr(K:b0)(C:Addr)(f:Str):Prop:=PySem.W.findIn K (.ref C) f=some none
theorem NoAttr.taker{K:b0}{C:Addr}{f:Str}(n:NoAttr K C f):PySem.W.takerIn K C f=some none:=by
 unfold PySem.W.takerIn
 rw[show PySem.W.findIn K (.ref C) f=some none from n]
 rfl
structure Meth(K:b0)(C:Addr)(m:Str)(f:Addr):Prop where
 at_:PySem.W.findIn K (.ref C) m=some (some (.ref f))
 fn:PySem.W.isFn K (.ref f)=true
 kp:PySem.W.keepIn K (.ref f)=true
section
variable {X:Cx}{pins:List (Addr×Obj)}{σ:St}{H:Hp}{s:Shared}{a C dx:Addr}{fs:List (Str×V)}{f:Str}{v:V}{A:Around}{E:Value→Shared→Prop}
theorem wV{b:Bool}{Q:Value→Shared→Prop}(I:Inv X pins σ H s)(e:H a=some (.ins C dx fs))(c:Cls X.K C)(n:NoAttr X.K C f)(l:fs.lookup f=some v)
  (h:∀ u s',Inv X pins σ H s'→RelV v u→Q u s'):wpAny (model X.prog X.w) A (getAttr (.ref a) f b) Q E s:=by
 obtain⟨mA,O,r,_,_,_⟩:=tO I.hok e
 obtain⟨u,hu,ru⟩:=RelO.some_of (v:=v) (o:=mA f) (by rw[← l];exact r f)
 exact Dm I.kIn O (c.get f) c.hd n hu (AD ru) (h u _ (I.tok _) ru)
theorem kH{m:Str}{g:Addr}{pl:Sem Bool}{Q:Value×List Value→Shared→Prop}(I:Inv X pins σ H s)(e:H a=some (.ins C dx fs))(c:Cls X.K C)(k:Meth X.K C m g)(l:fs.lookup m=none)
  (h:Q (.ref g,[.ref a]) s):wpAny (model X.prog X.w) A (getMethod (.ref a) m pl) Q E s:=by
 obtain⟨mA,O,r,_,_,_⟩:=tO I.hok e
 have hn:mA m=none:=RelO.none_of (by rw[← l];exact r m)
 exact BZ I.kIn O (c.get m) k.at_ k.fn hn h
theorem xK{y:V}{u:Value}{Q:Unit→Shared→Prop}(I:Inv X pins σ H s)(e:H a=some (.ins C dx fs))(c:Cls X.K C)(n:NoAttr X.K C f)(hl:fs.length<1000)(ry:RelV y u)
  (h:∀ s',Inv X pins σ (upd H a (.ins C dx (fF f y fs))) s'→Q () s'):wpAny (model X.prog X.w) A (setAttr (.ref a) f u) Q E s:=by
 obtain⟨mA,O,r,wi,_,ho⟩:=tO I.hok e
 have hz:(fs.map (·.1)).length≤sizeLine:=by rw[b7,sizeLine_eq];omega
 refine DH I.kIn O c.sa c.po n.taker c.hd wi hz fun h' O' sb=>h _ ?_
 have hd:∃ o,h'.get? dx=some o:=let ⟨o,_,_,e',_⟩:=O'.ns;⟨o,e'⟩
 refine I.write (x:=a) (e:=dx) (by rw[e];exact True.intro) (.inr ho) (fun b q hb z=>(sb.2 b hb).trans z) hd ?_
 refine⟨by rw[aE O.ne];exact ho,?_,O.ne,O'.obj,_,O'.ns,fun g=>?_,fun g hg=>?_⟩
 ·have:=mN f y fs;omega
 ·show RelO ((fF f y fs).lookup g) (if g=f then some u else mA g)
  rw[bC]
  by_cases q:g=f
  ·rw[if_pos q,if_pos q];exact ry
  ·rw[if_neg q,if_neg q];exact r g
 ·by_cases q:g=f
  ·rw[q];exact(mJ f y fs).1
  ·refine(mJ f y fs).2 g (wi g fun z=>hg ?_)
   show (if g=f then some u else mA g)=none
   rw[if_neg q];exact z
theorem Inv.made(I:Inv X pins σ H s):Inv X pins σ (upd (upd H s.heap.objs.size (.own (s.heap.objs.size+1))) (s.heap.objs.size+1) (.ins C s.heap.objs.size []))
  { s with heap:=(s.heap.push PySem.W.emptyDict).push (PySem.W.instObj C s.heap.objs.size) }:=by
 have e1:(s.heap.push PySem.W.emptyDict).get? s.heap.objs.size=some PySem.W.emptyDict:=g8 s.heap rfl
 have e2:((s.heap.push PySem.W.emptyDict).push (PySem.W.instObj C s.heap.objs.size)).get? (s.heap.objs.size+1)=some (PySem.W.instObj C s.heap.objs.size):=by
  have:=g8 (s.heap.push PySem.W.emptyDict) (o:=PySem.W.instObj C s.heap.objs.size) rfl
  rwa [aQp] at this
 have e3:(s.heap.push PySem.W.emptyDict).Ns s.heap.objs.size (fun _=>none):=⟨PySem.W.emptyDict,#[],_,e1,rfl,(fun e he=>absurd he (by simp)),fun _=>rfl⟩
 have I1:=I.laid (a:=s.heap.objs.size) (o:=.own (s.heap.objs.size+1)) (h':=s.heap.push PySem.W.emptyDict) (t':=s.toks) (fun b u q=>c0 _ q) (b5 _) ⟨_,e1⟩
 refine I1.laid (a:=s.heap.objs.size+1) (o:=.ins C s.heap.objs.size []) (t':=s.toks) (fun b u q=>c0 _ q) (aXk (aQp _ _)) ?_
 have ne:s.heap.objs.size≠s.heap.objs.size+1:=d5 (aXC _)
 refine⟨by rw[aE ne,aC],j6 _,ne,e2,fun _=>none,(Heap.Ns1.of_empty e3).at fun o q=>c0 _ q,fun _=>True.intro,fun y hy=>absurd rfl hy⟩
theorem C_{prog:Program}{w:World}{env:Env}{e:Expr}{f:Str}{pos:Pos}{s:Shared}{Q:Value→Shared→Prop}(hb:attributeBase e f env (eval e env)=eval e env)
  (h:wpAny (model prog w) A (eval e env) (fun o s₁=>wpAny (model prog w) A (getAttr o f true) Q E s₁) E s):wpAny (model prog w) A (eval (.Attribute e f pos) env) Q E s :=
 Attribute_any_ h (by rw[arm_eval_Attribute,hb])
end
def HG(K:b0)(ta:TE)(f:Str):TE:=fun σ H Q=>ta σ H fun x H1=>∃ a C dx fs v,x=.ref a∧H1 a=some (.ins C dx fs)∧Cls K C∧NoAttr K C f∧fs.lookup f=some v∧Q v H1
def Gj(K:b0)(ta tv:TE)(f:Str):TS:=fun D σ H=>tv σ H fun y H1=>ta σ H1 fun x H2=>∃ a C dx fs,x=.ref a∧H2 a=some (.ins C dx fs)∧Cls K C∧NoAttr K C f∧fs.length<1000 ∧
 D.nx σ (upd H2 a (.ins C dx (fF f y fs)))
section
variable {X:Cx}{o e value:Expr}{f:Str}{pos pos' tpos:Pos}{ta tv:TE}
theorem Fh(he:PE X e ta)(hb:attributeBase e f X.env (eval e X.env)=eval e X.env):PE X (.Attribute e f pos) (HG X.K ta f):=by
 intro pins s σ H Q I h
 refine C_ hb (bP (he pins s σ H _ I h) fun u s1 ⟨x,H1,I1,rx,a,C,dx,fs,v,ex,ea,c,n,l,q⟩=>?_)
 subst ex
 obtain rfl:u=Value.ref a:=rx
 exact wV I1 ea c n l fun u' s2 I2 ru=>⟨v,H1,I2,ru,q⟩
theorem Ex(ha:PE X o ta)(hv:PE X value tv)(hs:swapsWith value (some (.Attribute o f pos')) pos.line X.env=pure false):PS X (.Assign [.Attribute o f pos'] value pos) (Gj X.K ta tv f):=by
 intro pins s σ H D I h
 refine plainObj_wpAny_Assign_Attribute (bP (hv pins s σ H _ I h) fun u s1 ⟨y,H1,I1,ry,q⟩=>bP (ha pins s1 σ H1 _ I1 q) fun ov s2 ⟨x,H2,I2,rx,a,C,dx,fs,ex,ea,c,n,l,q2⟩=>?_) hs
 subst ex
 obtain rfl:ov=Value.ref a:=rx
 exact xK I2 ea c n l ry fun s3 I3=>⟨σ,_,I3,q2⟩
theorem D_{pl:Sem Bool}{m:Str}{apos:Pos}{args:List Expr}{pins:List (Addr×Obj)}{s:Shared}{σ:St}{H:Hp}{Q:Value→Shared→Prop}{te:TE}(he:PE X e te)(I:Inv X pins σ H s)
  (h:te σ H fun x H1=>∃ a C dx fs g,x=.ref a∧H1 a=some (.ins C dx fs)∧Cls X.K C∧Meth X.K C m g∧fs.lookup m=none ∧
   ∀ s1,Inv X pins σ H1 s1→wpAny (model X.prog X.w) X.A (callWith pos (.ref g) [.ref a] (backTo pos (starEach args X.env)) (backToKw pos (keywordEach [] X.env))) Q X.xe s1)
  (ht:eval (.Call (.Attribute e m apos) args [] pos) X.env=(do
   let ov ← eval e X.env
   standAt apos.atName
   let (f,first) ← holding [ov] (getMethod ov m pl)
   callWith pos f first (backTo pos (starEach args X.env)) (backToKw pos (keywordEach [] X.env)))) :
  wpAny (model X.prog X.w) X.A (eval (.Call (.Attribute e m apos) args [] pos) X.env) Q X.xe s:=by
 refine aQ5 (pl:=pl) (bP (he pins s σ H _ I h) fun u s1 ⟨x,H1,I1,rx,a,C,dx,fs,g,ex,ea,c,k,l,q⟩=>?_) ht
 subst ex
 obtain rfl:u=Value.ref a:=rx
 exact kH I1 ea c k l (q s1 I1)
end
structure Room(k:Nat)(A:Around):Prop where
 hd:A.handled=none
 dp:A.depth+3 * k+5<recursionLimit
 un:A.units+16 * k+200<cLine
theorem Room.mono{j k:Nat}{A:Around}(r:Room k A)(h:j≤k):Room j A:=⟨r.hd,by have:=r.dp;omega,by have:=r.un;omega⟩
theorem Room.deeper{k:Nat}{A:Around}(r:Room (k+1) A)(env:Env):Room k (A.deeper env) :=
 ⟨r.hd,by have:=r.dp;show A.depth+1+3 * k+5<_;omega,by have:=r.un;show A.units+3+16 * k+200<_;omega⟩
theorem Room.in1{k:Nat}{A:Around}(r:Room (k+1) A):Room k A.in1 :=
 ⟨r.hd,by have:=r.dp;show A.depth+3 * k+5<_;omega,by have:=r.un;show A.units+1+16 * k+200<_;omega⟩
theorem xQ{A:Around}{C:Addr}{us:List Value}{kw:List (Str×Value)}:(A.under (.builtin "type.__call__" ⟨.ref C::us,kw⟩)).depth=A.depth+1:=by
 first | rfl | simp[Around.under,Code.weight,Code.isCreation,Code.isGuard,Code.isCaller,Code.frames,Code.isFrame,guardIds]
theorem xG{A:Around}{C:Addr}{us:List Value}{kw:List (Str×Value)}:(A.under (.builtin "type.__call__" ⟨.ref C::us,kw⟩)).units=A.units+1:=by
 first | rfl | simp[Around.under,Code.cUnits,Code.frames,Code.isFrame]
theorem Room.make{k:Nat}{A:Around}(r:Room (k+1) A)(C:Addr)(us:List Value)(kw:List (Str×Value)):Room k (A.under (.builtin "type.__call__" ⟨.ref C::us,kw⟩)) :=
 ⟨r.hd,by have:=r.dp;rw[xQ];omega,by have:=r.un;rw[xG];omega⟩
theorem Room.depth{k:Nat}{A:Around}(r:Room k A):A.depth<recursionLimit:=by have:=r.dp;omega
theorem Room.units{k:Nat}{A:Around}(r:Room k A):A.units+64<cLine:=by have:=r.un;omega
theorem Room.units0{k:Nat}{A:Around}(r:Room k A):A.units<cLine:=by have:=r.un;omega
def wL:TA:=fun _ H Q=>Q [] H
def BS(ta:TE)(tr:TA):TA:=fun σ H Q=>ta σ H fun x H1=>tr σ H1 fun xs H2=>Q (x::xs) H2
section
variable {X:Cx}{e:Expr}{es:List Expr}{te:TE}{t:TA}{pos:Pos}
theorem aB:PA X [] wL:=fun _ _ _ _ H Q I h=>aQJ ⟨[],H,I,.nil,h⟩
theorem aA(ha:PE X e te)(hr:PA X es t)(hs:starEach (e::es) X.env=(false,eval e X.env)::starEach es X.env:=by rfl):PA X (e::es) (BS te t):=by
 intro pos pins s σ H Q I h
 rw[hs]
 show wpAny _ _ (spliced ((false,eval e X.env)::backTo pos (starEach es X.env))) _ _ s
 refine r6 (bP (ha pins s σ H _ I h) fun u s1 ⟨x,H1,I1,r1,q1⟩=>?_)
 exact bP (hr pos pins s1 σ H1 _ I1 q1) fun us s2 ⟨xs,H2,I2,r2,q2⟩=>⟨x::xs,H2,I2,.cons r1 r2,q2⟩
def IS(t:TA):TE:=fun σ H Q=>t σ H fun xs H1=>xs.length≤sizeLine∧∀ p,H1 p=none→Q (.ref p) (upd H1 p (.tup xs))
def IB(t:TA):TE:=fun σ H Q=>t σ H fun xs H1=>xs.length≤sizeLine∧∀ p,H1 p=none→Q (.ref p) (upd H1 p (.lst xs))
theorem cF{x1}(h:PA X es t):PE X (.Tuple es x1 pos) (IS t):=by
 intro pins s σ H Q I hq
 refine wpAny_Tuple_spliced (bP (h pos pins s σ H _ I hq) fun us s1 ⟨xs,H1,I1,r,z,q⟩=>⟨by rw[← r.length];exact z,?_⟩)
 have hf:H1 s1.heap.objs.size=none:=I1.hok.fresh (b5 _)
 refine⟨.ref s1.heap.objs.size,upd H1 s1.heap.objs.size (.tup xs),I1.laid (t':=s1.toks) (fun b u e=>c0 _ e) (b5 _) ?_,rfl,q _ hf⟩
 exact⟨z,us,r,⟨_,g8 _ rfl,rfl,_,rfl⟩,NoD.new _ _⟩
theorem dB(h:PA X es t):PE X (.List es pos) (IB t):=by
 intro pins s σ H Q I hq
 refine wpAny_List_spliced (bP (h pos pins s σ H _ I hq) fun us s1 ⟨xs,H1,I1,r,z,q⟩=>⟨by rw[← r.length];exact z,?_⟩)
 have hf:H1 s1.heap.objs.size=none:=I1.hok.fresh (b5 _)
 refine⟨.ref s1.heap.objs.size,upd H1 s1.heap.objs.size (.lst xs),I1.laid (t':=s1.toks) (fun b u e=>c0 _ e) (b5 _) ?_,rfl,q _ hf⟩
 exact⟨z,us,0,r,g8 _ rfl⟩
end
abbrev Sp:=List V→Hp→VK→XK→Prop
abbrev A9:=List Env→Hp→Shared→XK→Value→Shared→Prop
structure Env0(P:Program)(w:World)(K:b0)(mg:Str→Option Value)(base:Heap)(A:Around)(outer:List Env)(s:Shared)(H:Hp):Prop where
 frames:A.frames=some outer
 mod:Mod K mg base
 bs:∀ b o,base.get? b=some o→s.heap.get? b=some o∧H b=none
 bsz:base.objs.size≤s.heap.objs.size
 funs:s.heap.FunFrames base outer
 frf:∀ b∈AR outer,H b=none
 hok:HOk P w H s.heap
 bare:AllBare s.gens
def CE(outer:List Env)(P:Program)(w:World)(H:Hp)(s:Shared)(Q:VK)(u:Value)(s':Shared):Prop :=
 ∃ v H',s'.os=s.os∧AllBare s'.gens∧Un (AR outer) [] H H' s.heap s'.heap∧HOk P w H' s'.heap∧RelV v u∧Q v H'
def CR(CX:A9)(outer:List Env)(P:Program)(w:World)(H:Hp)(s:Shared)(Q:VK)(E:XK)(r:Result)(s':Shared):Prop :=
 match r with
 | .ok (.ret u)=>CE outer P w H s Q u s'
 | .ok _=>False
 | .error e=>CX outer H s E e s'
structure FnOk(P:Program)(w:World)(K:b0)(mg:Str→Option Value)(base:Heap)(CX:A9)(k:Nat)(f:Addr)(fd:FuncData)(ps:List Str)(sp:Sp):Prop where
 len:∀ vs H Q E,sp vs H Q E→vs.length=ps.length
 run:∀ (A:Around) (outer:List Env) (s:Shared) (H:Hp) (args:Args) (us:List Value) (vs:List V) (Q:VK) (E:XK),Room k A→Env0 P w K mg base A outer s H→BindsTo s fd args (ps.zip us)→Vals vs us→sp vs H Q E →
  codeAny (model P w) A (.call (.ref f) args) (CR CX outer P w H s Q E) s
theorem FnOk.mono{P:Program}{w:World}{K:b0}{mg:Str→Option Value}{base:Heap}{CX:A9}{j k:Nat}{f:Addr}{fd:FuncData}{ps:List Str}{sp:Sp}(F:FnOk P w K mg base CX j f fd ps sp)(h:j≤k) :
  FnOk P w K mg base CX k f fd ps sp:=⟨F.len,fun A outer s H args us vs Q E hr=>F.run A outer s H args us vs Q E (hr.mono h)⟩
theorem Env0.make{P:Program}{w:World}{K:b0}{mg:Str→Option Value}{base:Heap}{A:Around}{outer:List Env}{s:Shared}{H:Hp}(e:Env0 P w K mg base A outer s H)(C:Addr)(us:List Value)(kw:List (Str×Value)) :
  Env0 P w K mg base (A.under (.builtin "type.__call__" ⟨.ref C::us,kw⟩)) outer s H:=⟨by first | exact e.frames | (simpa [Around.under,Code.envs,Code.isFrame,pushEnvs] using e.frames),e.mod,e.bs,e.bsz,e.funs,e.frf,e.hok,e.bare⟩
section
variable {X:Cx}{pins:List (Addr×Obj)}{σ:St}{H:Hp}{s s':Shared}
theorem Inv.env0(I:Inv X pins σ H s):Env0 X.prog X.w X.K X.mg X.base X.A X.stack s H :=
 ⟨I.ok.frames,I.ok.mod,I.bs,j0 I.ok.bsz I.sz,I.stack,I.stkFree,I.hok,I.bare⟩
theorem Inv.after{Q:VK}{u:Value}(I:Inv X pins σ H s)(h:CE X.stack X.prog X.w H s Q u s'):EP X pins σ Q u s':=by
 obtain⟨v,H',os,bare,un,hok,r,q⟩:=h
 obtain⟨hh,g,d,t,os'⟩:=s'
 obtain rfl:os'=s.os:=os
 exact⟨v,H',I.call (h':=hh) (g':=g) (d':=d) (t':=t) (ch:=[]) un hok bare (fun b z=>absurd z (by simp)),r,q⟩
end
def D8(sp:Sp)(dvs:List V)(E:XK)(t:TA):TE:=fun σ H Q=>t σ H fun vs H1=>sp (vs++dvs) H1 Q E
def Eh(C:Addr)(m:Str)(sp:Sp)(dvs:List V)(E:XK)(ta:TE)(t:TA):TE:=fun σ H Q=>ta σ H fun x H1=>∃ a dx fs,x=.ref a∧H1 a=some (.ins C dx fs)∧fs.lookup m=none ∧
 t σ H1 fun vs H2=>sp (x::(vs++dvs)) H2 Q E
def Gk(C:Addr)(sp:Sp)(dvs:List V)(E:XK)(t:TA):TE:=fun σ H Q=>t σ H fun vs H1=>∀ x dx,H1 x=none→H1 dx=none→dx≠x →
 sp (.ref x::(vs++dvs)) (upd (upd H1 dx (.own x)) x (.ins C dx [])) (fun v H2=>v=.non∧Q (.ref x) H2) E
def Binds(K:b0)(fd:FuncData)(ps:List Str)(ds:List Value):Prop :=
 ∀ (s:Shared) (us:List Value),K.In s.heap→(us++ds).length=ps.length→BindsTo s fd ⟨us,[]⟩ (ps.zip (us++ds))
theorem Binds.all{K:b0}{fd:FuncData}{ps:List Str}(h:∀ us:List Value,us.length=ps.length→bindArgs fd ⟨us,[]⟩=pure (ps.zip us)):Binds K fd ps []:=fun s us _ hl=>by
 rw[m6] at hl ⊢
 exact .of_eq (h us hl)
def kC(CX:A9)(X:Cx)(E:XK):Prop:=∀ (pins:List (Addr×Obj)) (σ:St) (H:Hp) (s:Shared) (e:Value) (s':Shared),Inv X pins σ H s→CX X.stack H s E e s'→X.xe e s'
section
variable {X:Cx}{CX:A9}{k:Nat}{f C:Addr}{fd:FuncData}{ps:List Str}{sp:Sp}{dvs:List V}{ds:List Value}{E:XK}{x m:Str}{p pos apos:Pos}{e o:Expr}{es:List Expr}{ta:TE}{t:TA}
theorem sF{pins:List (Addr×Obj)}{σ:St}{H:Hp}{s:Shared}{Q:VK}{us:List Value}{vs:List V}(F:FnOk X.prog X.w X.K X.mg X.base CX k f fd ps sp)(hr:Room k X.A)(hb:Binds X.K fd ps ds)(hd:Vals dvs ds)(hx:kC CX X E)
  (I:Inv X pins σ H s) (r:Vals vs us) (h:sp (vs++dvs) H Q E):wpAny (model X.prog X.w) X.A (call (.ref f) us) (EP X pins σ Q) X.xe s:=by
 have r2:Vals (vs++dvs) (us++ds):=r.append hd
 have hl:(us++ds).length=ps.length:=by rw[← r2.length];exact F.len _ _ _ _ h
 refine wpAny_call (codeAny_mono (F.run X.A X.stack s H ⟨us,[]⟩ (us++ds) (vs++dvs) Q E hr I.env0 (hb s us I.kIn hl) r2 h) fun r s' hq=>?_)
 cases r with
 | error e=>exact hx pins σ H s e s' I hq
 | ok fl =>
  cases fl with
  | ret u=>exact I.after hq
  | next=>exact False.elim hq
  | brk=>exact False.elim hq
  | cont=>exact False.elim hq
theorem D1(F:FnOk X.prog X.w X.K X.mg X.base CX k f fd ps sp)(hr:Room k X.A)(hg:Gl X x)(hm:X.mg x=some (.ref f))(hk:PySem.W.keepIn X.K (.ref f)=true)(hb:Binds X.K fd ps ds)(hd:Vals dvs ds)(hx:kC CX X E)
  (ha:PA X (e::es) t) (hdb:(x == ("__debug__":Str))=false:=by decide) (he:starEach (e::es) X.env=(false,eval e X.env)::starEach es X.env:=by rfl) (hpl:(backTo pos (starEach es X.env)).any (·.1)=false:=by rfl) :
  PE X (.Call (.Name x p) (e::es) [] pos) (D8 sp dvs E t):=by
 intro pins s σ H Q I h
 refine wpAny_Call_Name_kw (sJ I hg hm ?_ hdb)
 refine aXl (h₀:=X.base) I.ok.mod.kin hk (bP (ha pos pins s σ H _ I h) fun us s1 ⟨vs,H1,I1,r,q⟩=>⟨I1.kIn,?_⟩) he hpl
 exact sF F hr hb hd hx I1 r q
theorem dU{pl:Sem Bool}(he:PE X o ta)(c:Cls X.K C)(hm:Meth X.K C m f)(F:FnOk X.prog X.w X.K X.mg X.base CX k f fd ps sp)(hr:Room k X.A)(hb:Binds X.K fd ps ds)(hd:Vals dvs ds)(hx:kC CX X E)(ha:PA X (e::es) t)
  (hst:starEach (e::es) X.env=(false,eval e X.env)::starEach es X.env:=by rfl) (hpl:(backTo pos (starEach es X.env)).any (·.1)=false:=by rfl)
  (ht:eval (.Call (.Attribute o m apos) (e::es) [] pos) X.env=(do
   let ov ← eval o X.env
   standAt apos.atName
   let (f,first) ← holding [ov] (getMethod ov m pl)
   callWith pos f first (backTo pos (starEach (e::es) X.env)) (backToKw pos (keywordEach [] X.env))):=by rfl) :
  PE X (.Call (.Attribute o m apos) (e::es) [] pos) (Eh C m sp dvs E ta t):=by
 intro pins s σ H Q I h
 refine aQ5 (pl:=pl) (bP (he pins s σ H _ I h) fun u s1 ⟨x,H1,I1,rx,a,dx,fs,ex,ea,l,q⟩=>?_) ht
 subst ex
 obtain rfl:u=Value.ref a:=rx
 refine kH I1 ea c hm l ?_
 refine aXl (first:=[.ref a]) (h₀:=X.base) I.ok.mod.kin hm.kp (bP (ha pos pins s1 σ H1 _ I1 q) fun us s2 ⟨vs,H2,I2,r,q2⟩=>⟨I2.kIn,?_⟩) hst hpl
 exact sF (us:=.ref a::us) (vs:=.ref a::vs) F hr hb hd hx I2 (.cons rfl r) q2
theorem oU{pl:Sem Bool}(he:PE X o ta)(c:Cls X.K C)(hm:Meth X.K C m f)(F:FnOk X.prog X.w X.K X.mg X.base CX k f fd ps sp)(hr:Room k X.A)(hb:Binds X.K fd ps ds)(hd:Vals dvs ds)(hx:kC CX X E)
  (ht:eval (.Call (.Attribute o m apos) [] [] pos) X.env=(do
   let ov ← eval o X.env
   standAt apos.atName
   let (f,first) ← holding [ov] (getMethod ov m pl)
   callWith pos f first (backTo pos (starEach [] X.env)) (backToKw pos (keywordEach [] X.env))):=by rfl) :
  PE X (.Call (.Attribute o m apos) [] [] pos) (Eh C m sp dvs E ta wL):=by
 intro pins s σ H Q I h
 refine aQ5 (pl:=pl) (bP (he pins s σ H _ I h) fun u s1 ⟨x,H1,I1,rx,a,dx,fs,ex,ea,l,q⟩=>?_) ht
 subst ex
 obtain rfl:u=Value.ref a:=rx
 refine kH I1 ea c hm l ?_
 exact aXa (first:=[.ref a]) I1.kIn hm.kp (sF (us:=[.ref a]) (vs:=[.ref a]) F hr hb hd hx I1 (.cons rfl .nil) q)
structure Mk(K:b0)(C f:Addr):Prop where
 makes:PySem.W.makesIn K C=true
 init:PySem.W.findIn K (.ref C) "__init__"=some (some (.ref f))
 fn:PySem.W.isFn K (.ref f)=true
 kp:PySem.W.keepIn K (.ref C)=true
theorem Bi{pins:List (Addr×Obj)}{σ:St}{H:Hp}{s:Shared}{Q:VK}{us:List Value}{vs:List V}(M:Mk X.K C f)(F:FnOk X.prog X.w X.K X.mg X.base CX k f fd ps sp)(hr:Room (k+1) X.A)(hb:Binds X.K fd ps ds)(hd:Vals dvs ds)
  (hx:kC CX X E) (I:Inv X pins σ H s) (r:Vals vs us)
  (h:∀ x dx,H x=none→H dx=none→dx≠x→sp (.ref x::(vs++dvs)) (upd (upd H dx (.own x)) x (.ins C dx [])) (fun v H2=>v=.non∧Q (.ref x) H2) E) :
  wpAny (model X.prog X.w) X.A (call (.ref C) us) (EP X pins σ Q) X.xe s:=by
 have hq:=h (s.heap.objs.size+1) s.heap.objs.size (I.hok.fresh (aQD _)) (I.hok.fresh (b5 _)) (d5 (aXC _))
 have I2:=Inv.made (C:=C) I
 have r2:Vals (V.ref (s.heap.objs.size+1)::(vs++dvs)) (Value.ref (s.heap.objs.size+1)::(us++ds)):=.cons rfl (r.append hd)
 have hl:(Value.ref (s.heap.objs.size+1)::us++ds).length=ps.length:=by
  have e:=r2.length
  rw[F.len _ _ _ _ hq] at e
  exact e.symm
 refine wpAny_call (Cm (f:=f) I.kIn M.makes M.init (beq_iff_eq.mp M.fn) (codeAny_mono (F.run _ X.stack _ _ ⟨Value.ref (s.heap.objs.size+1)::us,[]⟩ (Value.ref (s.heap.objs.size+1)::(us++ds)) _ _ E (hr.make C us [])
  (I2.env0.make C us []) (hb _ (Value.ref (s.heap.objs.size+1)::us) I2.kIn hl) r2 hq) fun r s' hq'=>?_))
 cases r with
 | error e=>exact hx pins σ _ _ e s' I2 hq'
 | ok fl =>
  cases fl with
  | ret u =>
   obtain⟨v,H',I3,rv,ev,q3⟩:=I2.after hq'
   subst ev
   exact⟨rv,⟨V.ref (s.heap.objs.size+1),H',I3,rfl,q3⟩⟩
  | next=>exact False.elim hq'
  | brk=>exact False.elim hq'
  | cont=>exact False.elim hq'
theorem vW(M:Mk X.K C f)(F:FnOk X.prog X.w X.K X.mg X.base CX k f fd ps sp)(hr:Room (k+1) X.A)(hg:Gl X x)(hm:X.mg x=some (.ref C))(hb:Binds X.K fd ps ds)(hd:Vals dvs ds)(hx:kC CX X E)
  (hdb:(x == ("__debug__":Str))=false:=by decide):PE X (.Call (.Name x p) [] [] pos) (Gk C sp dvs E wL):=by
 intro pins s σ H Q I h
 refine wpAny_Call_Name_kw (sJ I hg hm ?_ hdb)
 exact aXa I.kIn M.kp (Bi (us:=[]) M F hr hb hd hx I .nil h)
end
def PK(X:Cx)(kws:List Keyword)(t:TA):Prop :=
 ∀ (pos:Pos) (pins:List (Addr×Obj)) (s:Shared) (σ:St) (H:Hp) (Q:List V→Hp→Prop),Inv X pins σ H s→t σ H Q→wpAny (model X.prog X.w) X.A (evalAll ((backToKw pos (keywordEach kws X.env)).map (·.2))) (AP X pins σ Q) X.xe s
section
variable {X:Cx}{CX:A9}{k:Nat}{f C:Addr}{fd:FuncData}{ps ks:List Str}{sp:Sp}{E:XK}{x m:Str}{p pos apos kpos:Pos}{e o:Expr}{es:List Expr}{kws:List Keyword}{te ta:TE}{t tk:TA}{nm:Option Str}
theorem FE:PK X [] wL:=fun _ _ _ _ H Q I h=>wpAny_evalAll_nil ⟨[],H,I,.nil,h⟩
theorem CT(ha:PE X e te)(hr:PK X kws t):PK X (⟨nm,e,kpos⟩::kws) (BS te t):=by
 intro pos pins s σ H Q I h
 show wpAny _ _ (evalAll ((do let v ← eval e X.env;standAt pos;pure v)::(backToKw pos (keywordEach kws X.env)).map (·.2))) _ _ s
 refine wpAny_evalAll_cons (wpAny_bind (bP (ha pins s σ H _ I h) fun u s1 ⟨x,H1,I1,r1,q1⟩=>wpAny_bind (wpAny_standAt (wpAny_pure ?_))))
 exact bP (hr pos pins s1 σ H1 _ I1 q1) fun us s2 ⟨xs,H2,I2,r2,q2⟩=>⟨x::xs,H2,I2,.cons r1 r2,q2⟩
variable {g:List Value→List Value→List Value}{gV:List V→List V→List V}
end
structure FnScope(N P:List Str)(sc:Scope):Prop where
 kind:sc.kind=.function
 co:sc.isCoroutine=false
 gen:sc.isGenerator=false
 nd:N.Nodup
 pre:N.take P.length=P
 par:∀ x∈P,sc.names.lookup x=some .local∨sc.names.lookup x=some .cell
 nofree:∀ y∈sc.names,y.2≠.free
theorem qZ{kindOf:Str→Option NameKind}{x:Str}:∀ {binds:List (Str×Value)} {m:Str→Option Value},(∀ v,(x,v) ∉ binds)→bindL kindOf binds m x=m x
 | [],_,_=>rfl
 | (n,v)::r,m,h=>by
  unfold bindL
  rw[qZ fun w hw=>h w (c8 _ hw)]
  split
  ·have:x≠n:=by rintro rfl;exact h v d8
   simp[this]
  ·rfl
theorem rM{kindOf:Str→Option NameKind}{x:Str}:∀ {binds:List (Str×Value)} {m:Str→Option Value},(∀ v,(x,v) ∉ binds)→bindC kindOf binds m x=m x
 | [],_,_=>rfl
 | (n,v)::r,m,h=>by
  unfold bindC
  rw[rM fun w hw=>h w (c8 _ hw)]
  split
  ·rfl
  ·have:x≠n:=by rintro rfl;exact h v d8
   simp[this]
theorem rX{kindOf:Str→Option NameKind}{x:Str}{v:Value}:∀ {P:List Str} {vs:List Value} {i:Nat} {m:Str→Option Value},P.Nodup→P[i]?=some x→vs[i]?=some v→kindOf x=some .local →
  bindL kindOf (P.zip vs) m x=some v
 | [],_,_,_,_,h,_,_=>by simp at h
 | _::_,[],_,_,_,_,h,_=>by simp at h
 | p::P,w::vs,0,m,nd,h1,h2,hk=>by
  simp at h1 h2;subst h1;subst h2
  show bindL kindOf ((p,w)::P.zip vs) m p=_
  unfold bindL
  rw[qZ fun v hv=>(j7.mp nd).1 (aXV hv).1,if_pos hk]
  simp
 | p::P,w::vs,i+1,m,nd,h1,h2,hk=>by
  show bindL kindOf ((p,w)::P.zip vs) m x=_
  unfold bindL
  exact rX (i:=i) (j7.mp nd).2 (by simpa using h1) (by simpa using h2) hk
theorem rB{kindOf:Str→Option NameKind}{x:Str}{v:Value}:∀ {P:List Str} {vs:List Value} {i:Nat} {m:Str→Option Value},P.Nodup→P[i]?=some x→vs[i]?=some v→kindOf x≠some .local →
  bindC kindOf (P.zip vs) m x=some v
 | [],_,_,_,_,h,_,_=>by simp at h
 | _::_,[],_,_,_,_,h,_=>by simp at h
 | p::P,w::vs,0,m,nd,h1,h2,hk=>by
  simp at h1 h2;subst h1;subst h2
  show bindC kindOf ((p,w)::P.zip vs) m p=_
  unfold bindC
  rw[rM fun v hv=>(j7.mp nd).1 (aXV hv).1,if_neg hk]
  simp
 | p::P,w::vs,i+1,m,nd,h1,h2,hk=>by
  show bindC kindOf ((p,w)::P.zip vs) m x=_
  unfold bindC
  exact rB (i:=i) (j7.mp nd).2 (by simpa using h1) (by simpa using h2) hk
def mP(N:List Str)(vs:List V):St:=vs.map some++List.replicate (N.length - vs.length) none
def A0(CX:A9)(P:Program)(w:World)(K:b0)(mg:Str→Option Value)(base:Heap)(N:List Str)(qual:Str)(scope:Scope)(f:Addr)(cd:Value)(A:Around)(outer:List Env)(s:Shared)(H:Hp)(E:XK):Cx where
 prog:=P
 w:=w
 K:=K
 mg:=mg
 base:=base
 A:=A.deeper (envOfC qual scope s.heap.objs.size f cd)
 N:=N
 s₀:=s
 H₀:=H
 env:=envOfC qual scope s.heap.objs.size f cd
 outer:=outer
 stack:=envOfC qual scope s.heap.objs.size f cd::outer
 ex:=[]
 calm:=true
 fn:=fun _=>true
 pn:=[]
 xe:=fun e s'=>wpAny (model P w) (A.deeper (envOfC qual scope s.heap.objs.size f cd)) (leaving (envOfC qual scope s.heap.objs.size f cd) e) (fun _ s''=>CX outer H s E e s'') (fun e' s''=>CX outer H s E e' s'') s'
theorem tY{sc:Scope}{n:Nat}{x:Str}(h:sc.names.lookup x=some .cell):∃ c,(cellsFrom n sc.names []).lookup x=some c:=by
 have q:=aXX sc.names n [] (.inl h)
 exact y7.mp q
theorem Ae{CX:A9}{P:Program}{w:World}{K:b0}{mg:Str→Option Value}{base:Heap}{N ps:List Str}{qual:Str}{scope:Scope}{f:Addr}{cd:Value}{A:Around}{outer:List Env}{s s1:Shared}{H:Hp}{E:XK}{us:List Value}{vs:List V}
  (S:FnScope N ps scope) (hd:A.handled=none) (e0:Env0 P w K mg base A outer s H) (hl:vs.length=ps.length) (r:Vals vs us)
  (x:InCallC s s.heap.objs.size (bindL (envOfC qual scope s.heap.objs.size f cd).kindOf (ps.zip us) fun _=>none) (cellsFrom (s.heap.objs.size+1) scope.names []) (bindC (envOfC qual scope s.heap.objs.size f cd).kindOf (ps.zip us) fun _=>none) s1) :
  Inv (A0 CX P w K mg base N qual scope f cd A outer s H E) [] (mP N vs) H s1:=by
 have hpl:ps.length≤N.length:=by have:=congrArg List.length S.pre;rw[i6] at this;omega
 obtain⟨h1,tk,rfl,hk⟩:=x.done
 have noA:∀ b:Addr,b ∉ (A0 CX P w K mg base N qual scope f cd A outer s H E).ex:=fun b z=>absurd (show b∈([]:List Addr) from z) (by simp)
 refine⟨⟨e0.mod,S.kind,rfl,rfl,b5 _,fun y z c h1 h2=>?_,fun y hy=>?_,fun y c _ h=>?_,fun _=>hd,Around.frames_deeper e0.frames,.inr ⟨rfl,rfl⟩,fun b z=>absurd z (noA b),e0.bs,e0.bsz,fun b _ _=>noA b,fun b z=>absurd z (noA b),e0.funs,e0.frf⟩,
  rfl,e0.bare,Un.kept hk,⟨_,x.toInCall.ns,fun i y v h1 h2 h3=>?_⟩,fun y c h=>⟨_,x.cell y c h⟩,e0.hok.fresh (b5 _),fun y c h=>?_,fun p hp=>absurd (show p∈([]:List (Addr×Obj)) from hp) (by simp),e0.hok.kept hk,?_⟩
 ·exact name_of_addr x.apart (o5 h1) (o5 h2)
 ·have hy:scope.names.lookup y=some .cell∨scope.names.lookup y=some .free:=hy
  rcases hy with hy | hy
  ·exact tY hy
  ·exact absurd rfl (S.nofree _ (o5 hy))
 ·exact x8 (x.above y c (o5 h))
 ·have hi:i<vs.length:=by
   unfold mP at h2
   by_cases hi:i<vs.length
   ·exact hi
   ·rw[u0 (by simpa using hi)] at h2
    rw[List.getElem?_replicate] at h2
    split at h2 <;> cases h2
  have ha:vs[i]?=some v:=by
   unfold mP at h2
   rw[l5 (by simpa using hi),c5] at h2
   cases e:vs[i]? with
   | none=>rw[e] at h2;cases h2
   | some a=>rw[e] at h2;cases h2;rfl
  obtain⟨u,hu,rv⟩:=r.get ha
  have hp:ps[i]?=some y:=by
   rw[← S.pre,aXD (by omega)];exact h1
  have ndP:ps.Nodup:=by rw[← S.pre];exact S.nd.sublist (List.take_sublist _ _)
  refine⟨u,rv,?_⟩
  rcases S.par y (b6 hp) with k | k
  ·exact .inl ⟨k,rX ndP hp hu k⟩
  ·obtain⟨c,e⟩:=tY (n:=s.heap.objs.size+1) k
   refine .inr ⟨.inl k,c,e,?_⟩
   have q:=x.cell y c e
   rw[rB ndP hp hu (by show scope.names.lookup y≠_;rw[k];decide)] at q
   exact q
 ·exact e0.hok.fresh (x8 (x.above y c (o5 h)))
 ·unfold mP
  show _=N.length
  rw[b9,b7,aQ6]
  omega
theorem HQ{CX:A9}{P:Program}{w:World}{K:b0}{mg:Str→Option Value}{base:Heap}{k:Nat}{f:Addr}{name qual:Str}{params:Arguments}{body:List Stmt}{scope:Scope}{dV kV doc pm cdv ct oc:Value}{an od:Option Addr}
  {osl:Array (Option Value)} {N ps:List Str} {sp:Sp} (lk:K.lookup f=some ⟨oc,od,.func (PySem.W.fnOf name qual params body scope dV kV doc pm an cdv ct),osl⟩) (hcd:PySem.W.codeIn K cdv qual=true) (S:FnScope N ps scope)
  (len:∀ vs H Q E,sp vs H Q E→vs.length=ps.length)
  (hbody:∀ (A:Around) (outer:List Env) (s:Shared) (H:Hp) (vs:List V) (Q:VK) (E:XK),Room k (A.deeper (envOfC qual scope s.heap.objs.size f cdv))→sp vs H Q E →
   ∃ t,PSs (A0 CX P w K mg base N qual scope f cdv A outer s H E) body t∧t { nx:=fun _ H'=>Q .non H',rt:=Q } (mP N vs) H) :
  FnOk P w K mg base CX (k+1) f (PySem.W.fnOf name qual params body scope dV kV doc pm an cdv ct) ps sp:=by
 refine⟨len,fun A outer s H args us vs Q E hr e0 hb r hsp=>?_⟩
 have hl:=len _ _ _ _ hsp
 have KX:K.In s.heap:=e0.mod.kin.keeps fun b o e=>(e0.bs b o e).1
 have lim:s.heap.NoLimit:=e0.mod.nolimit.keeps fun b o e=>(e0.bs b o e).1
 have hkind:∀ y∈ps.zip us,scope.names.lookup y.1=some .local∨(scope.names.lookup y.1=some .cell∧((cellsFrom (s.heap.objs.size+1) scope.names []).lookup y.1).isSome=true):=fun ⟨n,v⟩ hy=>by
  rcases S.par n (aXV hy).1 with q | q
  ·exact .inl q
  ·exact .inr ⟨q,aXX _ _ _ (.inl q)⟩
 refine codeAny_call_function hr.depth (KX _ _ lk) rfl S.co S.gen rfl (PySem.W.codeRec_of KX hcd) (hb _ _ _ _ ?_)
 refine wpAny_newFunctionEnv_cells S.kind hkind fun env he s1 x=>?_
 subst he
 refine⟨lim.keeps x.toInCall.keep,codeAny_func ?_⟩
 obtain⟨t,ht,hq⟩:=hbody A outer s H vs Q E (hr.deeper _) hsp
 have I:Inv (A0 CX P w K mg base N qual scope f cdv A outer s H E) [] (mP N vs) H s1:=Ae S hr.hd e0 hl r x
 refine wpAny_mono (ht [] s1 (mP N vs) H _ I hq) (fun fl s' hs=>?_) fun e s' hs=>hs
 have fin:∀ {σ':St} {H':Hp} {v:V} {u:Value},Inv (A0 CX P w K mg base N qual scope f cdv A outer s H E) [] σ' H' s'→RelV v u→Q v H'→CE outer P w H s Q u s' :=
  fun {σ' H' v u} J rv q=>⟨v,H',J.os,J.bare,J.base,J.hok,rv,q⟩
 cases fl with
 | ret u =>
  obtain⟨v,σ',H',J,rv,q⟩:=hs
  exact fin J rv q
 | next =>
  obtain⟨σ',H',J,q⟩:=hs
  exact fin (v:=V.non) (u:=Value.none) J rfl q
 | brk =>
  obtain⟨_,_,_,q⟩:=hs
  exact False.elim q
 | cont =>
  obtain⟨_,_,_,q⟩:=hs
  exact False.elim q
section
variable {X:Cx}{x:Str}{p pos:Pos}{e:Expr}{es:List Expr}{t:TA}{id T:String}{r:List V→Hp→VK→Prop}
def Jk(r:List V→Hp→VK→Prop)(t:TA):TE:=fun σ H Q=>t σ H fun vs H1=>r vs H1 Q
theorem aL(hc:dX X (.builtin id) r)(hg:Gl X x)(hm:X.mg x=none)(hv:bootBuiltins x=some (.builtin id))(ha:PA X (e::es) t)(hn:x≠"__name__":=by decide)(hdb:(x == ("__debug__":Str))=false:=by decide)
  (he:starEach (e::es) X.env=(false,eval e X.env)::starEach es X.env:=by rfl) (hpl:(backTo pos (starEach es X.env)).any (·.1)=false:=by rfl):PE X (.Call (.Name x p) (e::es) [] pos) (Jk r t):=by
 intro pins s σ H Q I h
 refine wpAny_Call_Name_kw (jA I hg hm hv ?_ hn hdb)
 exact aZX (bP (ha pos pins s σ H _ I h) fun us s1 ⟨vs,H1,I1,r1,q1⟩=>hc pins s1 σ H1 vs us Q I1 r1 q1) he hpl
theorem aW(hc:dX X (.type T) r)(hg:Gl X x)(hm:X.mg x=none)(hv:bootBuiltins x=some (.type T))(ha:PA X (e::es) t)(hn:x≠"__name__":=by decide)(hdb:(x == ("__debug__":Str))=false:=by decide)
  (he:starEach (e::es) X.env=(false,eval e X.env)::starEach es X.env:=by rfl) (hpl:(backTo pos (starEach es X.env)).any (·.1)=false:=by rfl):PE X (.Call (.Name x p) (e::es) [] pos) (Jk r t):=by
 intro pins s σ H Q I h
 refine wpAny_Call_Name_kw (jA I hg hm hv ?_ hn hdb)
 exact t7 (bP (ha pos pins s σ H _ I h) fun us s1 ⟨vs,H1,I1,r1,q1⟩=>hc pins s1 σ H1 vs us Q I1 r1 q1) he hpl
end
end L2
namespace HT
open PySem PyProof.Rows
def lexLt:List Int→List Int→Bool
 | [],[]=>false
 | [],_::_=>true
 | _::_,[]=>false
 | x::xs,y::ys=>if x=y then lexLt xs ys else decide (x<y)
theorem lexLt_cons(x y:Int)(xs ys:List Int):lexLt (x::xs) (y::ys)=if x=y then lexLt xs ys else decide (x<y):=rfl
theorem B5(A:Around)(s:Shared)(a:Int)(t:Tok)(c:Int)(u:Tok)(prog:Program)(w:World)(E:Value→Shared→Prop)(Q:Value→Shared→Prop)(h:Q (.bool (decide (a<c))) s) :
  wpAny (model prog w) A (richCompare .Lt (.int a t) (.int c u)) Q E s :=
 (aJJ h:wpAny (model prog w) A (compareOp .Lt (.int a t) (.int c u)) Q E s)
section
variable {prog:Program}{w:World}{A:Around}{E:Value→Shared→Prop}{s:Shared}
theorem cat_tup{t b:Addr}{vs ws:List Value}{Q:Value→Shared→Prop}(ht:IsTup s.heap t vs.toArray)(hb:IsTup s.heap b ws.toArray)(hv:vs≠[])
  (h1:ws=[]→Q (.ref t) s) (h2:ws≠[]→Q (.ref s.heap.objs.size) { s with heap:=s.heap.push { cls:=.type "tuple",data:=.seq (vs++ws).toArray } })
  (hsz:vs.length+ws.length≤sizeLine):wpAny (model prog w) A (binaryOp .Add (.ref t) (.ref b)) Q E s:=by
 obtain⟨⟨cls,dd,data,sl⟩,ho,hc,n,hd⟩:=id ht
 obtain⟨⟨cls2,dd2,data2,sl2⟩,ho2,hc2,n2,hd2⟩:=id hb
 simp only at hc hd hc2 hd2
 subst hc hd hc2 hd2
 have e:vs.toArray++ws.toArray=(vs++ws).toArray:=by simp
 by_cases hw:ws=[]
 ·exact concat_meets ⟨_,ho,rfl⟩ ⟨_,ho2,rfl⟩ noFill_tuple_add seq_tuple_add aXY aXO (aXE _ _)
   (tuple_addW1 t b vs.toArray ws.toArray n n2 dd dd2 sl sl2 (by simpa using hv) (by simp[hw])) ⟨ho,ho2,h1 hw⟩
 ·refine concat_meets ⟨_,ho,rfl⟩ ⟨_,ho2,rfl⟩ noFill_tuple_add seq_tuple_add aXY aXO (aXE _ _)
   (tuple_addW2 t b vs.toArray ws.toArray n n2 dd dd2 sl sl2 (by simpa using hv) (by simpa using hw) (by rw[b8,b8];exact hsz)) ⟨ho,ho2,?_⟩
  rw[e]
  exact h2 hw
def sIx(n d:Nat):Option Int→Nat
 | none=>d
 | some v=>if v<0 then (v+(n:Int)).toNat else min v.toNat n
theorem EJ(n d:Nat)(hd:d≤n)(o:Option Int):sIx n d o≤n:=by
 cases o with
 | none=>exact hd
 | some v =>
  show (if v<0 then (v+(n:Int)).toNat else min v.toNat n)≤n
  by_cases hv:v<0
  ·rw[if_pos hv];omega
  ·rw[if_neg hv];exact Nat.min_le_right _ _
theorem zL(v:Int)(n d:Nat):(if v<0 then max (v+(n:Int)) 0 else min v (n:Int))=((sIx n d (some v):Nat):Int):=by
 show (if v<0 then max (v+(n:Int)) 0 else min v (n:Int))=(((if v<0 then (v+(n:Int)).toNat else min v.toNat n):Nat):Int)
 by_cases hv:v<0
 ·simp only [if_pos hv];omega
 ·simp only [if_neg hv];omega
theorem xI(lo hi:Option Int)(n:Nat):Builtin.Slice.sliceAdjust lo hi 1 (n:Int)=(((sIx n 0 lo:Nat):Int),((sIx n n hi:Nat):Int)):=by
 have h1:¬ ((1:Int)<0):=by omega
 unfold Builtin.Slice.sliceAdjust
 simp only [h1,if_false]
 refine Prod.ext ?_ ?_
 ·cases lo with
  | none=>rfl
  | some v=>exact zL v n 0
 ·cases hi with
  | none=>rfl
  | some v=>exact zL v n n
theorem xU(i j:Nat):Builtin.Slice.slicePlaces (i:Int) (j:Int) 1=j - i:=by
 unfold Builtin.Slice.slicePlaces
 have h1:(1:Int) > 0:=by omega
 simp only [h1,if_true,Int.ediv_one]
 split <;> omega
theorem slicePart_{v:Value}{o:Option Int}{Q:Option Int→Shared→Prop}(p:IsPart v o)(h:Q o s):wpAny (model prog w) A (Builtin.Slice.slicePartIndex v) Q E s:=by
 cases p with
 | none=>exact slicePart_none h
 | int i t=>exact slicePart_int h
theorem sliceApplied_gen{sl:Addr}{vl vu:Value}{lo hi:Option Int}{n:Nat}{Q:Int×Int×Nat→Shared→Prop}(hs:s.heap.IsSliceOf sl vl vu .none)(pl:IsPart vl lo)(pu:IsPart vu hi)
  (h:Q (((sIx n 0 lo:Nat):Int),1,sIx n n hi - sIx n 0 lo) s):wpAny (model prog w) A (Builtin.Slice.sliceApplied (.ref sl) (pure (n:Int))) Q E s:=by
 obtain⟨os,hos,hcs,hds⟩:=id hs
 unfold Builtin.Slice.sliceApplied Builtin.Slice.sliceFields
 refine wpAny_bind (wpAny_bind (wpAny_field hos hds (x:=vl) rfl (wpAny_bind (wpAny_field hos hds (x:=vu) rfl (wpAny_bind (wpAny_field hos hds (x:=.none) rfl (wpAny_pure ?_)))))))
 refine wpAny_bind (slicePart_none ?_)
 show wpAny _ _ (if ((1:Int) == 0)=true then _ else _) _ _ s
 rw[if_neg (by decide)]
 refine wpAny_bind (slicePart_ pl (wpAny_bind (slicePart_ pu (wpAny_bind (wpAny_pure ?_)))))
 show wpAny _ _ (match Builtin.Slice.sliceAdjust lo hi 1 (n:Int) with | (lo,hi)=>pure (lo,(1:Int),Builtin.Slice.slicePlaces lo hi 1)) _ _ s
 rw[xI lo hi n]
 show wpAny _ _ (pure (((sIx n 0 lo:Nat):Int),(1:Int),Builtin.Slice.slicePlaces ((sIx n 0 lo:Nat):Int) ((sIx n n hi:Nat):Int) 1)) _ _ s
 rw[xU]
 exact wpAny_pure h
theorem Ci(xs:Array Value)(i k:Nat):((List.range k).filterMap fun (m:Nat)=>xs[((i:Int)+(m:Int) * 1).toNat]?).toArray=((xs.toList.drop i).take k).toArray:=by
 have e:(fun (m:Nat)=>xs[((i:Int)+(m:Int) * 1).toNat]?)=fun m=>xs[i+m]?:=by
  funext m
  have:((i:Int)+(m:Int) * 1).toNat=i+m:=by omega
  rw[this]
 rw[e]
 have:=pick_run xs i k
 rw[List.filterMap_map] at this
 have e2:((fun x=>xs[x]?) ∘ fun x=>i+x)=fun m=>xs[i+m]?:=rfl
 rw[e2] at this
 rw[this]
theorem getItem_tuple_cut{t sl:Addr}{items:Array Value}{vl vu:Value}{lo hi:Option Int}{Q:Value→Shared→Prop}(ht:IsTup s.heap t items)(hs:s.heap.IsSliceOf sl vl vu .none)(pl:IsPart vl lo)(pu:IsPart vu hi)
  (hw:¬ (sIx items.size 0 lo=0∧sIx items.size items.size hi=items.size))
  (h:Q (.ref s.heap.objs.size) { s with heap:=s.heap.push { cls:=.type "tuple",data:=.seq ((items.toList.drop (sIx items.size 0 lo)).take (sIx items.size items.size hi - sIx items.size 0 lo)).toArray } })
  (hsz:items.size≤sizeLine):wpAny (model prog w) A (getItem (.ref t) (.ref sl)) Q E s:=by
 have htake:sizeOk (.seq ((items.toList.drop (sIx items.size 0 lo)).take (sIx items.size items.size hi - sIx items.size 0 lo)).toArray):=by
  show ((items.toList.drop (sIx items.size 0 lo)).take (sIx items.size items.size hi - sIx items.size 0 lo)).toArray.size≤sizeLine
  rw[b8,i6,aZN,p5]
  omega
 have hj:sIx items.size items.size hi≤items.size:=EJ _ _ (b5 _) hi
 obtain⟨os,hos,hcs,hds⟩:=id hs
 have hTs:s.TypeIs (.ref sl) "slice":=⟨os,hos,hcs⟩
 unfold getItem
 try with_reducible refine wpAny_holding ?_
 first | refine wpAny_bind (wpAny_pure ?_) | skip
 refine wpAny_bind (wpAny_sequenceKey ht.typeIs (by decide) ?_)
 refine wpAny_bind (wpAny_callSpecial?_slot (name:=Str.ofString "__getitem__") ht.typeIs l4
  (wpAny_call_entry l4 ht.typeIs entry_tuple_getitem ?_ (args_tuple_getitem _ _)))
 show wpAny _ _ (Builtin.Tuple.tupleItemsOf (.ref t) >>= _) _ _ s
 refine wpAny_bind (tupleItemsOf_ ht ?_)
 refine wpAny_bind (wpAny_typeOf hTs ?_)
 rw[if_pos (by decide)]
 refine wpAny_bind (sliceApplied_gen hs pl pu ?_)
 have hno:¬ ((((sIx items.size 0 lo:Nat):Int) == 0 && (1:Int) == 1 && (sIx items.size items.size hi - sIx items.size 0 lo) == items.size)=true):=by
  intro q
  rw[r9,r9] at q
  have q1:((sIx items.size 0 lo:Nat):Int)=0:=eq_of_beq q.1.1
  have q2:sIx items.size items.size hi - sIx items.size 0 lo=items.size:=eq_of_beq q.2
  exact hw ⟨by omega,by omega⟩
 show wpAny _ _ (if (((sIx items.size 0 lo:Nat):Int) == 0 && (1:Int) == 1 && (sIx items.size items.size hi - sIx items.size 0 lo) == items.size)=true then _ else _) _ _ s
 rw[if_neg hno,Ci]
 first
  | exact wpAny_bind (m:=Builtin.Tuple.tupleExact _) (wpAny_newObj_type (wpAny_pure ⟨_,rfl,wpAny_pure h⟩) htake)
  | exact wpAny_bind (m:=Builtin.Tuple.tupleExact _) (wpAny_newObj_type (wpAny_bind (wpAny_pure (wpAny_pure ⟨_,rfl,wpAny_pure h⟩))) htake)
  | exact wpAny_bind (wpAny_bind (m:=Builtin.Tuple.tupleExact _) (wpAny_newObj_type (wpAny_pure (wpAny_pure ⟨_,rfl,wpAny_pure h⟩)) htake))
  | exact wpAny_bind (wpAny_bind (m:=Builtin.Tuple.tupleExact _) (wpAny_newObj_type (wpAny_pure ⟨_,rfl,wpAny_pure h⟩) htake))
end
end HT
namespace L2
open PySem PySem.Spec PyProof.Rows
abbrev TO:=St→Hp→(Option Int→Hp→Prop)→Prop
def PO(X:Cx)(e:Option Expr)(t:TO):Prop :=
 ∀ (pins:List (Addr×Obj)) (s:Shared) (σ:St) (H:Hp) (Q:Option Int→Hp→Prop),Inv X pins σ H s→t σ H Q →
  wpAny (model X.prog X.w) X.A (evalPart e X.env) (fun u s'=>∃ o H',Inv X pins σ H' s'∧IsPart u o∧Q o H') X.xe s
def C2:TO:=fun _ H Q=>Q none H
def Hn(t:TE):TO:=fun σ H Q=>t σ H fun x H1=>∃ i,x=.int i∧Q (some i) H1
theorem pM{ns:List Int}:∀ {us:List Value},Vals (ns.map V.int) us→IntsAre us ns:=by
 induction ns with
 | nil=>intro us r;rw[aQU] at r;cases r;exact .nil
 | cons n ns ih =>
  intro us r
  rw[d3] at r
  cases r with
  | cons r1 r2 =>
   obtain⟨t,e⟩:=r1
   subst e
   exact .cons n t (ih r2)
section
variable {X:Cx}{e:Expr}{te:TE}{lo hi:Option Expr}{tl th:TO}{pos p2:Pos}
theorem jT:PO X none C2:=by
 intro pins s σ H Q I h
 rw[evalPart_none]
 exact wpAny_pure ⟨none,H,I,.none,h⟩
theorem iN(h:PE X e te):PO X (some e) (Hn te):=by
 intro pins s σ H Q I hw
 rw[evalPart_some]
 refine bP (h pins s σ H _ I hw) fun u s1 ⟨x,H1,I1,r1,q1⟩=>?_
 obtain⟨i,rfl,q⟩:=q1
 obtain⟨t,rfl⟩:=r1
 exact⟨some i,H1,I1,.int i t,q⟩
def Ha(X:Cx)(r:V→Option Int→Option Int→Hp→VK→Prop):Prop :=
 ∀ (pins:List (Addr×Obj)) (s:Shared) (σ:St) (H:Hp) (x:V) (v vl vu:Value) (lo hi:Option Int) (sl:Addr) (Q:VK),Inv X pins σ H s→RelV x v→s.heap.IsSliceOf sl vl vu .none→IsPart vl lo→IsPart vu hi→r x lo hi H Q →
  ∃ T id,typeLookup (.type T) "__getitem__"=pure (some (.builtin id))∧s.TypeIs v T∧wpAny (model X.prog X.w) X.A (getItem v (.ref sl)) (EP X pins σ Q) X.xe s
def JF(r:V→Option Int→Option Int→Hp→VK→Prop)(te:TE)(tl th:TO):TE:=fun σ H Q=>te σ H fun x H1=>tl σ H1 fun l H2=>th σ H2 fun u H3=>r x l u H3 Q
theorem jF{r:V→Option Int→Option Int→Hp→VK→Prop}(hr:Ha X r)(he:PE X e te)(hl:PO X lo tl)(hu:PO X hi th):PE X (.Subscript e (.Slice lo hi none p2) pos) (JF r te tl th):=by
 intro pins s σ H Q I h
 refine Subscript_ (bP (he pins s σ H _ I h) fun v s1 ⟨x,H1,I1,r1,q1⟩=>?_)
 refine wpAny_Slice (bP (hl pins s1 σ H1 _ I1 q1) fun vl s2 ⟨l,H2,I2,pl,q2⟩=>bP (hu pins s2 σ H2 _ I2 q2) fun vu s3 ⟨u,H3,I3,pu,q3⟩=>?_)
 rw[evalPart_none]
 refine wpAny_pure ?_
 have I4:Inv X pins σ H3 { s3 with heap:=s3.heap.push { cls:=.type "slice",data:=.fields #[vl,vu,.none] } }:=I3.kept (t':=s3.toks) fun b ob q=>c0 _ q
 obtain⟨T,id,hT,ht,hg⟩:=hr pins { s3 with heap:=s3.heap.push { cls:=.type "slice",data:=.fields #[vl,vu,.none] } } σ H3 x v vl vu l u s3.heap.objs.size Q I4 r1 (aXm ..) pl pu q3
 show wpAny (model X.prog X.w) X.A (subscriptTail e (.Slice lo hi none p2) v (.ref s3.heap.objs.size)) (EP X pins σ Q) X.xe { s3 with heap:=s3.heap.push { cls:=.type "slice",data:=.fields #[vl,vu,.none] } }
 exact tail_any (ops:=[.ref s3.heap.objs.size,v]) ht hT hg (by with_unfolding_all rfl)
def uN(xs:List V)(lo hi:Option Int):List V:=(xs.drop (HT.sIx xs.length 0 lo)).take (HT.sIx xs.length xs.length hi - HT.sIx xs.length 0 lo)
theorem mR(xs:List V)(lo hi:Option Int):(uN xs lo hi).length≤xs.length:=by
 unfold uN
 rw[i6,aZN]
 omega
def IH(K:b0):V→Option Int→Option Int→Hp→VK→Prop:=fun x lo hi H Q=>∃ a xs,x=.ref a∧SqT K H a xs ∧
 ¬ (HT.sIx xs.length 0 lo=0∧HT.sIx xs.length xs.length hi=xs.length)∧∀ p,H p=none→Q (.ref p) (upd H p (.tup (uN xs lo hi)))
theorem FX:Ha X (IH X.K):=by
 intro pins s σ H x v vl vu lo hi sl Q I rx hs pl pu h
 obtain⟨a,xs,rfl,hx,hw,q⟩:=h
 cases rx
 obtain⟨its,r,ht,hz⟩:=I.tuple hx
 have hlen:its.toArray.size=xs.length:=by rw[b8];exact r.length.symm
 refine⟨"tuple",_,l4.lookup,ht.typeIs,?_⟩
 refine HT.getItem_tuple_cut ht hs pl pu (by rw[hlen];exact hw) ?_ (by rw[hlen];exact hz)
 rw[hlen]
 refine⟨.ref s.heap.objs.size,_,I.laid (t':=s.toks) (o:=.tup (uN xs lo hi)) (fun b ob q=>c0 _ q) (b5 _) ?_,rfl,q _ (I.hok.fresh (b5 _))⟩
 exact⟨j0 (mR xs lo hi) hz,_,(r.drop (HT.sIx xs.length 0 lo)).take (HT.sIx xs.length xs.length hi - HT.sIx xs.length 0 lo),aQr _ _,NoD.new _ _⟩
def Ep(K:b0):R2:=fun x y H Q=>∃ a b xs ys,x=.ref a∧y=.ref b∧SqT K H a xs∧SqT K H b ys∧xs≠[]∧xs.length+ys.length≤sizeLine ∧
 (ys=[]→Q (.ref a) H)∧(ys≠[]→∀ p,H p=none→Q (.ref p) (upd H p (.tup (xs++ys))))
theorem Vals.nil_iff{xs:List V}{us:List Value}(r:Vals xs us):us=[]↔xs=[]:=by
 cases r with
 | nil=>simp
 | cons _ _=>simp
theorem DR:iZ X (binaryOp .Add) (Ep X.K):=by
 intro pins s σ H x y v u Q I rx ry h
 obtain⟨a,b,xs,ys,rfl,rfl,ha,hb,hx,hz,q1,q2⟩:=h
 cases rx
 cases ry
 obtain⟨its,r1,p1,_⟩:=I.tuple ha
 obtain⟨its2,r2,p2,_⟩:=I.tuple hb
 refine HT.cat_tup p1 p2 (fun z=>hx (r1.nil_iff.mp z)) (fun z=>⟨.ref a,H,I,rfl,q1 (r2.nil_iff.mp z)⟩) (fun z=>?_) (by rw[← r1.length,← r2.length];exact hz)
 refine⟨.ref s.heap.objs.size,_,I.laid (t':=s.toks) (o:=.tup (xs++ys)) (fun b ob q=>c0 _ q) (b5 _) ?_,rfl,q2 (fun w=>z (r2.nil_iff.mpr w)) _ (I.hok.fresh (b5 _))⟩
 exact⟨by rw[b9];exact hz,_,r1.append r2,aQr _ _,NoD.new _ _⟩
end
def Cp(n:Nat)(i:Int):Option Nat:=if 0≤i then (if i<n then some i.toNat else none) else if -(n:Int)≤i then some (i+n).toNat else none
def wJ{α:Type}(xs:List α)(i:Int):Option α:=(Cp xs.length i).bind fun j=>xs[j]?
theorem yY{n:Nat}{i:Int}{j:Nat}(h:Cp n i=some j):seqIndex? i n=some j∧j<n∧-(n:Int)≤i∧i<n:=by
 unfold Cp at h
 by_cases h0:0≤i
 ·rw[if_pos h0] at h
  by_cases h1:i<n
  ·rw[if_pos h1] at h
   have e:i.toNat=j:=i3 h
   exact⟨by rw[seqIndex_of h0 h1,e],by omega,by omega,h1⟩
  ·rw[if_neg h1] at h;cases h
 ·rw[if_neg h0] at h
  by_cases h1:-(n:Int)≤i
  ·rw[if_pos h1] at h
   have e:(i+n).toNat=j:=i3 h
   exact⟨by rw[seqIndex_neg (by omega) h1,e],by omega,h1,by omega⟩
  ·rw[if_neg h1] at h;cases h
theorem sX{α:Type}{xs:List α}{i:Int}{v:α}(h:wJ xs i=some v):∃ j,seqIndex? i xs.length=some j∧xs[j]?=some v∧j<xs.length∧-(xs.length:Int)≤i∧i<xs.length:=by
 unfold wJ at h
 cases e:Cp xs.length i with
 | none=>rw[e] at h;cases h
 | some j =>
  rw[e] at h
  obtain⟨h1,h2,h3,h4⟩:=yY e
  exact⟨j,h1,h,h2,h3,h4⟩
theorem cX{α:Type}{xs:List α}{j:Nat}{v:α}(h:xs[j]?=some v):wJ xs (j:Int)=some v:=by
 have hj:j<xs.length:=(a8.mp h).1
 have e:Cp xs.length (j:Int)=some j:=by
  unfold Cp
  rw[if_pos (by omega),if_pos (by omega)];simp
 unfold wJ;rw[e];exact h
theorem oP{α:Type}(xs:List α)(v:α):wJ (xs++[v]) (-1)=some v:=by
 have hl:(xs++[v]).length=xs.length+1:=by simp
 have e:Cp (xs++[v]).length (-1)=some xs.length:=by
  unfold Cp
  rw[hl,if_neg (by decide),if_pos (by omega)]
  congr 1
  omega
 unfold wJ
 rw[e]
 show (xs++[v])[xs.length]?=some v
 simp
def Dr(b:Expr):Prop:=∀ o i,subscripted b false o i=operate [o,i] (getItem o i)
def Fz(X:Cx)(r:R2):Prop :=
 ∀ (value slice:Expr) (pins:List (Addr×Obj)) (s:Shared) (σ:St) (H:Hp) (x y:V) (v u:Value) (Q:VK),Inv X pins σ H s→RelV x v→RelV y u→r x y H Q →
  subscripted slice false v u=operate [v,u] (getItem v u)→wpAny (model X.prog X.w) X.A (subscriptTail value slice v u) (EP X pins σ Q) X.xe s
def A8(X:Cx)(id:String)(r:V→List V→Hp→VK→Prop):Prop :=
 ∀ (pins:List (Addr×Obj)) (s:Shared) (σ:St) (H:Hp) (x:V) (xs:List V) (v:Value) (us:List Value) (Q:VK),Inv X pins σ H s→RelV x v→Vals xs us→r x xs H Q →
  wpAny (model X.prog X.w) X.A (call (.builtin id) (v::us)) (EP X pins σ Q) X.xe s
section
variable {X:Cx}{a b:Expr}{ta tb:TE}{pos:Pos}
theorem aV{r:R2}(hr:Fz X r)(ha:PE X a ta)(hb:PE X b tb)(hs:Dr b):PE X (.Subscript a b pos) (Im r ta tb):=by
 intro pins s σ H Q I h
 exact Subscript_ (FD ha hb I h fun v u s2 x y H2 I2 rx ry q=>hr a b pins s2 σ H2 x y v u Q I2 rx ry q (hs _ _))
def HY(K:b0):R2:=fun x y H Q=>∃ p xs i v,x=.ref p∧y=.int i∧SqL K H p xs∧wJ xs i=some v∧Q v H
def Gs(K:b0):R2:=fun x y H Q=>∃ p xs i v,x=.ref p∧y=.int i∧SqT K H p xs∧wJ xs i=some v∧Q v H
def IT:R2:=fun x y H Q=>∃ z i c,x=.str z∧y=.int i∧z.length≤sizeLine∧wJ z.cps.toList i=some c∧Q (.str ⟨#[c]⟩) H
theorem DM:Fz X (HY X.K):=by
 intro value slice pins s σ H x y v u Q I rx ry h hs
 obtain⟨p,xs,i,z,rfl,rfl,hq,he,q⟩:=h
 cases rx
 obtain⟨t,rfl⟩:=ry
 obtain⟨its,r,pl,hz⟩:=I.list hq
 obtain⟨j,h1,h2,h3,h4,h5⟩:=sX he
 obtain⟨w,ew,rw'⟩:=r.get h2
 have hl:=r.length
 have hn:=lU
 have fin:EP X pins σ Q w s:=⟨z,H,I,rw',q⟩
 by_cases h0:0≤i
 ·have hj:i.toNat=j:=by
   rw[seqIndex_of h0 h5] at h1
   exact i3 h1
  exact item_listR pl.isList h0 (by omega) (by rw[hj];simpa using ew) fin hs
 ·have hj:(i+(its.toArray.size:Int)).toNat=j:=by
   rw[seqIndex_neg (by omega) h4] at h1
   rw[b8,← hl]
   exact i3 h1
  exact subscriptTail_builtinR (x:=w) pl.isList.typeIs slot_list_getitem.lookup
   (wpAny_getItem_list_neg (Q:=fun r s'=>r=w∧EP X pins σ Q r s') pl.isList (by omega) (by rw[b8] <;> omega) (by omega) (by rw[hj];simpa using ew) ⟨rfl,fin⟩) hs
theorem EE:Fz X (Gs X.K):=by
 intro value slice pins s σ H x y v u Q I rx ry h hs
 obtain⟨p,xs,i,z,rfl,rfl,hq,he,q⟩:=h
 cases rx
 obtain⟨t,rfl⟩:=ry
 obtain⟨its,r,pl,hz⟩:=I.tuple hq
 obtain⟨j,h1,h2,h3,h4,h5⟩:=sX he
 obtain⟨w,ew,rw'⟩:=r.get h2
 have hl:=r.length
 have hn:=lU
 have fin:EP X pins σ Q w s:=⟨z,H,I,rw',q⟩
 exact subscriptTail_builtinR (x:=w) pl.typeIs slot_tuple_getitem.lookup
  (getItem_tuple (j:=j) (Q:=fun r s'=>r=w∧EP X pins σ Q r s') pl (by omega) (by omega) (by rw[b8,← hl];exact h1) (by simpa using ew) ⟨rfl,fin⟩) hs
theorem FP:Fz X IT:=by
 intro value slice pins s σ H x y v u Q I rx ry h hs
 obtain⟨z,i,c,rfl,rfl,hz,he,q⟩:=h
 obtain⟨t,rfl⟩:=rx
 obtain⟨t',rfl⟩:=ry
 obtain⟨j,h1,h2,h3,h4,h5⟩:=sX he
 have hl:z.cps.toList.length=z.length:=by simp[Str.length]
 rw[hl] at h1 h4 h5
 have hn:=lU
 exact tail_any (typeIs_str s z t) slot_str_getitem.lookup (getItem_str (c:=c) (by
  have e1:decide (i < -(2 ^ 63:Int))=false:=decide_eq_false (by omega)
  have e2:decide (i ≥ 2 ^ 63)=false:=decide_eq_false (by omega)
  rw[e1,e2,aZ9]) (by rw[h1];simpa using h2) ⟨.str ⟨#[c]⟩,H,I.tok _,⟨_,rfl⟩,q⟩) hs
theorem xM(its:List Value)(n j:Nat)(u:Value):Obj.mapSeq (·.setIfInBounds j u) { cls:=.type "list",data:=.seq its.toArray n }={ cls:=.type "list",data:=.seq (its.set j u).toArray n }:=by
 simp[Obj.mapSeq]
theorem Inv.lst{pins:List (Addr×Obj)}{σ:St}{H:Hp}{s:Shared}{p:Addr}{xs:List V}(I:Inv X pins σ H s)(h:H p=some (.lst xs)) :
  ∃ (its:List Value) (n:Nat),Vals xs its∧s.heap.get? p=some { cls:=.type "list",data:=.seq its.toArray n }∧xs.length≤sizeLine:=by
 obtain⟨z,its,n,r,e⟩:=I.hok p _ h
 exact⟨its,n,r,e,z⟩
theorem Inv.lstUpd{pins:List (Addr×Obj)}{σ:St}{H:Hp}{s:Shared}{p:Addr}{xs ys:List V}{its its':List Value}{n n':Nat}{f:Obj→Obj}(I:Inv X pins σ H s)(h:H p=some (.lst xs))
  (ho:s.heap.get? p=some { cls:=.type "list",data:=.seq its.toArray n }) (hf:f { cls:=.type "list",data:=.seq its.toArray n }={ cls:=.type "list",data:=.seq its'.toArray n' }) (r:Vals ys its') (hz:ys.length≤sizeLine) (t:Nat) :
  Inv X pins σ (upd H p (.lst ys)) { s with heap:=s.heap.update p f,toks:=t }:=by
 have e:(s.heap.update p f).get? p=some { cls:=.type "list",data:=.seq its'.toArray n' }:=by
  rw[u5 f ho (by rw[hf] <;> rfl),hf]
 refine I.write (x:=p) (e:=p) (by rw[h];trivial) (.inl rfl) (fun b u hb q=>(aQE _ _ (x4 hb)).trans q) ⟨_,e⟩ ?_
 exact⟨hz,its',n',r,e⟩
def Hl:V→V→V→Hp→(Hp→Prop)→Prop:=fun o i v H Q=>∃ p xs k j,o=.ref p∧i=.int k∧H p=some (.lst xs)∧Cp xs.length k=some j∧Q (upd H p (.lst (xs.set j v)))
theorem dY:Go X Hl:=by
 intro pins s σ H o i v ov iv u Q I ro ri rv h
 obtain⟨p,xs,k,j,rfl,rfl,hp,hj,q⟩:=h
 cases ro
 obtain⟨t,rfl⟩:=ri
 obtain⟨its,n,r,ho,hz⟩:=I.lst hp
 obtain⟨h1,h2,h3,h4⟩:=yY hj
 have hl:=r.length
 have hn:=lU
 have I':Inv X pins σ (upd H p (.lst (xs.set j v))) { s with heap:=s.heap.update p (Obj.mapSeq (·.setIfInBounds j u)) } :=
  I.lstUpd hp ho (xM its n j u) (r.set rv j) (by rw[k0];exact hz) s.toks
 by_cases h0:0≤k
 ·have hk:k.toNat=j:=by
   rw[seqIndex_of h0 h4] at h1
   exact i3 h1
  exact PySem.W.ki_setAt ho h0 (by omega) (by rw[b8,← hl];exact h4) (by rw[hk];exact⟨_,I',q⟩)
 ·have hk:(k+(its.toArray.size:Int)).toNat=j:=by
   rw[seqIndex_neg (by omega) h3] at h1
   rw[b8,← hl]
   exact i3 h1
  exact PySem.W.ki_setBack ho (by omega) (by rw[b8,← hl];exact h3) (by omega) (by rw[hk];exact⟨_,I',q⟩)
theorem tQ(lo hi:Option Int)(n:Nat):(sliceBounds lo hi none n).1=((HT.sIx n 0 lo:Nat):Int)∧(sliceBounds lo hi none n).2.1=((HT.sIx n n hi:Nat):Int)∧(sliceBounds lo hi none n).2.2=1:=by
 refine⟨?_,?_,rfl⟩
 ·cases lo with
  | none=>simp[sliceBounds,HT.sIx]
  | some i =>
   simp only [sliceBounds,HT.sIx,aZO,show (1:Int) > 0 by decide,if_true]
   by_cases h:i<0
   ·simp only [h,if_true] <;> omega
   ·simp only [h,if_false] <;> omega
 ·cases hi with
  | none=>simp[sliceBounds,HT.sIx]
  | some i =>
   simp only [sliceBounds,HT.sIx,aZO,show (1:Int) > 0 by decide,if_true]
   by_cases h:i<0
   ·simp only [h,if_true] <;> omega
   ·simp only [h,if_false] <;> omega
theorem qB(its:List Value)(lo hi:Option Int):slicePick its.toArray lo hi none=((its.drop (HT.sIx its.length 0 lo)).take (HT.sIx its.length its.length hi - HT.sIx its.length 0 lo)).toArray:=by
 obtain⟨h1,h2,h3⟩:=tQ lo hi its.toArray.size
 unfold slicePick
 rw[h1,h2,h3]
 simp only [sliceRange_one,pick_run,b8] <;> rfl
def IE(K:b0):V→Option Int→Option Int→Hp→VK→Prop:=fun x lo hi H Q=>∃ a xs,x=.ref a∧SqL K H a xs∧∀ p,H p=none→Q (.ref p) (upd H p (.lst (uN xs lo hi)))
theorem Il:Ha X (IE X.K):=by
 intro pins s σ H x v vl vu lo hi sl Q I rx hs pl pu h
 obtain⟨a,xs,rfl,hx,q⟩:=h
 cases rx
 obtain⟨its,r,ht,hz⟩:=I.list hx
 have hlen:=r.length
 refine⟨"list",_,slot_list_getitem.lookup,ht.isList.typeIs,?_⟩
 refine wpAny_getItem_list_slice ht.isList hs pl pu .none (by simp) ?_ (by rw[b8] <;> omega)
 rw[qB,← hlen]
 refine⟨.ref s.heap.objs.size,_,I.laid (t':=s.toks) (o:=.lst (uN xs lo hi)) (fun b ob q=>c0 _ q) (b5 _) ?_,rfl,q _ (I.hok.fresh (b5 _))⟩
 exact⟨j0 (mR xs lo hi) hz,_,0,(r.drop (HT.sIx xs.length 0 lo)).take (HT.sIx xs.length xs.length hi - HT.sIx xs.length 0 lo),g8 _ rfl⟩
def eV:V→Bool
 | .non=>true
 | .bl _=>true
 | .int _=>true
 | .str _=>true
 | _=>false
def lY:V→V→Bool
 | .non,.non=>true
 | .bl a,.bl b=>a == b
 | .bl a,.int b=>(if a then 1 else 0) == b
 | .int a,.bl b=>a == (if b then 1 else 0)
 | .int a,.int b=>a == b
 | .str a,.str b=>a == b
 | _,_=>false
theorem xF{A:Around}{s:Shared}{y x:V}{u v:Value}(ry:RelV y u)(rx:RelV x v)(fy:eV y=true)(fx:eV x=true):SeqAt.EqAt A s u v (lY y x):=by
 cases y with
 | non =>
  cases ry
  cases x with
  | non=>cases rx;exact aQd _
  | bl b=>cases rx;exact SeqAt.EqAt.none_bool b
  | int b=>obtain⟨t,rfl⟩:=rx;exact SeqAt.EqAt.none_int b t
  | str b=>obtain⟨t,rfl⟩:=rx;exact SeqAt.EqAt.none_str b t
  | _=>exact absurd (show false=true from fx) g7
 | bl a =>
  cases ry
  cases x with
  | non=>cases rx;exact SeqAt.EqAt.bool_none a
  | bl b=>cases rx;exact SeqAt.EqAt.bool_bool a b
  | int b=>obtain⟨t,rfl⟩:=rx;exact SeqAt.EqAt.bool_int a b t
  | str b=>obtain⟨t,rfl⟩:=rx;exact SeqAt.EqAt.bool_str a b t
  | _=>exact absurd (show false=true from fx) g7
 | int a =>
  obtain⟨t',rfl⟩:=ry
  cases x with
  | non=>cases rx;exact SeqAt.EqAt.int_none a t'
  | bl b=>cases rx;exact SeqAt.EqAt.int_bool a t' b
  | int b=>obtain⟨t,rfl⟩:=rx;exact aQV a t' b t
  | str b=>obtain⟨t,rfl⟩:=rx;exact aXh a t' b t
  | _=>exact absurd (show false=true from fx) g7
 | str a =>
  obtain⟨t',rfl⟩:=ry
  cases x with
  | non=>cases rx;exact SeqAt.EqAt.str_none a t'
  | bl b=>cases rx;exact SeqAt.EqAt.str_bool a t' b
  | int b=>obtain⟨t,rfl⟩:=rx;exact aXi a t' b t
  | str b=>obtain⟨t,rfl⟩:=rx;exact SeqAt.EqAt.str_str a t' b t
  | _=>exact absurd (show false=true from fx) g7
 | _=>exact absurd (show false=true from fy) g7
def yE(x:V)(u:Value):Bool:=match u with
 | .none=>lY .non x
 | .bool b=>lY (.bl b) x
 | .int i _=>lY (.int i) x
 | .str z _=>lY (.str z) x
 | _=>false
theorem Bj{x y:V}{u:Value}(r:RelV y u)(f:eV y=true):yE x u=lY y x:=by
 cases y with
 | non=>cases r;rfl
 | bl b=>cases r;rfl
 | int i=>obtain⟨t,rfl⟩:=r;rfl
 | str z=>obtain⟨t,rfl⟩:=r;rfl
 | _=>exact absurd (show false=true from f) g7
theorem kT{x:V}:∀ {xs:List V} {us:List Value},Vals xs us→xs.all eV=true→us.any (yE x)=xs.any fun y=>lY y x
 | _,_,.nil,_=>rfl
 | y::xs,u::us,.cons r t,f=>by
  rw[aX8,r9] at f
  rw[aQ3,aQ3,Bj r f.1,kT t f.2]
theorem iV{A:Around}{s:Shared}{x:V}{v:Value}(rx:RelV x v)(fx:eV x=true):∀ {xs:List V} {us:List Value},Vals xs us→xs.all eV=true→∀ u∈us,SeqAt.EqAt A s u v (yE x u)
 | _,_,.nil,_=>fun u hu=>by cases hu
 | y::xs,u::us,.cons r t,f=>fun u' hu=>by
  rw[aX8,r9] at f
  rcases c4.mp hu with rfl | hu
  ·rw[Bj r f.1];exact xF r rx f.1 fx
  ·exact iV rx fx t f.2 u' hu
def Bk(x:V)(xs:List V):Bool:=xs.any fun y=>lY y x
def Ii(K:b0)(neg:Bool):R2:=fun x y H Q=>∃ p xs,y=.ref p∧(SqL K H p xs∨SqT K H p xs)∧eV x=true∧xs.all eV=true∧Q (.bl (if neg then !Bk x xs else Bk x xs)) H
theorem An:iZ X (compareOp .In) (Ii X.K false):=by
 intro pins s σ H x y v u Q I rx ry h
 obtain⟨p,xs,rfl,hq,fx,fs,q⟩:=h
 cases ry
 rcases hq with hq | hq
 ·obtain⟨its,r,pl,hz⟩:=I.list hq
  refine SeqAt.in_listAt (yE x) pl.isList (fun w hw=>iV rx fx r fs w (by simpa using hw)) ⟨.bl _,H,I,rfl,?_⟩
  rw[show its.toArray.any (yE x)=its.any (yE x) by simp,kT r fs]
  exact q
 ·obtain⟨its,r,pl,hz⟩:=I.tuple hq
  refine SeqAt.in_tupleAt (yE x) pl (fun w hw=>iV rx fx r fs w (by simpa using hw)) ⟨.bl _,H,I,rfl,?_⟩
  rw[show its.toArray.any (yE x)=its.any (yE x) by simp,kT r fs]
  exact q
theorem sB:iZ X (compareOp .NotIn) (Ii X.K true):=by
 intro pins s σ H x y v u Q I rx ry h
 obtain⟨p,xs,rfl,hq,fx,fs,q⟩:=h
 cases ry
 rcases hq with hq | hq
 ·obtain⟨its,r,pl,hz⟩:=I.list hq
  refine SeqAt.notIn_listAt (yE x) pl.isList (fun w hw=>iV rx fx r fs w (by simpa using hw)) ⟨.bl _,H,I,rfl,?_⟩
  rw[show its.toArray.any (yE x)=its.any (yE x) by simp,kT r fs]
  exact q
 ·obtain⟨its,r,pl,hz⟩:=I.tuple hq
  refine SeqAt.notIn_tupleAt (yE x) pl (fun w hw=>iV rx fx r fs w (by simpa using hw)) ⟨.bl _,H,I,rfl,?_⟩
  rw[show its.toArray.any (yE x)=its.any (yE x) by simp,kT r fs]
  exact q
theorem sY:dX X (.builtin "len") (fun xs H Q=>∃ p ys,xs=[.ref p]∧(SqL X.K H p ys∨SqT X.K H p ys)∧Q (.int ys.length) H):=by
 intro pins s σ H xs us Q I r h
 obtain⟨p,ys,rfl,hq,q⟩:=h
 obtain⟨u,rfl,rx⟩:=kW r
 cases rx
 have hn:=lU
 rcases hq with hq | hq
 ·obtain⟨its,r',pl,hz⟩:=I.list hq
  have hlen:=r'.length
  exact Calls.call_len_list pl.isList (by simp only [b8] <;> omega) ⟨.int ys.length,H,I.tok _,⟨s.toks+1,by rw[b8,hlen]⟩,q⟩
 ·obtain⟨its,r',pl,hz⟩:=I.tuple hq
  have hlen:=r'.length
  exact len_tuple pl (by simp only [b8] <;> omega) ⟨.int ys.length,H,I.tok _,⟨s.toks+1,by rw[b8,hlen]⟩,q⟩
theorem eU:dX X (.builtin "len") (fun xs H Q=>∃ z,xs=[.str z]∧z.length≤sizeLine∧Q (.int z.length) H):=by
 intro pins s σ H xs us Q I r h
 obtain⟨z,rfl,hz,q⟩:=h
 obtain⟨u,rfl,t,rfl⟩:=kW r
 have hn:=lU
 exact len_str (by omega) ⟨.int z.length,H,I.tok _,⟨_,rfl⟩,q⟩
theorem sV:dX X (.type "list") (fun xs H Q=>∃ p ys,xs=[.ref p]∧(SqL X.K H p ys∨SqT X.K H p ys)∧∀ l,H l=none→Q (.ref l) (upd H l (.lst ys))):=by
 intro pins s σ H xs us Q I r h
 obtain⟨p,ys,rfl,hq,q⟩:=h
 obtain⟨u,rfl,rx⟩:=kW r
 cases rx
 have fin:∀ (its:List Value),Vals ys its→ys.length≤sizeLine→∀ (h':Heap) (c':Nat),(∀ b o',s.heap.get? b=some o'→h'.get? b=some o') →
   h'.get? s.heap.objs.size=some { cls:=.type "list",dict:=none,data:=.seq its.toArray c',slots:=#[] }→EP X pins σ Q (.ref s.heap.objs.size) { s with heap:=h' }:=fun its r' hz h' c' kp e =>
  ⟨.ref s.heap.objs.size,_,I.laid (t':=s.toks) kp (b5 _) (show ObjOk X.prog X.w _ h' _ (.lst ys) from ⟨hz,its,c',r',e⟩),rfl,q _ (I.hok.fresh (b5 _))⟩
 rcases hq with hq | hq
 ·obtain⟨its,r',pl,hz⟩:=I.list hq
  have hlen:=r'.length
  obtain⟨o,ho,hc,n,hd⟩:=pl.isList
  exact call_list_seq p (.inl rfl) ho hc hd (fun h' c' kp e=>fin its r' hz h' c' kp e) (by simp only [b8] <;> omega)
 ·obtain⟨its,r',pl,hz⟩:=I.tuple hq
  have hlen:=r'.length
  obtain⟨o,ho,hc,n,hd⟩:=pl
  exact call_list_seq p (.inr rfl) ho hc hd (fun h' c' kp e=>fin its r' hz h' c' kp e) (by simp only [b8] <;> omega)
theorem qD:dX X (.type "tuple") (fun xs H Q=>∃ p ys,xs=[.ref p]∧((SqL X.K H p ys∧∀ l,H l=none→Q (.ref l) (upd H l (.tup ys)))∨(SqT X.K H p ys∧Q (.ref p) H))):=by
 intro pins s σ H xs us Q I r h
 obtain⟨p,ys,rfl,h⟩:=h
 obtain⟨u,rfl,rx⟩:=kW r
 cases rx
 rcases h with ⟨hq,q⟩ | ⟨hq,q⟩
 ·obtain⟨its,r',pl,hz⟩:=I.list hq
  have hlen:=r'.length
  refine call_tuple_list pl.isList (fun h' kp=>?_) (by simp only [b8] <;> omega)
  have I1:Inv X pins σ H { s with heap:=h' }:=I.kept (t':=s.toks) kp
  have I2:Inv X pins σ (upd H h'.objs.size (.tup ys)) { s with heap:=h'.push { cls:=.type "tuple",data:=.seq its.toArray } } :=
   I1.laid (t':=s.toks) (fun b o e=>c0 _ e) (b5 _) (show ObjOk X.prog X.w _ _ _ (.tup ys) from ⟨hz,its,r',aQr _ _,NoD.new _ _⟩)
  exact⟨.ref h'.objs.size,_,I2,rfl,q _ (I1.hok.fresh (b5 _))⟩
 ·obtain⟨its,r',pl,hz⟩:=I.tuple hq
  exact call_tuple_same pl ⟨.ref p,H,I,rfl,q⟩
def Iq(K:b0)(T:String)(x:V)(H:Hp):Prop:=match x with
 | .str _=>T="str"
 | .int _=>T="int"
 | .ref p=>(T="list"∧∃ xs,SqL K H p xs)∨(T="tuple"∧∃ o,K.lookup p=some o∧o.cls=.type "tuple"∧o.dict=none) ∨
   (T="dict"∧((∃ kvs,H p=some (.dK kvs))∨∃ kvs,H p=some (.dT kvs)))∨(T="set"∧∃ S n,H p=some (.set S n))
 | _=>False
theorem BU{pins:List (Addr×Obj)}{σ:St}{H:Hp}{s:Shared}{T:String}{x:V}{v:Value}(I:Inv X pins σ H s)(r:RelV x v)(ty:Iq X.K T x H) :
  s.TypeIs v T∧∀ a,v=.ref a→∃ ob,s.heap.get? a=some ob∧ob.dict=none:=by
 cases x with
 | str z =>
  obtain⟨t,rfl⟩:=r
  cases (show T="str" from ty)
  exact⟨typeIs_str s z t,fun _ e=>nomatch e⟩
 | int i =>
  obtain⟨t,rfl⟩:=r
  cases (show T="int" from ty)
  exact⟨typeIs_int s i t,fun _ e=>nomatch e⟩
 | ref p =>
  cases r
  rcases ty with ⟨rfl,xs,hq⟩ | ⟨rfl,o,hk,hc,hd⟩ | ⟨rfl,hk⟩ | ⟨rfl,S,n,hk⟩
  ·obtain⟨its,_,pl,_⟩:=I.list hq
   refine⟨pl.isList.typeIs,fun a e=>?_⟩
   cases e
   obtain⟨o,n,e,c,hd,_⟩:=pl
   exact⟨o,e,hd⟩
  ·refine⟨⟨o,I.kIn p o hk,hc⟩,fun a e=>?_⟩
   cases e
   exact⟨o,I.kIn _ o hk,hd⟩
  ·have z:∃ o,s.heap.get? p=some o∧o.ExactDict:=by
    rcases hk with ⟨kvs,hk⟩ | ⟨kvs,hk⟩
    ·obtain⟨_,_,_,_,o,_,_,e,ex,_⟩:=I.hok p _ hk
     exact⟨o,e,ex⟩
    ·obtain⟨_,_,_,_,o,_,_,e,ex,_⟩:=I.hok p _ hk
     exact⟨o,e,ex⟩
   obtain⟨o,e,ex⟩:=z
   refine⟨⟨o,e,ex.1⟩,fun a e2=>?_⟩
   cases e2
   exact⟨o,e,ex.2.1⟩
  ·obtain⟨o,_,_,_,e,ex,_⟩:=I.hok p _ hk
   refine⟨⟨o,e,ex.1⟩,fun a e2=>?_⟩
   cases e2
   exact⟨o,e,ex.2.1⟩
 | _=>exact False.elim ty
def GA(K:b0)(T:String)(r:V→List V→Hp→VK→Prop)(to:TE):TE:=fun σ H Q=>to σ H fun x H1=>Iq K T x H1∧r x [] H1 Q
def Ji(K:b0)(T:String)(r:V→List V→Hp→VK→Prop)(to:TE)(t:TA):TE:=fun σ H Q=>to σ H fun x H1=>Iq K T x H1∧t σ H1 fun xs H2=>r x xs H2 Q
variable {o e:Expr}{es:List Expr}{to:TE}{t:TA}{name:Str}{apos cpos:Pos}{T id:String}{r:V→List V→Hp→VK→Prop}
theorem Fc(pa:PlainAttrs T)(slot:Slot T name id)(hty:typeOf (.builtin id)=pure (.type "method_descriptor"))(hm:A8 X id r)(ho:PE X o to)
  (hbase:attributeBase o name X.env (eval o X.env)=eval o X.env:=by rfl) (hline:(apos.endLine == cpos.line)=true:=by rfl):PE X (.Call (.Attribute o name apos) [] [] cpos) (GA X.K T r to):=by
 intro pins s σ H Q I h
 refine wpAny_Call_method0_late hbase hline (bP (ho pins s σ H _ I h) fun v s1 ⟨x,H1,I1,r1,ty,q1⟩=>?_)
 obtain⟨h1,h2⟩:=BU I1 r1 ty
 exact⟨T,id,pa,slot,hty,h1,h2,q8 rfl (aXb (hm pins s1 σ H1 x [] v [] Q I1 r1 .nil q1))⟩
theorem GP(pa:PlainAttrs T)(slot:Slot T name id)(hty:typeOf (.builtin id)=pure (.type "method_descriptor"))(hm:A8 X id r)(ho:PE X o to)(ha:PA X (e::es) t)
  (hbase:attributeBase o name X.env (eval o X.env)=eval o X.env:=by rfl)
  (hfew:((backTo cpos (starEach (e::es) X.env)).all (fun x=>!x.1) && (backToKw cpos (keywordEach [] X.env)).all (fun x=>x.1.isSome)
   && decide ((e::es).length+([]:List Keyword).length+(if ([]:List Keyword).isEmpty then 0 else 1)<30))=true:=by rfl)
  (hline:(apos.endLine == cpos.line)=true:=by rfl) (hs:starEach (e::es) X.env=(false,eval e X.env)::starEach es X.env:=by rfl) (hplain:(backTo cpos (starEach es X.env)).any (·.1)=false:=by rfl) :
  PE X (.Call (.Attribute o name apos) (e::es) [] cpos) (Ji X.K T r to t):=by
 intro pins s σ H Q I h
 refine wpAny_Call_method_late hbase hfew hline rfl (bP (ho pins s σ H _ I h) fun v s1 ⟨x,H1,I1,r1,ty,q1⟩=>?_)
 obtain⟨h1,h2⟩:=BU I1 r1 ty
 refine⟨T,id,pa,slot,hty,h1,h2,?_⟩
 have hA:=ha cpos pins s1 σ H1 _ I1 q1
 rw[hs] at hA ⊢
 refine q8 (by show (false || (backTo cpos (starEach es X.env)).any (·.1))=false;rw[hplain] <;> rfl) (y4 ?_)
 exact bP hA fun us s2 ⟨vs,H2,I2,r2,q2⟩=>hm pins s2 σ H2 x vs v us Q I2 r1 r2 q2
/- xs.append(e),list.index on a module's tuple .. are A8 facts of 06m -/
end
def Ik(X:Cx)(id:String)(r:V→List V→Hp→VK→Prop):Prop :=
 ∀ (pins:List (Addr×Obj)) (s:Shared) (σ:St) (H:Hp) (x:V) (xs:List V) (v:Value) (us:List Value) (Q:VK),Inv X pins σ H s→RelV x v→Vals xs us→r x xs H Q →
  wpAny (model X.prog X.w) X.A (call (.builtin id) (v::us)) (EP X pins σ Q) X.xe s
theorem Vals.one:∀ {x:V} {us:List Value},Vals [x] us→∃ u,us=[u]∧RelV x u
 | _,_,.cons r .nil=>⟨_,rfl,r⟩
theorem Vals.two:∀ {x y:V} {us:List Value},Vals [x,y] us→∃ u v,us=[u,v]∧RelV x u∧RelV y v
 | _,_,_,.cons r (.cons q .nil)=>⟨_,_,rfl,r,q⟩
theorem Vals.zero:∀ {us:List Value},Vals [] us→us=[]
 | _,.nil=>rfl
theorem Vals.dropLast{xs:List V}{us:List Value}(h:Vals xs us):Vals xs.dropLast us.dropLast:=by
 induction h with
 | nil=>exact .nil
 | cons r t ih =>
  cases t with
  | nil=>exact .nil
  | cons q t'=>exact .cons r ih
theorem Vals.eraseIdx:∀ {xs:List V} {us:List Value} (i:Nat),Vals xs us→Vals (xs.eraseIdx i) (us.eraseIdx i)
 | _,_,_,.nil=>.nil
 | _,_,0,.cons _ t=>t
 | _,_,i+1,.cons r t=>.cons r (Vals.eraseIdx i t)
theorem xB{α:Type}(l:List α):l.eraseIdx (l.length - 1)=l.dropLast:=by
 induction l with
 | nil=>rfl
 | cons a r ih =>
  cases r with
  | nil=>rfl
  | cons b r =>
   have e:(a::b::r).length - 1=((b::r).length - 1)+1:=by
    have h1:(a::b::r).length=r.length+2:=rfl
    have h2:(b::r).length=r.length+1:=rfl
    omega
   rw[e,List.eraseIdx_cons_succ,ih]
   all_goals rfl
theorem qQ{α:Type}:∀ (l:List α) (i:Nat),(l.eraseIdx i).length≤l.length
 | [],_=>b5 _
 | _::_,0=>aQD _
 | _::r,i+1=>Nat.succ_le_succ (qQ r i)
section
variable {X:Cx}{pins:List (Addr×Obj)}{σ:St}{H:Hp}{s:Shared}{l b:Addr}{xs ys zs:List V}
theorem Inv.lset{its its':List Value}{n:Nat}{f:Array Value→Array Value}{t':Nat}(I:Inv X pins σ H s)(hH:H l=some (.lst xs))
  (e:s.heap.get? l=some { cls:=.type "list",data:=.seq its.toArray n }) (hf:f its.toArray=its'.toArray) (hv:Vals ys its') (hz:ys.length≤sizeLine) :
  Inv X pins σ (upd H l (.lst ys)) { s with heap:=s.heap.update l (Obj.mapSeq f),toks:=t' }:=by
 have q:=PySem.IsL.update e f
 rw[hf] at q
 refine I.write (x:=l) (e:=l) (by rw[hH];exact trivial) (.inl rfl) (fun b' u hb hu=>(aQE s.heap (Obj.mapSeq f) (x4 hb)).trans hu) ⟨_,q⟩ ?_
 exact⟨hz,its',_,hv,q⟩
theorem Inv.lnew{its:List Value}{t':Nat}(I:Inv X pins σ H s)(hv:Vals ys its)(hz:ys.length≤sizeLine) :
  Inv X pins σ (upd H s.heap.objs.size (.lst ys)) { s with heap:=s.heap.push { cls:=.type "list",data:=.seq its.toArray },toks:=t' } :=
 I.laid (fun _ _ q=>c0 _ q) (b5 _) ⟨hz,its,0,hv,g8 _ rfl⟩
theorem Inv.fresh(I:Inv X pins σ H s):H s.heap.objs.size=none:=I.hok.fresh (b5 _)
theorem Inv.lstM(I:Inv X pins σ H s)(hH:H l=some (.lst xs)):xs.length≤sizeLine∧∃ (its:List Value) (n:Nat),Vals xs its∧xs.length=its.length∧s.heap.get? l=some { cls:=.type "list",data:=.seq its.toArray n }:=by
 obtain⟨z,its,n,r,e⟩:=I.hok l _ hH
 exact⟨z,its,n,r,r.length,e⟩
theorem Cf{n:Nat}(h:n≤sizeLine):Builtin.List.listTooLong n=false:=by
 unfold Builtin.List.listTooLong
 exact decide_eq_false (by omega)
end
section
variable {X:Cx}
def Dj:V→List V→Hp→VK→Prop:=fun x vs H Q=>∃ l xs y,x=.ref l∧vs=[y]∧H l=some (.lst xs)∧xs.length<sizeLine∧Q .non (upd H l (.lst (xs++[y])))
theorem bR:Ik X "list.append" Dj:=by
 intro pins s σ H x vs v us Q I rx rv h
 obtain⟨l,xs,y,rfl,rfl,hH,hz,q⟩:=h
 cases rx
 obtain⟨u,rfl,ru⟩:=rv.one
 obtain⟨z,its,n,r,hl,e⟩:=I.lstM hH
 refine call_meets F.slot_list_append ⟨_,e,rfl⟩ F.entry_list_append (F.args_list_append_2 _ _) (PySem.list_append l its.toArray n u (by rw[b8];omega)) ⟨e,?_⟩
 refine⟨.non,_,I.lset (its':=its++[u]) hH e (by simp) (r.append (.cons ru .nil)) ?_,rfl,q⟩
 rw[b9,aQM]
 omega
def DZ:V→List V→Hp→VK→Prop:=fun x vs H Q=>∃ l b xs zs,x=.ref l∧vs=[.ref b]∧H l=some (.lst xs)∧H b=some (.lst zs)∧xs.length+zs.length≤sizeLine∧Q .non (upd H l (.lst (xs++zs)))
theorem Gf:Ik X "list.extend" DZ:=by
 intro pins s σ H x vs v us Q I rx rv h
 obtain⟨l,b,xs,zs,rfl,rfl,hH,hB,hz,q⟩:=h
 cases rx
 obtain⟨u,rfl,ru⟩:=rv.one
 cases ru
 obtain⟨z,its,n,r,hl,e⟩:=I.lstM hH
 obtain⟨z2,its2,n2,r2,hl2,e2⟩:=I.lstM hB
 have hsz:its.toArray.size+its2.toArray.size≤sizeLine:=by rw[b8,b8];omega
 have hlong:¬ (!its.toArray.isEmpty && Builtin.List.listTooLong (its.toArray.size+its2.toArray.size))=true:=by
  rw[Cf hsz,aZ5]
  exact g7
 refine call_meets F.slot_list_extend ⟨_,e,rfl⟩ F.entry_list_extend (F.args_list_extend_2 _ _)
  (AutoSeq1.list_extend_list_list_0 l its.toArray n b its2.toArray n2 hlong (by rw[b8];omega) (by omega)) ⟨e,e2,?_⟩
 refine⟨.non,_,I.lset (its':=its++its2) hH e (by simp) (r.append r2) ?_,rfl,q⟩
 rw[b9]
 omega
def Ix:V→List V→Hp→VK→Prop:=fun x vs H Q=>∃ l xs y,x=.ref l∧vs=[]∧H l=some (.lst xs)∧xs[xs.length - 1]?=some y∧Q y (upd H l (.lst xs.dropLast))
theorem B7:Ik X "list.pop" Ix:=by
 intro pins s σ H x vs v us Q I rx rv h
 obtain⟨l,xs,y,rfl,rfl,hH,hy,q⟩:=h
 cases rx
 have hus:=rv.zero
 subst hus
 obtain⟨z,its,n,r,hl,e⟩:=I.lstM hH
 obtain⟨u,hu,ru⟩:=r.get hy
 have hy':its.toArray[its.toArray.size - 1]?=some u:=by
  show its.toArray[its.length - 1]?=some u
  rw[← aQN,← hl]
  exact hu
 refine call_meets aZY ⟨_,e,rfl⟩ aZP (F.args_list_pop_1 _) (MeetsSeq.list_pop_last l its.toArray n u hy' (by rw[b8];omega)) ⟨e,?_⟩
 refine⟨y,_,I.lset (its':=its.dropLast) hH e ?_ r.dropLast ?_,ru,q⟩
 ·show its.toArray.eraseIdxIfInBounds (its.toArray.size - 1)=its.dropLast.toArray
  rw[b8,aQb,xB]
 ·rw[List.length_dropLast]
  omega
def F7:V→List V→Hp→VK→Prop:=fun x vs H Q=>∃ l xs i k y,x=.ref l∧vs=[.int i]∧H l=some (.lst xs)∧-(2 ^ 63)≤i∧i<2 ^ 63∧seqIndex? i xs.length=some k∧xs[k]?=some y∧Q y (upd H l (.lst (xs.eraseIdx k)))
theorem oG:Ik X "list.pop" F7:=by
 intro pins s σ H x vs v us Q I rx rv h
 obtain⟨l,xs,i,k,y,rfl,rfl,hH,h1,h2,hk,hy,q⟩:=h
 cases rx
 obtain⟨u,rfl,ru⟩:=rv.one
 obtain⟨t,rfl⟩:=ru
 obtain⟨z,its,n,r,hl,e⟩:=I.lstM hH
 obtain⟨w,hw,rw'⟩:=r.get hy
 refine call_meets aZY ⟨_,e,rfl⟩ aZP (F.args_list_pop_2 _ _)
  (MeetsSeq.list_pop_at l its.toArray n i t k w (fitsIndex_both h1 h2) (by rw[b8,← hl];exact hk) (by rw[← aQN];exact hw) (by rw[b8];omega)) ⟨e,?_⟩
 refine⟨y,_,I.lset (its':=its.eraseIdx k) hH e ?_ (r.eraseIdx k) ?_,rw',q⟩
 ·show its.toArray.eraseIdxIfInBounds k=(its.eraseIdx k).toArray
  rw[aQb]
 ·have:=qQ xs k
  omega
def Jb:R2:=fun x y H Q=>∃ l b xs zs,x=.ref l∧y=.ref b∧H l=some (.lst xs)∧H b=some (.lst zs)∧xs.length+zs.length≤sizeLine∧∀ p,H p=none→Q (.ref p) (upd H p (.lst (xs++zs)))
theorem EM:iZ X (binaryOp .Add) Jb:=by
 intro pins s σ H x y v u Q I rx ry h
 obtain⟨l,b,xs,zs,rfl,rfl,hH,hB,hz,q⟩:=h
 cases rx
 cases ry
 obtain⟨z,its,n,r,hl,e⟩:=I.lstM hH
 obtain⟨z2,its2,n2,r2,hl2,e2⟩:=I.lstM hB
 refine PySem.P.add_list e e2 ?_ (by rw[b8,b8];omega)
 have ea:its.toArray++its2.toArray=(its++its2).toArray:=by simp
 rw[ea]
 exact⟨.ref _,_,I.lnew (t':=s.toks) (r.append r2) (by rw[b9];omega),rfl,q _ I.fresh⟩
end
end L2
namespace Att
open PySem PySem.W PySem.Calls PyProof.Rows
theorem nB{P:Params}{h:Heap}:∀ (ns:List Int) (vs:List Value),WellAll P h vs (ns.map WData.int)→IntsAre vs ns:=by
 intro ns
 induction ns with
 | nil =>
  intro vs w
  rw[aQU] at w
  cases w
  exact .nil
 | cons n ns ih =>
  intro vs w
  rw[d3] at w
  cases w with
  | cons a b =>
   cases a
   exact .cons _ _ (ih _ b)
theorem AE{l:OpenLaw}{n:Nat}(hn:l.most=some n){P:Params}{h:Heap}{args:List WData}{vals:List Value}
  (hpre:l.row.toRowW.claim.pre args=true) (hwl:WellAll P h vals args) :
  ∃ a vs ns,vals=[Value.ref a]∧args=[WData.list (ns.map WData.int)]∧h.get? a=some { cls:=.type "list",data:=.seq vs.toArray }∧IntsAre vs ns∧ns.length≤n:=by
 have hsh:WShape.hasAll [] args [.list .int]=true:=(pre_splitW hpre).1
 have hc:l.pre.holds [] { args:=args }=true:=(pre_splitW hpre).2
 obtain⟨d,r,rfl,h1,h2⟩:=hasAllW_cons hsh
 obtain rfl:=hasAllW_nil h2
 obtain⟨xs,rfl,h3⟩:=hasW_list h1
 obtain⟨ns,rfl⟩:=items_int h3
 have hlen:ns.length≤n:=by
  unfold OpenLaw.pre at hc
  have h4:(WTm.not (.lt (.lit (.int (n:Int))) (.len (.arg 0)))).holds [] { args:=[.list (ns.map .int)] }=true:=by
   have h4:=(holds_andW hc).1
   rw[hn] at h4
   exact h4
  have h5:=condW_of h4 (w_not (w_lt w_lit (w_len_list (w_arg rfl))))
  rw[b7] at h5
  refine Nat.le_of_not_lt fun q=>?_
  have q':(n:Int)<((ns.length:Nat):Int):=by omega
  first
   | (rw[decide_eq_true q'] at h5;exact absurd h5 (by decide))
   | (simp at h5;omega)
 cases hwl with
 | cons w1 w2 =>
  cases w2
  cases w1 with
  | list ho hall=>exact⟨_,_,ns,rfl,rfl,ho,nB ns _ hall,hlen⟩
theorem A5(l:OpenLaw)(args:List WData):l.row.toRowW.claim.post args (.bool true) args=true :=
 postW_of (r:=l.row.toRowW) (X:=(true == true))
  (show WShape.has [] (.bool true) .bool=true by first | rfl | decide | simp[WShape.has,WShape.arms,WShape.armsAll])
  (show (WTm.eq .res (.lit (.bool true))).value [] { args:=args,res:=some (.bool true),after:=args }=some (.bool (true == true)) from w_eq_bool (w_res rfl) w_lit) rfl
theorem attach_call{l:OpenLaw}{n:Nat}{q:Program}{loose:List Str}{XP:(Str→Option Value)→Heap→Prop}{YP:World→Heap→Prop}{d:DefRec}
  (hn:l.most=some n) (hdf:d.params.defaults=[])
  (call:∀ (w:World) (s₀ s₁:Shared) (mg mb:Str→Option Value) (fa:Addr) (o:Obj) (pm cd doc:Value) (a:Addr) (vs:List Value) (ns:List Int),
   Ground q loose [] XP w s₀ mg mb s₁.heap→YP w s₁.heap →
   s₁.heap.get? fa=some o→o.data=.func (docDef d.name d.params d.body d.scope pm cd doc)→s₁.heap.CodeRec cd d.name→mg d.name=some (.ref fa) →
   s₁.heap.get? a=some { cls:=.type "list",data:=.seq vs.toArray }→IntsAre vs ns→ns.length≤n→s₁.gens=#[] →
   codeAny (model l.prog w) callerA (.call (.ref fa) ⟨[.ref a],[]⟩) (fun r s'=>r=.ok (.ret (.bool true))∧OldK s₁.heap s'.heap∧s'.os=s₁.os∧AllBare s'.gens) s₁) :
  WalkO q loose XP YP l.row.toRowW d [] (fun f vs=>PySem.call f vs):=by
 intro w s₀ s₁ mg mb G Y fa o pm cd doc dV kV ho hd hcd hD hmg hg args vals as hpre hlay hrd hwl hlo
 obtain rfl:dV=.none:=Dflts.none hD hdf
 obtain rfl:kV=.none:=Dflts.noKw hD
 obtain⟨a,vs,ns,rfl,rfl,hobj,hints,hlen⟩:=AE hn hpre hwl
 refine enter_call (codeAny_mono (call w s₀ s₁ mg mb fa o pm cd doc a vs ns G Y ho (fd_plain hd) hcd hmg hobj hints hlen hg) fun r s' hq=>?_)
 obtain⟨rfl,h2,h3,h4⟩:=hq
 exact⟨.inl ⟨.bool true,.bool true,[],rfl,fun _=>rfl,.bool true,A5 l _,fun _=>⟨List.Pairwise.nil,fun _ hm=>(nomatch hm)⟩⟩,h2,h3,h4⟩
end Att
namespace L2
open PySem PySem.Spec PyProof.Rows
theorem qH:∀ {vs:List Value} {ns:List Int},IntsAre vs ns→Vals (ns.map V.int) vs
 | _,_,.nil=>.nil
 | _,_,.cons n t h=>.cons ⟨t,rfl⟩ (qH h)
def F8(H:Hp):Prop:=∀ b,H b=none∨∃ o xs,H b=some (.frz o (.lst xs))
theorem Bx{P:Program}{w:World}{K:b0}{mg mb:Str→Option Value}{CX:A9}{k:Nat}{fa a:Addr}{fd:FuncData}{x:Str}{sp:Sp}{s₁:Shared}{vs:List Value}{ns:List Int}
  (KX:K.In s₁.heap) (hns:s₁.heap.Ns mainGlobals mg) (hb:s₁.heap.Ns builtinsNs mb) (hbb:∀ x:Str,x≠"__name__"→mb x=bootBuiltins x) (hlim:s₁.heap.NoLimit) (hg:s₁.gens=#[])
  (ha:s₁.heap.get? a=some { cls:=.type "list",data:=.seq vs.toArray }) (hi:IntsAre vs ns) (hl:ns.length≤sizeLine) (hr:Room k callerA)
  (F:∀ base:Heap,K.In base→base.Ns mainGlobals mg→FnOk P w K mg base CX k fa fd [x] sp) (hbind:∀ (s:Shared) (u:Value),BindsTo s fd ⟨[u],[]⟩ [(x,u)])
  (hsp:∀ H:Hp,F8 H→SqL K H a (ns.map V.int)→sp [.ref a] H (fun v _=>v=.bl true) fun _ _ _=>False)
  (hCX:∀ H e s',CX [] H s₁ (fun _ _ _=>False) e s'→False) :
  codeAny (model P w) callerA (.call (.ref fa) ⟨[.ref a],[]⟩) (fun r s'=>r=.ok (.ret (.bool true))∧OldK s₁.heap s'.heap∧s'.os=s₁.os∧AllBare s'.gens) s₁:=by
 have rv:=qH hi
 have lenV:=hi.length
 -- from an abstract heap in which nothing but the script may be tracked
 have core:∀ H:Hp,F8 H→SqL K H a (ns.map V.int)→HOk P w H s₁.heap→(∀ b,H b≠none→b=a)→(H a≠none→K.lookup a=none) →
   codeAny (model P w) callerA (.call (.ref fa) ⟨[.ref a],[]⟩) (fun r s'=>r=.ok (.ret (.bool true))∧OldK s₁.heap s'.heap∧s'.os=s₁.os∧AllBare s'.gens) s₁:=by
  intro H hO hS hok hA hK
  have base_of:∀ {b:Addr} {o:Obj},s₁.heap.get? b=some o→H b=none→(sM s₁.heap H).get? b=some o:=fun e n=>Ct e n
  have noA:∀ {b:Addr} {o:Obj} {es:Array DictEntry} {ep:Nat},s₁.heap.get? b=some o→o.data=.dict es ep→H b=none:=fun {b o es ep} e d=>by
   cases q:H b with
   | none=>rfl
   | some u =>
    have e':b=a:=hA b (by rw[q];simp)
    subst e'
    rw[ha] at e;cases e
    have d':Data.seq vs.toArray _=Data.dict es ep:=d
    cases d'
  have nsK:∀ {b:Addr} {m:Str→Option Value},s₁.heap.Ns b m→(sM s₁.heap H).Ns b m:=fun {b m} ⟨o,es,ep,e,d,r⟩=>⟨o,es,ep,base_of e (noA e d),d,r⟩
  have hKb:K.In (sM s₁.heap H):=fun b o e=>base_of (KX b o e) (by
   cases q:H b with
   | none=>rfl
   | some u =>
    have e':b=a:=hA b (by rw[q];simp)
    subst e'
    rw[hK (by rw[q];simp)] at e;cases e)
  have hM:Mod K mg (sM s₁.heap H):=⟨hKb,nsK hns,⟨mb,nsK hb,hbb⟩,let ⟨mc,h1,h2⟩:=hlim;⟨mc,nsK h1,h2⟩⟩
  have e0:Env0 P w K mg (sM s₁.heap H) callerA [] s₁ H:=⟨rfl,hM,fun b o e=>C4 e,aXk (AZ _ _),trivial,fun b hb=>absurd (show b∈([]:List Addr) from hb) (by simp),hok,.of_eq hg⟩
  refine codeAny_mono ((F _ hKb (nsK hns)).run callerA [] s₁ H ⟨[.ref a],[]⟩ [.ref a] [.ref a] _ _ hr e0 (hbind s₁ (.ref a)) (.cons rfl .nil) (hsp H hO hS)) fun r s' h=>?_
  cases r with
  | error e=>exact(hCX H e s' h).elim
  | ok fl =>
   cases fl with
   | next=>exact False.elim h
   | brk=>exact False.elim h
   | cont=>exact False.elim h
   | ret u =>
    obtain⟨v,H',os,bare,un,hok',r',q⟩:=h
    have q':v=.bl true:=q
    subst q'
    obtain rfl:u=Value.bool true:=r'
    refine⟨rfl,OldK.of_keep fun b o e=>?_,os,bare⟩
    cases q:H b with
    | none=>exact un.keep b o e q (by intro z;exact absurd (show b∈([]:List Addr) from z) (by simp)) (by simp)
    | some u =>
     rcases hO b with z | ⟨ob,xs,z⟩
     ·rw[q] at z;cases z
     ·have z2:=un.frzs b ob _ z
      obtain⟨e1,_⟩:=hok b _ z
      obtain⟨e2,_⟩:=hok' b _ z2
      rw[e] at e1;cases e1
      exact e2
 cases hk:K.lookup a with
 | some o =>
  -- the script is one of the module's own objects
  have e:=KX a o hk
  rw[ha] at e
  cases e
  refine core (fun _=>none) (fun _=>.inl rfl) (.inr ⟨_,vs.toArray,_,hk,rfl,rfl,rfl,by rw[b8,lenV];exact hl,by simpa using rv⟩) (fun b u z=>by have z':(none:Option HO)=some u:=z;cases z') (fun b z=>absurd rfl z) fun z=>absurd rfl z
 | none =>
  refine core (fun b=>if b=a then some (.frz { cls:=.type "list",data:=.seq vs.toArray } (.lst (ns.map V.int))) else none) (fun b=>?_) (.inl (.inr ⟨{ cls:=.type "list",data:=.seq vs.toArray },if_pos rfl⟩)) (fun b u z=>?_) (fun b z=>?_) fun _=>hk
  ·by_cases hb:b=a
   ·exact .inr ⟨_,_,if_pos hb⟩
   ·exact .inl (if_neg hb)
  ·by_cases hb:b=a
   ·have z':=(if_pos hb).symm.trans z
    cases z'
    subst hb
    exact⟨ha,by rw[b7];exact hl,vs,_,rv,ha⟩
   ·have z':=(if_neg hb).symm.trans z
    cases z'
  ·by_cases hb:b=a
   ·exact hb
   ·exact absurd (if_neg hb) z
theorem walk_of{l:PySem.W.OpenLaw}{n k:Nat}{q:Program}{loose:List Str}{XP:(Str→Option Value)→Heap→Prop}{YP:World→Heap→Prop}{d:DefRec}{K:Params→b0}{CX:World→A9}{sp:World→Sp}{x:Str}
  (hn:l.most=some n) (hn2:n≤sizeLine) (hdf:d.params.defaults=[]) (hr:Room k callerA)
  (hY:∀ (w:World) (h:Heap),YP w h→(K w.params).In h)
  (F:∀ (w:World) (mg:Str→Option Value) (fa:Addr) (h:Heap),(K w.params).In h→h.Ns mainGlobals mg→mg d.name=some (.ref fa) →
   ∃ fd:FuncData,(∀ (s:Shared) (u:Value),BindsTo s fd ⟨[u],[]⟩ [(x,u)]) ∧
    ∀ base:Heap,(K w.params).In base→base.Ns mainGlobals mg→FnOk l.prog w (K w.params) mg base (CX w) k fa fd [x] (sp w))
  (hsp:∀ (w:World) (H:Hp) (a:Addr) (ns:List Int),ns.length≤n→F8 H→SqL (K w.params) H a (ns.map V.int)→sp w [.ref a] H (fun v _=>v=.bl true) fun _ _ _=>False)
  (hCX:∀ (w:World) (H:Hp) (s:Shared) (e:Value) (s':Shared),CX w [] H s (fun _ _ _=>False) e s'→False) :
  PySem.W.WalkO q loose XP YP l.row.toRowW d [] (fun f vs=>PySem.call f vs):=by
 refine Att.attach_call hn hdf fun w s₀ s₁ mg mb fa o pm cd doc a vs ns G Y ho hd hcd hmg hobj hints hlen hg=>?_
 have KX:=hY w _ Y
 obtain⟨fd,hb,hF⟩:=F w mg fa _ KX G.T.g hmg
 exact Bx KX G.T.g G.T.b G.T.builtins G.T.nolimit hg hobj hints (j0 hlen hn2) hr hF hb (fun H hO hS=>hsp w H a ns hlen hO hS) fun H e s'=>hCX w H s₁ e s'
end L2
/- THE LAST THEOREM (shape;LID,My.* are yours):
   My.Adr: a structure of the addresses that your layer names (classes,functions);My.Txt K t: a structure (Prop) of the equations over K;
   My.txt_mk:{K} {implicit addresses ..} (e1:nsIn K mainGlobals "law"=some (some (.ref f))) (e2:K.lookup f=some ⟨oc,od,.func (fnOf "law" "law" params body scope dV kV doc pm an cdv ct),sl⟩) (e3:codeIn K cdv "law"=true) ..:∃ t,My.Txt K t
set_option maxRecDepth 100000 in
set_option maxHeartbeats 0 in
theorem PySem.Challenge.cw_LID_holds : PySem.Challenge.rw_LID.Holds := by
 w_on;o_law;k_head;(case hw=>w_witness2)
 k_fill
 refine L2.walk_of (l:=PySem.Challenge.rw_LID) (n:=63) (k:=40) (x:="script") (CX:=fun w=>..) (sp:=fun _=>My.sp_law) rfl (by decide) rfl ⟨rfl,by decide,by decide⟩ (fun w h Y=>aZ6 Y) ?F ?S ?C
 case F =>
  intro w mg fa h KX G hmg
  have T:∃ t,My.Txt (L2.KOf KX) t:=by
   dsimp only [L2.KOf]                          -- K must stand as «<heap const> w.params» for k_is
   refine' My.txt_mk ?e1 ?e2 ?e3 ..
   (case e1=>PySem.W.k_is)                    -- in the order: a name -> its address -> its object -> its parts
   (case e2=>PySem.W.k_is)
   ..
  obtain⟨t,T⟩:=T
  have e0:=hmg.symm.trans (z6 KX G T.law)
  cases e0                                       -- fa is the law's own address
  exact⟨_,fun s u=>.of_eq rfl,fun base kb nb=>My.law_fn T kb nb⟩     -- if «.of_eq rfl» comes too early: refine' ⟨_,?b,fun base kb nb=>My.law_fn T kb nb⟩;exact fun s u=>.of_eq rfl
 case S=>exact fun w H a ns hl hO hS=>..
 case C=>exact ..
(the tactic k_is has no namespace: write k_is) -/
namespace L2
open PySem PySem.Spec PyProof.Rows
def eB(s:Stmt):Arguments:=match s with
 | .FunctionDef _ a _ _ _ _ _ _ _ _=>a
 | _=>{ posonlyargs:=[],args:=[],vararg:=none,kwonlyargs:=[],kw_defaults:=[],kwarg:=none,defaults:=[] }
def dS(s:Stmt):List Stmt:=match s with
 | .FunctionDef _ _ b _ _ _ _ _ _ _=>b
 | _=>[]
def aH(s:Stmt):Scope:=match s with
 | .FunctionDef _ _ _ _ _ _ sc _ _ _=>sc
 | _=>{ kind:=.function,names:=[],isGenerator:=false,isCoroutine:=false }
abbrev zO:A9:=fun _ _ _ _ _ _=>False
abbrev E0:XK:=fun _ _ _=>False
theorem eF{X:Cx}:kC zO X E0:=fun _ _ _ _ _ _ _ h=>h.elim
structure Fun(K:b0)(x qual:Str)(st:Stmt)(f:Addr)(fd:FuncData):Prop where
 ex:∃ (oc:Value) (od:Option Addr) (kV doc pm:Value) (an:Option Addr) (cdv ct:Value) (osl:Array (Option Value)),
  fd=PySem.W.fnOf x qual (eB st) (dS st) (aH st) .none kV doc pm an cdv ct∧K.lookup f=some ⟨oc,od,.func fd,osl⟩∧PySem.W.codeIn K cdv qual=true
 kp:PySem.W.keepIn K (.ref f)=true
section
variable {P:Program}{w:World}{K:b0}{mg:Str→Option Value}{base:Heap}
theorem Fun.ok{x qual:Str}{st:Stmt}{f:Addr}{fd:FuncData}{N ps:List Str}{k:Nat}{sp:Sp}(F:Fun K x qual st f fd)(S:FnScope N ps (aH st))(len:∀ vs H Q E,sp vs H Q E→vs.length=ps.length)
  (hbody:∀ (cdv:Value) (A:Around) (outer:List Env) (s:Shared) (H:Hp) (vs:List V) (Q:VK) (E:XK),Room k (A.deeper (envOfC qual (aH st) s.heap.objs.size f cdv))→sp vs H Q E →
   ∃ t,PSs (A0 zO P w K mg base N qual (aH st) f cdv A outer s H E).nox (dS st) t∧t { nx:=fun _ H'=>Q .non H',rt:=Q } (mP N vs) H):FnOk P w K mg base zO (k+1) f fd ps sp:=by
 obtain⟨oc,od,kV,doc,pm,an,cdv,ct,osl,rfl,lk,hcd⟩:=F.ex
 refine HQ lk hcd S len fun A outer s H vs Q E hr hsp=>?_
 obtain⟨t,h,q⟩:=hbody cdv A outer s H vs Q E hr hsp
 exact⟨t,h.nox,q⟩
theorem Fun.binds{x qual:Str}{st:Stmt}{f:Addr}{fd:FuncData}{ps:List Str}(F:Fun K x qual st f fd)
  (h:∀ (kV doc pm:Value) (an:Option Addr) (cdv ct:Value) (us:List Value),us.length=ps.length→bindArgs (PySem.W.fnOf x qual (eB st) (dS st) (aH st) .none kV doc pm an cdv ct) ⟨us,[]⟩=pure (ps.zip us)):Binds K fd ps []:=by
 obtain⟨oc,od,kV,doc,pm,an,cdv,ct,osl,rfl,lk,hcd⟩:=F.ex
 exact .all (h kV doc pm an cdv ct)
theorem lW{x qual:Str}{st:Stmt}{f:Addr}{oc:Value}{od an:Option Addr}{osl:Array (Option Value)}{kV doc pm cdv ct:Value}(l:K.lookup f=some ⟨oc,od,.func (PySem.W.fnOf x qual (eB st) (dS st) (aH st) .none kV doc pm an cdv ct),osl⟩)
  (c:PySem.W.codeIn K cdv qual=true) (k:PySem.W.keepIn K (.ref f)=true):Fun K x qual st f (PySem.W.fnOf x qual (eB st) (dS st) (aH st) .none kV doc pm an cdv ct):=⟨⟨oc,od,kV,doc,pm,an,cdv,ct,osl,rfl,l,c⟩,k⟩
end
theorem aN{n:Nat}(h:n≤1000):n<sizeLine:=j9 h (by decide)
section
variable {X:Cx}
theorem pv(i:Nat){x:Str}{pos:Pos}(hN:X.N[i]?=some x:=by rfl)(hv:Gy X.env.scope x:=by first | exact Or.inl rfl | exact Or.inr (Or.inl rfl) | exact Or.inr (Or.inr rfl))(hd:(x == ("__debug__":Str))=false:=by decide)
  (hcd:(x == ("__classdict__":Str))=false:=by decide):PE X (.Name x pos) (C5 i):=FU hN hv hd hcd
end
theorem fV{A B:Prop}(h:B):if false=true then A else B:=by
 rw[if_neg g7]
 exact h
theorem gC{A B:Prop}(h:A):if true=true then A else B:=by
 rw[if_pos rfl]
 exact h
theorem eK{c A B:Prop}[Decidable c](h1:c→A)(h2:¬ c→B):if c then A else B:=by
 by_cases h:c
 ·rw[if_pos h]
  exact h1 h
 ·rw[if_neg h]
  exact h2 h
def Same(H H':Hp):Prop:=∀ b o,H b=some o→H' b=some o
theorem Same.refl(H:Hp):Same H H:=fun _ _ h=>h
theorem Same.trans{H H1 H2:Hp}(a:Same H H1)(b:Same H1 H2):Same H H2:=fun c o h=>b c o (a c o h)
theorem Same.free{H H':Hp}(e:Same H H'){l:Addr}(h:H' l=Option.none):H l=Option.none:=by
 cases q:H l with
 | none=>rfl
 | some o =>
  rw[e l o q] at h
  cases h
def fA(cells:List (Str×Addr))(acc:List (Str×Addr))(p:Str×NameKind):List (Str×Addr) :=
 if p.2 == .free then (match cells.lookup p.1 with | some c=>(p.1,c)::acc | none=>acc) else acc
def Aw(names:List (Str×NameKind))(cells:List (Str×Addr)):List (Str×Addr):=names.foldl (fA cells) []
theorem kX{env:Env}:∀ (names:List (Str×NameKind)) (acc:List (Str×Addr)),(∀ y∈names,y.2=.free→∃ c,env.cells.lookup y.1=some c) →
  (forIn names acc (fun (p:Str×NameKind) (cs:List (Str×Addr))=>(match p with
   | (name,kind)=>if (kind == .free)=true then (do let c ← cellOf env name;pure (ForInStep.yield ((name,c)::cs))) else pure (ForInStep.yield cs):Sem (ForInStep (List (Str×Addr))))))=pure (names.foldl (fA env.cells) acc)
 | [],acc,_=>rfl
 | (n,k)::r,acc,h=>by
  have ih:=fun acc=>kX (env:=env) r acc fun y hy=>h y (c8 _ hy)
  rw[aZZ,aQe]
  by_cases e:(k == NameKind.free)=true
  ·obtain⟨c,hc⟩:=h (n,k) d8 (by simpa using e)
   have hc':env.cells.lookup n=some c:=hc
   have e1:fA env.cells acc (n,k)=(n,c)::acc:=by unfold fA;rw[if_pos e];simp only [hc']
   rw[e1,← ih]
   have e2:cellOf env n=pure c:=by unfold cellOf;rw[hc']
   simp only [e,if_true,e2]
   rfl
  ·have e1:fA env.cells acc (n,k)=acc:=by unfold fA;rw[if_neg e]
   rw[e1,← ih]
   simp only [e,if_false]
   rfl
theorem gK{scope:Scope}{env:Env}(h:∀ y∈scope.names,y.2=.free→∃ c,env.cells.lookup y.1=some c):closureFor scope env=pure (Aw scope.names env.cells):=by
 unfold closureFor
 have q:=kX (env:=env) scope.names [] h
 unfold Aw
 exact(congrArg (fun (m:Sem (List (Str×Addr)))=>m >>= fun cs=>pure cs) q).trans rfl
theorem vK{cells:List (Str×Addr)}:∀ (names:List (Str×NameKind)) (acc:List (Str×Addr)),(∀ y c,acc.lookup y=some c→cells.lookup y=some c)→∀ y c,(names.foldl (fA cells) acc).lookup y=some c→cells.lookup y=some c
 | [],acc,h,y,c,e=>h y c e
 | p::r,acc,h,y,c,e=>by
  refine vK r (fA cells acc p) (fun z d q=>?_) y c e
  unfold fA at q
  split at q
  ·split at q
   ·rename_i c' hc'
    rw[o0] at q
    split at q
    ·rename_i hz
     have hz':z=p.1:=by simpa using hz
     cases q
     rw[hz'];exact hc'
    ·exact h z d q
   ·exact h z d q
  ·exact h z d q
theorem wD{cells:List (Str×Addr)}:∀ (names:List (Str×NameKind)) (acc:List (Str×Addr)) (y:Str),(acc.lookup y).isSome=true→((names.foldl (fA cells) acc).lookup y).isSome=true
 | [],_,_,h=>h
 | p::r,acc,y,h=>by
  refine wD r _ y ?_
  unfold fA
  split
  ·split
   ·rw[o0]
    split
    ·rfl
    ·exact h
   ·exact h
  ·exact h
theorem wU{cells:List (Str×Addr)}:∀ (names:List (Str×NameKind)) (acc:List (Str×Addr)) (y:Str) (c:Addr),(y,NameKind.free)∈names→cells.lookup y=some c→((names.foldl (fA cells) acc).lookup y).isSome=true
 | [],_,_,_,h,_=>by simp at h
 | p::r,acc,y,c,h,hc=>by
  rcases c4.mp h with e | e
  ·refine wD r _ y ?_
   subst e
   unfold fA
   simp only [hc]
   simp[o0]
  ·exact wU r _ y c e hc
theorem kU{env:Env}:∀ {names:List (Str×NameKind)} {x:Str},names.lookup x=some .free →
  (names.map fun (n,k)=>if (k == NameKind.free && env.scope.kind == .function && env.kindOf n == some .cell) then (n,NameKind.cell) else (n,k)).lookup x=some .cell ∨
  (names.map fun (n,k)=>if (k == NameKind.free && env.scope.kind == .function && env.kindOf n == some .cell) then (n,NameKind.cell) else (n,k)).lookup x=some .free
 | [],_,h=>by simp at h
 | (n,k)::r,x,h=>by
  have ih:=@kU env r x
  rw[d3]
  cases hx:x == n with
  | true =>
   simp only [o0,hx] at h
   cases h
   by_cases hc:(NameKind.free == NameKind.free && env.scope.kind == .function && env.kindOf n == some .cell)=true
   ·left;dsimp only;rw[if_pos hc];simp[o0,hx]
   ·right;dsimp only;rw[if_neg hc];simp[o0,hx]
  | false =>
   simp only [o0,hx] at h
   have e:∀ z:Str×NameKind,z.1=n→((z::(r.map fun (n,k)=>if (k == NameKind.free && env.scope.kind == .function && env.kindOf n == some .cell) then (n,NameKind.cell) else (n,k))).lookup x=(r.map fun (n,k)=>if (k == NameKind.free && env.scope.kind == .function && env.kindOf n == some .cell) then (n,NameKind.cell) else (n,k)).lookup x):=fun z hz=>by
    obtain⟨z1,z2⟩:=z
    cases hz
    rw[o0,hx]
   dsimp only
   split
   ·rw[e _ rfl];exact ih h
   ·rw[e _ rfl];exact ih h
theorem lJ{env:Env}:∀ {names:List (Str×NameKind)} {x:Str},(∀ y∈names,y.2≠.cell) →
  ((names.map fun (n,k)=>if (k == NameKind.free && env.scope.kind == .function && env.kindOf n == some .cell) then (n,NameKind.cell) else (n,k)).lookup x=some .cell ∨
  (names.map fun (n,k)=>if (k == NameKind.free && env.scope.kind == .function && env.kindOf n == some .cell) then (n,NameKind.cell) else (n,k)).lookup x=some .free)→names.lookup x=some .free
 | [],_,_,h=>by simp at h
 | (n,k)::r,x,hn,h=>by
  have ih:=@lJ env r x fun y hy=>hn y (c8 _ hy)
  have hk:k≠.cell:=hn (n,k) d8
  rw[d3] at h
  cases hx:x == n with
  | true =>
   by_cases hc:(k == NameKind.free && env.scope.kind == .function && env.kindOf n == some .cell)=true
   ·have:k=.free:=by
     cases k <;> simp at hc ⊢
    subst this
    simp[o0,hx]
   ·dsimp only at h;rw[if_neg hc] at h
    simp only [o0,hx] at h ⊢
    rcases h with h | h
    ·cases h;exact absurd rfl hk
    ·exact h
  | false =>
   have e:∀ z:Str×NameKind,z.1=n→((z::(r.map fun (n,k)=>if (k == NameKind.free && env.scope.kind == .function && env.kindOf n == some .cell) then (n,NameKind.cell) else (n,k))).lookup x=(r.map fun (n,k)=>if (k == NameKind.free && env.scope.kind == .function && env.kindOf n == some .cell) then (n,NameKind.cell) else (n,k)).lookup x):=fun z hz=>by
    obtain⟨z1,z2⟩:=z
    cases hz
    rw[o0,hx]
   dsimp only at h
   have h':(r.map fun (n,k)=>if (k == NameKind.free && env.scope.kind == .function && env.kindOf n == some .cell) then (n,NameKind.cell) else (n,k)).lookup x=some .cell∨(r.map fun (n,k)=>if (k == NameKind.free && env.scope.kind == .function && env.kindOf n == some .cell) then (n,NameKind.cell) else (n,k)).lookup x=some .free:=by
    split at h
    ·rw[e _ rfl] at h;exact h
    ·rw[e _ rfl] at h;exact h
   rw[o0,hx]
   exact ih h'
structure CompSc(X:Cx)(scope:Scope)(x:Str)(ix:List Nat):Prop where
 kind:scope.kind=.function
 nocell:∀ y∈scope.names,y.2≠.cell
 loc:∀ y∈scope.names,y.2=.local→scope.names.lookup y.1=some .local
 x:scope.names.lookup x=some .local
 free:∀ y∈scope.names,y.2=.free→X.env.scope.names.lookup y.1=some .cell∨X.env.scope.names.lookup y.1=some .free
 cap:∀ i∈ix,i<X.N.length∧scope.names.lookup (X.N.getD i "")=some .free
def mS(X:Cx)(x:Str)(ix:List Nat):List Str:=x::ix.map fun i=>X.N.getD i ""
def pS(σ:St)(ix:List Nat):St:=none::ix.map fun i=>σ.getD i none
def cA(X:Cx)(scope:Scope)(x:Str)(ix:List Nat)(ex:List Addr)(s:Shared)(H:Hp):Cx where
 prog:=X.prog
 w:=X.w
 K:=X.K
 mg:=X.mg
 base:=X.base
 A:=X.A
 N:=mS X x ix
 s₀:=s
 H₀:=H
 env:=compEnvC scope (Aw scope.names X.env.cells) s.heap.objs.size X.env
 outer:=X.stack
 stack:=X.stack
 ex:=ex
 fn:=fun _=>false
 calm:=X.calm
 pn:=[]
 xe:=fun _ _=>False
section
variable {X:Cx}{scope:Scope}{x:Str}{ix:List Nat}
theorem CompSc.cells(S:CompSc X scope x ix)(ok:X.Ok):∀ y∈scope.names,y.2=.free→∃ c,X.env.cells.lookup y.1=some c:=fun y hy hf=>ok.has y.1 (S.free y hy hf)
theorem vI{pins:List (Addr×Obj)}{σ:St}{H:Hp}{s:Shared}{h':Heap}{t':Nat}{fp:List Addr}(S:CompSc X scope x ix)(I:Inv X pins σ H s)(hf:∀ b∈fp,gB X pins H b)(hlt:∀ b∈fp,b<s.heap.objs.size)
  (ns:h'.Ns s.heap.objs.size (fun y=>([]:List (Str×Value)).reverse.lookup y)) (sb:Heap.SameBut s.heap.objs.size (s.heap.push { cls:=.type "dict",data:=.dict #[] }) h') :
  Inv (cA X scope x ix fp s H) [] (pS σ ix) H { s with heap:=h',toks:=t' }:=by
 have hk:∀ b u,s.heap.get? b=some u→h'.get? b=some u:=fun b u e=>(sb.2 b (d5 (c7 e))).trans (c0 _ e)
 have sound:∀ y c,(Aw scope.names X.env.cells).lookup y=some c→X.env.cells.lookup y=some c:=vK scope.names [] (fun _ _ q=>by simp at q)
 have cellLt:∀ y c,X.env.cells.lookup y=some c→c<s.heap.objs.size:=fun y c e=>by
  obtain⟨v,q⟩:=I.cell y c e
  exact q.lt
 have cellK:∀ y c v,X.env.cells.lookup y=some c→s.heap.IsCell c v→h'.IsCell c v:=fun y c v _ ⟨o,ho,hd⟩=>⟨o,hk c o ho,hd⟩
 refine⟨⟨I.ok.mod,S.kind,I.ok.glob,I.ok.blt,b5 _,fun y z c h1 h2=>I.ok.inj y z c (sound y c h1) (sound z c h2),fun y hy=>?_,fun y c hf _=>(by cases hf),I.ok.hd,I.ok.frames,.inl rfl,fun b hb=>⟨d5 (hlt b hb),fun y c e=>(hf b hb).2.2.2.2.1 y c (sound y c e)⟩,I.bs,j0 I.ok.bsz I.sz,fun b o e hb=>?_,fun b hb hs=>?_,I.stack,I.stkFree⟩,
  rfl,I.bare,Un.kept hk,⟨_,ns,fun i y v h1 h2 h3=>?_⟩,fun y c e=>?_,I.hok.fresh (b5 _),fun y c e=>I.freeC y c (sound y c e),fun p hp=>absurd (show p∈([]:List (Addr×Obj)) from hp) (by simp),I.hok.kept hk,?_⟩
 ·have hy':scope.names.lookup y=some .free:=lJ (env:=X.env) S.nocell hy
  obtain⟨c,hc⟩:=S.cells I.ok (y,.free) (o5 hy') rfl
  exact y7.mp (wU scope.names [] y c (o5 hy') hc)
 ·obtain⟨_,_,_,f3,_⟩:=hf b hb
  rcases f3 with f3 | f3
  ·exact I.ok.noex b o e f3
  ·exact absurd (j8 (c7 e) (j0 I.ok.bsz f3)) (x0 _)
 ·rcases c4.mp (I.stkSub b hs) with e | e
  ·exact(hf b hb).2.1 e
  ·exact(hf b hb).2.2.1 e
 ·cases i with
  | zero =>
   have h2':(none:Option V)=some v:=by simpa [pS] using h2
   cases h2'
  | succ i =>
   have h1':(ix.map fun i=>X.N.getD i "")[i]?=some y:=by simpa [cA,mS] using h1
   have h2':(ix.map fun i=>σ.getD i none)[i]?=some (some v):=by simpa [pS] using h2
   rw[c5] at h1' h2'
   cases ei:ix[i]? with
   | none=>rw[ei] at h1';cases h1'
   | some j =>
    rw[ei] at h1' h2'
    have h1'':X.N.getD j ""=y:=i3 h1'
    have h2'':σ.getD j none=some v:=i3 h2'
    obtain⟨hj,hfr⟩:=S.cap j (b6 ei)
    rw[h1''] at hfr
    have e1:X.N[j]?=some y:=by
     rw[a9 hj]
     rw[c6,a9 hj] at h1''
     exact congrArg some h1''
    have e2:σ[j]?=some (some v):=by
     have hj':j<σ.length:=by rw[I.len];exact hj
     rw[a9 hj']
     rw[c6,a9 hj'] at h2''
     exact congrArg some h2''
    have vis:Gy X.env.scope y:=by
     rcases S.free (y,.free) (o5 hfr) rfl with q | q
     ·exact .inr (.inl q)
     ·exact .inr (.inr q)
    obtain⟨m,hn,hl⟩:=I.loc
    obtain⟨u,r,q⟩:=hl j y v e1 e2 vis
    refine⟨u,r,.inr ⟨?_,?_⟩⟩
    ·exact kU (env:=X.env) hfr
    ·rcases q with ⟨k,_⟩ | ⟨_,c,hc,z⟩
     ·rcases S.free (y,.free) (o5 hfr) rfl with q | q
      ·rw[show X.env.kindOf y=X.env.scope.names.lookup y from rfl,q] at k;cases k
      ·rw[show X.env.kindOf y=X.env.scope.names.lookup y from rfl,q] at k;cases k
     ·obtain⟨c',hc'⟩:=y7.mp (wU scope.names [] y c (o5 hfr) hc)
      have e3:=sound y c' hc'
      rw[hc] at e3;cases e3
      exact⟨c,hc',cellK y c _ hc z⟩
 ·obtain⟨v,q⟩:=I.cell y c (sound y c e)
  exact⟨v,cellK y c v (sound y c e) q⟩
 ·simp[pS,cA,mS]
theorem uP{pins:List (Addr×Obj)}{σ σ':St}{H H':Hp}{s s':Shared}{fp:List Addr}{h'':Heap}(I:Inv X pins σ H s)(hf:∀ b∈fp,gB X pins H b)(J:Inv (cA X scope x ix fp s H) [] σ' H' s')
  (sb:Heap.SameBut s.heap.objs.size s'.heap h''):Inv X pins σ H' { s' with heap:=h'' }:=by
 have neC:∀ b o,s.heap.get? b=some o→b≠s.heap.objs.size:=fun b o e=>d5 (c7 e)
 have B:Un (AR X.stack) fp H H' s.heap s'.heap:=J.base
 have hC:H' s.heap.objs.size=none:=J.free
 refine I.call' (ch:=fp) J.os ?_ ?_ J.bare fun b hb=>⟨(hf b hb).2.2.2.1,(hf b hb).2.1,(hf b hb).2.2.2.2.1,(hf b hb).2.2.2.2.2⟩
 ·refine⟨fun b o e n hb hx=>(sb.2 b (neC b o e)).trans (B.keep b o e n hb hx),fun b o e n hb hx=>?_,B.free,fun b o e hx=>?_,B.tups,B.frzs,B.tbls⟩
  ·obtain⟨sl,q⟩:=B.slot b o e n hb hx
   exact⟨sl,(sb.2 b (neC b o e)).trans q⟩
  ·obtain⟨o',q⟩:=B.there b o e hx
   exact⟨o',(sb.2 b (neC b o e)).trans q⟩
 ·intro b ob e
  refine(J.hok b ob e).stay (fun c w' hc q=>(sb.2 c ?_).trans q) (fun _ q=>q) fun _ _ q=>q
  rintro rfl
  rcases hc with hc | hc
  ·rw[← hc,hC] at e;cases e
  ·rw[hC] at hc;cases hc
end
theorem qF{α β:Type}{M:Model}{A:Around}{a:α}{t:Sem β}{P:α→Shared→Prop}{Q:β→Shared→Prop}{E E':Value→Shared→Prop}{s:Shared}(h:wpAny M A (pure a:Sem α) P E s)(k:P a s→wpAny M A t Q E' s):wpAny M A t Q E' s:=fun Γ p hΓ=>k (h Γ p hΓ) Γ p hΓ
def qG(X:Cx)(ifs:List Expr)(t:TT):Prop :=
 ∀ (pins:List (Addr×Obj)) (s:Shared) (σ:St) (H:Hp) (Q:Bool→Hp→Prop),Inv X pins σ H s→t σ H Q →
  wpAny (model X.prog X.w) X.A (forIn ifs true fun c r=>if r=true then do let ok ← isTrue c X.env (eval c X.env);pure (ForInStep.yield ok) else pure (ForInStep.yield r)) (TP X pins σ Q) X.xe s
def E1:TT:=fun _ H Q=>Q true H
theorem bX{X:Cx}:qG X [] E1:=fun _ _ _ H _ I h=>wpAny_tests_nil ⟨H,I,h⟩
theorem vE{X:Cx}{c:Expr}{t:TT}(h:PT X c t):qG X [c] t:=fun pins s σ H Q I q=>wpAny_tests_one (h pins s σ H Q I q)
def kS(σ:St)(ix:List Nat):St:=ix.map fun i=>σ.getD i none
def jH(J:It)(D:Addr)(Q:VK)(ti:TT)(te:TE)(c:St)(H0:Hp):Prop :=
 ∃ W:Nat→Nat→Hp→Prop,(∃ m,W 0 m H0)∧∀ i m H,W i m H →
  (J.stop i H∧Q (.ref D) H)∨(J.go i H∧∃ N:Hp→Prop,(∀ H',N H'→∃ m',m' < m∧W (i+1) m' H')∧∀ v H',J.yld i H v H' →
   ti (some v::c) H' fun b H2=>if b=true then te (some v::c) H2 fun y H3=>∃ ys,H3 D=some (.lst ys)∧ys.length<sizeLine∧N (upd H3 D (.lst (ys++[y]))) else N H2)
def Cz(wi:TI)(ix:List Nat)(ti:TT)(te:TE):TE:=fun σ H Q=>wi σ H fun J H1=>∀ D,H1 D=none→jH J D Q ti te (kS σ ix) (upd H1 D (.lst []))
section
variable {X:Cx}{scope:Scope}{x:Str}{px pos:Pos}{ix:List Nat}{elt iter:Expr}{ifs:List Expr}{wi:TI}{ti:TT}{te:TE}
theorem pP{pins:List (Addr×Obj)}{σ:St}{H:Hp}{s:Shared}{fp:List Addr}{it D:Addr}{tn:Nat→Heap→Prop}{J:It}{Q:VK}{E:Value→Shared→Prop}{RR:Result→Shared→Prop}(S:CompSc X scope x ix)(hc:X.calm=true)
  (he:∀ s H,PE (cA X scope x ix fp s H) elt te) (hi:∀ s H,qG (cA X scope x ix fp s H) ifs ti)
  (I:Inv X pins σ H s) (T:Turn X.prog X.w X.K (.Name x px) J fp it tn) (st:tn 0 s.heap) (hf:∀ b∈fp,gB X pins H b) (go:jH J D Q ti te (kS σ ix) H)
  (nd:(mS X x ix).Nodup)
  (hR:∀ σ' H' s',Inv (cA X scope x ix fp s H) [] σ' H' s'→Q (.ref D) H'→RR (.ok .next) s') :
  wpAny (model X.prog X.w) X.A (newFunctionEnv scope X.env.globals (Aw scope.names X.env.cells) [] X.env.qual none .none (some X.env)) (fun cenv s₄=>cenv.locals=s.heap.objs.size ∧
   codeAny (model X.prog X.w) X.A (.compStart (.ListComp elt [⟨.Name x px,iter,ifs,0⟩] scope pos) 0 (.ref it) (.ref D) { cenv with scope:=relabel scope X.env }) RR s₄) E s:=by
 refine wpAny_newFunctionEnv S.nocell (by intro y hy;simp at hy) (fun h' ns sb=>⟨rfl,?_⟩) S.kind
 have hlt:∀ b∈fp,b<s.heap.objs.size:=fun b hb=>by
  obtain⟨o,e,_⟩:=T.obj 0 _ st b hb
  exact c7 e
 have I0:Inv (cA X scope x ix fp s H) [] (pS σ ix) H { s with heap:=h',toks:=s.toks+([]:List (Str×Value)).length }:=vI S I hf hlt ns sb
 have st0:tn 0 h':=T.keep 0 _ _ st fun b hb o e=>(sb.2 b (d5 (c7 e))).trans (c0 _ e)
 obtain⟨W,⟨m0,w0⟩,turn⟩:=go
 have stat:∀ {H':Hp},(∀ b∈fp,H' b=none)→∀ b∈fp,gB (cA X scope x ix fp s H) [] H' b:=fun hn b hb=>by
  refine⟨hn b hb,d5 (hlt b hb),fun z=>?_,.inl hb,fun y c e=>(I0.ok.exf b hb).2 y c e,fun p hp=>absurd (show p∈([]:List (Addr×Obj)) from hp) (by simp)⟩
  exact I0.ok.exfs b hb z
 have loop:codeAny (model X.prog X.w) X.A (.compLoop (.ListComp elt [⟨.Name x px,iter,ifs,0⟩] scope pos) 0 (.ref it) (.ref D) (cA X scope x ix fp s H).env) RR { s with heap:=h',toks:=s.toks+([]:List (Str×Value)).length }:=by
  refine codeAny_compLoop_tests (fun n s'=>∃ i o H',Inv (cA X scope x ix fp s H) [] (o::kS σ ix) H' s'∧tn i s'.heap∧(∀ b∈fp,H' b=none)∧W i n H') ?_ m0 ⟨0,none,H,I0,st0,fun b hb=>(hf b hb).1,w0⟩
  rintro n s3 ⟨i,o3,H3,I3,st3,fr3,w3⟩
  rcases turn i n H3 w3 with ⟨stop,qn⟩ | ⟨gone,N,hN,step⟩
  ·refine bP (T.done (cA X scope x ix fp s H) rfl rfl rfl hc i [] s3 _ H3 _ I3 (stat fr3) st3 stop) fun r s4 ⟨hr,I4⟩=>?_
   subst hr
   exact hR _ H3 s4 I4 qn
  ·refine bP (T.item (cA X scope x ix fp s H) rfl rfl rfl hc i [] s3 _ H3 (fun _ _=>False) I3 (stat fr3) st3 gone |> fun z=>wpAny_mono z (fun _ _ q=>q) fun _ _ f=>f.elim) fun r s4 ⟨u,hr,h4⟩=>?_
   subst hr
   refine qF (a:=()) h4 fun ⟨y,H5,I5,r5,y5,st5,fr5⟩=>?_
   have I5':=I5.pinned (stat fr5) (T.obj _ _ st5)
   have hx0:(cA X scope x ix fp s H).N[0]?=some x:=rfl
   refine wpAny_assign_Name (eO I5' nd hx0 (.inl (lookup_relabel_local S.x)) r5 (fun s6 I6=>?_) (.inr (lookup_relabel_local S.x)))
   refine wpAny_mono (hi s H _ s6 _ H5 _ I6 (step y H5 y5)) (fun ok s7 ⟨H7,I7,q7⟩=>?_) fun _ _ f=>f.elim
   have again:∀ {o7:Option V} {H7:Hp} {s7:Shared},Inv (cA X scope x ix fp s H) ([]++jK fp s4.heap) (o7::kS σ ix) H7 s7→N H7→∃ m,m<n∧∃ i o H',Inv (cA X scope x ix fp s H) [] (o::kS σ ix) H' s7∧tn i s7.heap∧(∀ b∈fp,H' b=none)∧W i m H':=fun {o7 H7 s7} I7 n7=>by
    obtain⟨m',hm,w7⟩:=hN H7 n7
    refine⟨m',hm,i+1,o7,H7,I7.unpinned,T.keep _ _ _ st5 fun b hb o e=>(I7.pin (b,o) (d6 _ (d6 _ (fB hb e)))).1,fun b hb=>?_,w7⟩
    obtain⟨o,e,d⟩:=T.obj _ _ st5 b hb
    exact(I7.pin (b,o) (d6 _ (d6 _ (fB hb e)))).2.1
   cases ok with
   | false =>
    rw[if_neg (by simp)] at q7
    exact again I7 q7
   | true =>
    rw[if_pos rfl] at q7
    refine wpAny_mono (he s H _ s7 _ H7 _ I7 q7) (fun v s8 ⟨y8,H8,I8,r8,ys,hD,hz,n8⟩=>?_) fun _ _ f=>f.elim
    obtain⟨z,its,k,rv,e⟩:=I8.hok D _ hD
    have hl:s8.heap.IsList D its.toArray:=⟨_,e,rfl,k,rfl⟩
    refine bR _ s8 _ H8 (.ref D) [y8] (.ref D) [v] _ I8 rfl (.cons r8 .nil) ⟨D,ys,y8,rfl,rfl,hD,hz,n8⟩ |> fun z=>wpAny_mono z (fun _ s9 ⟨_,H9,I9,_,q9⟩=>again I9 q9) fun _ _ f=>f.elim
 exact codeAny_compStart_list loop (T.self _ 0 _ _ _ st0 loop)
end
section
variable {X:Cx}{scope:Scope}{x:Str}{px pos:Pos}{ix:List Nat}{elt iter:Expr}{ifs:List Expr}{wi:TI}{ti:TT}{te:TE}
theorem Inv.fp_upd{pins:List (Addr×Obj)}{H:Hp}{D:Addr}{o:HO}{fp:List Addr}(hf:∀ b∈fp,gB X pins H b)(hD:∀ b∈fp,b≠D):∀ b∈fp,gB X pins (upd H D o) b:=fun b hb =>
 ⟨by rw[aE (hD b hb)];exact(hf b hb).1,(hf b hb).2⟩
theorem Du(S:CompSc X scope x ix)(nd:(mS X x ix).Nodup)(hc:X.calm=true)(hi:PI X (.Name x px) iter wi)(hif:∀ fp s H,qG (cA X scope x ix fp s H) ifs ti)(he:∀ fp s H,PE (cA X scope x ix fp s H) elt te)
  (hs:∀ z,foldedSetIterable iter X.env z=pure z:=by intro _;rfl):PE X (.ListComp elt [⟨.Name x px,iter,ifs,0⟩] scope pos) (Cz wi ix ti te):=by
 intro pins s σ H Q I h
 rw[eval_ListComp]
 refine wpAny_comprehension_free (use:=none) rfl hs (gK (S.cells I.ok)) S.kind S.loc (bP (hi pins s σ H _ I h) fun v s1 h1=>bP h1 fun itv s2 h2=>?_)
 obtain⟨it,fp,tn,J,H2,rfl,I2,T,st2,f2,q⟩:=h2
 refine wpAny_newObj_type ?_
 have fr:=I2.fresh
 have I3:Inv X pins σ (upd H2 s2.heap.objs.size (.lst [])) { s2 with heap:=s2.heap.push { cls:=.type "list",data:=.seq ([]:List Value).toArray } }:=I2.lnew (t':=s2.toks) .nil (j6 _)
 have hD:∀ b∈fp,b≠s2.heap.objs.size:=fun b hb=>by
  obtain⟨o,e,_⟩:=T.obj 0 _ st2 b hb
  exact d5 (c7 e)
 have f3:=Inv.fp_upd (o:=.lst []) f2 hD
 have st3:tn 0 (s2.heap.push { cls:=.type "list",data:=.seq ([]:List Value).toArray }):=T.keep 0 _ _ st2 fun b hb o e=>c0 _ e
 refine bP (pP (px:=px) (pos:=pos) (iter:=iter) (E:=X.xe) (RR:=compPost (model X.prog X.w) X.A X.xe none (EP X pins σ Q) (.ref s2.heap.objs.size) (s2.heap.push { cls:=.type "list",data:=.seq ([]:List Value).toArray }).objs.size) S hc (he fp) (hif fp) I3 T st3 f3 (q _ fr) nd ?_) fun cenv s4 ⟨e,z⟩=>?_
 ·intro σ' H' s' J' q'
  obtain⟨m,hn,_⟩:=J'.loc
  exact⟨m,hn,fun h'' sb=>⟨_,H',uP I3 f3 J' sb,(show RelV (.ref s2.heap.objs.size) _ from rfl),q'⟩⟩
 ·rw[← show cenv.locals=(s2.heap.push { cls:=.type "list",data:=.seq ([]:List Value).toArray }).objs.size from e] at z;exact z
def D7(i:Nat)(wi:TI)(ix:List Nat)(ti:TT)(te:TE):TS:=fun D σ H=>Cz wi ix ti te σ H fun v H1=>D.nx (σ.set i (some v)) H1
theorem DA{i:Nat}{y:Str}{py spos:Pos}(hN:X.N.Nodup)(hy:X.N[i]?=some y)(hyl:X.env.scope.names.lookup y=some .local)(S:CompSc X scope x ix)(nd:(mS X x ix).Nodup)(hc:X.calm=true)(hi:PI X (.Name x px) iter wi)
  (hif:∀ fp s H,qG (cA X scope x ix fp s H) ifs ti) (he:∀ fp s H,PE (cA X scope x ix fp s H) elt te)
  (hsw:swapsWith (.ListComp elt [⟨.Name x px,iter,ifs,0⟩] scope pos) (some (.Name y py)) spos.line X.env=pure true:=by rfl)
  (hs:∀ z,foldedSetIterable iter X.env z=pure z:=by intro _;rfl):PS X (.Assign [.Name y py] (.ListComp elt [⟨.Name x px,iter,ifs,0⟩] scope pos) spos) (D7 i wi ix ti te):=by
 intro pins s σ H D I h
 rw[exec_Assign_Name_used _ _ _ _ hsw]
 refine wpAny_bind (wpAny_standAt (wpAny_bind ?_))
 show wpAny _ X.A (do let _ ← comprehension (.ListComp elt [⟨.Name x px,iter,ifs,0⟩] scope pos) scope X.env _ (newList []) false (eval iter X.env) (some (assign (.Name y py) X.env))) _ _ s
 refine wpAny_bind (wpAny_mono (wpAny_comprehension_free (use:=some (assign (.Name y py) X.env)) (Q:=fun _ s'=>SP X pins D .next s') rfl hs (gK (S.cells I.ok)) S.kind S.loc (bP (hi pins s σ H _ I h) fun v s1 h1=>bP h1 fun itv s2 h2=>?_)) (fun _ s' hq=>wpAny_pure (wpAny_pure hq)) fun _ _ e=>e)
 obtain⟨it,fp,tn,J,H2,rfl,I2,T,st2,f2,q⟩:=h2
 refine wpAny_newObj_type ?_
 have fr:=I2.fresh
 have I3:Inv X pins σ (upd H2 s2.heap.objs.size (.lst [])) { s2 with heap:=s2.heap.push { cls:=.type "list",data:=.seq ([]:List Value).toArray } }:=I2.lnew (t':=s2.toks) .nil (j6 _)
 have hD:∀ b∈fp,b≠s2.heap.objs.size:=fun b hb=>by
  obtain⟨o,e,_⟩:=T.obj 0 _ st2 b hb
  exact d5 (c7 e)
 have f3:=Inv.fp_upd (o:=.lst []) f2 hD
 have st3:tn 0 (s2.heap.push { cls:=.type "list",data:=.seq ([]:List Value).toArray }):=T.keep 0 _ _ st2 fun b hb o e=>c0 _ e
 refine bP (pP (px:=px) (pos:=pos) (iter:=iter) (E:=X.xe) (RR:=compPost (model X.prog X.w) X.A X.xe (some (assign (.Name y py) X.env)) (fun _ s'=>SP X pins D .next s') (.ref s2.heap.objs.size) (s2.heap.push { cls:=.type "list",data:=.seq ([]:List Value).toArray }).objs.size) S hc (he fp) (hif fp) I3 T st3 f3 (q _ fr) nd ?_) fun cenv s4 ⟨e,z⟩=>?_
 ·intro σ' H' s' J' q'
  have neL:(s2.heap.push { cls:=.type "list",data:=.seq ([]:List Value).toArray }).objs.size≠X.env.locals:=aQc I3.lt
  have I4:Inv X pins σ H' { s' with heap:=s'.heap }:=uP I3 f3 J' (.refl ..)
  show wpAny (model X.prog X.w) X.A (assign (.Name y py) X.env (.ref s2.heap.objs.size)) _ X.xe s'
  refine wpAny_assign_Name (lR (s:=s') I4 hN hy (.inl hyl) (show RelV (.ref s2.heap.objs.size) _ from rfl) (fun s6 I6 ⟨a,sb,ha⟩=>?_) (.inr hyl))
  have ha':a≠(s2.heap.push { cls:=.type "list",data:=.seq ([]:List Value).toArray }).objs.size:=by
   rcases ha with ha | ha
   ·rw[ha];exact x4 neL
   ·obtain⟨v,z⟩:=I3.cell y a ha
    exact d5 z.lt
  obtain⟨m,hn,_⟩:=J'.loc
  refine⟨m,hn.sameBut sb (x4 ha'),fun h'' sb2=>⟨σ.set i (some (.ref s2.heap.objs.size)),H',?_,q'⟩⟩
  -- the block's dict is not ours: its change is no matter
  have I7:Inv X pins (σ.set i (some (.ref s2.heap.objs.size))) H' s6:=I6
  have hCn:H' (s2.heap.push { cls:=.type "list",data:=.seq ([]:List Value).toArray }).objs.size=none:=J'.free
  refine I7.turned (s:=s6) (t':=s6.toks) (it:=(s2.heap.push { cls:=.type "list",data:=.seq ([]:List Value).toArray }).objs.size) (fun b o hb e=>(sb2.2 b hb).trans e) hCn neL (.inr (j0 I3.sz (b5 _))) (fun y c e z=>?_) fun p hp z=>?_
  ·obtain⟨v,q⟩:=I3.cell y c e
   exact absurd z (d5 q.lt)
  ·exact absurd z (d5 (c7 (I3.pin p hp).1))
 ·rw[← show cenv.locals=(s2.heap.push { cls:=.type "list",data:=.seq ([]:List Value).toArray }).objs.size from e] at z;exact z
end
theorem kD{lo:Int}{n:Nat}{D:Addr}{Q:VK}{te:TE}{c:St}{H0:Hp}(Pv:Nat→Hp→Prop)(h0:Pv 0 H0)
  (hs:∀ i H,i<n→Pv i H→te (some (.int (lo+i))::c) H fun y H2=>∃ ys,H2 D=some (.lst ys)∧ys.length<sizeLine∧Pv (i+1) (upd H2 D (.lst (ys++[y])))) (hd:∀ H,Pv n H→Q (.ref D) H) :
  jH (FL lo n) D Q E1 te c H0:=by
 refine⟨fun i m H'=>m=n - i∧i≤n∧Pv i H',⟨n,by simp,j6 _,h0⟩,?_⟩
 rintro i m H' ⟨rfl,hi,p⟩
 by_cases hlt:i<n
 ·refine .inr ⟨hlt,Pv (i+1),fun H'' p=>⟨n - (i+1),by omega,rfl,hlt,p⟩,fun v H2 y=>?_⟩
  obtain⟨e,y⟩:=y
  subst e y
  exact gC (B:=Pv (i+1) H2) (hs i H2 hlt p)
 ·have e:i=n:=by omega
  subst e
  exact .inl ⟨b5 _,hd H' p⟩
theorem eE{K:b0}{a:Addr}{xs:List V}{D:Addr}{Q:VK}{ti:TT}{te:TE}{c:St}{H0:Hp}(Pv:Nat→Hp→Prop)(h0:Pv 0 H0)(hl:∀ i H,i≤xs.length→Pv i H→SqL K H a xs)
  (hs:∀ i x H,xs[i]?=some x→Pv i H→ti (some x::c) H fun b H1=>if b=true then te (some x::c) H1 fun y H2=>∃ ys,H2 D=some (.lst ys)∧ys.length<sizeLine∧Pv (i+1) (upd H2 D (.lst (ys++[y]))) else Pv (i+1) H1) (hd:∀ H,Pv xs.length H→Q (.ref D) H) :
  jH (Fl K a) D Q ti te c H0:=by
 refine⟨fun i m H'=>m=xs.length - i∧i≤xs.length∧Pv i H',⟨xs.length,by simp,j6 _,h0⟩,?_⟩
 rintro i m H' ⟨rfl,hi,p⟩
 have q:=hl i H' hi p
 by_cases hlt:i<xs.length
 ·refine .inr ⟨⟨xs,xs[i],q,by simp[hlt]⟩,Pv (i+1),fun H'' p=>⟨xs.length - (i+1),by omega,rfl,hlt,p⟩,fun v H2 y=>?_⟩
  obtain⟨e,y⟩:=y
  subst e
  exact hs i v H2 (y xs q) p
 ·have e:i=xs.length:=by omega
  subst e
  exact .inl ⟨⟨xs,q,b5 _⟩,hd H' p⟩
theorem iA{K:b0}{a:Addr}{xs:List V}{D:Addr}{Q:VK}{ti:TT}{te:TE}{c:St}{H0:Hp}(Pv:Nat→Hp→Prop)(h0:Pv 0 H0)(hl:∀ i H,i≤xs.length→Pv i H→SqT K H a xs)
  (hs:∀ i x H,xs[i]?=some x→Pv i H→ti (some x::c) H fun b H1=>if b=true then te (some x::c) H1 fun y H2=>∃ ys,H2 D=some (.lst ys)∧ys.length<sizeLine∧Pv (i+1) (upd H2 D (.lst (ys++[y]))) else Pv (i+1) H1) (hd:∀ H,Pv xs.length H→Q (.ref D) H) :
  jH (Gg K a) D Q ti te c H0:=by
 refine⟨fun i m H'=>m=xs.length - i∧i≤xs.length∧Pv i H',⟨xs.length,by simp,j6 _,h0⟩,?_⟩
 rintro i m H' ⟨rfl,hi,p⟩
 have q:=hl i H' hi p
 by_cases hlt:i<xs.length
 ·refine .inr ⟨⟨xs,xs[i],q,by simp[hlt]⟩,Pv (i+1),fun H'' p=>⟨xs.length - (i+1),by omega,rfl,hlt,p⟩,fun v H2 y=>?_⟩
  obtain⟨e,y⟩:=y
  subst e
  exact hs i v H2 (y xs q) p
 ·have e:i=xs.length:=by omega
  subst e
  exact .inl ⟨⟨xs,q,b5 _⟩,hd H' p⟩
def BA(x:Str):It:=⟨fun i _=>i<x.cps.size,fun i H v H'=>H'=H∧∃ c,x.cps[i]?=some c∧v=.str ⟨#[c]⟩,fun i _=>i=x.cps.size⟩
theorem B3{P:Program}{w:World}{K:b0}{tg:Expr}(x:Str)(t:Tok)(T:String)(it:Addr)(hT:T="str_ascii_iterator"∨T="str_iterator"):Turn P w K tg (BA x) [it] it (fun i h=>h.IsStrIter it T x t i) where
 mem:=by simp
 obj:=fun i h st b hb=>by
  have e:b=it:=by simpa using hb
  subst e
  obtain⟨o,e,c,d⟩:=st
  exact⟨o,e,fun v z=>by rw[d] at z;cases z⟩
 keep:=fun i h h' st k=>by
  obtain⟨o,e,r⟩:=st
  exact⟨o,k it (by simp) o e,r⟩
 item:=by
  intro X hP hw hK hc i pins s σ H E I hf st hg
  subst hP hw hK
  obtain⟨f0,f1,f2,f3,f4,f5⟩:=hf it (by simp)
  have hn:["enumerate","zip","dict_itemiterator","dict_reverseitemiterator","odict_iterator","itertools.zip_longest","itertools.pairwise"].contains T=false:=by rcases hT with rfl | rfl <;> decide
  have fin:∀ (v:Value) (h':Heap) (tk:Nat),SignAt x i v→h'.IsStrIter it T x t (i+1)→(∀ b o,b ∉ [it]→s.heap.get? b=some o→h'.get? b=some o) →
    ∃ u,some v=some u∧wpAny (model X.prog X.w) X.A (letOwnedTupleGo tg (.ref it) u) (fun _ s2=>∃ y H',Inv X pins σ H' s2∧RelV y u∧(BA x).yld i H y H'∧s2.heap.IsStrIter it T x t (i+1)∧∀ b∈[it],H' b=none) E { s with heap:=h',toks:=tk }:=fun v h' tk hv st' kk=>by
   obtain⟨c,u,hc',rfl⟩:=hv
   have I1:Inv X pins σ H { s with heap:=h',toks:=tk }:=I.turned (fun b o hb e=>kk b o (by simpa using hb) e) f0 f1 f3 f4 f5
   obtain⟨o,e,c2,d⟩:=id st'
   exact⟨_,rfl,qN (s:={ s with heap:=h',toks:=tk }) e c2 d hn ⟨.str ⟨#[c]⟩,H,I1,⟨u,rfl⟩,⟨rfl,c,hc',rfl⟩,st',fun b hb=>(hf b hb).1⟩⟩
  rcases hT with rfl | rfl
  ·exact(aZ7 (prog:=X.prog) (w:=X.w) (I.ok.hd hc) it x t).item i s _ _ hg st fin
  ·exact(aZa (prog:=X.prog) (w:=X.w) (I.ok.hd hc) it x t).item i s _ _ hg st fin
 done:=by
  intro X hP hw hK hc i pins s σ H E I hf st hg
  subst hP hw hK
  obtain⟨f0,f1,f2,f3,f4,f5⟩:=hf it (by simp)
  have hi:i=x.cps.size:=hg
  subst hi
  have fin:∀ (h':Heap) (tk:Nat),(∀ b o,b ∉ [it]→s.heap.get? b=some o→h'.get? b=some o)→(none:Option Value)=none∧Inv X pins σ H { s with heap:=h',toks:=tk }:=fun h' tk kk =>
   ⟨rfl,I.turned (fun b o hb e=>kk b o (by simpa using hb) e) f0 f1 f3 f4 f5⟩
  rcases hT with rfl | rfl
  ·exact(aZ7 (prog:=X.prog) (w:=X.w) (I.ok.hd hc) it x t).done s _ _ st fin
  ·exact(aZa (prog:=X.prog) (w:=X.w) (I.ok.hd hc) it x t).done s _ _ st fin
 self:=fun A i s Q E st h=>by
  rcases hT with rfl | rfl
  ·exact wpAny_pyIter_striter_ascii st h
  ·exact wpAny_pyIter_striter_wide st h
section
variable {X:Cx}{tg:Expr}
def ID(tl:TE):TI:=fun σ H R=>tl σ H fun x H1=>∃ z,x=.str z∧R (BA z) H1
theorem mM{l:Expr}{tl:TE}(hl:PE X l tl):PI X tg l (ID tl):=by
 intro pins s σ H R I h
 refine bP (hl pins s σ H _ I h) fun v s1 ⟨x,H1,I1,r1,q1⟩=>?_
 obtain⟨z,e,q⟩:=q1
 subst e
 obtain⟨t,rfl⟩:=r1
 refine wpAny_pyIter_strU ?_
 refine⟨s1.heap.objs.size,[s1.heap.objs.size],_,_,H1,rfl,I1.kept (t':=s1.toks) fun b o e=>c0 _ e,B3 z t (strIterType z) _ (by unfold strIterType;split <;> simp),⟨_,g8 _ rfl,rfl,rfl⟩,fun b hb=>?_,q⟩
 have e:b=s1.heap.objs.size:=by simpa using hb
 subst e
 exact I1.fpOk (b5 _) (I1.hok.fresh (b5 _))
end
abbrev S(w:List Nat):Str:=⟨w.toArray⟩
theorem nU{w:List Nat}{g:TG}{tb:TS}{D:Ends}{σ:St}{H:Hp}(Pv:Nat→St→Hp→Prop)(h0:Pv 0 σ H)
  (hs:∀ i c σ H,w[i]?=some c→Pv i σ H→g (.str (S [c])) σ H fun σ2 H2=>tb { D with nx:=Pv (i+1),ct:=Pv (i+1),bk:=D.nx } σ2 H2) (hd:∀ σ H,Pv w.length σ H→D.nx σ H) :
  ∃ W:Nat→Nat→St→Hp→Prop,(∃ m,W 0 m σ H)∧∀ i m σ H,W i m σ H →
   ((BA (S w)).stop i H∧D.nx σ H)∨((BA (S w)).go i H∧∃ N:St→Hp→Prop,(∀ σ' H',N σ' H'→∃ m',m' < m∧W (i+1) m' σ' H')∧∀ x H',(BA (S w)).yld i H x H'→g x σ H' fun σ2 H2=>tb { D with nx:=N,ct:=N,bk:=D.nx } σ2 H2):=by
 refine⟨fun i m σ H=>m=w.length - i∧i≤w.length∧Pv i σ H,⟨w.length,by simp,j6 _,h0⟩,?_⟩
 rintro i m σ H ⟨rfl,hi,p⟩
 by_cases hlt:i<w.length
 ·refine .inr ⟨by simpa [BA] using hlt,Pv (i+1),fun σ' H' p'=>⟨w.length - (i+1),by omega,rfl,hlt,p'⟩,fun x H' y=>?_⟩
  obtain⟨e,c,hc,rfl⟩:=y
  subst e
  exact hs i c σ _ (by simpa using hc) p
 ·have e:i=w.length:=by omega
  subst e
  exact .inl ⟨by simp[BA],hd σ H p⟩
theorem oZ{w:List Nat}{D:Addr}{Q:VK}{ti:TT}{te:TE}{c:St}{H0:Hp}(Pv:Nat→Hp→Prop)(h0:Pv 0 H0)
  (hs:∀ i k H,w[i]?=some k→Pv i H→ti (some (.str (S [k]))::c) H fun b H1=>if b=true then te (some (.str (S [k]))::c) H1 fun y H2=>∃ ys,H2 D=some (.lst ys)∧ys.length<sizeLine∧Pv (i+1) (upd H2 D (.lst (ys++[y]))) else Pv (i+1) H1) (hd:∀ H,Pv w.length H→Q (.ref D) H) :
  jH (BA (S w)) D Q ti te c H0:=by
 refine⟨fun i m H'=>m=w.length - i∧i≤w.length∧Pv i H',⟨w.length,by simp,j6 _,h0⟩,?_⟩
 rintro i m H' ⟨rfl,hi,p⟩
 by_cases hlt:i<w.length
 ·refine .inr ⟨by simpa [BA] using hlt,Pv (i+1),fun H'' p=>⟨w.length - (i+1),by omega,rfl,hlt,p⟩,fun v H2 y=>?_⟩
  obtain⟨e,k,hk,rfl⟩:=y
  subst e
  exact hs i k H2 (by simpa using hk) p
 ·have e:i=w.length:=by omega
  subst e
  exact .inl ⟨by simp[BA],hd H' p⟩
section
variable {X:Cx}
def IQ(a:Addr)(D:List (PyData×PyData)):R2:=fun x y H Q=>x=.ref a∧∃ z,y=.str z∧((∃ v,lookup (.str z) D=some (.str v)∧Q (.str v) H)∨∃ i,lookup (.str z) D=some (.int i)∧Q (.int i) H)
theorem FW{a:Addr}{D:List (PyData×PyData)}(T:∀ h,X.K.In h→StrTab X.prog X.w h a D):Fz X (IQ a D):=by
 intro value slice pins s σ H x y v u Q I rx ry h hs
 obtain⟨rfl,z,rfl,q⟩:=h
 cases rx
 obtain⟨t,rfl⟩:=ry
 obtain⟨lo,kvs,hd,hf⟩:=T s.heap I.kIn
 rcases q with ⟨y,hl,q⟩ | ⟨y,hl,q⟩
 ·obtain⟨v,hv,hfl⟩:=hf.of_lookup (enc:=PyData.str) aXn hl
  exact tail_any hd.typeIs slot_dict_getitem.lookup (wpAny_getItem_of (strKind_is X.prog X.w z t) hd.mapOf hv ⟨.str y,H,I.tok _,aJF hfl,q⟩) hs
 ·obtain⟨v,hv,hfl⟩:=hf.of_lookup (enc:=PyData.str) aXn hl
  exact tail_any hd.typeIs slot_dict_getitem.lookup (wpAny_getItem_of (strKind_is X.prog X.w z t) hd.mapOf hv ⟨.int y,H,I.tok _,aJG hfl,q⟩) hs
def IG:V→Option Int→Option Int→Hp→VK→Prop:=fun x lo hi H Q=>∃ z,x=.str z∧z.length≤sizeLine∧Q (.str (Txt.slice z lo hi)) H
theorem tE:Ha X IG:=by
 intro pins s σ H x v vl vu lo hi sl Q I rx hs pl pu h
 obtain⟨z,rfl,hz,q⟩:=h
 obtain⟨t,rfl⟩:=rx
 refine⟨"str",_,aQs.lookup,typeIs_str _ _ _,?_⟩
 obtain⟨o,ho,hc,hd⟩:=hs
 have fin:∀ t' k,EP X pins σ Q (.str (Txt.slice z lo hi) t') { s with toks:=k }:=fun t' k=>⟨.str (Txt.slice z lo hi),H,I.tok _,⟨t',rfl⟩,q⟩
 cases pl with
 | none =>
  cases pu with
  | none=>exact wpAny_getItem_str_slice (l:=none) (u:=none) (st:=none) ⟨o,ho,hc,hd⟩ rfl (post_val_or_str ⟨j0 (aXF z _ _) hz,fin⟩)
  | int j uj=>exact wpAny_getItem_str_slice (l:=none) (u:=some (j,uj)) (st:=none) ⟨o,ho,hc,hd⟩ rfl (post_val_or_str ⟨j0 (aXF z _ _) hz,fin⟩)
 | int i ui =>
  cases pu with
  | none=>exact wpAny_getItem_str_slice (l:=some (i,ui)) (u:=none) (st:=none) ⟨o,ho,hc,hd⟩ rfl (post_val_or_str ⟨j0 (aXF z _ _) hz,fin⟩)
  | int j uj=>exact wpAny_getItem_str_slice (l:=some (i,ui)) (u:=some (j,uj)) (st:=none) ⟨o,ho,hc,hd⟩ rfl (post_val_or_str ⟨j0 (aXF z _ _) hz,fin⟩)
theorem xY:A8 X "str.islower" (fun x xs H Q=>∃ z,x=.str z∧xs=[]∧Q (.bl (Txt.islower z)) H):=by
 intro pins s σ H x xs v us Q I rx rs h
 obtain⟨z,rfl,rfl,q⟩:=h
 obtain⟨t,rfl⟩:=rx
 cases rs
 exact SC.islower ⟨.bl _,H,I,rfl,q⟩
theorem pR:A8 X "str.isupper" (fun x xs H Q=>∃ z,x=.str z∧xs=[]∧Q (.bl (Txt.isupper z)) H):=by
 intro pins s σ H x xs v us Q I rx rs h
 obtain⟨z,rfl,rfl,q⟩:=h
 obtain⟨t,rfl⟩:=rx
 cases rs
 exact SC.isupper ⟨.bl _,H,I,rfl,q⟩
theorem oK:A8 X "str.upper" (fun x xs H Q=>∃ z,x=.str z∧xs=[]∧Builtin.Str.tooLong (Txt.upper z).length=false∧Q (.str (Txt.upper z)) H):=by
 intro pins s σ H x xs v us Q I rx rs h
 obtain⟨z,rfl,rfl,hf,q⟩:=h
 obtain⟨t,rfl⟩:=rx
 cases rs
 exact SC.upper hf ⟨.str _,H,I.tok _,⟨_,rfl⟩,q⟩
theorem lK:A8 X "str.lower" (fun x xs H Q=>∃ z,x=.str z∧xs=[]∧Builtin.Str.tooLong (Txt.lower z).length=false∧Q (.str (Txt.lower z)) H):=by
 intro pins s σ H x xs v us Q I rx rs h
 obtain⟨z,rfl,rfl,hf,q⟩:=h
 obtain⟨t,rfl⟩:=rx
 cases rs
 exact SC.lower hf ⟨.str _,H,I.tok _,⟨_,rfl⟩,q⟩
theorem oY:∀ {zs:List Str} {us:List Value},Vals (zs.map V.str) us→StrsAre us zs
 | [],_,r=>by
  cases r
  exact .nil
 | z::zs,_,r=>by
  rw[d3] at r
  cases r with
  | cons r1 r2 =>
   obtain⟨t,rfl⟩:=r1
   exact .cons z t (oY r2)
theorem Dq:A8 X "str.join" (fun x xs H Q=>∃ z a zs,x=.str z∧xs=[.ref a]∧SqL X.K H a (zs.map V.str)∧(zs.map (·.length)).sum+zs.length * z.length≤16777216∧Q (.str (Txt.join z zs)) H):=by
 intro pins s σ H x xs v us Q I rx rs h
 obtain⟨z,a,zs,rfl,rfl,hq,hz,q⟩:=h
 obtain⟨t,rfl⟩:=rx
 obtain⟨u,rfl,ru⟩:=rs.one
 cases ru
 obtain⟨its,r,pl,_⟩:=I.list hq
 exact join_list pl.isList (by simpa using oY r) hz fun t' k=>⟨.str _,H,I.tok _,⟨t',rfl⟩,q⟩
end
def nP:List String:=["str","int","bool","list","tuple","NoneType","dict"]
def bQ:List String:=["list","tuple","bool","str","int"]
def gT(t c:String):Bool:=t == c || (t == "bool" && c == "int")
theorem Dz(K:b0)(c:String)(h:c∈bQ):PySem.W.kitOne K (.type "str") (.type c)=some (gT "str" c):=by
 simp only [bQ,c4,l6,or_false] at h
 rcases h with rfl | rfl | rfl | rfl | rfl <;> kernel_rfl
theorem C8(K:b0)(c:String)(h:c∈bQ):PySem.W.kitOne K (.type "int") (.type c)=some (gT "int" c):=by
 simp only [bQ,c4,l6,or_false] at h
 rcases h with rfl | rfl | rfl | rfl | rfl <;> kernel_rfl
theorem CH(K:b0)(c:String)(h:c∈bQ):PySem.W.kitOne K (.type "bool") (.type c)=some (gT "bool" c):=by
 simp only [bQ,c4,l6,or_false] at h
 rcases h with rfl | rfl | rfl | rfl | rfl <;> kernel_rfl
theorem Cj(K:b0)(c:String)(h:c∈bQ):PySem.W.kitOne K (.type "list") (.type c)=some (gT "list" c):=by
 simp only [bQ,c4,l6,or_false] at h
 rcases h with rfl | rfl | rfl | rfl | rfl <;> kernel_rfl
theorem AF(K:b0)(c:String)(h:c∈bQ):PySem.W.kitOne K (.type "tuple") (.type c)=some (gT "tuple" c):=by
 simp only [bQ,c4,l6,or_false] at h
 rcases h with rfl | rfl | rfl | rfl | rfl <;> kernel_rfl
theorem BB(K:b0)(c:String)(h:c∈bQ):PySem.W.kitOne K (.type "NoneType") (.type c)=some (gT "NoneType" c):=by
 simp only [bQ,c4,l6,or_false] at h
 rcases h with rfl | rfl | rfl | rfl | rfl <;> kernel_rfl
theorem Ba(K:b0)(c:String)(h:c∈bQ):PySem.W.kitOne K (.type "dict") (.type c)=some (gT "dict" c):=by
 simp only [bQ,c4,l6,or_false] at h
 rcases h with rfl | rfl | rfl | rfl | rfl <;> kernel_rfl
theorem tR(K:b0)(t c:String)(ht:t∈nP)(h:c∈bQ):PySem.W.kitOne K (.type t) (.type c)=some (gT t c):=by
 simp only [nP,c4,l6,or_false] at ht
 rcases ht with rfl | rfl | rfl | rfl | rfl | rfl | rfl
 ·exact Dz K c h
 ·exact C8 K c h
 ·exact CH K c h
 ·exact Cj K c h
 ·exact AF K c h
 ·exact BB K c h
 ·exact Ba K c h
section
variable {X:Cx}
inductive BTy(K:b0)(H:Hp):V→String→Prop where
 | non:BTy K H .non "NoneType"
 | bl (x:Bool):BTy K H (.bl x) "bool"
 | int (i:Int):BTy K H (.int i) "int"
 | str (x:Str):BTy K H (.str x) "str"
 | lst {a:Addr} {xs:List V} (e:SqL K H a xs):BTy K H (.ref a) "list"
 | tup {a:Addr} {xs:List V} (e:SqT K H a xs):BTy K H (.ref a) "tuple"
theorem BTy.mem{K:b0}{H:Hp}{x:V}{t:String}(h:BTy K H x t):t∈nP:=by cases h <;> decide
theorem C0{pins:List (Addr×Obj)}{σ:St}{H:Hp}{s:Shared}{A:Around}{E:Value→Shared→Prop}{Q:Value→Shared→Prop}{x:V}{u:Value}{t c:String}(I:Inv X pins σ H s)(rx:RelV x u)(ty:BTy X.K H x t)(hc:c∈bQ)
  (h:∀ tk,Q (.bool (gT t c)) { s with toks:=tk }):wpAny (model X.prog X.w) A (call (.builtin "isinstance") [u,.type c]) Q E s:=by
 have e:=tR X.K t c ty.mem hc
 cases ty with
 | non=>cases (show u=Value.none from rx);exact z9 aXy I.kIn True.intro e (fun z=>nomatch z) h
 | bl y=>cases (show u=Value.bool y from rx);exact z9 aXz I.kIn True.intro e (fun z=>nomatch z) h
 | int i=>obtain⟨t,q⟩:=(show ∃ t,u=Value.int i t from rx);cases q;exact z9 aZQ I.kIn True.intro e (fun z=>nomatch z) h
 | str y=>obtain⟨t,q⟩:=(show ∃ t,u=Value.str y t from rx);cases q;exact z9 aZR I.kIn True.intro e (fun z=>nomatch z) h
 | @lst a xs ea =>
  cases (show u=Value.ref a from rx)
  obtain⟨its,_,⟨o,n,h1,h2,_⟩,_⟩:=I.list ea
  exact z9 aZA I.kIn ⟨o,h1,h2⟩ e (fun z=>nomatch z) h
 | @tup a xs ea =>
  cases (show u=Value.ref a from rx)
  obtain⟨its,_,⟨o,h1,h2,_⟩,_⟩:=I.tuple ea
  exact z9 aXo I.kIn ⟨o,h1,h2⟩ e (fun z=>nomatch z) h
theorem wQ{K:b0}{t c d:String}(ht:t∈nP)(hc:c∈bQ)(hd:d∈bQ):PySem.W.kitAny K (.type t) [.type c,.type d]=some (gT t c || gT t d):=by
 unfold PySem.W.kitAny
 rw[tR K t c ht hc]
 cases gT t c with
 | true=>rfl
 | false =>
  dsimp only
  unfold PySem.W.kitAny
  rw[tR K t d ht hd]
  cases gT t d <;> rfl
theorem D5{pins:List (Addr×Obj)}{σ:St}{H:Hp}{s:Shared}{A:Around}{E:Value→Shared→Prop}{Q:Value→Shared→Prop}{x:V}{u:Value}{t c d:String}{p:Addr}(I:Inv X pins σ H s)(rx:RelV x u)(ty:BTy X.K H x t)(hp:H p=some (.tup [.ty c,.ty d]))(hc:c∈bQ)(hd:d∈bQ)
  (h:∀ tk,Q (.bool (gT t c || gT t d)) { s with toks:=tk }):wpAny (model X.prog X.w) A (call (.builtin "isinstance") [u,.ref p]) Q E s:=by
 have e:=wQ (K:=X.K) ty.mem hc hd
 obtain⟨_,its,r,⟨ot,h1,h2,n,h3⟩,_⟩:=I.hok p _ hp
 obtain⟨u1,u2,rfl,r1,r2⟩:=r.two
 cases (show u1=Value.type c from r1)
 cases (show u2=Value.type d from r2)
 obtain⟨cl,dd,dt,sl⟩:=ot
 have h2':cl=.type "tuple":=h2
 have h3':dt=.seq [Value.type c,Value.type d].toArray n:=h3
 subst h2' h3'
 cases ty with
 | non=>cases (show u=Value.none from rx);exact aQA aXy I.kIn True.intro h1 e (fun z=>nomatch z) h
 | bl y=>cases (show u=Value.bool y from rx);exact aQA aXz I.kIn True.intro h1 e (fun z=>nomatch z) h
 | int i=>obtain⟨t,q⟩:=(show ∃ t,u=Value.int i t from rx);cases q;exact aQA aZQ I.kIn True.intro h1 e (fun z=>nomatch z) h
 | str y=>obtain⟨t,q⟩:=(show ∃ t,u=Value.str y t from rx);cases q;exact aQA aZR I.kIn True.intro h1 e (fun z=>nomatch z) h
 | @lst a xs ea =>
  cases (show u=Value.ref a from rx)
  obtain⟨its,_,⟨o,n,g1,g2,_⟩,_⟩:=I.list ea
  exact aQA aZA I.kIn ⟨o,g1,g2⟩ h1 e (fun z=>nomatch z) h
 | @tup a xs ea =>
  cases (show u=Value.ref a from rx)
  obtain⟨its,_,⟨o,g1,g2,_⟩,_⟩:=I.tuple ea
  exact aQA aXo I.kIn ⟨o,g1,g2⟩ h1 e (fun z=>nomatch z) h
def Ho(K:b0):List V→Hp→VK→Prop:=fun xs H Q=>∃ x t,BTy K H x t ∧
 ((∃ c,xs=[x,.ty c]∧c∈bQ∧Q (.bl (gT t c)) H)∨∃ c d p,xs=[x,.ref p]∧H p=some (.tup [.ty c,.ty d])∧c∈bQ∧d∈bQ∧Q (.bl (gT t c || gT t d)) H)
theorem BO:dX X (.builtin "isinstance") (Ho X.K):=by
 intro pins s σ H xs us Q I r h
 obtain⟨x,t,ty,⟨c,rfl,hc,q⟩ | ⟨c,d,p,rfl,hp,hc,hd,q⟩⟩:=h
 ·obtain⟨u,v,rfl,r1,r2⟩:=r.two
  cases (show v=Value.type c from r2)
  exact C0 I r1 ty hc fun tk=>⟨.bl _,H,I.tok _,rfl,q⟩
 ·obtain⟨u,v,rfl,r1,r2⟩:=r.two
  cases (show v=Value.ref p from r2)
  exact D5 I r1 ty hp hc hd fun tk=>⟨.bl _,H,I.tok _,rfl,q⟩
theorem dL{x:Str}{T:String}{pos:Pos}(hg:Gl X x)(hm:X.mg x=none)(hv:bootBuiltins x=some (.type T))(hn:x≠"__name__":=by decide)(hd:(x == ("__debug__":Str))=false:=by decide):PE X (.Name x pos) (tC (.ty T)):=DQ hg hm hv rfl hn hd
theorem mO:∀ {bs:List Bool} {us:List Value},Vals (bs.map V.bl) us→LSm.BoolsAre us bs
 | [],_,r=>by
  cases r
  exact .nil
 | b::bs,_,r=>by
  rw[d3] at r
  cases r with
  | cons r1 r2 =>
   cases (show _=Value.bool b from r1)
   exact .cons b (mO r2)
theorem AT(hc:X.calm=true):dX X (.builtin "all") (fun xs H Q=>∃ (a:Addr) (bs:List Bool),xs=[.ref a]∧SqL X.K H a (bs.map V.bl)∧Q (.bl (bs.all id)) H):=by
 intro pins s σ H xs us Q I r h
 obtain⟨a,bs,rfl,hq,q⟩:=h
 obtain⟨u,rfl,ru⟩:=r.one
 cases ru
 obtain⟨its,rv,pl,_⟩:=I.list hq
 have hl:=pl.isList
 have hb:=mO rv
 have hlt:a<s.heap.objs.size:=by obtain⟨_,e,_⟩:=hl;exact c7 e
 refine call_all_walk (wpAny_pyIter_list hl ?_)
 refine⟨s.heap.objs.size,[s.heap.objs.size,a],[s.heap.objs.size],its.toArray.size,_,_,fun i=>(bs[i]?).getD true,rfl,aJI (A:=X.A.in1) (I.ok.hd hc) _ a (d5 hlt) its.toArray,
  ⟨⟨_,g8 _ rfl,rfl,rfl⟩,hl.push _⟩,fun i v s' Q' E' hP hQ=>?_,fun h' tk hk=>?_⟩
 ·obtain⟨b,e,rfl⟩:=hb.get i v (by simpa using hP)
  simp only [e,Option.getD_some] at hQ
  exact wpAny_truthy_bool hQ
 ·have e:((List.range its.toArray.size).all fun i=>(bs[i]?).getD true)=bs.all id:=by
   rw[b8,hb.length];exact LSm.range_all bs
  rw[e]
  exact⟨.bl _,H,I.kept (t':=tk) (aZb hk),rfl,q⟩
end
end L2
namespace PySem
open Sem (wp)
namespace F
theorem qJ:Manifest.owners.lookup (String.ofList ['d','e','s','r','e','v','e','r'].reverse)=some Manifest.sig_reversed:=by kernel_rfl
theorem slot_rvd_next:Slot "reversed" "__next__" "reversed.__next__" :=
 .of (owner:="reversed") (n:="__next__") (by rw[typeLookup_type,builtinLookup_eq_fast];kernel_rfl) (by decide +kernel) (by decide +kernel) (by decide +kernel)
  (by first | exact .inl (by decide +kernel) | exact .inr (by decide +kernel)) (by rw[isSubtype_type];kernel_rfl)
theorem entry_rvd_next:entryFor table "reversed.__next__"=some Builtin.«reversed.__next__»:=entryFor_of_tree (by kernel_rfl)
theorem args_rvd_next_1(a:Value):argsOk "reversed.__next__" ⟨[a],[]⟩:=by
 unfold argsOk;rw[signature?_of (id:="reversed.__next__") (n:=['_','_','t','x','e','n','_','_']) (o:=['d','e','s','r','e','v','e','r']) (by kernel_rfl) qJ];kernel_rfl
theorem slot_rvd_iter:Slot "reversed" "__iter__" "reversed.__iter__" :=
 .of (owner:="reversed") (n:="__iter__") (by rw[typeLookup_type,builtinLookup_eq_fast];kernel_rfl) (by decide +kernel) (by decide +kernel) (by decide +kernel)
  (by first | exact .inl (by decide +kernel) | exact .inr (by decide +kernel)) (by rw[isSubtype_type];kernel_rfl)
theorem args_rvd_iter_1(a:Value):argsOk "reversed.__iter__" ⟨[a],[]⟩:=by
 unfold argsOk;rw[signature?_of (id:="reversed.__iter__") (n:=['_','_','r','e','t','i','_','_']) (o:=['d','e','s','r','e','v','e','r']) (by kernel_rfl) qJ];kernel_rfl
theorem entry_rvd_iter:entryFor table "reversed.__iter__"=some Builtin.«dict_keyiterator.__iter__» :=
 entryFor_alias (id':="dict_keyiterator.__iter__") (by kernel_rfl) (by first | rfl | decide +kernel | (unfold String.splitOn;simp +decide [String.splitOnAux])) (by decide +kernel) (by kernel_rfl)
theorem qE:Slot "reversed" "__init__" "object.__init__" :=
 .of (owner:="object") (n:="__init__") (by rw[typeLookup_type,builtinLookup_eq_fast];kernel_rfl) (by decide +kernel) (by decide +kernel) (by decide +kernel)
  (by first | exact .inl (by decide +kernel) | exact .inr (by decide +kernel)) (by rw[isSubtype_type];kernel_rfl)
theorem called_reversed:TypeCalled "reversed" "reversed.__new__" "object.__init__" :=
 ⟨by decide +kernel,by decide +kernel,⟨_,_,mro_reversed⟩,madeBy_type mro_reversed lookup_reversed_new (by decide +kernel),by decide +kernel,by rw[isSubtype_type];kernel_rfl,qE⟩
theorem str_norev:typeLookup (.type "str") "__reversed__"=pure none:=by rw[typeLookup_type,builtinLookup_eq_fast];kernel_rfl
end F
theorem jV(x:Str)(t:Tok)(hx:¬ (x.length:Int) ≥ 2 ^ 63) :
  Meets (Builtin.«reversed.__new__» ⟨[.type "reversed",.str x t],[]⟩) (fun _ R s=>∀ tk,
   R (.ok (.ret (.ref s.heap.objs.size))) { s with heap:=s.heap.push { cls:=.type "reversed",data:=.fields #[.str x t,rawInt ((x.length:Int) - 1)] },toks:=tk }) :=
 .of_wp fun prog w A R s h=>by
  obtain⟨hp,g,d,tk,os⟩:=s
  have hsub:=F.sub_reversed_self
  have hnr:=F.str_norev
  have hsd:isSubtype (.type "str") (.type "dict")=pure false:=by rw[isSubtype_type];kernel_rfl
  have hgi:=aQs.lookup
  unfold Builtin.«reversed.__new__»
  refine wpAny_bind (wpAny_of_eq (newClass_reversed _) ?_)
  dsimp only
  refine wpAny_bind (wpAny_of_eq (a:=()) (by first | rfl | kernel_rfl) ?_)
  refine wpAny_bind (wpAny_of_eq (a:=()) (by first | rfl | kernel_rfl) ?_)
  try dsimp only
  wp_walk using P.len_str
  case hfit=>exact hx
  all_goals
   refine wpAny_bind (m:=asInt? _) (wpAny_of_eq (a:=some (x.length:Int)) rfl ?_)
   dsimp only
   refine wpAny_bind ?_
   show wpAny _ _ (newObj (.type "reversed") (.fields #[Value.str x t,rawInt ((x.length:Int) - 1)])) _ _ _
   exact wpAny_newObj_type (wpAny_pure ⟨_,rfl,h _⟩)
def Heap.IsRvd(h:Heap)(a:Addr)(x:Str)(t:Tok)(i:Int):Prop:=∃ o,h.get? a=some o∧o.cls=.type "reversed"∧o.data=.fields #[.str x t,rawInt i]
section
variable {prog:Program}{w:World}{A:Around}{E:Value→Shared→Prop}{s:Shared}
theorem Heap.IsRvd.typeIs{a:Addr}{x:Str}{t:Tok}{i:Int}(h:s.heap.IsRvd a x t i):s.TypeIs (.ref a) "reversed":=let ⟨o,ho,hc,_⟩:=h;⟨o,ho,hc⟩
theorem gH{x:Str}{t:Tok}{Q:Value→Shared→Prop}(hx:¬ (x.length:Int) ≥ 2 ^ 63)
  (h:∀ tk,Q (.ref s.heap.objs.size) { s with heap:=s.heap.push { cls:=.type "reversed",data:=.fields #[.str x t,rawInt ((x.length:Int) - 1)] },toks:=tk }):wpAny (model prog w) A (call (.type "reversed") [.str x t]) Q E s :=
 callType_new F.called_reversed (by decide) (F.typeCall_reversed_1 _) (F.newCall_reversed_1 _) (fun obj=>F.args_object_init_2 obj _) F.entry_reversed_new (jV x t hx) fun tk=>⟨⟨_,g8 _ rfl,rfl⟩,h tk⟩
theorem eY{it:Addr}{x:Str}{t:Tok}{i:Int}{Q:Value→Shared→Prop}(hit:s.heap.IsRvd it x t i)(h:Q (.ref it) s):wpAny (model prog w) A (pyIter (.ref it)) Q E s:=by
 refine wpAny_pyIter_slot hit.typeIs F.slot_rvd_iter (wpAny_call_entry F.slot_rvd_iter hit.typeIs F.entry_rvd_iter ?_ (F.args_rvd_iter_1 _))
 show wpAny _ _ (ret (.ref it)) _ _ s
 exact wpAny_pure ⟨_,rfl,"reversed",_,hit.typeIs,F.slot_rvd_next.lookup,h⟩
theorem iP{it:Addr}{x:Str}{t:Tok}{i c:Nat}{Q:Option Value→Shared→Prop}(hit:s.heap.IsRvd it x t (i:Int))(hc:x.cps[i]?=some c)(hx:(x.length:Int)<2 ^ 63)
  (hQ:∀ h' tk u,h'.IsRvd it x t ((i:Int) - 1)→Heap.SameBut it s.heap h'→Q (some (.str ⟨#[c]⟩ u)) { s with heap:=h',toks:=tk }):wpAny (model prog w) A (pyNext (.ref it)) Q E s:=by
 obtain⟨o,ho,hcl,hd⟩:=id hit
 have hi:i<x.length:=by
  have:=(Array.getElem?_eq_some_iff.mp hc).1
  exact this
 unfold pyNext
 refine wpAny_bind (wpAny_attempt (wpAny_callSpecial?_slot (name:=Str.ofString "__next__") hit.typeIs F.slot_rvd_next
  (wpAny_call_entry F.slot_rvd_next hit.typeIs F.entry_rvd_next ?_ (F.args_rvd_next_1 _))))
 unfold Builtin.«reversed.__next__»
 refine wpAny_bind (wpAny_of_eq (a:=(Value.ref it,[])) rfl ?_)
 try dsimp only
 refine wpAny_bind (wpAny_field ho hd (x:=.str x t) rfl ?_)
 refine wpAny_bind (wpAny_field ho hd (x:=rawInt (i:Int)) rfl ?_)
 show wpAny _ _ (if (i:Int)<0 then _ else _) _ _ s
 rw[if_neg (by omega)]
 have hgi:=aQs.lookup
 refine wpAny_bind (wpAny_specialOf (T:="str") (typeIs_str _ _ _) hgi ?_)
 show wpAny _ _ (if (some (Value.builtin "str.__getitem__")).isNone=true then _ else _) _ _ _
 rw[if_neg (by simp)]
 refine wpAny_bind (m:=mkInt _) (wpAny_mkInt ?_)
 refine wpAny_bind (wpAny_attempt (P.getItem_str (c:=c) (by
  have e1:decide ((i:Int) < -(2 ^ 63:Int))=false:=decide_eq_false (by omega)
  have e2:decide ((i:Int) ≥ 2 ^ 63)=false:=decide_eq_false (by omega)
  rw[e1,e2,aZ9]) (by rw[seqIndex_of (by omega) (by omega)];simpa using hc) ?_))
 dsimp only
 refine wpAny_bind (wpAny_field ho hd (x:=rawInt (i:Int)) rfl ?_)
 refine wpAny_bind (wpAny_setField ho hd (by simp) ?_)
 refine wpAny_pure ⟨_,rfl,wpAny_pure (hQ _ _ _ ?_ (p6 ..))⟩
 exact⟨_,u5 _ ho (aQ7 (x9 hd _)),(aZB ..).trans hcl,by
  rw[x9 hd];simp⟩
theorem iS{it:Addr}{x:Str}{t:Tok}{Q:Option Value→Shared→Prop}(hh:A.handled=none)(hit:s.heap.IsRvd it x t (-1))
  (hQ:∀ h',Heap.ExtBut it s.heap h'→Q none { s with heap:=h' }):wpAny (model prog w) A (pyNext (.ref it)) Q E s:=by
 obtain⟨o,ho,hcl,hd⟩:=id hit
 unfold pyNext
 refine wpAny_bind (wpAny_attempt (wpAny_callSpecial?_slot (name:=Str.ofString "__next__") hit.typeIs F.slot_rvd_next
  (wpAny_call_entry F.slot_rvd_next hit.typeIs F.entry_rvd_next ?_ (F.args_rvd_next_1 _))))
 unfold Builtin.«reversed.__next__»
 refine wpAny_bind (wpAny_of_eq (a:=(Value.ref it,[])) rfl ?_)
 try dsimp only
 refine wpAny_bind (wpAny_field ho hd (x:=.str x t) rfl ?_)
 refine wpAny_bind (wpAny_field ho hd (x:=rawInt (-1)) rfl ?_)
 show wpAny _ _ (if (-1:Int)<0 then _ else _) _ _ s
 rw[if_pos (by decide)]
 refine wpAny_bind (wpAny_rule ?_)
 refine wpAny_bind ?_
 show wpAny _ _ (setField (.ref it) 1 (rawInt (-1)) >>= fun _=>setField (.ref it) 0 .none) _ _ _
 refine wpAny_bind (wpAny_setField ho hd (by simp) ?_)
 have ho':(s.heap.update it (Obj.mapFields fun xs=>xs.setIfInBounds 1 (rawInt (-1)))).get? it=some _:=u5 _ ho (aQ7 (x9 hd (fun xs=>xs.setIfInBounds 1 (rawInt (-1)))))
 have hd':=x9 hd (fun xs=>xs.setIfInBounds 1 (rawInt (-1)))
 refine wpAny_setField (s:={ s with heap:=s.heap.update it (Obj.mapFields fun xs=>xs.setIfInBounds 1 (rawInt (-1))) }) ho' hd' (by simp) ?_
 have eb:Heap.ExtBut it s.heap ((s.heap.update it (Obj.mapFields fun xs=>xs.setIfInBounds 1 (rawInt (-1)))).update it (Obj.mapFields fun xs=>xs.setIfInBounds 0 .none)):=fun b ob hb e =>
  (aQE _ _ (x4 hb)).trans ((aQE _ _ (x4 hb)).trans e)
 refine wpAny_bind ?_
 show wpAny _ _ (newExc (.type "StopIteration") [] >>= _) _ _ _
 refine wpAny_bind ?_
 simp only [newExc,newTuple]
 refine wpAny_bind (wpAny_newObj_type ?_ (by size_fits))
 refine wpAny_bind (m:=firstArgMember _ _) (wpAny_of_eq (a:=Value.none) (by first | rfl | (simp only [firstArgMember];rfl)) ?_)
 refine wpAny_newObj_type ?_ (by size_fits)
 simp only [raiseNew]
 refine wpAny_bind (wpAny_handled ?_)
 first | rw[show A.in1.handled=none from hh] | rw[hh]
 refine wpAny_bind (wpAny_pure (wpAny_throw ?_))
 refine wpAny_bind (wpAny_isInstance (T:="StopIteration") (b:=true) ⟨_,g8 _ rfl,rfl⟩ isSubtype_stop ?_)
 exact wpAny_pure (hQ _ ((eb.push _).push _))
end
end PySem
namespace L2
open PySem PySem.Spec PyProof.Rows
def Gh(x:Str):It:=⟨fun i _=>i<x.cps.size,fun i H v H'=>H'=H∧∃ c,x.cps[x.cps.size - 1 - i]?=some c∧v=.str ⟨#[c]⟩,fun i _=>i=x.cps.size⟩
theorem uG{P:Program}{w:World}{K:b0}{tg:Expr}(x:Str)(t:Tok)(it:Addr)(hx:(x.length:Int)<2 ^ 63):Turn P w K tg (Gh x) [it] it (fun i h=>i≤x.cps.size∧h.IsRvd it x t ((x.cps.size:Int) - 1 - (i:Int))) where
 mem:=by simp
 obj:=fun i h st b hb=>by
  have e:b=it:=by simpa using hb
  subst e
  obtain⟨_,o,e,c,d⟩:=st
  exact⟨o,e,fun v z=>by rw[d] at z;cases z⟩
 keep:=fun i h h' st k=>by
  obtain⟨hi,o,e,r⟩:=st
  exact⟨hi,o,k it (by simp) o e,r⟩
 item:=by
  intro X hP hw hK hc i pins s σ H E I hf st hg
  subst hP hw hK
  obtain⟨f0,f1,f2,f3,f4,f5⟩:=hf it (by simp)
  obtain⟨hi,st⟩:=st
  have hg':i<x.cps.size:=hg
  have e1:(x.cps.size:Int) - 1 - (i:Int)=((x.cps.size - 1 - i:Nat):Int):=by omega
  rw[e1] at st
  have hcx:x.cps[x.cps.size - 1 - i]?=some (x.cps[x.cps.size - 1 - i]'(by omega)):=Array.getElem?_eq_getElem (by omega)
  refine iP st hcx hx fun h' tk u st' sb=>?_
  have e2:((x.cps.size - 1 - i:Nat):Int) - 1=(x.cps.size:Int) - 1 - ((i+1:Nat):Int):=by omega
  rw[e2] at st'
  have I1:Inv X pins σ H { s with heap:=h',toks:=tk }:=I.turned (fun b o hb e=>(sb.2 b hb).trans e) f0 f1 f3 f4 f5
  obtain⟨o,e,c,d⟩:=id st'
  exact⟨_,rfl,qN (s:={ s with heap:=h',toks:=tk }) e c d (by decide) ⟨.str ⟨#[_]⟩,H,I1,⟨u,rfl⟩,⟨rfl,_,hcx,rfl⟩,⟨hg',st'⟩,fun b hb=>(hf b hb).1⟩⟩
 done:=by
  intro X hP hw hK hc i pins s σ H E I hf st hg
  subst hP hw hK
  obtain⟨f0,f1,f2,f3,f4,f5⟩:=hf it (by simp)
  have hi:i=x.cps.size:=hg
  subst hi
  have e1:(x.cps.size:Int) - 1 - ((x.cps.size:Nat):Int)=-1:=by omega
  have st':=st.2
  rw[e1] at st'
  exact iS (I.ok.hd hc) st' fun h' eb=>⟨rfl,I.turned (t':=s.toks) (fun b o hb e=>eb b o hb e) f0 f1 f3 f4 f5⟩
 self:=fun A i s Q E st h=>eY st.2 h
section
variable {X:Cx}{tg:Expr}
def II(ta:TA):TI:=fun σ H R=>ta σ H fun vs H1=>∃ z:Str,vs=[.str z]∧z.length≤1000∧R (Gh z) H1
theorem Fq{a:Expr}{ta:TA}{p pos:Pos}(hg:Gl X "reversed")(hm:X.mg "reversed"=none)(ha:PA X [a] ta)(hs:starEach [a] X.env=[(false,eval a X.env)]:=by rfl):PI X tg (.Call (.Name "reversed" p) [a] [] pos) (II ta):=by
 intro pins s σ H R I h
 refine Call_ (jA I hg hm boot_reversed (t7 (bP (ha pos pins s σ H _ I h) fun us s1 ⟨vs,H1,I1,r1,q1⟩=>?_) hs rfl))
 obtain⟨z,e,hz,q⟩:=q1
 subst e
 obtain⟨u,rfl,ru⟩:=r1.one
 obtain⟨t,rfl⟩:=ru
 refine gH (by omega) fun tk=>?_
 have I2:Inv X pins σ H1 { s1 with heap:=s1.heap.push { cls:=.type "reversed",data:=.fields #[.str z t,rawInt ((z.length:Int) - 1)] },toks:=tk }:=I1.kept fun b o e=>c0 _ e
 have st:(s1.heap.push { cls:=.type "reversed",data:=.fields #[.str z t,rawInt ((z.length:Int) - 1)] }).IsRvd s1.heap.objs.size z t ((z.length:Int) - 1):=⟨_,g8 _ rfl,rfl,rfl⟩
 refine eY st ?_
 refine⟨s1.heap.objs.size,[s1.heap.objs.size],_,_,H1,rfl,I2,uG z t _ (by omega),⟨j6 _,?_⟩,fun b hb=>?_,q⟩
 ·have e0:(z.cps.size:Int) - 1 - ((0:Nat):Int)=(z.length:Int) - 1:=by show (z.cps.size:Int) - 1 - ((0:Nat):Int)=(z.cps.size:Int) - 1;omega
  rw[e0];exact st
 ·have e:b=s1.heap.objs.size:=by simpa using hb
  subst e
  exact I1.fpOk (b5 _) (I1.hok.fresh (b5 _))
end
theorem pH{w:List Nat}{D:Addr}{Q:VK}{ti:TT}{te:TE}{c:St}{H0:Hp}(Pv:Nat→Hp→Prop)(h0:Pv 0 H0)
  (hs:∀ i k H,w.reverse[i]?=some k→Pv i H→ti (some (.str (S [k]))::c) H fun b H1=>if b=true then te (some (.str (S [k]))::c) H1 fun y H2=>∃ ys,H2 D=some (.lst ys)∧ys.length<sizeLine∧Pv (i+1) (upd H2 D (.lst (ys++[y]))) else Pv (i+1) H1) (hd:∀ H,Pv w.length H→Q (.ref D) H) :
  jH (Gh (S w)) D Q ti te c H0:=by
 refine⟨fun i m H'=>m=w.length - i∧i≤w.length∧Pv i H',⟨w.length,by simp,j6 _,h0⟩,?_⟩
 rintro i m H' ⟨rfl,hi,p⟩
 by_cases hlt:i<w.length
 ·refine .inr ⟨by simpa [Gh] using hlt,Pv (i+1),fun H'' p=>⟨w.length - (i+1),by omega,rfl,hlt,p⟩,fun v H2 y=>?_⟩
  obtain⟨e,k,hk,rfl⟩:=y
  subst e
  refine hs i k H2 ?_ p
  rw[aQ8 hlt]
  simpa using hk
 ·have e:i=w.length:=by omega
  subst e
  exact .inl ⟨by simp[Gh],hd H' p⟩
def fR:List V→List V→Bool
 | [],[]=>true
 | x::xs,y::ys=>lY x y && fR xs ys
 | _,_=>false
theorem iR:∀ {xs ys:List V},xs.length≠ys.length→fR xs ys=false
 | [],[],h=>absurd rfl h
 | [],_::_,_=>rfl
 | _::_,[],_=>rfl
 | x::xs,y::ys,h=>by unfold fR;rw[iR (by simpa using h),aZ5]
theorem oM(n:Nat)(e:Nat→Bool):(List.range (n+1)).all e=(e 0 && (List.range n).all fun i=>e (i+1)):=by
 rw[List.range_succ_eq_map,aX8,aXp];rfl
theorem eZ:∀ {xs ys:List V},xs.length=ys.length→(List.range xs.length).all (fun i=>match xs[i]?,ys[i]? with | some x,some y=>lY x y | _,_=>true)=fR xs ys
 | [],[],_=>rfl
 | [],_::_,h=>by simp at h
 | _::_,[],h=>by simp at h
 | x::xs,y::ys,h=>by
  have h':xs.length=ys.length:=by simpa using h
  rw[j1,oM]
  unfold fR
  rw[← eZ h']
  simp
theorem wI:∀ (a b:List Str),fR (a.map V.str) (b.map V.str)=decide (a=b)
 | [],[]=>by simp[fR]
 | [],_::_=>by simp[fR]
 | _::_,[]=>by simp[fR]
 | x::xs,y::ys=>by
  have e:lY (V.str x) (V.str y)=decide (x=y):=by
   unfold lY;by_cases h:x=y <;> simp[h]
  rw[d3,d3]
  unfold fR
  rw[wI xs ys,e]
  by_cases h:x=y <;> by_cases h2:xs=ys <;> simp[h,h2]
section
variable {X:Cx}
theorem jI{A:Around}{s:Shared}{xs ys:List V}{us vs:List Value}(rx:Vals xs us)(ry:Vals ys vs)(fx:xs.all eV=true)(fy:ys.all eV=true) :
  ∀ (j:Nat) (h1:j<us.toArray.size) (h2:j<vs.toArray.size),SeqAt.EqAt A s us.toArray[j] vs.toArray[j] (match xs[j]?,ys[j]? with | some x,some y=>lY x y | _,_=>true):=fun j h1 h2=>by
 have hx:j<xs.length:=by rw[rx.length];simpa using h1
 have hy:j<ys.length:=by rw[ry.length];simpa using h2
 obtain⟨u,hu,ru⟩:=rx.get (a9 hx)
 obtain⟨v,hv,rv⟩:=ry.get (a9 hy)
 have eu:us.toArray[j]=u:=by
  have:us[j]?=some us.toArray[j]:=by rw[a9 (by simpa using h1)];simp
  rw[hu] at this;exact(i3 this).symm
 have ev:vs.toArray[j]=v:=by
  have:vs[j]?=some vs.toArray[j]:=by rw[a9 (by simpa using h2)];simp
  rw[hv] at this;exact(i3 this).symm
 rw[eu,ev,a9 hx,a9 hy]
 exact xF ru rv (p9.mp fx _ (aXG hx)) (p9.mp fy _ (aXG hy))
def Dk(K:b0)(neg:Bool):R2:=fun x y H Q=>∃ a b xs ys,x=.ref a∧y=.ref b∧((SqL K H a xs∧SqL K H b ys)∨(SqT K H a xs∧SqT K H b ys))∧xs.all eV=true∧ys.all eV=true∧Q (.bl (if neg then !fR xs ys else fR xs ys)) H
theorem EL(hu:X.A.units<cLine):iZ X (compareOp .Eq) (Dk X.K false):=by
 intro pins s σ H x y v u Q I rx ry h
 obtain⟨a,b,xs,ys,rfl,rfl,hq,fx,fy,q⟩:=h
 cases rx
 cases ry
 rcases hq with ⟨ha,hb⟩ | ⟨ha,hb⟩
 ·obtain⟨us,r1,p1,_⟩:=I.list ha
  obtain⟨vs,r2,p2,_⟩:=I.list hb
  by_cases hl:xs.length=ys.length
  ·refine aZ0 p1.isList p2.isList (by simp;rw[← r1.length,← r2.length];exact hl) hu (jI r1 r2 fx fy) ?_
   rw[b8,← r1.length,eZ hl]
   exact⟨.bl _,H,I,rfl,q⟩
  ·refine SeqAt.eq_list_lengthsAt p1.isList p2.isList (by simp;rw[← r1.length,← r2.length];exact hl) hu ?_
   rw[iR hl] at q
   exact⟨.bl _,H,I,rfl,q⟩
 ·obtain⟨us,r1,p1,_⟩:=I.tuple ha
  obtain⟨vs,r2,p2,_⟩:=I.tuple hb
  refine aZS (show s.heap.IsTuple a us.toArray from p1) (show s.heap.IsTuple b vs.toArray from p2) hu (jI r1 r2 fx fy) ?_
  refine⟨.bl _,H,I,rfl,?_⟩
  have e:((List.range (min us.toArray.size vs.toArray.size)).all (fun i=>match xs[i]?,ys[i]? with | some x,some y=>lY x y | _,_=>true) && us.toArray.size == vs.toArray.size)=fR xs ys:=by
   rw[b8,b8,← r1.length,← r2.length]
   by_cases hl:xs.length=ys.length
   ·rw[← hl,aZz,eZ hl];simp
   ·rw[iR hl];simp[hl]
  rw[e]
  exact q
theorem EZ(hu:X.A.units<cLine):iZ X (compareOp .NotEq) (Dk X.K true):=by
 intro pins s σ H x y v u Q I rx ry h
 obtain⟨a,b,xs,ys,rfl,rfl,hq,fx,fy,q⟩:=h
 cases rx
 cases ry
 rcases hq with ⟨ha,hb⟩ | ⟨ha,hb⟩
 ·obtain⟨us,r1,p1,_⟩:=I.list ha
  obtain⟨vs,r2,p2,_⟩:=I.list hb
  by_cases hl:xs.length=ys.length
  ·refine aQK (aXq p1.isList p2.isList (by simp;rw[← r1.length,← r2.length];exact hl) hu (jI r1 r2 fx fy)) ?_
   rw[b8,← r1.length,eZ hl]
   exact⟨.bl _,H,I,rfl,q⟩
  ·refine aQK (aZc p1.isList p2.isList (by simp;rw[← r1.length,← r2.length];exact hl) hu) ?_
   rw[iR hl] at q
   exact⟨.bl _,H,I,rfl,q⟩
 ·obtain⟨us,r1,p1,_⟩:=I.tuple ha
  obtain⟨vs,r2,p2,_⟩:=I.tuple hb
  refine aQK (aXc (show s.heap.IsTuple a us.toArray from p1) (show s.heap.IsTuple b vs.toArray from p2) hu (jI r1 r2 fx fy)) ?_
  refine⟨.bl _,H,I,rfl,?_⟩
  have e:((List.range (min us.toArray.size vs.toArray.size)).all (fun i=>match xs[i]?,ys[i]? with | some x,some y=>lY x y | _,_=>true) && us.toArray.size == vs.toArray.size)=fR xs ys:=by
   rw[b8,b8,← r1.length,← r2.length]
   by_cases hl:xs.length=ys.length
   ·rw[← hl,aZz,eZ hl];simp
   ·rw[iR hl];simp[hl]
  rw[e]
  exact q
theorem sC(hc:X.calm=true):dX X (.type "list") (fun xs H Q=>∃ w:List Nat,xs=[.str (S w)]∧w.length≤1000∧∀ l,H l=none→Q (.ref l) (upd H l (.lst (w.map fun c=>V.str (S [c]))))):=by
 intro pins s σ H xs us Q I r h
 obtain⟨w,rfl,hz,q⟩:=h
 obtain⟨u,rfl,ru⟩:=r.one
 obtain⟨t,rfl⟩:=ru
 have hz2:w.length≤sizeLine:=x8 (aN hz)
 refine call_list_str (I.ok.hd hc) (S w) t (fun h' tk acc c hk hl hit=>?_) (by simpa using hz2)
 have hv:Vals (w.map fun c=>V.str (S [c])) acc.toList:=by
  have hn:acc.size=w.length:=by simpa using hit.1
  have:∀ (n:Nat) (w:List Nat) (l:List Value),w.length=n→l.length=n→(∀ (j:Nat) (v:Value),l[j]?=some v→∃ (c:Nat) (u:Tok),w[j]?=some c∧v=Value.str ⟨#[c]⟩ u)→Vals (w.map fun c=>V.str (S [c])) l:=by
   intro n
   induction n with
   | zero =>
    intro w l h1 h2 _
    have e1:=m9.mp h1
    have e2:=m9.mp h2
    subst e1 e2
    exact .nil
   | succ n ih =>
    intro w l h1 h2 h3
    cases w with
    | nil=>simp at h1
    | cons c w =>
     cases l with
     | nil=>simp at h2
     | cons v l =>
      obtain⟨c',u,hc',rfl⟩:=h3 0 v rfl
      have hc'':c=c':=by simpa using hc'
      subst hc''
      exact .cons ⟨u,rfl⟩ (ih w l (by simpa using h1) (by simpa using h2) fun j v hv=>by simpa using h3 (j+1) v (by simpa using hv))
  refine this w.length w acc.toList rfl (by simpa using hn) fun j v hv=>?_
  obtain⟨c,u,hc,hv'⟩:=hit.2 j v (by simpa using hv)
  exact⟨c,u,by simpa using hc,hv'⟩
 refine⟨.ref s.heap.objs.size,_,I.laid (t':=tk) (o:=.lst (w.map fun c=>V.str (S [c]))) hk (b5 _) ⟨by rw[b7];exact hz2,acc.toList,c,hv,?_⟩,rfl,q _ I.fresh⟩
 simpa using hl
end
def lM(sc0 scope:Scope)(N:List Str)(x:Str)(ix:List Nat):Bool :=
 decide (scope.kind=.function) && scope.names.all (fun y=>decide (y.2≠.cell)) && scope.names.all (fun y=>decide (y.2=.local→scope.names.lookup y.1=some .local)) && decide (scope.names.lookup x=some .local) &&
 scope.names.all (fun y=>decide (y.2=.free→sc0.names.lookup y.1=some .cell∨sc0.names.lookup y.1=some .free)) && ix.all (fun i=>decide (i<N.length) && decide (scope.names.lookup (N.getD i "")=some .free)) && decide ((x::ix.map fun i=>N.getD i "").Nodup)
theorem gQ{X:Cx}{sc0 scope:Scope}{N:List Str}{x:Str}{ix:List Nat}(h:lM sc0 scope N x ix=true)(e1:X.env.scope=sc0)(e2:X.N=N):CompSc X scope x ix∧(mS X x ix).Nodup:=by
 subst e1 e2
 simp only [lM,r9,p9,decide_eq_true_eq] at h
 obtain⟨⟨⟨⟨⟨⟨h1,h2⟩,h3⟩,h4⟩,h5⟩,h6⟩,h7⟩:=h
 exact⟨⟨h1,h2,h3,h4,h5,h6⟩,h7⟩
section
variable {prog:Program}{w:World}{A:Around}{E:Value→Shared→Prop}{s:Shared}
theorem rC{it t:Addr}{items:Array Value}(hne:t≠it):∀ (n i:Nat) (s:Shared) (Q:List Value→Shared→Prop),s.heap.IsListIter it t i→s.heap.IsList t items→i+n≤items.size →
  (∀ h',h'.IsListIter it t (i+n)→Heap.SameBut it s.heap h'→Q ((items.toList.drop i).take n) { s with heap:=h' })→wpAny (model prog w) A (draw (.ref it) n) Q E s
 | 0,i,s,Q,hit,_,_,hQ=>by
  show wpAny _ _ (pure []) Q E s
  exact wpAny_pure (by simpa using hQ s.heap hit (aJM ..))
 | n+1,i,s,Q,hit,ht,hle,hQ=>by
  have hlt:i<items.size:=by omega
  show wpAny _ _ (pyNext (.ref it) >>= _) Q E s
  refine wpAny_bind (wpAny_pyNext_list_item hit ht (x:=items[i]) (by simp[hlt]) fun h₁ hit₁ hs₁=>?_)
  refine wpAny_bind (wpAny_holding (rC hne n (i+1) _ _ hit₁ (ht.extBut hs₁.extBut hne) (by omega) fun h₂ hit₂ hs₂=>wpAny_pure ?_))
  have hd:items.toList.drop i=items[i]::items.toList.drop (i+1):=by simp[y6,hlt]
  have:=hQ h₂ (by rw[show i+(n+1)=i+1+n by omega];exact hit₂) (hs₁.trans hs₂)
  rw[hd,List.take_succ_cons] at this
  exact this
theorem mB{t:Addr}{items:Array Value}{Q:List Value→Shared→Prop}(hh:A.handled=none)(ht:s.heap.IsList t items)
  (hQ:∀ h',Heap.ExtBut s.heap.objs.size s.heap h'→Q items.toList { s with heap:=h' }):wpAny (model prog w) A (unpackItems (.ref t) items.size none) Q E s:=by
 have hlt:t≠s.heap.objs.size:=by obtain⟨o,ho,_⟩:=ht;exact d5 (c7 ho)
 unfold unpackItems
 refine wpAny_bind ?_
 ·unfold notIterableAtAll
  refine wpAny_bind (wpAny_specialOf ht.typeIs slot_list_iter.lookup ?_)
  refine wpAny_pure ?_
  simp only [aQB,if_false]
  refine wpAny_bind (wpAny_holding (wpAny_pyIter_list ht ?_))
  refine wpAny_bind (wpAny_holding (rC hlt items.size 0 _ _ ⟨_,g8 _ rfl,rfl,rfl⟩ (ht.push _) (by omega) fun h₁ hit₁ hs₁=>?_))
  have hall:List.take items.size (List.drop 0 items.toList)=items.toList:=by
   rw[List.drop_zero];exact p0 (by simp)
  rw[hall]
  rw[if_neg (by simp)]
  have ht₁:h₁.IsList t items:=(ht.push _).extBut hs₁.extBut hlt
  refine wpAny_bind (wpAny_holding (wpAny_pyNext_list_end hh hit₁ ht₁ (by simp) fun h₂ he₂=>?_))
  simp only [Option.isSome_none,aQB,if_false]
  refine wpAny_pure (hQ h₂ fun b o hb e=>he₂ b o hb (hs₁.extBut b o hb (c0 _ e)))
theorem kY{env:Env}{elts:List Expr}{x1}{pos:Pos}{t:Addr}{items:Array Value}{Q:Unit→Shared→Prop}(hh:A.handled=none)(ht:s.heap.IsList t items)
  (hn:(assignEach elts env).length=items.size) (hstar:(assignEach elts env).findIdx? (·.1)=none)
  (h:∀ h',Heap.ExtBut s.heap.objs.size s.heap h'→wpAny (model prog w) A (assignInOrder ((assignEach elts env).map (·.2)) items.toList) Q E { s with heap:=h' }) :
  wpAny (model prog w) A (assign (.Tuple elts x1 pos) env (.ref t)) Q E s:=by
 rw[assign_Tuple]
 refine wpAny_bind (wpAny_standAt ?_)
 unfold unpack
 rw[hn,hstar]
 exact wpAny_bind (wpAny_holding (mB hh ht h))
end
section
variable {X:Cx}{pos:Pos}{K:b0}
def Jc(K:b0)(n:Nat)(t:F_):TG:=fun v σ H Q=>∃ a xs,v=.ref a∧(SqL K H a xs∨SqT K H a xs)∧xs.length=n∧t xs σ H Q
theorem jD{es:List Expr}{k:Nat}{t:F_}{n:Nat}(hK:X.K=K)(hc:X.calm=true)(h:Ie X es t)
  (hn:(assignEach es X.env).length=n:=by rfl) (hst:(assignEach es X.env).findIdx? (·.1)=none:=by rfl):PG X (.Tuple es k pos) (Jc K n t):=by
 subst hK
 intro pins s σ H v u Q I r hw
 obtain⟨a,xs,e1,hq,hl,hw⟩:=hw
 subst e1
 cases r
 rcases hq with hq | hq
 ·obtain⟨its,rv,ht,hz⟩:=I.list hq
  refine kY (I.ok.hd hc) ht.isList (by simp[hn,← hl,rv.length]) hst fun h' hx=>?_
  have I1:Inv X pins σ H { s with heap:=h' }:=I.kept (t':=s.toks) fun b o e=>hx b o (d5 (c7 e)) e
  exact h pins _ σ H xs _ Q I1 (by simpa using rv) hw
 ·obtain⟨its,rv,ht,hz⟩:=I.tuple hq
  refine assign_Tuple_tuple (I.ok.hd hc) ht (by simp[hn,← hl,rv.length]) hst fun h' hx=>?_
  have I1:Inv X pins σ H { s with heap:=h' }:=I.kept (t':=s.toks) fun b o e=>hx b o (d5 (c7 e)) e
  exact h pins _ σ H xs _ Q I1 (by simpa using rv) hw
end
end L2
namespace Ma
def aU(c:Nat):Nat:=if 96<c then c - 32 else c+32
def cR(c:Nat):Prop:=(97≤c∧c≤100)∨(65≤c∧c≤68)
theorem bV{c:Nat}(h:cR c):aU (aU c)=c:=by unfold aU;unfold cR at h;split <;> split <;> omega
theorem dM{c:Nat}(h:cR c):cR (aU c):=by unfold aU;unfold cR at *;split <;> omega
theorem Cs{c:Nat}(h:cR c):aU c≠c:=by unfold aU;unfold cR at h;split <;> omega
def push(k:List Nat)(c:Nat):List Nat:=match k with
 | []=>[c]
 | x::r=>if x=aU c then r else c::x::r
def PlainR:List Nat→Prop
 | []=>True
 | [_]=>True
 | a::b::r=>b≠aU a∧PlainR (b::r)
def AllL(w:List Nat):Prop:=∀ c∈w,cR c
def gX(k:List Nat)(w:List Nat):List Nat:=w.foldl push k
def lay(w:List Nat):List Nat:=(gX [] w).reverse
def cP(w:List Nat):Prop:=PlainR w.reverse
def back(w:List Nat):List Nat:=(w.map aU).reverse
theorem AllL.cons{c:Nat}{w:List Nat}:AllL (c::w)↔cR c∧AllL w:=by unfold AllL;simp
theorem AllL.nil:AllL []:=by unfold AllL;simp
theorem AllL.app{u w:List Nat}:AllL (u++w)↔AllL u∧AllL w:=by
 unfold AllL;constructor
 ·intro h;exact⟨fun c hc=>h c (l7 _ hc),fun c hc=>h c (d6 _ hc)⟩
 ·rintro⟨h1,h2⟩ c hc;rcases i5.mp hc with h | h;exact h1 c h;exact h2 c h
theorem AllL.rev{w:List Nat}:AllL w.reverse↔AllL w:=by unfold AllL;simp
theorem PlainR.tail{a:Nat}{r:List Nat}(h:PlainR (a::r)):PlainR r:=by
 cases r with
 | nil=>trivial
 | cons b r=>exact h.2
theorem wM{k:List Nat}{c:Nat}(hk:PlainR k):PlainR (push k c):=by
 cases k with
 | nil=>trivial
 | cons x r =>
  unfold push
  dsimp only
  split
  ·exact hk.tail
  ·rename_i h;exact⟨h,hk⟩
theorem BG{k:List Nat}{c:Nat}(hk:AllL k)(hc:cR c):AllL (push k c):=by
 cases k with
 | nil=>exact AllL.cons.mpr ⟨hc,hk⟩
 | cons x r =>
  unfold push
  dsimp only
  split
  ·exact(AllL.cons.mp hk).2
  ·exact AllL.cons.mpr ⟨hc,hk⟩
theorem fO:∀ {w k:List Nat},PlainR k→PlainR (gX k w)
 | [],_,h=>h
 | c::w,k,h=>fO (w:=w) (wM h)
theorem iB:∀ {w k:List Nat},AllL k→AllL w→AllL (gX k w)
 | [],_,h,_=>h
 | c::w,k,h,hw=>iB (w:=w) (BG h (AllL.cons.mp hw).1) (AllL.cons.mp hw).2
theorem iF(k u w:List Nat):gX k (u++w)=gX (gX k u) w:=by unfold gX;rw[aQw]
theorem fU(k u:List Nat)(c:Nat):gX k (u++[c])=push (gX k u) c:=by rw[iF];rfl
theorem lO(k w:List Nat)(c:Nat):gX k (c::w)=gX (push k c) w:=rfl
theorem qU{k:List Nat}{c:Nat}(hk:PlainR k)(ha:AllL k)(hc:cR c):push (push k c) (aU c)=k:=by
 cases k with
 | nil =>
  show (if c=aU (aU c) then [] else _)=[]
  rw[if_pos (bV hc).symm]
 | cons x r =>
  have hx:cR x:=(AllL.cons.mp ha).1
  by_cases e:x=aU c
  ·have e1:push (x::r) c=r:=by unfold push;dsimp only;rw[if_pos e]
   rw[e1]
   cases r with
   | nil=>unfold push;dsimp only;rw[e]
   | cons y r =>
    have h1:y≠aU x:=hk.1
    unfold push
    dsimp only
    rw[if_neg (by rw[← e];exact h1),e]
  ·have e1:push (x::r) c=c::x::r:=by unfold push;dsimp only;rw[if_neg e]
   rw[e1]
   unfold push
   dsimp only
   rw[if_pos (bV hc).symm]
theorem iJ{w:List Nat}(h:AllL w):AllL (lay w):=AllL.rev.mpr (iB AllL.nil h)
theorem fP(w:List Nat):cP (lay w):=by unfold cP lay;rw[u8];exact fO trivial
theorem B8(k:List Nat)(c:Nat):(push k c).length≤k.length+1:=by
 cases k with
 | nil=>simp[push]
 | cons x r =>
  unfold push
  dsimp only
  split
  ·simp;omega
  ·simp
theorem nY:∀ (w k:List Nat),(gX k w).length≤k.length+w.length
 | [],k=>by simp[gX]
 | c::w,k=>by
  have h1:=nY w (push k c)
  have h2:=B8 k c
  rw[lO,j1]
  omega
theorem gG(w:List Nat):(lay w).length≤w.length:=by
 unfold lay;rw[t8];have:=nY w [];simpa using this
theorem tJ(u v:List Nat){a b:Nat}(hu:AllL u)(hb:cR b)(e:a=aU b):lay (u++a::b::v)=lay (u++v):=by
 unfold lay
 have ha:cR a:=by rw[e];exact dM hb
 rw[iF,lO,lO,iF]
 have e2:b=aU a:=by rw[e,bV hb]
 rw[e2,qU (fO (k:=[]) trivial) (iB AllL.nil hu) ha]
theorem iK:∀ (w k:List Nat),PlainR (w.reverse++k)→gX k w=w.reverse++k
 | [],k,_=>rfl
 | c::w,k,h=>by
  have h0:PlainR (w.reverse++(c::k)):=by simpa using h
  have e:push k c=c::k:=by
   cases k with
   | nil=>rfl
   | cons x r =>
    have h1:x≠aU c:=by
     have:∀ (l:List Nat),PlainR (l++(c::x::r))→x≠aU c:=by
      intro l
      induction l with
      | nil=>intro h;exact h.1
      | cons y l ih =>
       intro h
       exact ih (PlainR.tail h)
     exact this _ h0
    unfold push
    dsimp only
    rw[if_neg h1]
  rw[lO,e,iK w (c::k) h0]
  simp
theorem iT{w:List Nat}(h:cP w):lay w=w:=by
 unfold lay
 rw[iK w [] (by rw[m6];exact h)]
 simp
theorem D4(w:List Nat):lay (lay w)=lay w:=iT (fP w)
theorem D6:∀ (n:Nat) (w k:List Nat),w.length=n→PlainR k→AllL k→AllL w→gX k (lay w)=gX k w:=by
 intro n
 induction n with
 | zero =>
  intro w k hn _ _ _
  have:w=[]:=m9.mp hn
  subst this;rfl
 | succ n ih =>
  intro w k hn hk ha hw
  have hne:w≠[]:=by intro h;subst h;simp at hn
  obtain⟨u,c,rfl⟩:∃ u c,w=u++[c]:=⟨w.dropLast,w.getLast hne,(x5 hne).symm⟩
  have hu:u.length=n:=by simpa using hn
  obtain⟨hau,hac⟩:=AllL.app.mp hw
  have hc:cR c:=(AllL.cons.mp hac).1
  have ihu:=ih u k hu hk ha hau
  have hal:=iB (k:=[]) AllL.nil hau
  unfold lay at ihu ⊢
  rw[fU,fU,← ihu]
  cases e:gX [] u with
  | nil=>simp[push,gX]
  | cons x r =>
   rw[e] at hal
   have hx:cR x:=(AllL.cons.mp hal).1
   have har:AllL r:=(AllL.cons.mp hal).2
   by_cases h:x=aU c
   ·have e1:push (x::r) c=r:=by unfold push;dsimp only;rw[if_pos h]
    rw[e1,n9,fU]
    have e2:c=aU x:=by rw[h,bV hc]
    rw[e2,qU (fO hk) (iB ha (AllL.rev.mpr har)) hx]
   ·have e1:push (x::r) c=c::x::r:=by unfold push;dsimp only;rw[if_neg h]
    rw[e1,n9,fU]
theorem eW(u w:List Nat)(hu:AllL u)(hw:AllL w):lay (u++lay w)=lay (u++w):=by
 unfold lay
 rw[iF,iF]
 have:=D6 w.length w (gX [] u) rfl (fO trivial) (iB AllL.nil hu) hw
 unfold lay at this
 rw[this]
theorem fT(u w:List Nat)(hu:AllL u):lay (lay u++w)=lay (u++w):=by
 unfold lay
 rw[iF,iF]
 have e:=iK (lay u) [] (by rw[m6];exact fP u)
 unfold lay at e
 rw[e]
 simp
theorem dN(u w:List Nat):back (u++w)=back w++back u:=by unfold back;simp
theorem bY(w:List Nat):(back w).length=w.length:=by unfold back;simp
theorem aS{w:List Nat}(h:AllL w):AllL (back w):=by
 unfold back AllL
 intro c hc
 simp only [aQR,g9] at hc
 obtain⟨a,ha,rfl⟩:=hc
 exact dM (h a ha)
theorem eC:∀ {w:List Nat},AllL w→back (back w)=w
 | [],_=>rfl
 | c::w,h=>by
  have e:back (c::w)=back w++[aU c]:=by unfold back;simp
  have ih:=eC (AllL.cons.mp h).2
  rw[e,dN,ih]
  unfold back
  simp[bV (AllL.cons.mp h).1]
theorem nA:∀ (n:Nat) (w:List Nat),w.length=n→AllL w→lay (w++back w)=[]:=by
 intro n
 induction n with
 | zero =>
  intro w hn _
  have:w=[]:=m9.mp hn
  subst this;rfl
 | succ n ih =>
  intro w hn hw
  have hne:w≠[]:=by intro h;subst h;simp at hn
  obtain⟨u,c,rfl⟩:∃ u c,w=u++[c]:=⟨w.dropLast,w.getLast hne,(x5 hne).symm⟩
  obtain⟨hau,hac⟩:=AllL.app.mp hw
  have hc:cR c:=(AllL.cons.mp hac).1
  have e:u++[c]++back (u++[c])=u++c::aU c::back u:=by rw[dN];simp[back]
  rw[e,tJ u (back u) hau (dM hc) (bV hc).symm]
  exact ih u (by simpa using hn) hau
theorem iQ{w:List Nat}(h:AllL w):lay (w++back w)=[]:=nA _ w rfl h
theorem jC{w:List Nat}(h:AllL w):lay (back w++w)=[]:=by
 have:=iQ (aS h)
 rwa [eC h] at this
theorem mY:∀ (l:List Nat) (a b:Nat),PlainR (l++[a])→b≠aU a→PlainR (l++[a,b])
 | [],a,b,_,h=>⟨h,trivial⟩
 | [x],a,b,h,h2=>⟨h.1,h2,trivial⟩
 | x::y::l,a,b,h,h2=>⟨h.1,mY (y::l) a b h.2 h2⟩
theorem jY:∀ {k:List Nat},AllL k→PlainR k→PlainR (k.map aU).reverse
 | [],_,_=>trivial
 | [a],_,_=>trivial
 | a::b::r,ha,h=>by
  have ih:=jY (AllL.cons.mp ha).2 h.2
  have hA:=AllL.cons.mp ha
  have hB:=AllL.cons.mp hA.2
  rw[d3,n9] at ih ⊢
  rw[d3,n9] at *
  have e:((r.map aU).reverse++[aU b])++[aU a]=(r.map aU).reverse++[aU b,aU a]:=by simp
  rw[e]
  refine mY _ _ _ ih ?_
  rw[bV hB.1]
  intro e2
  exact h.1 e2.symm
theorem kK{w:List Nat}(hw:AllL w)(h:cP w):cP (back w):=by
 unfold cP back at *
 rw[u8]
 have:=jY (AllL.rev.mpr hw) h
 rwa [aXH,u8] at this
theorem BR:∀ (n:Nat) (w:List Nat),w.length=n→AllL w→lay (back w)=back (lay w):=by
 intro n
 induction n with
 | zero =>
  intro w hn _
  have:w=[]:=m9.mp hn
  subst this;rfl
 | succ n ih =>
  intro w hn hw
  have hne:w≠[]:=by intro h;subst h;simp at hn
  obtain⟨u,c,rfl⟩:∃ u c,w=u++[c]:=⟨w.dropLast,w.getLast hne,(x5 hne).symm⟩
  obtain⟨hau,hac⟩:=AllL.app.mp hw
  have hc:cR c:=(AllL.cons.mp hac).1
  have ihu:=ih u (by simpa using hn) hau
  have e0:back (u++[c])=[aU c]++back u:=by rw[dN];simp[back]
  have hcc:AllL [aU c]:=AllL.cons.mpr ⟨dM hc,AllL.nil⟩
  rw[e0,← eW [aU c] (back u) hcc (aS hau),ihu]
  have hal:=iB (k:=[]) AllL.nil hau
  have hpl:=fO (w:=u) (k:=[]) trivial
  have el:lay u=(gX [] u).reverse:=rfl
  have el2:lay (u++[c])=(push (gX [] u) c).reverse:=by unfold lay;rw[fU]
  rw[el2,el]
  cases e:gX [] u with
  | nil=>rfl
  | cons x r =>
   rw[e] at hal hpl
   have hx:cR x:=(AllL.cons.mp hal).1
   have har:AllL r:=(AllL.cons.mp hal).2
   have hbr:AllL (back r.reverse):=aS (AllL.rev.mpr har)
   have eb:back (x::r).reverse=aU x::back r.reverse:=by rw[n9,dN];rfl
   rw[eb]
   have hp2:cP (back (x::r).reverse):=kK (AllL.rev.mpr hal) (by unfold cP;rw[u8];exact hpl)
   by_cases h:x=aU c
   ·have e1:push (x::r) c=r:=by unfold push;dsimp only;rw[if_pos h]
    rw[e1]
    show lay ([]++aU c::aU x::back r.reverse)=_
    rw[tJ [] _ AllL.nil (dM hx) (by rw[bV hx,h])]
    exact iT (kK (AllL.rev.mpr har) (by unfold cP;rw[u8];exact hpl.tail))
   ·have e1:push (x::r) c=c::x::r:=by unfold push;dsimp only;rw[if_neg h]
    rw[e1]
    have e3:back (c::x::r).reverse=[aU c]++aU x::back r.reverse:=by rw[n9,dN,eb];rfl
    rw[e3]
    refine iT ?_
    rw[← e3]
    refine kK (AllL.rev.mpr (AllL.cons.mpr ⟨hc,hal⟩)) ?_
    unfold cP
    rw[u8]
    exact⟨h,hpl⟩
theorem lC{w:List Nat}(h:AllL w):lay (back w)=back (lay w):=BR _ w rfl h
end Ma
namespace Lw
open PySem PySem.Spec PyProof.Rows L2 Ma
theorem cC(w:List Nat):(S w).length=w.length:=by simp[Str.length]
theorem jZ(u w:List Nat):(S u++S w:Str)=S (u++w):=by
 show Str.append (S u) (S w)=S (u++w)
 unfold Str.append;simp
theorem Cg{u w:List Nat}(h:S u=S w):u=w:=by
 have h':u.toArray=w.toArray:=congrArg Str.cps h
 simpa using congrArg Array.toList h'
theorem fK(u w:List Nat):decide (V.str (S u)=V.str (S w))=decide (u=w):=by
 by_cases h:u=w
 ·subst h;simp
 ·rw[decide_eq_false h,decide_eq_false fun e=>h (Cg (V.str.inj e))]
theorem qY:(Str.ofString "":Str)=S []:=by decide +kernel
theorem IA(w:List Nat):(S w).cps.toList=w:=by simp
theorem aK{n:Nat}(h:n≤100000):n≤sizeLine:=j0 h (by decide)
theorem lI(w:List Nat){j:Int}(h0:0≤j)(h2:j≤w.length):Txt.slice (S w) none (some j)=S (w.take j.toNat):=by
 have:=slice_closes_toL (x:=S w) h0 (by rw[cC];exact h2)
 rw[beq_iff_eq.mp this]
 simp
theorem Bs:∀ (zs:List (List Nat)),Txt.join (S []) (zs.map S)=S zs.flatten
 | []=>by unfold Txt.join;rw[aQ9];rfl
 | [z]=>by unfold Txt.join;rw[aQ9];simp[Str.join]
 | z::y::r=>by
  have ih:=Bs (y::r)
  unfold Txt.join at ih ⊢
  rw[aQ9] at ih ⊢
  rw[d3,d3]
  show (S z++S [])++Str.join (S []) (S y::r.map S)=_
  rw[d3] at ih
  rw[ih,jZ,jZ]
  simp
theorem Dp(zs:List (List Nat)):((zs.map S).map (·.length)).sum=zs.flatten.length:=by
 induction zs with
 | nil=>rfl
 | cons z zs ih=>simp only [d3,p8,aQY,b9,ih,cC]
def bW(c:Nat):Bool:=decide (96<c)
theorem aY{c:Nat}(h:cR c):c=97∨c=98∨c=99∨c=100∨c=65∨c=66∨c=67∨c=68:=by unfold cR at h;omega
theorem Ax{c:Nat}(h:cR c):Txt.islower (S [c])=bW c:=by
 rcases aY h with rfl | rfl | rfl | rfl | rfl | rfl | rfl | rfl <;> decide +kernel
theorem rE{c:Nat}(h:cR c):Txt.isupper (S [c])=!bW c:=by
 rcases aY h with rfl | rfl | rfl | rfl | rfl | rfl | rfl | rfl <;> decide +kernel
theorem jR{c:Nat}(h:cR c)(hl:bW c=true):Txt.upper (S [c])=S [aU c]:=by
 rcases aY h with rfl | rfl | rfl | rfl | rfl | rfl | rfl | rfl <;> first | (decide +kernel) | (exact absurd hl (by decide))
theorem yR{c:Nat}(h:cR c)(hl:bW c=false):Txt.lower (S [c])=S [aU c]:=by
 rcases aY h with rfl | rfl | rfl | rfl | rfl | rfl | rfl | rfl <;> first | (decide +kernel) | (exact absurd hl (by decide))
theorem tI(c:Nat):Builtin.Str.tooLong (S [c]).length=false:=by rw[cC];show Builtin.Str.tooLong 1=false;decide +kernel
def conTab_rows:List (Str×PyData):=[("a",.str "A"),("A",.str "a"),("b",.str "B"),("B",.str "b"),("c",.str "C"),("C",.str "c"),("d",.str "D"),("D",.str "d")]
def Cy:List (PyData×PyData):=conTab_rows.map fun p=>(PyData.str p.1,p.2)
theorem uR{c:Nat}(h:cR c):lookup (.str (S [c])) Cy=some (.str (S [aU c])):=by
 rcases aY h with rfl | rfl | rfl | rfl | rfl | rfl | rfl | rfl <;> kernel_rfl
def Kp(fl:Addr)(H H':Hp):Prop:=∀ b o,H b=some o→b≠fl→H' b=some o
theorem Kp.refl(fl:Addr)(H:Hp):Kp fl H H:=fun _ _ h _=>h
theorem Kp.trans{fl:Addr}{H H1 H2:Hp}(a:Kp fl H H1)(b:Kp fl H1 H2):Kp fl H H2:=fun c o h n=>b c o (a c o h n) n
theorem _root_.L2.Same.kp{fl:Addr}{H H':Hp}(h:Same H H'):Kp fl H H':=fun b o e _=>h b o e
theorem _root_.L2.Same.new{H:Hp}{l:Addr}{o:HO}(h:H l=none):Same H (upd H l o):=fun b u e=>by rw[aE (aI e h)];exact e
theorem _root_.L2.Same.upd{H H':Hp}{l:Addr}{o:HO}(s:Same H H')(h:H l=none):Same H (upd H' l o):=fun b u e=>by rw[aE (aI e h)];exact s b u e
theorem _root_.L2.Same.upd'{H H':Hp}{l:Addr}{o:HO}(s:Same H H')(h:H' l=none):Same H (upd H' l o):=s.trans (Same.new h)
theorem Kp.upd{fl:Addr}{H H':Hp}{l:Addr}{o:HO}(s:Kp fl H H')(h:H l=none):Kp fl H (upd H' l o):=fun b u e n=>by rw[aE (aI e h)];exact s b u e n
theorem Kp.self{fl:Addr}{H H':Hp}{o:HO}(s:Kp fl H H'):Kp fl H (L2.upd H' fl o):=fun b u e n=>by rw[aE n];exact s b u e n
theorem Kp.free{fl:Addr}{H H':Hp}(k:Kp fl H H'){l:Addr}(h:H' l=none)(n:l≠fl):H l=none:=by
 cases q:H l with
 | none=>rfl
 | some o=>rw[k l o q n] at h;cases h
def IsFl(H:Hp)(fl sc:Addr):Prop:=∃ (ns:List Int) (i a b c:Int),H fl=some (.lst [.ref sc,.int i,.int a,.int b,.int c])∧H sc=some (.lst (ns.map V.int))∧ns.length≤63∧0≤i∧0≤a∧0≤b
theorem IsFl.same{H H':Hp}{fl sc:Addr}(s:Same H H')(h:IsFl H fl sc):IsFl H' fl sc:=by
 obtain⟨ns,i,a,b,c,h1,h2,r⟩:=h
 exact⟨ns,i,a,b,c,s _ _ h1,s _ _ h2,r⟩
theorem IsFl.some{H:Hp}{fl sc:Addr}(h:IsFl H fl sc):(∃ o,H fl=some o)∧∃ o,H sc=some o:=by
 obtain⟨ns,i,a,b,c,h1,h2,r⟩:=h
 exact⟨⟨_,h1⟩,⟨_,h2⟩⟩
theorem IsFl.ne{H:Hp}{fl sc l:Addr}(h:IsFl H fl sc)(n:H l=none):l≠fl:=by
 obtain⟨⟨o,e⟩,_⟩:=h.some
 exact(aI e n).symm
theorem IsFl.ne2{H:Hp}{fl sc l:Addr}(h:IsFl H fl sc)(n:H l=none):l≠sc:=by
 obtain⟨_,⟨o,e⟩⟩:=h.some
 exact(aI e n).symm
theorem IsFl.upd{H:Hp}{fl sc l:Addr}{o:HO}(h:IsFl H fl sc)(n:H l=none):IsFl (L2.upd H l o) fl sc:=h.same (Same.new n)
theorem IsFl.set{H:Hp}{fl sc l:Addr}{o:HO}(h:IsFl H fl sc)(n:l≠fl)(n2:l≠sc):IsFl (L2.upd H l o) fl sc:=by
 obtain⟨ns,i,a,b,c,h1,h2,r⟩:=h
 exact⟨ns,i,a,b,c,by rw[aE n.symm];exact h1,by rw[aE n2.symm];exact h2,r⟩
structure Df(K:b0)(mg:Str→Option Value)(x:Str)(st:Stmt)(ps:List Str)(f:Addr)(fd:FuncData):Prop where
 F:Fun K x x st f fd
 b:Binds K fd ps []
 m:mg x=some (.ref f)
def Cl(P:Program)(w:World)(K:b0)(mg:Str→Option Value)(base:Heap)(x:Str)(ps:List Str)(n:Nat)(sp:Sp):Prop :=
 ∃ f fd,FnOk P w K mg base zO n f fd ps sp∧mg x=some (.ref f)∧PySem.W.keepIn K (.ref f)=true∧Binds K fd ps []
theorem Df.cl{P:Program}{w:World}{K:b0}{mg:Str→Option Value}{base:Heap}{x:Str}{st:Stmt}{ps:List Str}{f:Addr}{fd:FuncData}{n:Nat}{sp:Sp}(D:Df K mg x st ps f fd)(h:FnOk P w K mg base zO n f fd ps sp):Cl P w K mg base x ps n sp :=
 ⟨f,fd,h,D.m,D.F.kp,D.b⟩
def lets:List Nat:=[97,65,98,66,99,67,100,68]
def aJ(n:Int):List Nat:=lets.take (2 * n).toNat
def OfN(n:Int)(w:List Nat):Prop:=∀ c∈w,c∈aJ n
theorem bA{n:Int}{c:Nat}(h:c∈aJ n):cR c:=by
 have h2:c∈lets:=o6 h
 unfold lets at h2
 simp only [c4,l6,or_false] at h2
 unfold cR
 omega
theorem OfN.all{n:Int}{w:List Nat}(h:OfN n w):AllL w:=fun c hc=>bA (h c hc)
theorem jU{n:Int}(h1:1≤n)(h4:n≤4):(aJ n).length=(2 * n).toNat:=by
 unfold aJ lets
 rw[i6]
 simp
 omega
def bH(w:List Nat):List V:=w.map fun c=>V.str (S [c])
theorem nQ(w:List Nat):bH w=(w.map fun c=>S [c]).map V.str:=by unfold bH;rw[t4];rfl
theorem lV:∀ (w:List Nat),(w.map fun c=>[c]).flatten=w
 | []=>rfl
 | c::w=>by rw[d3,aQY,lV w];rfl
theorem CC(w:List Nat):(w.map fun c=>[c]).map S=w.map fun c=>S [c]:=by rw[t4];rfl
theorem jN(w:List Nat):Txt.join (Str.ofString "") (w.map fun c=>S [c])=S w:=by
 have h:=Bs (w.map fun c=>[c])
 rw[CC,lV] at h
 rw[qY]
 exact h
theorem hZ(w:List Nat)(hw:w.length≤100000):((w.map fun c=>S [c]).map (·.length)).sum+(w.map fun c=>S [c]).length * (Str.ofString "").length≤16777216:=by
 have h:=Dp (w.map fun c=>[c])
 rw[CC,lV] at h
 have e2:(Str.ofString "").length=0:=by decide +kernel
 rw[e2,Nat.mul_zero,Nat.add_zero,h]
 omega
theorem cQ(w:List Nat)(c:Nat):bH (w++[c])=bH w++[V.str (S [c])]:=by unfold bH;simp
theorem bG(w:List Nat):(bH w).length=w.length:=by unfold bH;simp
theorem uE{w:List Nat}{i:Nat}{c:Nat}(h:w[i]?=some c):(bH w)[i]?=some (.str (S [c])):=by unfold bH;rw[c5,h];rfl
theorem kP{α:Type}{xs:List α}{i:Int}{v:α}(h0:0≤i)(h:xs[i.toNat]?=some v):wJ xs i=some v:=by
 have:=cX h
 rwa [aXd h0] at this
theorem bK{w:List Nat}{i c:Nat}(h:w[i]?=some c):w.take (i+1)=w.take i++[c]:=by rw[m4,h];rfl
def A_(K:b0):Sp:=fun vs H Q _=>∃ (a:Addr) (ns:List Int),vs=[.ref a]∧SqL K H a (ns.map V.int)∧ns.length≤63∧∀ (fl sc:Addr) (H':Hp),H fl=none→Same H H'→IsFl H' fl sc→Q (.ref fl) H'
def iW:Sp:=fun vs H Q _=>∃ (fl sc:Addr) (m:Int),vs=[.ref fl,.int m]∧IsFl H fl sc∧0<m∧m<1073741824∧∀ (d:Int) (H':Hp),0≤d→d<m→IsFl H' fl sc→Kp fl H H'→Q (.int d) H'
def iX:Sp:=fun vs H Q _=>∃ c:Nat,vs=[.str (S [c])]∧cR c∧∀ H',Same H H'→Q (.str (S [aU c])) H'
def rG:Sp:=fun vs H Q _=>∃ w:List Nat,vs=[.str (S w)]∧AllL w∧w.length≤60000∧∀ H',Same H H'→Q (.str (S (lay w))) H'
def oN:Sp:=fun vs H Q _=>∃ w:List Nat,vs=[.str (S w)]∧AllL w∧w.length≤1000∧∀ H',Same H H'→Q (.str (S (back w))) H'
def jQ:Sp:=fun vs H Q _=>∃ n:Int,vs=[.int n]∧1≤n∧n≤4∧∀ (l:Addr) (H':Hp),H l=none→Same H H'→H' l=some (.lst (bH (aJ n)))→Q (.ref l) H'
def BK:Sp:=fun vs H Q _=>∃ (fl sc:Addr) (n most:Int),vs=[.ref fl,.int n,.int most]∧IsFl H fl sc∧1≤n∧n≤4∧0≤most∧most≤900 ∧
 ∀ (w:List Nat) (H':Hp),OfN n w→cP w→(w.length:Int)≤most→IsFl H' fl sc→Kp fl H H'→Q (.str (S w)) H'
def zV(K:b0):Sp:=fun vs H Q _=>∃ (a:Addr) (ns:List Int),vs=[.ref a]∧SqL K H a (ns.map V.int)∧ns.length≤63∧∀ H',Q (.bl true) H'
end Lw
namespace L2
open PySem PySem.Spec PyProof.Rows
def Jf(t u:TS):TS:=fun D σ H=>∃ M:St→Hp→Prop,t { D with nx:=M } σ H∧∀ σ' H',M σ' H'→u D σ' H'
theorem iL{X:Cx}{st:Stmt}{rest:List Stmt}{t u:TS}(h1:PS X st t)(h2:PSs X rest u):PSs X (st::rest) (Jf t u):=by
 intro pins s σ H D I ⟨M,q1,q2⟩
 refine wpAny_execs_cons (bP (h1 pins s σ H { D with nx:=M } I q1) fun f s1 q=>?_)
 cases f with
 | next =>
  obtain⟨σ',H',I',q⟩:=q
  exact h2 pins s1 σ' H' D I' (q2 σ' H' q)
 | ret v=>exact q
 | brk=>exact q
 | cont=>exact q
end L2
namespace Lw
open PySem PySem.Spec PyProof.Rows L2 Ma
def nS(x:List Nat)(c:Nat):Bool:=match x.getLast? with
 | none=>true
 | some z=>!decide ([c]=[aU z])
theorem DT{n:Int}{x:List Nat}(h1:1≤n)(h4:n≤4):0<((aJ n).filter (nS x)).length:=by
 have m1:97∈aJ n∧65∈aJ n:=by
  have:n=1∨n=2∨n=3∨n=4:=by omega
  rcases this with rfl | rfl | rfl | rfl <;> decide
 have:nS x 97=true∨nS x 65=true:=by
  unfold nS
  cases x.getLast? with
  | none=>exact .inl rfl
  | some z =>
   by_cases e:aU z=97
   ·right;dsimp only;rw[e];rfl
   ·left;dsimp only;simp;omega
 rcases this with h | h
 ·exact aQ0 (z7.mpr ⟨m1.1,h⟩)
 ·exact aQ0 (z7.mpr ⟨m1.2,h⟩)
theorem Ah{x:List Nat}{c:Nat}(hx:AllL x)(hc:cR c)(hp:cP x)(h:nS x c=true):cP (x++[c]):=by
 unfold cP at *
 rw[List.reverse_append]
 show PlainR (c::x.reverse)
 cases hq:x.reverse with
 | nil=>trivial
 | cons z r =>
  rw[hq] at hp
  refine⟨?_,hp⟩
  intro e
  have hz:x.getLast?=some z:=by
   rw[List.getLast?_eq_head?_reverse,hq];rfl
  unfold nS at h
  rw[hz] at h
  have h':¬ c=aU z:=by simpa using h
  exact h' (by rw[e,bV hc])
end Lw
namespace L2
open PySem PySem.Spec PyProof.Rows
section
variable {X:Cx}{K:b0}
theorem aO(h:X.K=K):Fz X (HY K):=by subst h;exact DM
theorem cH(h:X.K=K):Fz X (Gs K):=by subst h;exact EE
theorem bB(h:X.K=K):dX X (.builtin "len") (fun xs H Q=>∃ p ys,xs=[.ref p]∧(SqL K H p ys∨SqT K H p ys)∧Q (.int ys.length) H):=by subst h;exact sY
theorem bD(h:X.K=K):dX X (.builtin "isinstance") (Ho K):=by subst h;exact BO
theorem fQ(h:X.K=K):dX X (.type "list") (fun xs H Q=>∃ p ys,xs=[.ref p]∧(SqL K H p ys∨SqT K H p ys)∧∀ l,H l=none→Q (.ref l) (upd H l (.lst ys))):=by subst h;exact sV
theorem cD(h:X.K=K):dX X (.type "tuple") (fun xs H Q=>∃ p ys,xs=[.ref p]∧((SqL K H p ys∧∀ l,H l=none→Q (.ref l) (upd H l (.tup ys)))∨(SqT K H p ys∧Q (.ref p) H))):=by subst h;exact qD
theorem qO(h:X.K=K)(hc:X.calm=true):dX X (.builtin "all") (fun xs H Q=>∃ (a:Addr) (bs:List Bool),xs=[.ref a]∧SqL K H a (bs.map V.bl)∧Q (.bl (bs.all id)) H):=by subst h;exact AT hc
theorem lD(h:X.K=K):A8 X "str.join" (fun x xs H Q=>∃ z a zs,x=.str z∧xs=[.ref a]∧SqL K H a (zs.map V.str)∧(zs.map (·.length)).sum+zs.length * z.length≤16777216∧Q (.str (Txt.join z zs)) H):=by subst h;exact Dq
theorem yQ(h:X.K=K)(hu:X.A.units<cLine):iZ X (compareOp .Eq) (Dk K false):=by subst h;exact EL hu
theorem Dc(h:X.K=K)(hu:X.A.units<cLine):iZ X (compareOp .NotEq) (Dk K true):=by subst h;exact EZ hu
theorem Cu(h:X.K=K):iZ X (compareOp .In) (Ii K false):=by subst h;exact An
theorem Au(h:X.K=K):iZ X (compareOp .NotIn) (Ii K true):=by subst h;exact sB
theorem BT(h:X.K=K):iZ X (binaryOp .Add) (Ep K):=by subst h;exact DR
theorem cG{tg l:Expr}{tl:TE}(h:X.K=K)(hl:PE X l tl):PI X tg l (Eb K tl):=by subst h;exact DG hl
theorem jM{tg l:Expr}{tl:TE}(h:X.K=K)(hl:PE X l tl):PI X tg l (HK K tl):=by subst h;exact EN hl
variable {o e:Expr}{es:List Expr}{to:TE}{t:TA}{name:Str}{apos cpos:Pos}{T id:String}{r:V→List V→Hp→VK→Prop}
theorem dZ(h:X.K=K)(pa:PlainAttrs T)(slot:Slot T name id)(hty:typeOf (.builtin id)=pure (.type "method_descriptor"))(hm:A8 X id r)(ho:PE X o to)
  (hbase:attributeBase o name X.env (eval o X.env)=eval o X.env:=by rfl) (hline:(apos.endLine == cpos.line)=true:=by rfl):PE X (.Call (.Attribute o name apos) [] [] cpos) (GA K T r to):=by subst h;exact Fc pa slot hty hm ho hbase hline
theorem cK(h:X.K=K)(pa:PlainAttrs T)(slot:Slot T name id)(hty:typeOf (.builtin id)=pure (.type "method_descriptor"))(hm:A8 X id r)(ho:PE X o to)(ha:PA X (e::es) t)
  (hbase:attributeBase o name X.env (eval o X.env)=eval o X.env:=by rfl)
  (hfew:((backTo cpos (starEach (e::es) X.env)).all (fun x=>!x.1) && (backToKw cpos (keywordEach [] X.env)).all (fun x=>x.1.isSome)
   && decide ((e::es).length+([]:List Keyword).length+(if ([]:List Keyword).isEmpty then 0 else 1)<30))=true:=by rfl)
  (hline:(apos.endLine == cpos.line)=true:=by rfl) (hs:starEach (e::es) X.env=(false,eval e X.env)::starEach es X.env:=by rfl) (hplain:(backTo cpos (starEach es X.env)).any (·.1)=false:=by rfl) :
  PE X (.Call (.Attribute o name apos) (e::es) [] cpos) (Ji K T r to t):=by subst h;exact GP pa slot hty hm ho ha hbase hfew hline hs hplain
end
section
variable {X:Cx}{scope:Scope}{x:Str}{px pos:Pos}{ix:List Nat}{elt iter:Expr}{ifs:List Expr}{wi:TI}{ti:TT}{te:TE}
theorem cY{sc0:Scope}{N:List Str}(h:lM sc0 scope N x ix=true)(e1:X.env.scope=sc0)(e2:X.N=N)(hc:X.calm=true)(hi:PI X (.Name x px) iter wi)(hif:∀ fp s H,qG (cA X scope x ix fp s H) ifs ti)(he:∀ fp s H,PE (cA X scope x ix fp s H) elt te)
  (hs:∀ z,foldedSetIterable iter X.env z=pure z:=by intro _;rfl):PE X (.ListComp elt [⟨.Name x px,iter,ifs,0⟩] scope pos) (Cz wi ix ti te) :=
 Du (gQ h e1 e2).1 (gQ h e1 e2).2 hc hi hif he hs
theorem hJ{i:Nat}{y:Str}{py spos:Pos}{sc0:Scope}{N:List Str}(hN:X.N.Nodup)(hy:X.N[i]?=some y)(hyl:X.env.scope.names.lookup y=some .local)(h:lM sc0 scope N x ix=true)(e1:X.env.scope=sc0)(e2:X.N=N)(hc:X.calm=true)(hi:PI X (.Name x px) iter wi)
  (hif:∀ fp s H,qG (cA X scope x ix fp s H) ifs ti) (he:∀ fp s H,PE (cA X scope x ix fp s H) elt te)
  (hsw:swapsWith (.ListComp elt [⟨.Name x px,iter,ifs,0⟩] scope pos) (some (.Name y py)) spos.line X.env=pure true:=by rfl)
  (hs:∀ z,foldedSetIterable iter X.env z=pure z:=by intro _;rfl):PS X (.Assign [.Name y py] (.ListComp elt [⟨.Name x px,iter,ifs,0⟩] scope pos) spos) (D7 i wi ix ti te) :=
 DA hN hy hyl (gQ h e1 e2).1 (gQ h e1 e2).2 hc hi hif he hsw hs
end
end L2
namespace Lw
open PySem PySem.Spec PyProof.Rows L2 Ma
def HU(x:List Nat)(k:Nat):Prop:=∃ a b,x[k]?=some a∧x[k+1]?=some b∧a=aU b
theorem rH{x:List Nat}{k:Nat}(h:HU x k):∃ a b,x=x.take k++a::b::x.drop (k+2)∧a=aU b∧k+1<x.length:=by
 obtain⟨a,b,h1,h2,e⟩:=h
 obtain⟨l1,e1⟩:=a8.mp h1
 obtain⟨l2,e2⟩:=a8.mp h2
 refine⟨a,b,?_,e,l2⟩
 have q1:x.drop k=x[k]::x.drop (k+1):=y6 l1
 have q2:x.drop (k+1)=x[k+1]::x.drop (k+1+1):=y6 l2
 rw[e1] at q1
 rw[e2] at q2
 have q3:=aX3 k x
 rw[q1,q2] at q3
 exact q3.symm
theorem Dt{x:List Nat}{k:Nat}(hx:AllL x)(h:HU x k):lay (x.take k++x.drop (k+2))=lay x:=by
 obtain⟨a,b,e,hab,_⟩:=rH h
 have hx':AllL (x.take k++a::b::x.drop (k+2)):=by rw[← e];exact hx
 obtain⟨h1,h2⟩:=AllL.app.mp hx'
 have hb:cR b:=(AllL.cons.mp (AllL.cons.mp h2).2).1
 have:=tJ (x.take k) (x.drop (k+2)) h1 hb hab
 rw[← this,← e]
theorem rP:∀ (k:List Nat),(∀ i a b,k[i]?=some a→k[i+1]?=some b→b≠aU a)→PlainR k
 | [],_=>trivial
 | [_],_=>trivial
 | a::b::r,h=>⟨h 0 a b rfl rfl,rP (b::r) fun i x y h1 h2=>h (i+1) x y (by simpa using h1) (by simpa using h2)⟩
theorem oX{x:List Nat}(h:∀ k,¬ HU x k):cP x:=by
 unfold cP
 refine rP _ fun i a b h1 h2 e=>?_
 have l2:i+1<x.length:=by
  have:=(a8.mp h2).1
  simpa using this
 rw[aQ8 (by omega)] at h1 h2
 refine h (x.length - 1 - (i+1)) ⟨b,a,h2,?_,e⟩
 rw[show x.length - 1 - (i+1)+1=x.length - 1 - i by omega]
 exact h1
theorem jP{n:Int}{c:Nat}(h1:1≤n)(h4:n≤4)(h:c∈aJ n):aU c∈aJ n:=by
 have:n=1∨n=2∨n=3∨n=4:=by omega
 have hL:=aY (bA h)
 rcases this with rfl | rfl | rfl | rfl <;> rcases hL with rfl | rfl | rfl | rfl | rfl | rfl | rfl | rfl <;> revert h <;> decide
theorem Cd{k:List Nat}{c d:Nat}(h:d∈push k c):d∈k∨d=c:=by
 cases k with
 | nil=>right;simpa [push] using h
 | cons x r =>
  unfold push at h
  dsimp only at h
  split at h
  ·left;exact c8 _ h
  ·rcases c4.mp h with q | q
   ·exact .inr q
   ·exact .inl q
theorem zC:∀ {w k:List Nat} {d:Nat},d∈gX k w→d∈k∨d∈w
 | [],_,_,h=>.inl h
 | c::w,k,d,h=>by
  rcases zC (w:=w) (k:=push k c) h with q | q
  ·rcases Cd q with q | q
   ·exact .inl q
   ·exact .inr (by rw[q];exact d8)
  ·exact .inr (c8 _ q)
theorem DC{w:List Nat}{c:Nat}(h:c∈lay w):c∈w:=by
 rcases zC (w:=w) (k:=[]) (aQR.mp h) with q | q
 ·exact nomatch q
 ·exact q
theorem OfN.back{n:Int}{w:List Nat}(h:OfN n w)(h1:1≤n)(h4:n≤4):OfN n (Ma.back w):=fun c hc=>by
 unfold Ma.back at hc
 simp only [aQR,g9] at hc
 obtain⟨a,ha,rfl⟩:=hc
 exact jP h1 h4 (h a ha)
theorem OfN.lay{n:Int}{w:List Nat}(h:OfN n w):OfN n (Ma.lay w):=fun c hc=>h c (DC hc)
theorem OfN.app{n:Int}{u w:List Nat}(h:OfN n u)(h2:OfN n w):OfN n (u++w):=fun c hc=>(i5.mp hc).elim (h c) (h2 c)
theorem OfN.nil{n:Int}:OfN n []:=fun c hc=>nomatch hc
end Lw
namespace LtL
open PySem PyProof.Rows HT
open PySem.SeqAt
open PySem.AutoSeq1 (wpAny_loadPart')
open PySem.MeetsSeq PySem.MeetsSeq2 PySem.MeetsSeq3
theorem tG:∀ {us:List Value} {ns:List Int},IntsAre us ns→∀ i,i<us.length→∃ a t,us[i]?=some (.int a t)∧ns[i]?=some a
 | _,_,.nil,i,h=>by simp at h
 | _,_,.cons a t r,0,_=>⟨a,t,rfl,rfl⟩
 | _,_,.cons a t r,i+1,h=>by
  obtain⟨c,u,h1,h2⟩:=tG r i (by simpa using h)
  exact⟨c,u,by simpa using h1,by simpa using h2⟩
theorem zW{ns:List Int}{i:Nat}{a:Int}(h:ns[i]?=some a):ns.drop i=a::ns.drop (i+1):=by
 obtain⟨hl,e⟩:=a8.mp h
 rw[y6 hl,e]
theorem CU(l b:Addr)(us vs:List Value)(n n2:Nat)(ns ms:List Int)(hi:IntsAre us ns)(hj:IntsAre vs ms)(k:Nat) :
  ∀ i:Nat,us.length - i=k→us.length=vs.length→Meets (Builtin.«list.__eq__.loop» ⟨[.ref l,.ref b,rawInt i,rawInt 0],[]⟩)
   (fun A R s=>s.heap.get? l=some { cls:=.type "list",data:=.seq us.toArray n }∧s.heap.get? b=some { cls:=.type "list",data:=.seq vs.toArray n2 }∧R (.ok (.ret (.bool (lexLt (ns.drop i) (ms.drop i))))) s):=by
 have ln:us.length=ns.length:=hi.length
 have lm:vs.length=ms.length:=hj.length
 induction k with
 | zero =>
  intro i hk hlen prog w A R s h
  obtain⟨hp,g,d,tk,os⟩:=s;obtain⟨hl,hb,h⟩:=h
  wp_walk using wpAny_loadPart' hl,wpAny_loadPart' hb
  have n1:us.toArray[((i:Nat):Int).toNat]?=none:=by simp;omega
  have n2':vs.toArray[((i:Nat):Int).toNat]?=none:=by simp;omega
  rw[n1,n2']
  wp_walk using wpAny_loadPart' hl,wpAny_loadPart' hb
  have d1:ns.drop i=[]:=by simp;omega
  have d2:ms.drop i=[]:=by simp;omega
  rw[d1,d2] at h
  have e:(decide (us.toArray.size<vs.toArray.size))=HT.lexLt [] []:=by rw[b8,b8,hlen];simp[HT.lexLt]
  show R (.ok (.ret (.bool (decide (us.toArray.size<vs.toArray.size))))) _
  rw[e]
  exact h
 | succ k ih =>
  intro i hk hlen prog w A R s h
  obtain⟨hp,g,d,tk,os⟩:=s;obtain⟨hl,hb,h⟩:=h
  obtain⟨a,t,ha,ha'⟩:=tG hi i (by omega)
  obtain⟨c,u,hc,hc'⟩:=tG hj i (by omega)
  have n1:us.toArray[((i:Nat):Int).toNat]?=some (.int a t):=by simpa using ha
  have n2':vs.toArray[((i:Nat):Int).toNat]?=some (.int c u):=by simpa using hc
  rw[zW ha',zW hc',lexLt_cons] at h
  wp_walk using wpAny_loadPart' hl,wpAny_loadPart' hb
  rw[n1,n2']
  have he:=aQV (A:=A.in1) (s:=⟨hp,g,d,tk,os⟩) a t c u
  refine wpAny_bind (he prog w _ _ ?_)
  cases q:(a == c) with
  | true =>
   have q':a=c:=by simpa using q
   rw[if_pos q'] at h
   wp_walk
   refine⟨plainId_quiet plain_eq_loop _,codeAny_builtin entry_eq_loop ?_⟩
   rw[aX5 plain_eq_loop _]
   exact ih (i+1) (by omega) hlen prog w A R _ ⟨hl,hb,h⟩
  | false =>
   have q':¬ a=c:=by simpa using q
   rw[if_neg q'] at h
   have hri:=B5 A.in1 ⟨hp,g,d,tk,os⟩ a t c u prog w
   wp_walk using wpAny_loadPart' hl,wpAny_loadPart' hb
   rw[n1,n2']
   wp_walk using hri
   exact h
theorem list_lt(l b:Addr)(us vs:List Value)(n n2:Nat)(ns ms:List Int)(hi:IntsAre us ns)(hj:IntsAre vs ms)(hlen:us.length=vs.length) :
  Meets (Builtin.«list.__lt__» ⟨[.ref l,.ref b],[]⟩)
   (fun A R s=>s.heap.get? l=some { cls:=.type "list",data:=.seq us.toArray n }∧s.heap.get? b=some { cls:=.type "list",data:=.seq vs.toArray n2 }∧R (.ok (.ret (.bool (lexLt ns ms)))) s):=by
 intro prog w A R s h
 obtain⟨hp,g,d,tk,os⟩:=s;obtain⟨hl,hb,h⟩:=h
 have f3:=AutoSeq1.sub_list_list
 wp_walk using wpAny_loadPart' hl,wpAny_loadPart' hb
 refine⟨plainId_quiet plain_eq_loop _,codeAny_builtin entry_eq_loop ?_⟩
 rw[aX5 plain_eq_loop _]
 exact CU l b us vs n n2 ns ms hi hj _ 0 rfl hlen prog w A R _ ⟨hl,hb,h⟩
end LtL
namespace L2
open PySem PySem.Spec PyProof.Rows
theorem pN:∀ ns:List Int,HT.lexLt ns ns=false
 | []=>rfl
 | n::ns=>by rw[HT.lexLt_cons,if_pos rfl];exact pN ns
theorem oV:∀ (a b:List Int),fR (a.map V.int) (b.map V.int)=decide (a=b)
 | [],[]=>by simp[fR]
 | [],_::_=>by simp[fR]
 | _::_,[]=>by simp[fR]
 | x::xs,y::ys=>by
  have e:lY (V.int x) (V.int y)=decide (x=y):=by
   unfold lY;by_cases h:x=y <;> simp[h]
  rw[d3,d3]
  unfold fR
  rw[oV xs ys,e]
  by_cases h:x=y <;> by_cases h2:xs=ys <;> simp[h,h2]
section
variable {X:Cx}
theorem uZ(hc:X.calm=true):A8 X "str.index" (fun x xs H Q=>∃ z y,x=.str z∧xs=[.str y]∧(Builtin.Str.occurrences z y 0 z.length 1).isEmpty=false∧Q (.int (Txt.find z y)) H):=by
 intro pins s σ H x xs v us Q I rx rs h
 obtain⟨z,y,rfl,rfl,ho,q⟩:=h
 obtain⟨t,rfl⟩:=rx
 obtain⟨u,rfl,ru⟩:=rs.one
 obtain⟨t',rfl⟩:=ru
 exact index_or (I.ok.hd hc) (fun _ e=>by rw[e] at ho;cases ho) fun _ _=>⟨.int _,H,I.tok _,⟨_,rfl⟩,q⟩
theorem oT:iZ X (binaryOp .Mult) (fun x y H Q=>∃ z n,x=.str z∧y=.int n∧MulOk z n∧Q (.str (Txt.mul z n)) H):=by
 intro pins s σ H x y v u Q I rx ry h
 obtain⟨z,n,rfl,rfl,hok,q⟩:=h
 obtain⟨t,rfl⟩:=rx
 obtain⟨t',rfl⟩:=ry
 exact SB.mul hok fun t' k=>⟨.str _,H,I.tok _,⟨t',rfl⟩,q⟩
end
end L2
namespace MaR
end MaR
namespace Lw
open PySem PySem.Spec PyProof.Rows L2 Ma MaR
def rk(c:Nat):Nat:=if 96<c then 2 * (c - 97) else 2 * (c - 65)+1
theorem E8{a b:Nat}(ha:cR a)(hb:cR b)(h:rk a=rk b):a=b:=by unfold rk at h;unfold cR at *;split at h <;> split at h <;> omega
def rks(x:List Nat):List Int:=x.map fun c=>((rk c:Nat):Int)
theorem nV(x:List Nat):(rks x).length=x.length:=by unfold rks;rw[b7]
theorem Eg{c:Nat}(h:cR c):(Builtin.Str.occurrences (Str.ofString "aAbBcCdD") (S [c]) 0 (Str.ofString "aAbBcCdD").length 1).isEmpty=false∧Txt.find (Str.ofString "aAbBcCdD") (S [c])=((rk c:Nat):Int):=by
 rcases aY h with rfl | rfl | rfl | rfl | rfl | rfl | rfl | rfl <;> exact⟨by decide +kernel,by decide +kernel⟩
def Cq:Sp:=fun vs H Q _=>∃ x:List Nat,vs=[.str (S x)]∧AllL x∧x.length≤900∧∀ (p a:Addr) (H':Hp),H p=none→H a=none→Same H H'→H' p=some (.tup [.int (x.length:Nat),.ref a])→H' a=some (.lst ((rks x).map V.int))→Q (.ref p) H'
theorem EB(w:List Nat)(n:Nat)(h1:1≤n)(h2:n≤10)(hw:w.length≤100):MulOk (S w) (n:Int):=by
 refine⟨?_,fun _ _=>?_,fun _ _=>?_⟩
 ·have e1:decide ((n:Int) < -(2 ^ 63:Int))=false:=decide_eq_false (by omega)
  have e2:decide ((n:Int) ≥ 2 ^ 63)=false:=decide_eq_false (by omega)
  rw[e1,e2];rfl
 ·rw[cC]
  have:(n=1∨n=2∨n=3∨n=4∨n=5∨n=6∨n=7∨n=8∨n=9∨n=10):=by omega
  rcases this with rfl | rfl | rfl | rfl | rfl | rfl | rfl | rfl | rfl | rfl <;> omega
 ·rw[cC,show ((n:Nat):Int).toNat=n by omega]
  have h9:w.length * n≤1000:=j0 (aQX hw h2) (by decide)
  unfold Builtin.Str.tooLong
  have h10:(1000:Nat)≤sizeLine:=aK (by decide)
  exact decide_eq_false (by omega)
end Lw
namespace L2
open PySem PySem.Spec PyProof.Rows
section
variable {X:Cx}{e:Expr}{te:TE}{lo hi:Option Expr}{stp:Expr}{tl th tk:TO}{pos p2:Pos}
def Hr(X:Cx)(r:V→Option Int→Option Int→Option Int→Hp→VK→Prop):Prop :=
 ∀ (pins:List (Addr×Obj)) (s:Shared) (σ:St) (H:Hp) (x:V) (v vl vu vk:Value) (lo hi st:Option Int) (sl:Addr) (Q:VK),Inv X pins σ H s→RelV x v→s.heap.IsSliceOf sl vl vu vk→IsPart vl lo→IsPart vu hi→IsPart vk st→r x lo hi st H Q →
  ∃ T id,typeLookup (.type T) "__getitem__"=pure (some (.builtin id))∧s.TypeIs v T∧wpAny (model X.prog X.w) X.A (getItem v (.ref sl)) (EP X pins σ Q) X.xe s
def IP(r:V→Option Int→Option Int→Option Int→Hp→VK→Prop)(te:TE)(tl th tk:TO):TE:=fun σ H Q=>te σ H fun x H1=>tl σ H1 fun l H2=>th σ H2 fun u H3=>tk σ H3 fun k H4=>r x l u k H4 Q
theorem AG{r:V→Option Int→Option Int→Option Int→Hp→VK→Prop}(hr:Hr X r)(he:PE X e te)(hl:PO X lo tl)(hu:PO X hi th)(hk:PO X (some stp) tk):PE X (.Subscript e (.Slice lo hi (some stp) p2) pos) (IP r te tl th tk):=by
 intro pins s σ H Q I h
 refine Subscript_ (bP (he pins s σ H _ I h) fun v s1 ⟨x,H1,I1,r1,q1⟩=>?_)
 refine wpAny_Slice (bP (hl pins s1 σ H1 _ I1 q1) fun vl s2 ⟨l,H2,I2,pl,q2⟩=>bP (hu pins s2 σ H2 _ I2 q2) fun vu s3 ⟨u,H3,I3,pu,q3⟩=>bP (hk pins s3 σ H3 _ I3 q3) fun vk s4 ⟨k,H4,I4,pk,q4⟩=>?_)
 have I5:Inv X pins σ H4 { s4 with heap:=s4.heap.push { cls:=.type "slice",data:=.fields #[vl,vu,vk] } }:=I4.kept (t':=s4.toks) fun b ob q=>c0 _ q
 obtain⟨T,id,hT,ht,hg⟩:=hr pins { s4 with heap:=s4.heap.push { cls:=.type "slice",data:=.fields #[vl,vu,vk] } } σ H4 x v vl vu vk l u k s4.heap.objs.size Q I5 r1 (aXm ..) pl pu pk q4
 show wpAny (model X.prog X.w) X.A (subscriptTail e (.Slice lo hi (some stp) p2) v (.ref s4.heap.objs.size)) (EP X pins σ Q) X.xe { s4 with heap:=s4.heap.push { cls:=.type "slice",data:=.fields #[vl,vu,vk] } }
 exact tail_any (ops:=[v,.ref s4.heap.objs.size]) ht hT hg rfl
end
abbrev Cx.one(X:Cx):Cx:={ X with A:=X.A.in1,xe:=fun _ _=>False }
theorem Cx.Ok.one{X:Cx}(o:X.Ok):X.one.Ok :=
 ⟨o.mod,o.kind,o.glob,o.blt,o.above,o.inj,o.has,o.cab,o.hd,o.frames,o.stk,o.exf,o.bs,o.bsz,o.noex,o.exfs,o.funs,o.frf⟩
section
variable {X:Cx}{pins:List (Addr×Obj)}{σ:St}{H:Hp}{s:Shared}
theorem Inv.one(I:Inv X pins σ H s):Inv X.one pins σ H s:=⟨I.ok.one,I.os,I.bare,I.base,I.loc,I.cell,I.free,I.freeC,I.pin,I.hok,I.len⟩
theorem Inv.unone(o:X.Ok)(I:Inv X.one pins σ H s):Inv X pins σ H s:=⟨o,I.os,I.bare,I.base,I.loc,I.cell,I.free,I.freeC,I.pin,I.hok,I.len⟩
end
end L2
namespace Lw
open PySem PySem.Spec PyProof.Rows L2 Ma MaR
theorem zE(u v w:List Nat)(hu:AllL u)(hv:AllL v)(hw:AllL w):lay (u++lay v++w)=lay (u++v++w):=by
 rw[← fT (u++lay v) w (AllL.app.mpr ⟨hu,iJ hv⟩),eW u v hu hv,fT (u++v) w (AllL.app.mpr ⟨hu,hv⟩)]
def lo(c:Nat):Nat:=if 96<c then c else c+32
theorem AW{c:Nat}(h:cR c):Unicode.lowerOf c=[lo c]:=by
 rcases aY h with rfl | rfl | rfl | rfl | rfl | rfl | rfl | rfl <;> decide +kernel
theorem Af{w:List Nat}{i c:Nat}(h:cR c)(e:w[i]?=some c):Unicode.lowerAt w.toArray i=[lo c]:=by
 unfold Unicode.lowerAt
 have e2:w.toArray[i]?=some c:=by simpa using e
 rw[e2]
 have e3:((c == 0x3A3 && Unicode.endsWord w.toArray i))=false:=by
  have:(c == 0x3A3)=false:=by unfold cR at h;simp;omega
  rw[this];rfl
 simp only [e3]
 exact AW h
theorem AS{α:Type}(f:Nat→α)(w:List Nat):(w.map fun c=>[f c]).flatten=w.map f:=by
 induction w with
 | nil=>rfl
 | cons a w ih=>rw[d3,aQY,ih];rfl
theorem gU{w:List Nat}(h:AllL w):Txt.lower (S w)=S (w.map lo):=by
 unfold Txt.lower placed
 show Str.mk _=Str.mk _
 congr 1
 apply aZT.mp
 rw[Array.toList_flatten,Array.toList_mapIdx]
 have e:(List.mapIdx (fun i c=>(Unicode.lowerAt (S w).cps i).toArray) (S w).cps.toList)=w.map fun c=>#[lo c]:=by
  refine aQx fun i=>?_
  have e1:(S w).cps.toList=w:=by simp
  have e2:(S w).cps=w.toArray:=rfl
  rw[e1,e2,List.getElem?_mapIdx,c5]
  cases hq:w[i]? with
  | none=>rfl
  | some c =>
   show some _=some _
   rw[Af (h c (b6 hq)) hq]
 rw[e,t4]
 show (w.map fun c=>[lo c]).flatten=w.map lo
 exact AS lo w
theorem mD(w:List Nat)(h:AllL w)(hl:w.length≤1000):Builtin.Str.tooLong (Txt.lower (S w)).length=false:=by
 rw[gU h,cC,b7]
 unfold Builtin.Str.tooLong
 have h10:(1000:Nat)≤sizeLine:=aK (by decide)
 exact decide_eq_false (by omega)
theorem BW{c:Nat}(h:cR c):c∈lets:=by rcases aY h with rfl | rfl | rfl | rfl | rfl | rfl | rfl | rfl <;> decide
end Lw
namespace PySem
open Sem (wp)
end PySem
namespace L2
open PySem PySem.Spec PyProof.Rows
section
variable {X:Cx}{pins:List (Addr×Obj)}{σ:St}{H:Hp}{s:Shared}{h':Heap}
theorem Inv.turnedN{t':Nat}{ch:List Addr}{a:Addr}{xs:List V}(I:Inv X pins σ H s)(k:∀ b o,b ∉ ch→s.heap.get? b=some o→h'.get? b=some o)(hf:∀ b∈ch,gB X pins H b)(ha:s.heap.objs.size≤a)
  (new:ObjOk X.prog X.w (upd H a (.tup xs)) h' a (.tup xs)):Inv X pins σ (upd H a (.tup xs)) { s with heap:=h',toks:=t' }:=by
 have hn:H a=none:=I.hok.fresh ha
 have un:∀ {b u},H b=some u→upd H a (.tup xs) b=some u:=fun e=>by rw[aE (aI e hn)];exact e
 have nch:∀ {b u},H b=some u→b ∉ ch:=fun e hb=>by rw[(hf _ hb).1] at e;cases e
 refine I.step (g':=s.gens) (d':=s.drawn) (ch:=ch) (fun b hb=>?_) (fun b o _ _ hc e _=>k b o hc e) (fun b o _ _ hc e _=>⟨o.slots,k b o hc e⟩) (fun b o _ e n=>?_) (fun b o hc e=>⟨o,k b o hc e⟩) (fun _ _ e=>un e) (fun _ _ _ e=>un e)
  (fun b ps e=>⟨#[],by rw[un e];simp⟩) (fun m hm=>?_) (fun b u e=>?_) I.bare
 ·obtain⟨f0,f1,f2,f3,f4,f5⟩:=hf b hb
  exact⟨f3,f1,f4,f5⟩
 ·rw[aE (d5 (j8 (c7 e) ha))]
  exact n
 ·obtain⟨o,es,ep,ho,r⟩:=hm
  exact⟨o,es,ep,k _ o (fun hb=>(hf _ hb).2.1 rfl) ho,r⟩
 ·by_cases hb:b=a
  ·subst hb
   rw[aC] at e
   cases e
   exact new
  ·rw[aE hb] at e
   refine(I.hok b u e).stay (fun c v hc q=>k c v ?_ q) (fun c q=>un q) fun c ys q=>un q
   rcases hc with z | z
   ·rw[z];exact nch e
   ·exact nch z
theorem Inv.turnedM{t':Nat}{ch:List Addr}(I:Inv X pins σ H s)(k:∀ b o,b ∉ ch→s.heap.get? b=some o→h'.get? b=some o)(hf:∀ b∈ch,gB X pins H b):Inv X pins σ H { s with heap:=h',toks:=t' }:=by
 have nch:∀ {b u},H b=some u→b ∉ ch:=fun e hb=>by rw[(hf _ hb).1] at e;cases e
 refine I.step (g':=s.gens) (d':=s.drawn) (ch:=ch) (fun b hb=>?_) (fun b o _ _ hc e _=>k b o hc e) (fun b o _ _ hc e _=>⟨o.slots,k b o hc e⟩) (fun b o _ e n=>n) (fun b o hc e=>⟨o,k b o hc e⟩) (fun _ _ e=>e) (fun _ _ _ e=>e)
  (fun b ps e=>⟨#[],by rw[e];simp⟩) (fun m hm=>?_) (fun b u e=>?_) I.bare
 ·obtain⟨f0,f1,f2,f3,f4,f5⟩:=hf b hb
  exact⟨f3,f1,f4,f5⟩
 ·obtain⟨o,es,ep,ho,r⟩:=hm
  exact⟨o,es,ep,k _ o (fun hb=>(hf _ hb).2.1 rfl) ho,r⟩
 ·refine(I.hok b u e).stay (fun c v hc q=>k c v ?_ q) (fun c q=>q) fun c ys q=>q
  rcases hc with z | z
  ·rw[z];exact nch e
  ·exact nch z
end
section
variable {κ:Type}[DecidableEq κ]
def cO(kvs:List (κ×V))(k:κ):Option V:=(kvs.find? fun kv=>decide (kv.1=k)).map (·.2)
def dF(kvs:List (κ×V))(k:κ)(v:V):List (κ×V) :=
 if (kvs.any fun kv=>decide (kv.1=k))=true then kvs.map (fun kv=>if kv.1=k then (kv.1,v) else kv) else kvs++[(k,v)]
theorem dA{p:κ×V}{r:List (κ×V)}{k:κ}(e:p.1=k):cO (p::r) k=some p.2:=by simp[cO,aQC,e]
theorem cZ{p:κ×V}{r:List (κ×V)}{k:κ}(e:¬ p.1=k):cO (p::r) k=cO r k:=by simp[cO,aQC,e]
theorem jG(k:κ):∀ kvs:List (κ×V),(kvs.any fun kv=>decide (kv.1=k))=(cO kvs k).isSome
 | []=>rfl
 | p::r=>by
  rw[aQ3]
  by_cases e:p.1=k
  ·simp only [dA e,decide_eq_true e,Bool.true_or,Option.isSome_some]
  ·rw[cZ e,decide_eq_false e,Bool.false_or];exact jG k r
theorem vB(k j:κ)(y:V):∀ kvs:List (κ×V),cO (kvs.map fun kv=>if kv.1=k then (kv.1,y) else kv) j=(cO kvs j).map fun x=>if j=k then y else x
 | []=>rfl
 | p::r=>by
  have ih:=vB k j y r
  rw[d3]
  by_cases h:p.1=k
  ·rw[if_pos h]
   by_cases e:p.1=j
   ·rw[dA (p:=(p.1,y)) e,dA e,y0,if_pos (e.symm.trans h)]
   ·rw[cZ (p:=(p.1,y)) e,cZ e,ih]
  ·rw[if_neg h]
   by_cases e:p.1=j
   ·rw[dA (p:=p) e,dA e,y0,if_neg (fun z=>h (e.trans z))]
   ·rw[cZ (p:=p) e,cZ e,ih]
theorem rD(k j:κ)(y:V):∀ kvs:List (κ×V),cO kvs k=none→cO (kvs++[(k,y)]) j=if j=k then some y else cO kvs j
 | [],_=>by
  by_cases e:k=j
  ·rw[if_pos e.symm];exact dA (p:=(k,y)) e
  ·rw[if_neg (fun z=>e z.symm)];exact cZ (p:=(k,y)) e
 | p::r,hn=>by
  rw[List.cons_append]
  have hk:¬ p.1=k:=fun z=>by rw[dA z] at hn;cases hn
  rw[cZ hk] at hn
  have ih:=rD k j y r hn
  by_cases e:p.1=j
  ·rw[dA e,dA e,if_neg (fun z=>hk (e.trans z))]
  ·rw[cZ e,cZ e,ih]
theorem CP(kvs:List (κ×V))(k j:κ)(y:V):cO (dF kvs k y) j=if j=k then some y else cO kvs j:=by
 unfold dF
 by_cases a:(kvs.any fun kv=>decide (kv.1=k))=true
 ·rw[if_pos a,vB]
  rw[jG] at a
  by_cases e:j=k
  ·obtain⟨x,hx⟩:=y7.mp a
   rw[if_pos e,e,hx,y0,if_pos rfl]
  ·rw[if_neg e]
   cases cO kvs j with
   | none=>rfl
   | some x=>rw[y0,if_neg e]
 ·rw[if_neg a]
  refine rD k j y kvs ?_
  rw[jG] at a
  cases q:cO kvs k with
  | none=>rfl
  | some x=>rw[q] at a;exact(a rfl).elim
theorem dC(kvs:List (κ×V))(k:κ)(v:V):(dF kvs k v).length≤kvs.length+1:=by
 unfold dF
 split
 ·rw[b7];omega
 ·rw[b9,j1,aZ1];omega
theorem tV{kvs:List (κ×V)}{k:κ}(v:V)(h:cO kvs k=none):dF kvs k v=kvs++[(k,v)]:=by
 unfold dF
 rw[jG,h]
 exact if_neg (by decide)
theorem RelO.isSome_eq{o:Option V}{u:Option Value}(r:RelO o u):o.isSome=u.isSome:=by
 cases o with
 | none=>cases u with
  | none=>rfl
  | some _=>exact(show False from r).elim
 | some _=>cases u with
  | none=>exact(show False from r).elim
  | some _=>rfl
theorem RelO.getD{o:Option V}{u:Option Value}{d:V}{d':Value}(r:RelO o u)(rd:RelV d d'):RelV (o.getD d) (u.getD d'):=by
 cases o with
 | none=>cases u with
  | none=>exact rd
  | some _=>exact(show False from r).elim
 | some _=>cases u with
  | none=>exact(show False from r).elim
  | some _=>exact r
theorem KV.val{kvs:List (κ×V)}{vs:List (κ×Value)}(r:KV kvs vs)(k:κ):RelO (cO kvs k) (valueAt vs k):=by
 unfold KV at r
 induction r with
 | nil=>exact True.intro
 | @cons p q ps qs h t ih =>
  obtain⟨h1,h2⟩:=h
  by_cases e:p.1=k
  ·have e':q.1=k:=h1.symm.trans e
   have b:valueAt (q::qs) k=some q.2:=by simp[valueAt,aQC,e']
   rw[dA e,b];exact h2
  ·have e':¬ q.1=k:=fun z=>e (h1.trans z)
   have b:valueAt (q::qs) k=valueAt qs k:=by simp[valueAt,aQC,e']
   rw[cZ e,b];exact ih
theorem KV.any{kvs:List (κ×V)}{vs:List (κ×Value)}(r:KV kvs vs)(k:κ):(kvs.any fun kv=>decide (kv.1=k))=vs.any fun kv=>decide (kv.1=k):=by
 unfold KV at r
 induction r with
 | nil=>rfl
 | cons h t ih=>rw[aQ3,aQ3,ih,h.1]
theorem KV.repl{kvs:List (κ×V)}{vs:List (κ×Value)}(r:KV kvs vs)(k:κ){y:V}{u:Value}(ry:RelV y u) :
  KV (kvs.map fun kv=>if kv.1=k then (kv.1,y) else kv) (vs.map fun kv=>if kv.1=k then (kv.1,u) else kv):=by
 unfold KV at r ⊢
 induction r with
 | nil=>exact .nil
 | @cons p q ps qs h t ih =>
  rw[d3,d3]
  refine .cons ?_ ih
  obtain⟨h1,h2⟩:=h
  by_cases e:p.1=k
  ·rw[if_pos e,if_pos (h1.symm.trans e)];exact⟨h1,ry⟩
  ·rw[if_neg e,if_neg (fun z=>e (h1.trans z))];exact⟨h1,h2⟩
theorem KV.put{kvs:List (κ×V)}{vs:List (κ×Value)}(r:KV kvs vs)(k:κ){y:V}{u:Value}(ry:RelV y u):KV (dF kvs k y) (stored vs k u):=by
 unfold dF stored
 rw[r.any k]
 by_cases e:(vs.any fun kv=>decide (kv.1=k))=true
 ·rw[if_pos e,if_pos e];exact r.repl k ry
 ·rw[if_neg e,if_neg e];exact aZK r ⟨rfl,ry⟩
theorem KV.length{kvs:List (κ×V)}{vs:List (κ×Value)}(r:KV kvs vs):kvs.length=vs.length:=z5 r
end
theorem mU{P:Program}{w:World}{k:cI}{u:Value}(r:RelV (kV k) u):(bJ P w).is k u=true:=by
 cases k with
 | inl i=>obtain⟨t,e⟩:=(show ∃ t,u=Value.int i t from r);subst e;exact wC P w i t
 | inr x=>obtain⟨t,e⟩:=(show ∃ t,u=Value.str x t from r);subst e;exact uV P w x t
theorem rT{P:Program}{w:World}:∀ {ks:List cI} {us:List Value},Vals (ks.map kV) us→ItemsAre (bJ P w) ks us
 | [],_,r=>by rw[aQU] at r;cases r;exact .nil
 | k::ks,_,r=>by
  rw[d3] at r
  cases r with
  | cons h t=>exact .cons (mU h) (rT t)
abbrev KT(H:Hp):List (List cI×V)→List (List cI×Addr×Value)→Prop:=Paired fun p q=>p.1=q.1∧H q.2.1=some (.tup (p.1.map kV))∧RelV p.2 q.2.2
theorem KT.val{H:Hp}{kvs:List (List cI×V)}{xs:List (List cI×Addr×Value)}(r:KT H kvs xs)(k:List cI):RelO (cO kvs k) ((atKey xs k).map (·.2)):=by
 induction r with
 | nil=>exact True.intro
 | @cons p q ps qs h t ih =>
  obtain⟨h1,_,h2⟩:=h
  by_cases e:p.1=k
  ·have e':q.1=k:=h1.symm.trans e
   have b:atKey (q::qs) k=some q.2:=by simp[atKey,aQC,e']
   rw[dA e,b];exact h2
  ·have e':¬ q.1=k:=fun z=>e (h1.trans z)
   have b:atKey (q::qs) k=atKey qs k:=by simp[atKey,aQC,e']
   rw[cZ e,b];exact ih
theorem KT.repl{H:Hp}{kvs:List (List cI×V)}{xs:List (List cI×Addr×Value)}(r:KT H kvs xs)(k:List cI){y:V}{u:Value}(ry:RelV y u) :
  KT H (kvs.map fun kv=>if kv.1=k then (kv.1,y) else kv) (xs.map (putAt k u)):=by
 induction r with
 | nil=>exact .nil
 | @cons p q ps qs h t ih =>
  rw[d3,d3]
  refine .cons ?_ ih
  obtain⟨h1,h2,h3⟩:=h
  unfold putAt
  by_cases e:p.1=k
  ·rw[if_pos e,if_pos (h1.symm.trans e)];exact⟨h1,h2,ry⟩
  ·rw[if_neg e,if_neg (fun z=>e (h1.trans z))];exact⟨h1,h2,h3⟩
theorem KT.put{H:Hp}{kvs:List (List cI×V)}{xs:List (List cI×Addr×Value)}(r:KT H kvs xs)(k:List cI){b:Addr}{y:V}{u:Value}(hb:H b=some (.tup (k.map kV)))(ry:RelV y u) :
  KT H (dF kvs k y) (storedH xs k b u):=by
 have e:(kvs.any fun kv=>decide (kv.1=k))=(atKey xs k).isSome:=by
  rw[jG,(r.val k).isSome_eq,aZC]
 unfold dF storedH
 rw[e]
 by_cases q:(atKey xs k).isSome=true
 ·rw[if_pos q,if_pos q];exact r.repl k ry
 ·rw[if_neg q,if_neg q];exact aZK r ⟨rfl,hb,ry⟩
theorem KT.keeps{H H':Hp}{kvs:List (List cI×V)}{xs:List (List cI×Addr×Value)}(r:KT H kvs xs)(ht:∀ b ys,H b=some (.tup ys)→H' b=some (.tup ys)):KT H' kvs xs :=
 Paired.mapP r fun _ _ z=>⟨z.1,ht _ _ z.2.1,z.2.2⟩
section
variable {P:Program}{w:World}{H:Hp}{h:Heap}{a:Addr}
theorem En{u:HO}(ok:HOk P w H h)(e:Rd H a u):ObjOk P w H h a u:=e.ok ok
theorem pV{kvs:List (cI×V)}(ok:HOk P w H h)(e:Rd H a (.dK kvs)):kvs.length≤sizeLine∧(a == sysModules)=false∧∃ vs,KV kvs vs∧h.DictOf (bJ P w) a vs :=
 show ObjOk P w H h a (.dK kvs) from En ok e
theorem vO{kvs:List (cI×V)}(ok:HOk P w H h)(e:H a=some (.dK kvs)):kvs.length≤sizeLine∧(a == sysModules)=false∧∃ vs,KV kvs vs∧h.DictOf (bJ P w) a vs:=pV ok (.inl e)
theorem kF{ks:List cI}(ok:HOk P w H h)(e:H a=some (.tup (ks.map kV))):(tupleKind (bJ P w)).is h ks a:=by
 obtain⟨_,its,r,⟨o,h1,h2,n,h3⟩,_⟩:=(show ObjOk P w H h a (.tup (ks.map kV)) from ok a _ e)
 exact⟨o,its.toArray,n,h1,h2,h3,by simpa using rT r⟩
theorem pY{kvs:List (List cI×V)}(ok:HOk P w H h)(e:Rd H a (.dT kvs)):kvs.length≤sizeLine∧(a == sysModules)=false ∧
  ∃ xs,KT H kvs xs∧h.DictOfH (tupleKind (bJ P w)) a xs:=by
 obtain⟨z,y,xs,r,o,es,ep,h1,h2,h3,h4,h5⟩:=(show ObjOk P w H h a (.dT kvs) from En ok e)
 refine⟨z,y,xs,r,o,es,ep,h1,h2,h3,h4,fun x hx=>?_,h5⟩
 have all:∀ {l:List (List cI×V)} {m:List (List cI×Addr×Value)},KT H l m→∀ x∈m,(tupleKind (bJ P w)).is h x.1 x.2.1:=by
  intro l m q
  induction q with
  | nil=>intro x hx;exact nomatch hx
  | @cons p q ps qs hq t ih =>
   intro x hx
   rcases c4.mp hx with e | hx
   ·subst e
    exact kF ok (by rw[← hq.1];exact hq.2.1)
   ·exact ih x hx
 exact all r x hx
theorem Ea{kvs:List (List cI×V)}(ok:HOk P w H h)(e:H a=some (.dT kvs)):kvs.length≤sizeLine∧(a == sysModules)=false ∧
  ∃ xs,KT H kvs xs∧h.DictOfH (tupleKind (bJ P w)) a xs:=pY ok (.inl e)
end
def DGet(H:Hp)(a:Addr)(y:V)(r:Option V):Prop :=
 (∃ kvs k,Rd H a (.dK kvs)∧y=kV k∧r=cO kvs k)∨∃ kvs k b,Rd H a (.dT kvs)∧y=.ref b∧H b=some (.tup (k.map kV))∧r=cO kvs k
def DPut(H:Hp)(a:Addr)(y v:V)(H':Hp):Prop :=
 (∃ kvs k,H a=some (.dK kvs)∧y=kV k∧kvs.length<sizeLine∧H'=upd H a (.dK (dF kvs k v))) ∨
 ∃ kvs k b,H a=some (.dT kvs)∧y=.ref b∧H b=some (.tup (k.map kV))∧kvs.length<sizeLine∧H'=upd H a (.dT (dF kvs k v))
theorem DGet.k{H:Hp}{a:Addr}{kvs:List (cI×V)}{k:cI}(e:H a=some (.dK kvs)):DGet H a (kV k) (cO kvs k):=.inl ⟨kvs,k,.inl e,rfl,rfl⟩
theorem DGet.t{H:Hp}{a b:Addr}{kvs:List (List cI×V)}{k:List cI}(e:H a=some (.dT kvs))(eb:H b=some (.tup (k.map kV))):DGet H a (.ref b) (cO kvs k):=.inr ⟨kvs,k,b,.inl e,rfl,eb,rfl⟩
theorem DPut.k{H:Hp}{a:Addr}{kvs:List (cI×V)}{k:cI}{v:V}(e:H a=some (.dK kvs))(hl:kvs.length<sizeLine):DPut H a (kV k) v (upd H a (.dK (dF kvs k v))):=.inl ⟨kvs,k,e,rfl,hl,rfl⟩
theorem DPut.t{H:Hp}{a b:Addr}{kvs:List (List cI×V)}{k:List cI}{v:V}(e:H a=some (.dT kvs))(eb:H b=some (.tup (k.map kV)))(hl:kvs.length<sizeLine) :
  DPut H a (.ref b) v (upd H a (.dT (dF kvs k v))):=.inr ⟨kvs,k,b,e,rfl,eb,hl,rfl⟩
section
variable {X:Cx}{pins:List (Addr×Obj)}{σ:St}{H:Hp}{s:Shared}{a:Addr}{y v:V}{u r:Value}{o:Option V}{A:Around}{E:Value→Shared→Prop}
theorem Inv.big(I:Inv X pins σ H s):sysModules<s.heap.objs.size:=by
 have h:mainGlobals<s.heap.objs.size:=(I.mod.glob.keeps I.bk).lt
 exact Nat.lt_trans (by decide) h
theorem AJ{Q:Value→Shared→Prop}(hu:A.units+1<cLine)(I:Inv X pins σ H s)(g:DGet H a y (some v))(ry:RelV y u)(h:∀ w' s',Inv X pins σ H s'→RelV v w'→Q w' s') :
  wpAny (model X.prog X.w) A (getItem (.ref a) u) Q E s:=by
 rcases g with ⟨kvs,k,e,ey,l⟩ | ⟨kvs,k,b,e,ey,eb,l⟩
 ·subst ey
  obtain⟨z,hd,vs,rel,dd⟩:=pV I.hok e
  obtain⟨w',hw,rw'⟩:=RelO.some_of (v:=v) (o:=valueAt vs k) (by rw[l];exact rel.val k)
  exact wpAny_getItem_of (mU ry) dd.mapOf hw (h w' _ (I.tok _) rw')
 ·subst ey
  cases (show u=Value.ref b from ry)
  obtain⟨z,hd,xs,rel,dd⟩:=pY I.hok e
  obtain⟨w',hw,rw'⟩:=RelO.some_of (v:=v) (o:=(atKey xs k).map (·.2)) (by rw[l];exact rel.val k)
  obtain⟨p,hp,hp2⟩:=i8.mp hw
  refine wpAny_getItem_heap (tupleKind_room_in1 hu) (kF I.hok eb) dd hp ?_
  rw[hp2]
  exact h w' _ (I.tok _) rw'
theorem Dh{Q:Value→Shared→Prop}(hu:A.units+1<cLine)(I:Inv X pins σ H s)(g:DGet H a y o)(ry:RelV y u)(h:∀ s',Inv X pins σ H s'→Q (.bool (!o.isSome)) s') :
  wpAny (model X.prog X.w) A (compareOp .NotIn u (.ref a)) Q E s:=by
 rcases g with ⟨kvs,k,e,ey,l⟩ | ⟨kvs,k,b,e,ey,eb,l⟩
 ·subst ey
  obtain⟨z,hd,vs,rel,dd⟩:=pV I.hok e
  refine wpAny_notIn_of (mU ry) hd dd.mapOf ?_
  rw[← (rel.val k).isSome_eq,← l]
  exact h _ (I.tok _)
 ·subst ey
  cases (show u=Value.ref b from ry)
  obtain⟨z,hd,xs,rel,dd⟩:=pY I.hok e
  refine wpAny_notIn_heap (tupleKind_room_in1 hu) (kF I.hok eb) hd dd ?_
  have q:=(rel.val k).isSome_eq
  rw[aZC] at q
  rw[← q,← l]
  exact h _ (I.tok _)
theorem lE{h':Heap}{t':Nat}{ob:HO}(I:Inv X pins σ H s)(mu:GD (H a))(hs:Heap.SameBut a s.heap h')(he:∃ q,h'.get? a=some q)(new:ObjOk X.prog X.w (upd H a ob) h' a ob) :
  Inv X pins σ (upd H a ob) { s with heap:=h',toks:=t' } :=
 I.write (x:=a) (e:=a) mu (.inl rfl) (fun b q hb z=>(hs.2 b hb).trans z) he new
theorem wK{P:Program}{w:World}{H':Hp}{h':Heap}{kvs:List (cI×V)}{vs:List (cI×Value)}(z:kvs.length≤sizeLine)(hd:(a == sysModules)=false)(rel:KV kvs vs)(dd:h'.DictOf (bJ P w) a vs) :
  ObjOk P w H' h' a (.dK kvs):=⟨z,hd,vs,rel,dd⟩
theorem AO{H':Hp}{Q:Unit→Shared→Prop}(hu:A.units+1<cLine)(I:Inv X pins σ H s)(g:DPut H a y v H')(ry:RelV y u)(rv:RelV v r)(h:∀ s',Inv X pins σ H' s'→Q () s') :
  wpAny (model X.prog X.w) A (setItem (.ref a) u r) Q E s:=by
 rcases g with ⟨kvs,k,e,ey,l,eH⟩ | ⟨kvs,k,b,e,ey,eb,l,eH⟩
 ·subst ey eH
  obtain⟨z,hd,vs,rel,dd⟩:=vO I.hok e
  have hz:vs.length≤sizeLine:=by rw[← rel.length];exact z
  have hl:(dF kvs k v).length≤sizeLine:=by have:=dC kvs k v;omega
  refine wpAny_setItem_pairs (hsz:=hz) (mU ry) dd fun h' dd' hs=>h _ ?_
  have he:∃ q,h'.get? a=some q:=let ⟨q,_,_,hq,_⟩:=dd';⟨q,hq⟩
  exact lE I (by rw[e];exact True.intro) hs he (wK hl hd (rel.put k rv) dd')
 ·subst ey eH
  cases (show u=Value.ref b from ry)
  obtain⟨z,hd,xs,rel,dd⟩:=Ea I.hok e
  have hz:xs.length≤sizeLine:=by rw[← z5 rel];exact z
  have hl:(dF kvs k v).length≤sizeLine:=by have:=dC kvs k v;omega
  refine wpAny_setItem_heap (hsz:=hz) (tupleKind_room_in1 hu) (kF I.hok eb) dd fun h' dd' hs=>h _ ?_
  obtain⟨q,es,ep,hq,h2,h3,h4,_,h5⟩:=dd'
  refine lE I (by rw[e];exact True.intro) hs ⟨q,hq⟩ ⟨hl,hd,_,(rel.put k eb rv).keeps fun c ys ec=>?_,q,es,ep,hq,h2,h3,h4,h5⟩
  rw[aE (bS ec e (fun z=>nomatch z))]
  exact ec
end
def Hk(i:Expr):Prop:=∀ ov iv,subscripted i false ov iv=operate [ov,iv] (getItem ov iv)
theorem Dy{prog:Program}{w:World}{A:Around}{E:Value→Shared→Prop}{s:Shared}{env:Env}{value slice:Expr}{pos:Pos}{T id:String}{Q:Value→Shared→Prop}
  (hl:typeLookup (.type T) "__getitem__"=pure (some (.builtin id))) (hs:Hk slice)
  (h:wpAny (model prog w) A (eval value env) (fun o s₁=>wpAny (model prog w) A (eval slice env) (fun i s₂=>s₂.TypeIs o T∧wpAny (model prog w) A (getItem o i) Q E s₂) E s₁) E s) :
  wpAny (model prog w) A (eval (.Subscript value slice pos) env) Q E s:=by
 refine Subscript_ (wpAny_mono h (fun o s₁ h₁=>wpAny_mono h₁ (fun i s₂ h₂=>?_) fun _ _ x=>x) fun _ _ x=>x)
 obtain⟨hT,h₂⟩:=h₂
 unfold subscriptTail
 refine wpAny_bind ?_
 rw[getitemInPython_of_ne hT.not_modules]
 refine wpAny_bind (wpAny_specialOf hT hl ?_)
 have fin:wpAny (model prog w) A (subscripted slice false o i) (fun r s₃=>wpAny (model prog w) A (letTemporaryGo value o r >>= fun _=>pure r) Q E s₃) E s₂:=by
  rw[hs o i]
  exact wpAny_operating (wpAny_mono h₂ (fun r s₃ h₃=>wpAny_bind (wpAny_letTemporaryGo (wpAny_pure h₃))) fun _ _ x=>x)
 first
  | exact wpAny_pure (wpAny_bind fin)
  | exact wpAny_bind (wpAny_pure (wpAny_bind fin))
  | exact wpAny_bind fin
theorem uK{X:Cx}{pins:List (Addr×Obj)}{σ:St}{H:Hp}{s:Shared}{a:Addr}{y:V}{o:Option V}(I:Inv X pins σ H s)(g:DGet H a y o):s.TypeIs (.ref a) "dict":=by
 rcases g with ⟨kvs,k,e,_,_⟩ | ⟨kvs,k,b,e,_,_,_⟩
 ·obtain⟨_,_,vs,_,dd⟩:=pV I.hok e
  exact dd.typeIs
 ·obtain⟨_,_,xs,_,dd⟩:=pY I.hok e
  exact dd.typeIs
def Hu(td ty:TE):TE:=fun σ H Q=>td σ H fun x H1=>ty σ H1 fun y H2=>∃ a v,x=.ref a∧DGet H2 a y (some v)∧Q v H2
def zG(ty td:TE):TE:=fun σ H Q=>ty σ H fun y H1=>td σ H1 fun x H2=>∃ a o,x=.ref a∧DGet H2 a y o∧Q (.bl (!o.isSome)) H2
def GZ(td ty tv:TE):TS:=fun D σ H=>tv σ H fun v H1=>td σ H1 fun x H2=>ty σ H2 fun y H3=>∃ a H4,x=.ref a∧DPut H3 a y v H4∧D.nx σ H4
section
variable {X:Cx}{o i e value:Expr}{pos pos' tpos:Pos}{td ty tv:TE}
theorem sT(hu:X.A.units+1<cLine)(ho:PE X o td)(hi:PE X i ty)(hs:Hk i):PE X (.Subscript o i pos) (Hu td ty):=by
 intro pins s σ H Q I h
 refine Dy PySem.F.slot_dict_getitem.lookup hs (bP (ho pins s σ H _ I h) fun u s1 ⟨x,H1,I1,rx,q1⟩=>bP (hi pins s1 σ H1 _ I1 q1) fun iv s2 ⟨y,H2,I2,ry,a,v,ex,g,q2⟩=>?_)
 subst ex
 obtain rfl:u=Value.ref a:=rx
 exact⟨uK I2 g,AJ hu I2 g ry fun w' s3 I3 rw'=>⟨v,H2,I3,rw',q2⟩⟩
theorem AL(hu:X.A.units+1<cLine)(hi:PE X i ty)(ho:PE X o td):PC X .NotIn i o (zG ty td):=by
 intro pins s σ H Q I h
 refine bP (hi pins s σ H _ I h) fun iv s1 ⟨y,H1,I1,ry,q1⟩=>bP (ho pins s1 σ H1 _ I1 q1) fun u s2 ⟨x,H2,I2,rx,a,ov,ex,g,q2⟩=>?_
 subst ex
 obtain rfl:u=Value.ref a:=rx
 exact Dh hu I2 g ry fun s3 I3=>⟨.bl (!ov.isSome),H2,I3,rfl,q2⟩
theorem tF(hu:X.A.units+1<cLine)(ho:PE X o td)(hi:PE X i ty)(hv:PE X value tv)(hs:swapsWith value (some (.Subscript o i pos')) pos.line X.env=pure false) :
  PS X (.Assign [.Subscript o i pos'] value pos) (GZ td ty tv):=by
 intro pins s σ H D I h
 refine wpAny_Assign_Subscript (bP (hv pins s σ H _ I h) fun r s1 ⟨v,H1,I1,rv,q1⟩=>bP (ho pins s1 σ H1 _ I1 q1) fun u s2 ⟨x,H2,I2,rx,q2⟩=>bP (hi pins s2 σ H2 _ I2 q2) fun iv s3 ⟨y,H3,I3,ry,a,H4,ex,g,q3⟩=>?_) hs
 subst ex
 obtain rfl:u=Value.ref a:=rx
 exact AO hu I3 g ry rv fun s4 I4=>⟨σ,H4,I4,q3⟩
end
theorem tZ{P:Program}{w:World}{H:Hp}(h:Heap)(hb:sysModules<h.objs.size):ObjOk P w H (h.push { cls:=.type "dict",data:=.dict #[] }) h.objs.size (.dK []) :=
 ⟨j6 _,beq_eq_false_iff_ne.mpr (x4 (d5 hb)),[],.nil,aJN h⟩
theorem Bl{P:Program}{w:World}{H:Hp}(h:Heap)(hb:sysModules<h.objs.size):ObjOk P w H (h.push { cls:=.type "dict",data:=.dict #[] }) h.objs.size (.dT []) :=
 ⟨j6 _,beq_eq_false_iff_ne.mpr (x4 (d5 hb)),[],.nil,_,#[],0,g8 _ rfl,⟨rfl,rfl,rfl⟩,rfl,rfl,List.nodup_nil⟩
def Ey:TE:=fun _ H Q=>∀ p,H p=none→Q (.ref p) (upd H p (.dK []))
def FC:TE:=fun _ H Q=>∀ p,H p=none→Q (.ref p) (upd H p (.dT []))
section
variable {X:Cx}{pos:Pos}
theorem tW:PE X (.Dict [] [] pos) Ey:=fun pins s σ H Q I h =>
 wpAny_Dict_empty ⟨.ref s.heap.objs.size,_,I.laid (a:=s.heap.objs.size) (o:=.dK []) (t':=s.toks) (fun _ _ q=>c0 _ q) (b5 _) (tZ s.heap I.big),rfl,h _ (I.hok.fresh (b5 _))⟩
theorem uC:PE X (.Dict [] [] pos) FC:=fun pins s σ H Q I h =>
 wpAny_Dict_empty ⟨.ref s.heap.objs.size,_,I.laid (a:=s.heap.objs.size) (o:=.dT []) (t':=s.toks) (fun _ _ q=>c0 _ q) (b5 _) (Bl s.heap I.big),rfl,h _ (I.hok.fresh (b5 _))⟩
end
def wY:List (TE×TE)→St→Hp→(List (V×V)→Hp→Prop)→Prop
 | [],_,H,Q=>Q [] H
 | (tk,tv)::r,σ,H,Q=>tk σ H fun x H1=>tv σ H1 fun y H2=>wY r σ H2 fun ps H3=>Q ((x,y)::ps) H3
abbrev VV:List (V×V)→List (Value×Value)→Prop:=Paired fun p q=>RelV p.1 q.1∧RelV p.2 q.2
def Ih(X:Cx)(pos:Pos)(keys:List (Option Expr))(values:List Expr)(trs:List (TE×TE)):Prop :=
 ∀ (pins:List (Addr×Obj)) (s:Shared) (σ:St) (H:Hp) (Q:List (V×V)→Hp→Prop),Inv X pins σ H s→wY trs σ H Q →
  wpAny (model X.prog X.w) X.A (evalPairs (pairTrees keys values X.env pos)) (fun vs s'=>∃ ps H',Inv X pins σ H' s'∧VV ps vs∧Q ps H') X.xe s
theorem CY{X:Cx}{pos:Pos}:Ih X pos [] [] []:=fun pins s σ H Q I h=>pairTrees_nil_walk ⟨[],H,I,.nil,h⟩
theorem Bf{X:Cx}{pos:Pos}{k v:Expr}{ks:List (Option Expr)}{vs:List Expr}{tk tv:TE}{trs:List (TE×TE)}(hk:PE X k tk)(hv:PE X v tv)(hr:Ih X pos ks vs trs) :
  Ih X pos (some k::ks) (v::vs) ((tk,tv)::trs):=fun pins s σ H Q I h =>
 pairTrees_cons_walk (bP (hk pins s σ H _ I h) fun u s1 ⟨x,H1,I1,rx,q1⟩=>bP (hv pins s1 σ H1 _ I1 q1) fun w2 s2 ⟨y,H2,I2,ry,q2⟩ =>
  bP (hr pins s2 σ H2 _ I2 q2) fun ws s3 ⟨ps,H3,I3,rel,q3⟩=>⟨(x,y)::ps,H3,I3,.cons ⟨rx,ry⟩ rel,q3⟩)
def pE(kvs more:List (cI×V)):List (cI×V):=more.foldl (fun acc kv=>dF acc kv.1 kv.2) kvs
theorem KV.merge:∀ {more:List (cI×V)} {rs:List (cI×Value)} {kvs:List (cI×V)} {vs:List (cI×Value)},KV more rs→KV kvs vs→KV (pE kvs more) (merged vs rs):=by
 intro more rs kvs vs r
 unfold KV at r
 induction r generalizing kvs vs with
 | nil=>intro q;exact q
 | @cons p q ps qs h t ih =>
  intro r0
  have e:KV (dF kvs p.1 p.2) (stored vs q.1 q.2):=by
   have:=r0.put p.1 h.2
   rw[← h.1];exact this
  exact ih e
theorem jW:∀ (more kvs:List (cI×V)),(pE kvs more).length≤kvs.length+more.length
 | [],kvs=>by show kvs.length≤kvs.length+0;omega
 | p::r,kvs=>by
  have h1:=jW r (dF kvs p.1 p.2)
  have h2:=dC kvs p.1 p.2
  show (pE (dF kvs p.1 p.2) r).length≤_
  rw[j1];omega
theorem pF{P:Program}{w:World}:∀ {kvs:List (cI×V)} {ws:List (Value×Value)},VV (kvs.map fun kv=>(kV kv.1,kv.2)) ws→∃ rs,Carries (bJ P w) ws rs∧KV kvs rs
 | [],_,r=>by rw[aQU] at r;cases r;exact⟨[],True.intro,.nil⟩
 | p::kvs,_,r=>by
  rw[d3] at r
  cases r with
  | @cons a b as bs h t =>
   obtain⟨rs,c,q⟩:=pF (P:=P) (w:=w) t
   obtain⟨b1,b2⟩:=b
   exact⟨(p.1,b2)::rs,⟨mU h.1,rfl,c⟩,.cons ⟨rfl,h.2⟩ q⟩
def HB(trs:List (TE×TE)):TE:=fun σ H Q=>∀ p,H p=none→wY trs σ (upd H p (.dK [])) fun ps H2=>H2 p=some (.dK [])∧∃ kvs:List (cI×V),ps=kvs.map (fun kv=>(kV kv.1,kv.2))∧kvs.length≤15∧Q (.ref p) (upd H2 p (.dK (pE [] kvs)))
theorem DN{X:Cx}{pos:Pos}{keys:List (Option Expr)}{values:List Expr}{trs:List (TE×TE)}(h:Ih X pos keys values trs)(hall:keys.all (·.isSome)=true)(hl:keys.length=values.length)(h0:keys≠[])
  (h15:keys.length≤15):PE X (.Dict keys values pos) (HB trs):=by
 intro pins s σ H Q I q
 have hn:=I.hok.fresh (b5 s.heap.objs.size)
 have I1:=I.laid (a:=s.heap.objs.size) (o:=.dK []) (h':=s.heap.push { cls:=.type "dict",data:=.dict #[] }) (t':=s.toks) (fun _ _ q=>c0 _ q) (b5 _) (tZ s.heap I.big)
 refine wpAny_Dict_walk (knd:=bJ X.prog X.w) hall hl h0 h15 (bP (h pins _ σ _ _ I1 (q _ hn)) fun ws s2 ⟨ps,H2,I2,rel,e,kvs,ep,lk,q2⟩=>?_)
 subst ep
 obtain⟨rs,c,rk⟩:=pF (P:=X.prog) (w:=X.w) rel
 obtain⟨z,hd,vs0,r0,dd⟩:=vO I2.hok e
 cases r0
 refine⟨rs,c,dd,fun h' dd' hs=>⟨.ref s.heap.objs.size,_,?_,rfl,q2⟩⟩
 have hz:(pE [] kvs).length≤sizeLine:=by
  have h1:=jW kvs []
  rw[aZ1] at h1
  rw[sizeLine_eq];omega
 have he:∃ q,h'.get? s.heap.objs.size=some q:=let ⟨q,_,_,hq,_⟩:=dd';⟨q,hq⟩
 exact lE I2 (by rw[e];exact True.intro) hs he (wK hz hd (rk.merge .nil) dd')
structure M1(X:Cx)(o:Expr)(m:Str)(apos:Pos)(e:Expr)(cpos:Pos):Prop where
 base:attributeBase o m X.env (eval o X.env)=eval o X.env
 few:((backTo cpos (starEach [e] X.env)).all (fun x=>!x.1) && (backToKw cpos (keywordEach [] X.env)).all (fun x=>x.1.isSome)
  && decide (([e]:List Expr).length+([]:List Keyword).length+(if ([]:List Keyword).isEmpty then 0 else 1)<30))=true
 line:(apos.endLine == cpos.line)=true
 trees:backTo cpos (starEach [e] X.env)=[(false,eval e X.env)]
structure M2(X:Cx)(o:Expr)(m:Str)(apos:Pos)(e f:Expr)(cpos:Pos):Prop where
 base:attributeBase o m X.env (eval o X.env)=eval o X.env
 few:((backTo cpos (starEach [e,f] X.env)).all (fun x=>!x.1) && (backToKw cpos (keywordEach [] X.env)).all (fun x=>x.1.isSome)
  && decide (([e,f]:List Expr).length+([]:List Keyword).length+(if ([]:List Keyword).isEmpty then 0 else 1)<30))=true
 line:(apos.endLine == cpos.line)=true
 trees:backTo cpos (starEach [e,f] X.env)=[(false,eval e X.env),(false,eval f X.env)]
def Hj(H:Hp)(a:Addr):Prop:=(∃ kvs,Rd H a (.dK kvs))∨∃ kvs,Rd H a (.dT kvs)
theorem sZ{X:Cx}{pins:List (Addr×Obj)}{σ:St}{H:Hp}{s:Shared}{a:Addr}(I:Inv X pins σ H s)(d:Hj H a) :
  s.TypeIs (.ref a) "dict"∧(∀ b,Value.ref a=.ref b→∃ ob,s.heap.get? b=some ob∧ob.dict=none)∧(a == sysModules)=false:=by
 rcases d with ⟨kvs,e⟩ | ⟨kvs,e⟩
 ·obtain⟨_,hd,vs,_,dd⟩:=pV I.hok e
  refine⟨dd.typeIs,fun b q=>?_,hd⟩
  cases q
  obtain⟨ob,_,_,h1,h2,_⟩:=dd
  exact⟨ob,h1,h2.2.1⟩
 ·obtain⟨_,hd,xs,_,dd⟩:=pY I.hok e
  refine⟨dd.typeIs,fun b q=>?_,hd⟩
  cases q
  obtain⟨ob,_,_,h1,h2,_⟩:=dd
  exact⟨ob,h1,h2.2.1⟩
section
variable {X:Cx}{pins:List (Addr×Obj)}{σ:St}{H:Hp}{s:Shared}{a:Addr}{y d:V}{u r:Value}{o:Option V}{A:Around}{E:Value→Shared→Prop}
theorem EK{Q:Value→Shared→Prop}(hu:A.units+1<cLine)(I:Inv X pins σ H s)(g:DGet H a y o)(ry:RelV y u)(h:∀ w' s',Inv X pins σ H s'→RelV (o.getD .non) w'→Q w' s') :
  wpAny (model X.prog X.w) A (call (.builtin "dict.get") [.ref a,u]) Q E s:=by
 rcases g with ⟨kvs,k,e,ey,l⟩ | ⟨kvs,k,b,e,ey,eb,l⟩
 ·subst ey
  obtain⟨z,hd,vs,rel,dd⟩:=pV I.hok e
  refine call_meetsIn u6 dd.typeIs aQF (aXP _ _) (meets_dict_get (bJ X.prog X.w) a (mU ry) hd) ⟨_,dd.mapOf,h _ _ (I.tok _) ?_⟩
  rw[l]
  exact(rel.val k).getD rfl
 ·subst ey
  cases (show u=Value.ref b from ry)
  obtain⟨z,hd,xs,rel,dd⟩:=pY I.hok e
  refine call_meetsIn u6 dd.typeIs aQF (aXP _ _) (meetsH_dict_get (tupleKind (bJ X.prog X.w)) a b hd) ⟨tupleKind_room_in1 hu,k,xs,kF I.hok eb,dd,h _ _ (I.tok _) ?_⟩
  rw[l]
  exact(rel.val k).getD rfl
theorem ED{Q:Value→Shared→Prop}(hu:A.units+1<cLine)(I:Inv X pins σ H s)(g:DGet H a y o)(ry:RelV y u)(rd:RelV d r)(h:∀ w' s',Inv X pins σ H s'→RelV (o.getD d) w'→Q w' s') :
  wpAny (model X.prog X.w) A (call (.builtin "dict.get") [.ref a,u,r]) Q E s:=by
 rcases g with ⟨kvs,k,e,ey,l⟩ | ⟨kvs,k,b,e,ey,eb,l⟩
 ·subst ey
  obtain⟨z,hd,vs,rel,dd⟩:=pV I.hok e
  refine call_meetsIn u6 dd.typeIs aQF (aXQ _ _ _) (meets_dict_get_default (bJ X.prog X.w) a (mU ry) hd r) ⟨_,dd.mapOf,h _ _ (I.tok _) ?_⟩
  rw[l]
  exact(rel.val k).getD rd
 ·subst ey
  cases (show u=Value.ref b from ry)
  obtain⟨z,hd,xs,rel,dd⟩:=pY I.hok e
  refine call_meetsIn u6 dd.typeIs aQF (aXQ _ _ _) (meetsH_dict_get_default (tupleKind (bJ X.prog X.w)) a b hd r) ⟨tupleKind_room_in1 hu,k,xs,kF I.hok eb,dd,h _ _ (I.tok _) ?_⟩
  rw[l]
  exact(rel.val k).getD rd
end
def Ew(td ty:TE):TE:=fun σ H Q=>td σ H fun x H1=>∃ a,x=.ref a∧Hj H1 a∧ty σ H1 fun y H2=>∃ o,DGet H2 a y o∧Q (o.getD .non) H2
def E_(td ty tx:TE):TE:=fun σ H Q=>td σ H fun x H1=>∃ a,x=.ref a∧Hj H1 a∧ty σ H1 fun y H2=>tx σ H2 fun z H3=>∃ o,DGet H3 a y o∧Q (o.getD z) H3
section
variable {X:Cx}{o e f:Expr}{apos cpos:Pos}{td ty tx:TE}
theorem Br(hu:X.A.units+1<cLine)(ho:PE X o td)(he:PE X e ty)(m:M1 X o "get" apos e cpos):PE X (.Call (.Attribute o "get" apos) [e] [] cpos) (Ew td ty):=by
 intro pins s σ H Q I h
 refine wpAny_Call_method m.base m.few m.line x3 u6 aX4 (bP (ho pins s σ H _ I h) fun u s1 ⟨x,H1,I1,rx,a,ex,d,q1⟩=>?_)
 subst ex
 obtain rfl:u=Value.ref a:=rx
 obtain⟨t1,t2,_⟩:=sZ I1 d
 refine⟨t1,t2,?_⟩
 rw[m.trees]
 refine q8 rfl (y4 (r6 (bP (he pins s1 σ H1 _ I1 q1) fun iv s2 ⟨y,H2,I2,ry,ov,g,q2⟩=>aQJ ?_)))
 exact EK hu I2 g ry fun w' s3 I3 rw'=>⟨_,H2,I3,rw',q2⟩
theorem uJ(hu:X.A.units+1<cLine)(ho:PE X o td)(he:PE X e ty)(hf:PE X f tx)(m:M2 X o "get" apos e f cpos):PE X (.Call (.Attribute o "get" apos) [e,f] [] cpos) (E_ td ty tx):=by
 intro pins s σ H Q I h
 refine wpAny_Call_method m.base m.few m.line x3 u6 aX4 (bP (ho pins s σ H _ I h) fun u s1 ⟨x,H1,I1,rx,a,ex,d,q1⟩=>?_)
 subst ex
 obtain rfl:u=Value.ref a:=rx
 obtain⟨t1,t2,_⟩:=sZ I1 d
 refine⟨t1,t2,?_⟩
 rw[m.trees]
 refine q8 rfl (y4 (r6 (bP (he pins s1 σ H1 _ I1 q1) fun iv s2 ⟨y,H2,I2,ry,q2⟩ =>
  r6 (bP (hf pins s2 σ H2 _ I2 q2) fun fv s3 ⟨z,H3,I3,rz,ov,g,q3⟩=>aQJ ?_))))
 exact ED hu I3 g ry rz fun w' s4 I4 rw'=>⟨_,H3,I4,rw',q3⟩
end
def qS(xs:List V)(f:Nat→Nat)(l:List Nat):List V:=l.filterMap fun m=>xs[f m]?
theorem oF{xs:List V}{us:List Value}(r:Vals xs us)(f:Nat→Nat):∀ l:List Nat,Vals (qS xs f l) (l.filterMap fun m=>us[f m]?)
 | []=>.nil
 | m::l=>by
  have ih:=oF r f l
  unfold qS at *
  rw[y9,y9]
  cases hx:xs[f m]? with
  | none =>
   have:us[f m]?=none:=by
    have h1:=r.length
    have h2:=aQy.mp hx
    exact aQa (by omega)
   rw[this]
   exact ih
  | some x =>
   obtain⟨u,hu,ru⟩:=r.get hx
   rw[hu]
   exact .cons ru ih
theorem Ay(xs:List V)(f:Nat→Nat)(l:List Nat):(qS xs f l).length≤l.length:=aXI _ _
section
variable {prog:Program}{w:World}{A:Around}{E:Value→Shared→Prop}{s:Shared}
theorem uM{sl:Addr}{vu vk:Value}{j n:Nat}{Q:Int×Int×Nat→Shared→Prop}(hs:s.heap.IsSliceOf sl .none vu vk)(pu:IsPart vu (some (j:Int)))(pk:IsPart vk (some 2))(hj:j≤n)
  (h:Q (0,2,(j+1) / 2) s):wpAny (model prog w) A (Builtin.Slice.sliceApplied (.ref sl) (pure (n:Int))) Q E s:=by
 obtain⟨os,hos,hcs,hds⟩:=id hs
 unfold Builtin.Slice.sliceApplied Builtin.Slice.sliceFields
 refine wpAny_bind (wpAny_bind (wpAny_field hos hds (x:=.none) rfl (wpAny_bind (wpAny_field hos hds (x:=vu) rfl (wpAny_bind (wpAny_field hos hds (x:=vk) rfl (wpAny_pure ?_)))))))
 refine wpAny_bind (HT.slicePart_ pk ?_)
 show wpAny _ _ (if ((2:Int) == 0)=true then _ else _) _ _ s
 rw[if_neg (by decide)]
 refine wpAny_bind (HT.slicePart_ .none (wpAny_bind (HT.slicePart_ pu (wpAny_bind (wpAny_pure ?_)))))
 show wpAny _ _ (match Builtin.Slice.sliceAdjust none (some (j:Int)) 2 (n:Int) with | (lo,hi)=>pure (lo,(2:Int),Builtin.Slice.slicePlaces lo hi 2)) _ _ s
 have e1:Builtin.Slice.sliceAdjust none (some (j:Int)) 2 (n:Int)=(0,(j:Int)):=by
  unfold Builtin.Slice.sliceAdjust
  have h1:¬ ((2:Int)<0):=by omega
  have h2:¬ ((j:Int)<0):=by omega
  simp only [if_neg h1,if_neg h2]
  congr 1
  omega
 rw[e1]
 show wpAny _ _ (pure ((0:Int),(2:Int),Builtin.Slice.slicePlaces 0 (j:Int) 2)) _ _ s
 have e2:Builtin.Slice.slicePlaces 0 (j:Int) 2=(j+1) / 2:=by
  unfold Builtin.Slice.slicePlaces
  rw[if_pos (by omega)]
  split <;> omega
 rw[e2]
 exact wpAny_pure h
theorem B9{t sl:Addr}{items:Array Value}{vu vk:Value}{j:Nat}{Q:Value→Shared→Prop}(ht:IsTup s.heap t items)(hs:s.heap.IsSliceOf sl .none vu vk)(pu:IsPart vu (some (j:Int)))(pk:IsPart vk (some 2))(hj:j≤items.size)
  (h:Q (.ref s.heap.objs.size) { s with heap:=s.heap.push { cls:=.type "tuple",data:=.seq ((List.range ((j+1) / 2)).filterMap fun m=>items.toList[2 * m]?).toArray } })
  (hsz:items.size≤sizeLine):wpAny (model prog w) A (getItem (.ref t) (.ref sl)) Q E s:=by
 have htake:sizeOk (.seq ((List.range ((j+1) / 2)).filterMap fun m=>items.toList[2 * m]?).toArray):=by
  show ((List.range ((j+1) / 2)).filterMap fun m=>items.toList[2 * m]?).toArray.size≤sizeLine
  rw[b8]
  refine j0 (aXI _ _) ?_
  rw[aQZ]
  omega
 obtain⟨os,hos,hcs,hds⟩:=id hs
 have hTs:s.TypeIs (.ref sl) "slice":=⟨os,hos,hcs⟩
 unfold getItem
 try with_reducible refine wpAny_holding ?_
 first | refine wpAny_bind (wpAny_pure ?_) | skip
 refine wpAny_bind (wpAny_sequenceKey ht.typeIs (by decide) ?_)
 refine wpAny_bind (wpAny_callSpecial?_slot (name:=Str.ofString "__getitem__") ht.typeIs l4
  (wpAny_call_entry l4 ht.typeIs entry_tuple_getitem ?_ (args_tuple_getitem _ _)))
 show wpAny _ _ (Builtin.Tuple.tupleItemsOf (.ref t) >>= _) _ _ s
 refine wpAny_bind (tupleItemsOf_ ht ?_)
 refine wpAny_bind (wpAny_typeOf hTs ?_)
 rw[if_pos (by decide)]
 refine wpAny_bind (uM hs pu pk hj ?_)
 show wpAny _ _ (if ((0:Int) == 0 && (2:Int) == 1 && ((j+1) / 2) == items.size)=true then _ else _) _ _ s
 rw[if_neg (by simp)]
 have e:(fun (m:Nat)=>items[((0:Int)+(m:Int) * 2).toNat]?)=fun m=>items.toList[2 * m]?:=by
  funext m
  have:((0:Int)+(m:Int) * 2).toNat=2 * m:=by omega
  rw[this]
  simp
 rw[e]
 first
  | exact wpAny_bind (m:=Builtin.Tuple.tupleExact _) (wpAny_newObj_type (wpAny_pure ⟨_,rfl,wpAny_pure h⟩) htake)
  | exact wpAny_bind (m:=Builtin.Tuple.tupleExact _) (wpAny_newObj_type (wpAny_bind (wpAny_pure (wpAny_pure ⟨_,rfl,wpAny_pure h⟩))) htake)
  | exact wpAny_bind (wpAny_bind (m:=Builtin.Tuple.tupleExact _) (wpAny_newObj_type (wpAny_pure (wpAny_pure ⟨_,rfl,wpAny_pure h⟩)) htake))
  | exact wpAny_bind (wpAny_bind (m:=Builtin.Tuple.tupleExact _) (wpAny_newObj_type (wpAny_pure ⟨_,rfl,wpAny_pure h⟩) htake))
end
def IJ(K:b0):V→Option Int→Option Int→Option Int→Hp→VK→Prop:=fun x lo hi st H Q=>∃ (a:Addr) (xs:List V) (j:Nat),x=.ref a∧SqT K H a xs∧lo=none∧hi=some (j:Int)∧st=some 2∧j≤xs.length∧∀ p,H p=none→Q (.ref p) (upd H p (.tup (qS xs (2 * ·) (List.range ((j+1) / 2)))))
theorem Cr{X:Cx}{K:b0}(hK:X.K=K):Hr X (IJ K):=by
 subst hK
 intro pins s σ H x v vl vu vk lo hi st sl Q I rx hs pl pu pk h
 obtain⟨a,xs,j,rfl,hx,rfl,rfl,rfl,hj,q⟩:=h
 cases rx
 cases pl
 obtain⟨its,r,ht,hz⟩:=I.tuple hx
 have hlen:=r.length
 refine⟨"tuple",_,l4.lookup,ht.typeIs,?_⟩
 refine B9 ht hs pu pk (by rw[b8];omega) ?_ (by rw[b8];omega)
 have rv:=oF r (2 * ·) (List.range ((j+1) / 2))
 have pl:=Ay xs (2 * ·) (List.range ((j+1) / 2))
 rw[aQZ] at pl
 refine⟨.ref s.heap.objs.size,_,I.laid (t':=s.toks) (o:=.tup (qS xs (2 * ·) (List.range ((j+1) / 2)))) (fun b ob q=>c0 _ q) (b5 _) ?_,rfl,q _ (I.hok.fresh (b5 _))⟩
 refine⟨by omega,_,rv,?_⟩
 exact⟨aQr _ _,NoD.new _ _⟩
theorem pG:∀ (n:Nat) (w:List Nat) (l:List Value),w.length=n→l.length=n→(∀ (j:Nat) (v:Value),l[j]?=some v→∃ (c:Nat) (u:Tok),w[j]?=some c∧v=Value.str ⟨#[c]⟩ u)→Vals (w.map fun c=>V.str (S [c])) l
 | 0,w,l,h1,h2,_=>by
  have e1:=m9.mp h1
  have e2:=m9.mp h2
  subst e1 e2
  exact .nil
 | n+1,[],l,h1,_,_=>by simp at h1
 | n+1,c::w,[],_,h2,_=>by simp at h2
 | n+1,c::w,v::l,h1,h2,h3=>by
  obtain⟨c',u,hc',rfl⟩:=h3 0 v rfl
  obtain rfl:c=c':=by simpa using hc'
  exact .cons ⟨u,rfl⟩ (pG n w l (by simpa using h1) (by simpa using h2) fun j v hv=>by simpa using h3 (j+1) v (by simpa using hv))
theorem qC{X:Cx}(hc:X.calm=true):dX X (.type "tuple") (fun xs H Q=>∃ w:List Nat,xs=[.str (S w)]∧w.length≤1000∧∀ l,H l=none→Q (.ref l) (upd H l (.tup (w.map fun c=>V.str (S [c]))))):=by
 intro pins s σ H xs us Q I r h
 obtain⟨w,rfl,hz,q⟩:=h
 obtain⟨u,rfl,ru⟩:=r.one
 obtain⟨t,rfl⟩:=ru
 have hz2:w.length≤sizeLine:=x8 (aN hz)
 refine call_tuple_str (I.ok.hd hc) (S w) t (fun h' tk acc hk hit=>?_) (by simpa using hz2)
 have hn:acc.size=w.length:=by simpa using hit.1
 have hv:Vals (w.map fun c=>V.str (S [c])) acc.toList:=pG w.length w acc.toList rfl (by simpa using hn) fun j v hv=>by
  obtain⟨c,u,hc,hv'⟩:=hit.2 j v (by simpa using hv)
  exact⟨c,u,by simpa using hc,hv'⟩
 have I1:Inv X pins σ H { s with heap:=h',toks:=tk }:=I.kept hk
 refine⟨.ref h'.objs.size,_,I1.laid (t':=tk) (o:=.tup (w.map fun c=>V.str (S [c]))) (fun b o e=>c0 _ e) (b5 _) ⟨by rw[b7];exact hz2,acc.toList,hv,?_⟩,rfl,q _ (I1.hok.fresh (b5 _))⟩
 have:=aQr h' acc
 exact⟨by simpa using this,NoD.new _ _⟩
end L2
namespace Lw
open PySem PySem.Spec PyProof.Rows L2 Ma MaR
def bI(rs:List (List Nat)):List V:=rs.map fun x=>V.str (S x)
theorem aP(rs:List (List Nat)):(bI rs).length=rs.length:=by unfold bI;rw[b7]
theorem eQ{rs:List (List Nat)}{i:Nat}{v:V}(h:(bI rs)[i]?=some v):∃ x,rs[i]?=some x∧v=.str (S x):=by
 unfold bI at h
 rw[c5] at h
 cases hq:rs[i]? with
 | none=>rw[hq] at h;cases h
 | some x=>rw[hq] at h;exact⟨x,rfl,(i3 h).symm⟩
theorem kQ{rs:List (List Nat)}{i:Nat}{x:List Nat}(h:rs[i]?=some x):(bI rs)[i]?=some (.str (S x)):=by unfold bI;rw[c5,h];rfl
structure RT(rs:List (List Nat))(n M:Nat):Prop where
 len:rs.length=n
 all:∀ x∈rs,AllL x
 le:∀ x∈rs,x.length≤M
def fC(rs:List (List Nat))(c:Nat):List Nat:=if bW c=true then rs.getD (c - 97) [] else back (rs.getD (c - 65) [])
def dO(rs:List (List Nat))(w:List Nat):List Nat:=w.flatMap (fC rs)
def fN(rs:List (List Nat))(w:List Nat):List Nat:=lay (dO rs w)
theorem kZ{rs:List (List Nat)}{P:List Nat→Prop}(h0:P [])(h:∀ x∈rs,P x)(i:Nat):P (rs.getD i []):=by
 rw[c6]
 cases hq:rs[i]? with
 | none=>exact h0
 | some x=>exact h x (b6 hq)
section
variable {rs:List (List Nat)}{n M:Nat}
theorem RT.getA(r:RT rs n M)(i:Nat):AllL (rs.getD i []):=kZ AllL.nil r.all i
theorem RT.getL(r:RT rs n M)(i:Nat):(rs.getD i []).length≤M:=kZ (P:=fun x=>x.length≤M) (j6 _) r.le i
theorem kR(r:RT rs n M)(c:Nat):AllL (fC rs c):=by
 unfold fC
 split
 ·exact r.getA _
 ·exact aS (r.getA _)
theorem uB(r:RT rs n M)(c:Nat):(fC rs c).length≤M:=by
 unfold fC
 split
 ·exact r.getL _
 ·rw[bY];exact r.getL _
theorem vT(r:RT rs n M){c:Nat}(h:cR c):fC rs (aU c)=back (fC rs c):=by
 have hc:(bW c=true∧bW (aU c)=false∧aU c - 65=c - 97)∨(bW c=false∧bW (aU c)=true∧aU c - 97=c - 65):=by
  rcases aY h with rfl | rfl | rfl | rfl | rfl | rfl | rfl | rfl <;> decide
 unfold fC
 rcases hc with ⟨h1,h2,h3⟩ | ⟨h1,h2,h3⟩
 ·rw[if_pos h1,if_neg (by rw[h2];decide),h3]
 ·rw[if_pos h2,if_neg (c:=bW c=true) (by rw[h1];decide),h3,eC (r.getA _)]
theorem iU(u v:List Nat):dO rs (u++v)=dO rs u++dO rs v:=by unfold dO;rw[aXe]
theorem dR(c:Nat)(w:List Nat):dO rs (c::w)=fC rs c++dO rs w:=by unfold dO;rw[u9]
theorem vR:dO rs []=[]:=rfl
theorem fX(r:RT rs n M)(w:List Nat):AllL (dO rs w):=by
 induction w with
 | nil=>exact AllL.nil
 | cons c w ih=>rw[dR];exact AllL.app.mpr ⟨kR r c,ih⟩
theorem pI(r:RT rs n M)(w:List Nat):(dO rs w).length≤w.length * M:=by
 induction w with
 | nil=>simp[dO]
 | cons c w ih =>
  rw[dR,b9,j1,aJA]
  have:=uB r c
  omega
theorem BF(r:RT rs n M)(w:List Nat):AllL (fN rs w):=iJ (fX r w)
theorem Cn(r:RT rs n M)(w:List Nat):(fN rs w).length≤w.length * M:=j0 (gG _) (pI r w)
theorem AY(r:RT rs n M){w:List Nat}(h:AllL w):dO rs (back w)=back (dO rs w):=by
 induction w with
 | nil=>rfl
 | cons c w ih =>
  obtain⟨hc,hw⟩:=AllL.cons.mp h
  have e:back (c::w)=back w++[aU c]:=by unfold back;simp
  rw[e,iU,ih hw,dR c w,dN,dR,vR,m6,vT r hc]
theorem Ch(r:RT rs n M):∀ (k:Nat) (w:List Nat),w.length=k→AllL w→lay (dO rs (lay w))=lay (dO rs w):=by
 intro k
 induction k using Nat.strongRecOn with
 | ind k ih =>
  intro w hk hw
  by_cases hp:∀ j,¬ HU w j
  ·rw[iT (oX hp)]
  ·obtain⟨j,hj⟩:∃ j,HU w j:=Classical.byContradiction fun c=>hp fun j hj=>c ⟨j,hj⟩
   obtain⟨a,b,e,hab,hl⟩:=rH hj
   have e1:=Dt hw hj
   generalize hu:w.take j=u at *
   generalize hv:w.drop (j+2)=v at *
   have hw':AllL (u++a::b::v):=by rw[← e];exact hw
   obtain⟨ha1,ha2⟩:=AllL.app.mp hw'
   obtain⟨_,ha3⟩:=AllL.cons.mp ha2
   obtain⟨hb,ha4⟩:=AllL.cons.mp ha3
   have huv:AllL (u++v):=AllL.app.mpr ⟨ha1,ha4⟩
   have hlen:(u++v).length<k:=by
    rw[← hk,e,b9,b9,j1,j1];omega
   have q:=ih _ hlen (u++v) rfl huv
   rw[← e1,q,e,iU,iU,dR,dR,hab,vT r hb]
   have e9:dO rs u++(back (fC rs b)++(fC rs b++dO rs v))=dO rs u++(back (fC rs b)++fC rs b)++dO rs v:=by simp[k7]
   rw[e9,← zE _ _ _ (fX r u) (AllL.app.mpr ⟨aS (kR r b),kR r b⟩) (fX r v),jC (kR r b),m6]
theorem uX(r:RT rs n M){w:List Nat}(hw:AllL w):fN rs (lay w)=fN rs w:=Ch r _ w rfl hw
theorem AV(r:RT rs n M){w:List Nat}(hw:AllL w):fN rs (back w)=back (fN rs w):=by unfold fN;rw[AY r hw,lC (fX r w)]
end
def cN(n:Nat):List Nat:=[97,98,99,100].take n
def cW(n:Nat):List (List Nat):=(cN n).map fun c=>[c]
theorem DE(n:Nat):bI (cW n)=bH (cN n):=by unfold bI cW bH;rw[t4];rfl
theorem Ed{n:Nat}(h1:1≤n)(h4:n≤4):n=1∨n=2∨n=3∨n=4:=by omega
theorem tN{n:Nat}(h1:1≤n)(h4:n≤4):RT (cW n) n 1:=by
 refine⟨?_,?_,?_⟩
 ·rcases Ed h1 h4 with rfl | rfl | rfl | rfl <;> rfl
 ·intro x hx
  obtain⟨c,hc,rfl⟩:=g9.mp hx
  intro d hd
  rw[c9.mp hd]
  have:c∈[97,98,99,100]:=o6 hc
  simp only [c4,l6,or_false] at this
  unfold cR
  omega
 ·intro x hx
  obtain⟨c,_,rfl⟩:=g9.mp hx
  exact b5 _
theorem A2{n:Nat}(h1:1≤n)(h4:n≤4){c:Nat}(h:c∈aJ n):fC (cW n) c=[c]:=by
 have hL:=aY (bA h)
 rcases Ed h1 h4 with rfl | rfl | rfl | rfl <;> rcases hL with rfl | rfl | rfl | rfl | rfl | rfl | rfl | rfl <;> revert h <;> decide
theorem qI{n:Nat}(h1:1≤n)(h4:n≤4){w:List Nat}(h:OfN n w):dO (cW n) w=w:=by
 induction w with
 | nil=>rfl
 | cons c w ih=>rw[dR,A2 h1 h4 (h c d8),ih fun d hd=>h d (c8 _ hd)];rfl
theorem A1{n:Nat}(h1:1≤n)(h4:n≤4){w:List Nat}(h:OfN n w)(hp:cP w):fN (cW n) w=w:=by unfold fN;rw[qI h1 h4 h,iT hp]
def bO(f s:List (List Nat)):List (List Nat):=f.map (fN s)
theorem rQ(f s:List (List Nat))(i:Nat):(bO f s).getD i []=fN s (f.getD i []):=by
 unfold bO
 rw[c6,c6,c5]
 cases f[i]? <;> rfl
theorem A4{f s:List (List Nat)}{n m M L:Nat}(hf:RT f n M)(hs:RT s m L)(c:Nat):fC (bO f s) c=lay (dO s (fC f c)):=by
 unfold fC
 split
 ·rw[rQ];rfl
 ·rw[rQ,← AV hs (hf.getA _)];rfl
theorem uL{g:Nat→List Nat}:∀ (w:List Nat),(∀ c,AllL (g c))→lay (w.flatMap fun c=>lay (g c))=lay (w.flatMap g)
 | [],_=>rfl
 | c::w,h=>by
  have ih:=uL w h
  have ha:∀ w:List Nat,AllL (w.flatMap g):=fun w d hd=>by
   obtain⟨c,_,hc⟩:=aXJ.mp hd
   exact h c d hc
  have hb:∀ w:List Nat,AllL (w.flatMap fun c=>lay (g c)):=fun w d hd=>by
   obtain⟨c,_,hc⟩:=aXJ.mp hd
   exact iJ (h c) d hc
  rw[u9,u9,fT _ _ (h c),← eW _ _ (h c) (hb w),ih,eW _ _ (h c) (ha w)]
theorem AM(f s:List (List Nat))(w:List Nat):(w.flatMap fun c=>dO s (fC f c))=dO s (dO f w):=by
 induction w with
 | nil=>rfl
 | cons c w ih=>rw[u9,dR,iU,ih]
theorem Aj{f s:List (List Nat)}{n m M L:Nat}(hf:RT f n M)(hs:RT s m L)(w:List Nat):fN (bO f s) w=fN s (fN f w):=by
 rw[show fN f w=lay (dO f w) from rfl,uX hs (fX hf w)]
 unfold fN
 rw[← AM,← uL w fun c=>fX hs _]
 congr 1
 unfold dO
 congr 1
 funext c
 exact A4 hf hs c
theorem sH{f s:List (List Nat)}{n m M L:Nat}(hf:RT f n M)(hs:RT s m L):RT (bO f s) n (M * L):=by
 refine⟨by unfold bO;rw[b7];exact hf.len,fun x hx=>?_,fun x hx=>?_⟩
 ·obtain⟨y,_,rfl⟩:=g9.mp hx
  exact BF hs y
 ·obtain⟨y,hy,rfl⟩:=g9.mp hx
  exact j0 (Cn hs y) (aQf _ (hf.le y hy))
theorem lT{f s t:List (List Nat)}{n m k M L J:Nat}(hf:RT f n M)(hs:RT s m L)(ht:RT t k J):bO (bO f s) t=bO f (bO s t):=by
 unfold bO
 rw[t4]
 refine p7 fun x hx=>?_
 exact(Aj hs ht x).symm
theorem _root_.L2.SqT.same{K:b0}{H H':Hp}{a:Addr}{xs:List V}(s:Same H H')(h:SqT K H a xs):SqT K H' a xs:=by
 rcases h with (h | ⟨o,h⟩) | h
 ·exact .inl (.inl (s _ _ h))
 ·exact .inl (.inr ⟨o,s _ _ h⟩)
 ·exact .inr h
def nH:Sp:=fun vs H Q _=>∃ n:Nat,vs=[.int (n:Nat)]∧1≤n∧n≤4∧∀ (p:Addr) (H':Hp),H p=none→Same H H'→H' p=some (.tup (bI (cW n)))→Q (.ref p) H'
def vM(K:b0):Sp:=fun vs H Q _=>∃ (a:Addr) (rs:List (List Nat)) (n M:Nat) (w:List Nat),vs=[.ref a,.str (S w)]∧SqT K H a (bI rs)∧RT rs n M∧1≤n∧n≤4∧M≤1000∧OfN n w∧w.length≤60000∧w.length * M≤60000∧∀ H',Same H H'→Q (.str (S (fN rs w))) H'
def BI(K:b0):Sp:=fun vs H Q _=>∃ (a b:Addr) (f s:List (List Nat)) (n M L:Nat),vs=[.ref a,.ref b]∧SqT K H a (bI f)∧SqT K H b (bI s)∧RT f n M∧RT s n L∧(∀ x∈f,OfN n x)∧1≤n∧n≤4∧M≤1000∧L≤1000∧M * L≤9000∧∀ (p:Addr) (H':Hp),H p=none→Same H H'→H' p=some (.tup (bI (bO f s)))→Q (.ref p) H'
def letV:List V:=bH lets
theorem vG:letV.length=8:=rfl
theorem Dw{xs:List V}{i:Array Value}(h:Vals xs i.toList)(hl:xs.length≤1000):i.size≤sizeLine:=by
 have h2:xs.length=i.toList.length:=h.length
 have h3:i.toList.length=i.size:=p5
 exact aK (by omega)
theorem Ao{n:Nat}(h1:1≤n)(h4:n≤4):qS letV (2 * ·) (List.range ((2 * n+1) / 2))=bI (cW n):=by
 rcases Ed h1 h4 with rfl | rfl | rfl | rfl <;> rfl
theorem DW{n i:Nat}(h4:n≤4){v:V}(h:(bI (cW n))[i]?=some v):v=.str (S [97+i])∧i<n:=by
 have hi:i<n:=by
  have:=(a8.mp h).1
  rw[aP] at this
  unfold cW cN at this
  rw[b7,i6] at this
  omega
 obtain⟨x,hx,rfl⟩:=eQ h
 unfold cW cN at hx
 rw[c5,aXD hi] at hx
 have:i=0∨i=1∨i=2∨i=3:=by omega
 rcases this with rfl | rfl | rfl | rfl <;> (cases hx;exact⟨rfl,hi⟩)
theorem xJ:(Str.ofString "abcd":Str)=S [97,98,99,100]:=by decide +kernel
theorem zR{c:Nat}(h:cR c):(Builtin.Str.occurrences (Str.ofString "abcd") (S [lo c]) 0 (Str.ofString "abcd").length 1).isEmpty=false∧Txt.find (Str.ofString "abcd") (S [lo c])=((lo c - 97:Nat):Int):=by
 rcases aY h with rfl | rfl | rfl | rfl | rfl | rfl | rfl | rfl <;> exact⟨by decide +kernel,by decide +kernel⟩
theorem Hs{n c:Nat}(h:c∈aJ n){l:Nat}(hl:l=n)(h1:1≤n)(h4:n≤4):lo c - 97<l:=by
 subst hl
 have hL:=aY (bA h)
 rcases Ed h1 h4 with rfl | rfl | rfl | rfl <;> rcases hL with rfl | rfl | rfl | rfl | rfl | rfl | rfl | rfl <;> revert h <;> decide
theorem Co{rs:List (List Nat)}{n:Nat}(h1:1≤n)(h4:n≤4)(h:∀ x∈rs,OfN n x)(c:Nat):OfN n (fC rs c):=by
 unfold fC
 split
 ·exact kZ (P:=OfN n) OfN.nil h _
 ·exact(kZ (P:=OfN n) OfN.nil h _).back (by omega) (by omega)
theorem BJ{rs:List (List Nat)}{n:Nat}(h1:1≤n)(h4:n≤4)(h:∀ x∈rs,OfN n x)(w:List Nat):OfN n (fN rs w):=by
 refine OfN.lay ?_
 intro d hd
 obtain⟨c,_,hc⟩:=aXJ.mp hd
 exact Co h1 h4 h c d hc
theorem uW{f s:List (List Nat)}{n:Nat}(h1:1≤n)(h4:n≤4)(h:∀ x∈s,OfN n x):∀ x∈bO f s,OfN n x:=by
 intro x hx
 obtain⟨y,_,rfl⟩:=g9.mp hx
 exact BJ h1 h4 h y
theorem Di{n:Nat}(h1:1≤n)(h4:n≤4):∀ x∈cW n,OfN n x:=by
 intro x hx c hc
 obtain⟨d,hd,rfl⟩:=g9.mp hx
 rw[c9.mp hc]
 rcases Ed h1 h4 with rfl | rfl | rfl | rfl <;> (unfold cN at hd;simp at hd;revert hd;first | (rintro rfl;decide) | (rintro(rfl | rfl) <;> decide) | (rintro(rfl | rfl | rfl) <;> decide) | (rintro(rfl | rfl | rfl | rfl) <;> decide))
theorem yB{fl sc p:Addr}{H H':Hp}{xs:List V}(f:IsFl H fl sc)(k:Kp fl H H')(h:H p=some (.tup xs)):H' p=some (.tup xs):=by
 obtain⟨ns,i,x,b,c,h1,_⟩:=f
 exact k _ _ h fun e=>by rw[e,h1] at h;cases h
end Lw
namespace PySem
section
variable {prog:Program}{w:World}{A:Around}{R:Result→Shared→Prop}{s:Shared}
theorem vF{elt target iter:Expr}{ifs:List Expr}{scope:Scope}{pos:Pos}{it acc:Value}{env:Env}(I:Nat→Shared→Prop)
  (turn:∀ n s,I n s→wpAny (model prog w) A (pyNext it) (fun r s₁=>match r with
   | none=>R (.ok .next) s₁
   | some v=>wpAny (model prog w) A (letOwnedTupleGo target it v) (fun _ s₂=>wpAny (model prog w) A (assign target env v) (fun _ s₂ =>
     wpAny (model prog w) A (forIn ifs true fun c r=>if r=true then do let ok ← isTrue c env (eval c env);pure (ForInStep.yield ok) else pure (ForInStep.yield r)) (fun ok s₃ =>
      if ok=true then wpAny (model prog w) A (eval elt env) (fun x s₄=>wpAny (model prog w) A (call (.builtin "list.append") [acc,x]) (fun _ s₅=>∃ m,m<n∧I m s₅) (fun _ _=>False) s₄) (fun _ _=>False) s₃
      else ∃ m,m<n∧I m s₃) (fun _ _=>False) s₂) (fun _ _=>False) s₂) (fun _ _=>False) s₁) (fun _ _=>False) s)
  (n:Nat) (h:I n s):codeAny (model prog w) A (.compLoop (.ListComp elt [⟨target,iter,ifs,0⟩] scope pos) 0 it acc env) R s:=by
 refine codeAny_loop rfl I (fun n s hI=>?_) n h
 show wpAny _ A ((compTurn (.ListComp elt [⟨target,iter,ifs,0⟩] scope pos) 0 it acc env).onRaise (fun x=>do noteFrame x env;theTreesLotGoes x)) _ _ s
 refine wpAny_noted ?_
 rw[compTurn_list]
 refine wpAny_bind (wpAny_standAt (wpAny_bind (wpAny_mono (turn n s hI) (fun r s₁ h₁=>?_) fun _ _ f=>f.elim)))
 cases r with
 | none=>exact wpAny_pure h₁
 | some v =>
  refine wpAny_bind (wpAny_mono h₁ (fun _ s₁ h₁=>?_) fun _ _ f=>f.elim)
  refine wpAny_bind (wpAny_mono h₁ (fun _ s₂ h₂=>wpAny_bind (wpAny_mono h₂ (fun ok s₃ h₃=>?_) fun _ _ f=>f.elim)) fun _ _ f=>f.elim)
  cases ok with
  | false=>exact wpAny_pure ⟨rfl,h₃⟩
  | true=>exact wpAny_bind (wpAny_bind (wpAny_mono h₃ (fun x s₄ h₄=>wpAny_bind (wpAny_mono h₄ (fun _ s₅ h₅=>wpAny_pure (wpAny_pure ⟨rfl,h₅⟩)) fun _ _ f=>f.elim)) fun _ _ f=>f.elim))
end
end PySem
namespace L2
open PySem PySem.Spec PyProof.Rows
end L2
namespace L2
open PySem PySem.Spec PyProof.Rows PySem.Calls
end L2
namespace PySem
open Sem (wp)
end PySem
namespace L2
open PySem PySem.Spec PyProof.Rows
def FY(x:Str):It :=
 ⟨fun i _=>i<x.cps.size,fun i H v H'=>∃ p c,v=.ref p∧H p=none∧H'=upd H p (.tup [.int (i:Nat),.str ⟨#[c]⟩])∧x.cps[i]?=some c,fun i _=>i=x.cps.size⟩
theorem qV{prog:Program}{w:World}{A:Around}(hh:A.handled=none)(it:Addr)(x:Str)(t:Tok)(T:String)(hT:T="str_ascii_iterator"∨T="str_iterator") :
  Draws prog w A it [it] x.cps.size (fun i v=>∃ c u,x.cps[i]?=some c∧v=.str ⟨#[c]⟩ u) (fun i h=>h.IsStrIter it T x t i):=by
 rcases hT with rfl | rfl
 ·exact Draws.strAscii hh it x t
 ·exact Draws.strWide hh it x t
theorem A3{P:Program}{w:World}{K:b0}{es:List Expr}{x1}{pos:Pos}(x:Str)(t:Tok)(T:String)(e it:Addr)(hne:e≠it)(hT:T="str_ascii_iterator"∨T="str_iterator") :
  Turn P w K (.Tuple es x1 pos) (FY x) [e,it] e (fun i h=>(∃ old,IsEnum h e it ((i:Nat):Int) old)∧h.IsStrIter it T x t i) where
 mem:=by simp
 obj:=fun i h st b hb=>by
  obtain⟨⟨old,he⟩,o,g,c,d⟩:=st
  simp only [c4,l6,or_false] at hb
  rcases hb with rfl | rfl
  ·exact⟨_,he,fun v z=>by cases z⟩
  ·exact⟨o,g,fun v z=>by rw[d] at z;cases z⟩
 keep:=fun i h h' st k=>by
  obtain⟨⟨old,he⟩,o,g,r⟩:=st
  exact⟨⟨old,k e (by simp) _ he⟩,o,k it (by simp) o g,r⟩
 item:=by
  intro X hP hw hK hc i pins s σ H E I hf st hg
  subst hP hw hK
  obtain⟨⟨old,he⟩,hs⟩:=st
  have hei:e ∉ [it]:=by simpa using hne
  have DD:=qV (prog:=X.prog) (w:=X.w) (A:=X.A.in1) (I.ok.hd hc) it x t T hT
  refine wpAny_pyNext_enum_itemD DD he hs hg hne hei fun v h1 tk hv ho hs1 hT1 hz1 kp=>⟨_,rfl,?_⟩
  obtain⟨c,u,hc',rfl⟩:=hv
  refine wpAny_letOwnedTupleGo_enum ho fun h2 he2 e2=>?_
  have ne:s.heap.objs.size≠e:=aQc (c7 he)
  have hT2:h2.get? s.heap.objs.size=some { cls:=.type "tuple",data:=.seq #[.int i tk,.str ⟨#[c]⟩ u] }:=(e2.2 _ ne).trans hT1
  have hHn:H s.heap.objs.size=none:=I.hok.fresh (b5 _)
  have kpn:∀ b o,b ∉ [e,it]→s.heap.get? b=some o→h2.get? b=some o:=fun b o hn q=>(e2.2 b fun z=>hn (by simp[z])).trans (kp b o (fun z=>hn (by simp[z])) (fun z=>hn (by simp[z])) q)
  refine⟨.ref s.heap.objs.size,upd H s.heap.objs.size (.tup [.int (i:Nat),.str ⟨#[c]⟩]),?_,rfl,⟨_,c,rfl,hHn,rfl,hc'⟩,⟨⟨_,by simpa using he2⟩,?_⟩,fun b hb=>?_⟩
  ·exact I.turnedN (t':=tk+1) (h':=h2) kpn hf (b5 _) ⟨by show 2≤sizeLine;decide,[.int i tk,.str ⟨#[c]⟩ u],.cons ⟨_,rfl⟩ (.cons ⟨_,rfl⟩ .nil),⟨_,hT2,rfl,0,rfl⟩,⟨_,hT2,rfl⟩⟩
  ·obtain⟨o,g,r⟩:=hs1
   exact⟨o,(e2.2 it hne.symm).trans g,r⟩
  ·have hce:b≠s.heap.objs.size:=by
    obtain⟨o1,g1,_⟩:=hs
    simp only [c4,l6,or_false] at hb
    rcases hb with rfl | rfl
    ·exact d5 (c7 he)
    ·exact d5 (c7 g1)
   rw[aE hce]
   exact(hf b hb).1
 done:=by
  intro X hP hw hK hc i pins s σ H E I hf st hg
  subst hP hw hK
  obtain⟨⟨old,he⟩,hs⟩:=st
  have hi:i=x.cps.size:=hg
  subst hi
  have DD:=qV (prog:=X.prog) (w:=X.w) (A:=X.A.in1) (I.ok.hd hc) it x t T hT
  refine wpAny_pyNext_enum_endD DD he hs fun h1 e1=>⟨rfl,?_⟩
  exact I.turnedM (t':=s.toks) (ch:=[e,it]) (fun b o hn q=>e1 b o (fun z=>hn (by simp[z])) q) hf
 self:=fun A i s Q E st h=>by
  obtain⟨⟨old,he⟩,_⟩:=st
  exact wpAny_pyIter_enum he h
section
variable {X:Cx}
def GM(ta:TA):TI:=fun σ H R=>ta σ H fun vs H1=>∃ z,vs=[.str z]∧R (FY z) H1
theorem yM{es:List Expr}{x1}{tpos:Pos}{a:Expr}{ta:TA}{p pos:Pos}(hg:Gl X "enumerate")(hm:X.mg "enumerate"=none)(ha:PA X [a] ta)(hs:starEach [a] X.env=[(false,eval a X.env)]:=by rfl) :
  PI X (.Tuple es x1 tpos) (.Call (.Name "enumerate" p) [a] [] pos) (GM ta):=by
 intro pins s σ H R I h
 refine Call_ (jA I hg hm boot_enumerate (t7 (bP (ha pos pins s σ H _ I h) fun us s1 ⟨vs,H1,I1,r1,q1⟩=>?_) hs rfl))
 obtain⟨z,e,q⟩:=q1
 subst e
 obtain⟨u,rfl,ru⟩:=r1.one
 obtain⟨t,rfl⟩:=ru
 refine call_enumerate_str fun h' he hit hz kp=>?_
 have I2:Inv X pins σ H1 { s1 with heap:=h' }:=I1.kept (t':=s1.toks) kp
 have hne:s1.heap.objs.size+1≠s1.heap.objs.size:=by omega
 refine wpAny_pyIter_enum he ⟨s1.heap.objs.size+1,[s1.heap.objs.size+1,s1.heap.objs.size],_,_,H1,rfl,I2,A3 z t (strIterType z) _ _ hne (by unfold strIterType;split <;> simp),⟨⟨_,he⟩,hit⟩,fun b hb=>?_,q⟩
 have hle:s1.heap.objs.size≤b:=by
  simp only [c4,l6,or_false] at hb
  rcases hb with h | h <;> rw[h]
  ·exact aXK _ _
  ·exact b5 _
 exact I1.fpOk hle (I1.hok.fresh hle)
end
theorem vN{w:List Nat}{g:TG}{tb:TS}{D:Ends}{σ:St}{H:Hp}(Pv:Nat→St→Hp→Prop)(h0:Pv 0 σ H)
  (hs:∀ i c p σ H,w[i]?=some c→H p=none→Pv i σ H→g (.ref p) σ (upd H p (.tup [.int (i:Nat),.str (S [c])])) fun σ2 H2=>tb { D with nx:=Pv (i+1),ct:=Pv (i+1),bk:=D.nx } σ2 H2) (hd:∀ σ H,Pv w.length σ H→D.nx σ H) :
  ∃ W:Nat→Nat→St→Hp→Prop,(∃ m,W 0 m σ H)∧∀ i m σ H,W i m σ H →
   ((FY (S w)).stop i H∧D.nx σ H)∨((FY (S w)).go i H∧∃ N:St→Hp→Prop,(∀ σ' H',N σ' H'→∃ m',m' < m∧W (i+1) m' σ' H')∧∀ x H',(FY (S w)).yld i H x H'→g x σ H' fun σ2 H2=>tb { D with nx:=N,ct:=N,bk:=D.nx } σ2 H2):=by
 refine⟨fun i m σ H=>m=w.length - i∧i≤w.length∧Pv i σ H,⟨w.length,by simp,j6 _,h0⟩,?_⟩
 rintro i m σ H ⟨rfl,hi,p⟩
 by_cases hlt:i<w.length
 ·refine .inr ⟨by simpa [FY] using hlt,Pv (i+1),fun σ' H' p'=>⟨w.length - (i+1),by omega,rfl,hlt,p'⟩,fun x H' y=>?_⟩
  obtain⟨pp,c,rfl,hn,rfl,hc⟩:=y
  exact hs i c pp σ H (by simpa using hc) hn p
 ·have e:i=w.length:=by omega
  subst e
  exact .inl ⟨by simp[FY],hd σ H p⟩
section
variable {prog:Program}{w:World}{A:Around}{E:Value→Shared→Prop}{s:Shared}
theorem wR{t sl:Addr}{items:Array Value}{vl vu:Value}{lo hi:Option Int}{Q:Value→Shared→Prop}(ht:IsTup s.heap t items)(hs:s.heap.IsSliceOf sl vl vu .none)(pl:IsPart vl lo)(pu:IsPart vu hi)
  (h1:HT.sIx items.size 0 lo=0) (h2:HT.sIx items.size items.size hi=items.size)
  (h:Q (.ref t) s):wpAny (model prog w) A (getItem (.ref t) (.ref sl)) Q E s:=by
 obtain⟨os,hos,hcs,hds⟩:=id hs
 have hTs:s.TypeIs (.ref sl) "slice":=⟨os,hos,hcs⟩
 unfold getItem
 try with_reducible refine wpAny_holding ?_
 first | refine wpAny_bind (wpAny_pure ?_) | skip
 refine wpAny_bind (wpAny_sequenceKey ht.typeIs (by decide) ?_)
 refine wpAny_bind (wpAny_callSpecial?_slot (name:=Str.ofString "__getitem__") ht.typeIs l4
  (wpAny_call_entry l4 ht.typeIs entry_tuple_getitem ?_ (args_tuple_getitem _ _)))
 show wpAny _ _ (Builtin.Tuple.tupleItemsOf (.ref t) >>= _) _ _ s
 refine wpAny_bind (tupleItemsOf_ ht ?_)
 refine wpAny_bind (wpAny_typeOf hTs ?_)
 rw[if_pos (by decide)]
 refine wpAny_bind (HT.sliceApplied_gen hs pl pu ?_)
 rw[h1,h2]
 show wpAny _ _ (if (((0:Nat):Int) == 0 && (1:Int) == 1 && (items.size - 0) == items.size)=true then _ else _) _ _ s
 rw[if_pos (by simp)]
 refine wpAny_bind ?_
 unfold Builtin.Tuple.tupleIsExact
 refine wpAny_bind (wpAny_typeOf ht.typeIs (wpAny_pure ?_))
 rw[if_pos (by decide)]
 exact wpAny_bind (wpAny_rule (wpAny_pure ⟨_,rfl,wpAny_pure h⟩))
end
def Jd(K:b0):V→Option Int→Option Int→Hp→VK→Prop:=fun x lo hi H Q=>∃ (a:Addr) (xs:List V) (j:Nat),x=.ref a∧SqT K H a xs∧lo=none∧hi=some (j:Int)∧j≤xs.length ∧
 (j<xs.length→∀ p,H p=none→Q (.ref p) (upd H p (.tup (xs.take j))))∧(j=xs.length→Q (.ref a) H)
theorem Dn{X:Cx}{K:b0}(hK:X.K=K):Ha X (Jd K):=by
 subst hK
 intro pins s σ H x v vl vu lo hi sl Q I rx hs pl pu h
 obtain⟨a,xs,j,rfl,hx,rfl,rfl,hj,q1,q2⟩:=h
 have e0:HT.sIx xs.length 0 none=0:=rfl
 have e1:HT.sIx xs.length xs.length (some (j:Int))=j:=by
  unfold HT.sIx
  simp only
  rw[if_neg (by omega)]
  simp
  omega
 rcases Nat.lt_or_ge j xs.length with hlt | hge
 ·refine FX pins s σ H _ v vl vu _ _ sl Q I rx hs pl pu ⟨a,xs,rfl,hx,fun z=>?_,?_⟩
  ·rw[e1] at z;omega
  ·have e:uN xs none (some (j:Int))=xs.take j:=by
    unfold uN
    rw[e1,e0]
    simp
   rw[e]
   exact q1 hlt
 ·have ej:j=xs.length:=by omega
  cases rx
  obtain⟨its,r,ht,hz⟩:=I.tuple hx
  have hlen:its.toArray.size=xs.length:=by rw[b8];exact r.length.symm
  refine⟨"tuple",_,l4.lookup,ht.typeIs,?_⟩
  exact wR ht hs pl pu (by rw[hlen];exact e0) (by rw[hlen,e1];exact ej) ⟨.ref a,H,I,rfl,q2 ej⟩
end L2
namespace L2
open PySem PySem.W PyProof.Rows
def KTr(lt:Nat→Nat→Bool)(n:Nat){α:Type}:KasT α→(α→Prop)→Prop
 | .ret a,Q=>Q a
 | .ask i j k,Q=>i<n∧j<n∧KTr lt n (k (lt i j)) Q
theorem KTr.bind{lt:Nat→Nat→Bool}{n:Nat}{α β:Type}{f:α→KasT β}{Q:β→Prop}:∀ {t:KasT α},KTr lt n t (fun a=>KTr lt n (f a) Q)→KTr lt n (t.bind f) Q
 | .ret a,h=>h
 | .ask i j k,h=>⟨h.1,h.2.1,KTr.bind h.2.2⟩
theorem KTr.wp{lt:Nat→Nat→Bool}{n:Nat}{α:Type}{cmp:Nat→Nat→(Bool→Shared→Prop)→Shared→Prop}{Ok:Shared→Prop}
  (hc:∀ i j C s,i<n→j<n→Ok s→(∀ s',Ok s'→C (lt i j) s')→cmp i j C s) {Q:α→Prop} {R:α→Shared→Prop} (hq:∀ a s,Q a→Ok s→R a s):∀ {t:KasT α} {s:Shared},KTr lt n t Q→Ok s→t.kasWp cmp R s
 | .ret a,s,h,o=>hq a s h o
 | .ask i j k,s,h,o=>hc i j _ s h.1 h.2.1 o fun s' o'=>KTr.wp hc hq h.2.2 o'
structure TotLt(lt:Nat→Nat→Bool):Prop where
 asym:∀ i j,lt i j=true→lt j i=false
 tr:∀ i j k,lt j i=false→lt k j=false→lt k i=false
section
variable {lt:Nat→Nat→Bool}{n:Nat}
theorem TotLt.irr(T:TotLt lt)(i:Nat):lt i i=false:=by
 cases h:lt i i with
 | false=>rfl
 | true=>have:=T.asym i i h;rw[h] at this;cases this
def PermN(n:Nat)(p:Array Nat):Prop:=p.Perm (List.toArray (List.range n))
theorem PermN.size{p:Array Nat}(h:PermN n p):p.size=n:=by
 have:=(y3.mp h).length_eq
 simpa using this
theorem PermN.below{p:Array Nat}(h:PermN n p){i:Nat}(hi:i<n):p.getD i 0<n:=by
 have hs:=h.size
 have e:p.getD i 0=p[i]'(by omega):=by simp[Array.getD,show i<p.size by omega]
 rw[e]
 have hm:p[i]'(by omega)∈p:=Array.getElem_mem _
 have:p[i]'(by omega)∈(List.toArray (List.range n)):=h.mem_iff.mp hm
 simpa using this
theorem lA{p q:Array Nat}{i j:Nat}(h:p[i]?=q[j]?):p.getD i 0=q.getD j 0:=by
 rw[aQt,aQt,h]
theorem yL{p:Array Nat}{i j:Nat}(hj:j≤p.size)(k:Nat):(kas_rev p i j).getD k 0=if i≤k∧k<j then p.getD (i+j - 1 - k) 0 else p.getD k 0:=by
 have:=getElem?_mirror_all (i:=i) hj k
 unfold kas_rev
 split
 ·rename_i h;rw[if_pos h] at this;exact lA this
 ·rename_i h;rw[if_neg h] at this;exact lA this
theorem PermN.rev{p:Array Nat}(h:PermN n p)(i j:Nat):PermN n (kas_rev p i j):=(mirror_perm p i j _).trans h
theorem PermN.bub{p:Array Nat}(h:PermN n p)(k d:Nat):PermN n (bubble p k d):=(bubble_perm p k d).trans h
def iY(lt:Nat→Nat→Bool)(p:Array Nat)(m:Nat):Prop:=∀ i j,i≤j→j<m→lt (p.getD j 0) (p.getD i 0)=false
def kA(lt:Nat→Nat→Bool)(p:Array Nat)(m:Nat):Prop:=∀ i j,i≤j→j<m→lt (p.getD i 0) (p.getD j 0)=false
def Ig(lt:Nat→Nat→Bool)(p:Array Nat)(m q:Nat):Prop:=∀ i j,m≤i+q+1→i<m→m≤j+q+1→j<m→lt (p.getD i 0) (p.getD j 0)=false
theorem wX(T:TotLt lt){p:Array Nat}(g:PermN n p){Q:Nat→Prop}:∀ (f m:Nat),1≤m→m+f=n→iY lt p m →
  (∀ m',m≤m'→m'≤n→iY lt p m'→(m'=n∨lt (p.getD m' 0) (p.getD (m' - 1) 0)=true)→Q m')→KTr lt n (kas_asc p f m) Q
 | 0,m,h1,h2,hs,hq=>hq m (b5 _) (by omega) hs (.inl (by omega))
 | f+1,m,h1,h2,hs,hq=>by
  refine⟨g.below (by omega),g.below (by omega),?_⟩
  cases hc:lt (p.getD m 0) (p.getD (m - 1) 0) with
  | true=>exact hq m (b5 _) (by omega) hs (.inr hc)
  | false =>
   refine wX T g f (m+1) (by omega) (by omega) (fun i j hij hj=>?_) fun m' hm=>hq m' (by omega)
   by_cases e:j=m
   ·subst e
    by_cases e2:i=j
    ·subst e2;exact T.irr _
    ·exact T.tr _ _ _ (hs i (j - 1) (by omega) (by omega)) hc
   ·exact hs i j hij (by omega)
theorem AK(T:TotLt lt){p q:Array Nat}{m:Nat}(h:kA lt p m)(e1:∀ i,i<m→lt (q.getD i 0) (p.getD i 0)=false)(e2:∀ i,i<m→lt (p.getD i 0) (q.getD i 0)=false):kA lt q m:=fun i j hij hj =>
 T.tr _ _ _ (e2 j hj) (T.tr _ _ _ (h i j hij hj) (e1 i (by omega)))
theorem mL(T:TotLt lt){p:Array Nat}(g:PermN n p){m q k:Nat}(hm:m≤n)(hq:q+1≤m)(hmk:m≤k)(h:kA lt p k)(e:Ig lt p m q):kA lt (kas_rev p (m - (q+1)) m) k:=by
 have hs:=g.size
 have rd:=yL (p:=p) (i:=m - (q+1)) (j:=m) (by omega)
 refine AK T h (fun i hi=>?_) fun i hi=>?_
 ·rw[rd]
  split
  ·exact e _ _ (by omega) (by omega) (by omega) (by omega)
  ·exact T.irr _
 ·rw[rd]
  split
  ·exact e _ _ (by omega) (by omega) (by omega) (by omega)
  ·exact T.irr _
theorem nF(T:TotLt lt){Q:Array Nat×Nat×Nat→Prop}:∀ (f:Nat) (p:Array Nat) (m q:Nat),PermN n p→1≤m→q+1≤m→m+f=n→kA lt p m→Ig lt p m q →
  (∀ p' m' q',PermN n p'→1≤m'→m'≤n→q' + 1≤m'→kA lt p' m'→Ig lt p' m' q'→Q (p',m',q'))→KTr lt n (kas_desc f p m q) Q
 | 0,p,m,q,g,h1,hq,h2,hn,he,k=>k p m q g h1 (by omega) hq hn he
 | f+1,p,m,q,g,h1,hq,h2,hn,he,k=>by
  refine⟨g.below (by omega),g.below (by omega),?_⟩
  cases hc:lt (p.getD m 0) (p.getD (m - 1) 0) with
  | true =>
   have hn1:kA lt p (m+1):=fun i j hij hj=>by
    by_cases e:j=m
    ·subst e
     by_cases e2:i=j
     ·subst e2;exact T.irr _
     ·exact T.tr _ _ _ (T.asym _ _ hc) (hn i (j - 1) (by omega) (by omega))
    ·exact hn i j hij (by omega)
   have z0:∀ (p:Array Nat) (m:Nat),Ig lt p (m+1) 0:=fun p m i j hi hi2 hj hj2=>by
    have e1:i=m:=by omega
    have e2:j=m:=by omega
    rw[e1,e2];exact T.irr _
   show KTr lt n (if q > 0 then _ else _) Q
   split
   ·exact nF T f _ (m+1) 0 (g.rev _ _) (by omega) (by omega) (by omega) (mL T g (by omega) hq (by omega) hn1 he) (z0 _ _) k
   ·exact nF T f p (m+1) 0 g (by omega) (by omega) (by omega) hn1 (z0 _ _) k
  | false =>
   refine⟨g.below (by omega),g.below (by omega),?_⟩
   cases hd:lt (p.getD (m - 1) 0) (p.getD m 0) with
   | true=>exact k p m q g h1 (by omega) hq hn he
   | false =>
    refine nF T f p (m+1) (q+1) g (by omega) (by omega) (by omega) (fun i j hij hj=>?_) (fun i j hi hi2 hj hj2=>?_) k
    ·by_cases e:j=m
     ·subst e
      by_cases e2:i=j
      ·subst e2;exact T.irr _
      ·exact T.tr _ _ _ hd (hn i (j - 1) (by omega) (by omega)) |> fun z=>by
        first | exact z | exact T.tr _ _ _ hc (hn i (j - 1) (by omega) (by omega))
     ·exact hn i j hij (by omega)
    ·by_cases e:i=m
     ·subst e
      by_cases e2:j=i
      ·subst e2;exact T.irr _
      ·exact T.tr _ _ _ (he j (i - 1) (by omega) (by omega) (by omega) (by omega) |> fun z=>he (i - 1) j (by omega) (by omega) (by omega) (by omega)) hc
     ·by_cases e2:j=m
      ·subst e2
       exact T.tr _ _ _ hd (he i (j - 1) (by omega) (by omega) (by omega) (by omega))
      ·exact he i j (by omega) (by omega) (by omega) (by omega)
theorem uS(T:TotLt lt){p:Array Nat}(g:PermN n p){m:Nat}(h1:1≤m)(hm:m≤n)(hn:kA lt p m){Q:Nat×Array Nat→Prop}
  (k:∀ p' m',PermN n p'→1≤m'→m'≤n→iY lt p' m'→Q (m',p')):KTr lt n (kas_tail3 m n p) Q:=by
 unfold kas_tail3
 have hs:=g.size
 have rd:=yL (p:=p) (i:=0) (j:=m) (by omega)
 refine KTr.bind (wX T (g.rev 0 m) (n - m) m h1 (by omega) (fun i j hij hj=>?_) fun m' hm' hn' so _=>k _ m' (g.rev 0 m) (by omega) hn' so)
 rw[rd,rd,if_pos ⟨by omega,by omega⟩,if_pos ⟨by omega,by omega⟩]
 exact hn _ _ (by omega) (by omega)
theorem mW(T:TotLt lt){p:Array Nat}(g:PermN n p){m:Nat}(hm:m+1≤n)(hn:kA lt p (m+1)){Q:Nat×Array Nat→Prop}
  (k:∀ p' m',PermN n p'→1≤m'→m'≤n→iY lt p' m'→Q (m',p')):KTr lt n (kas_descPart m n p) Q:=by
 unfold kas_descPart
 refine KTr.bind (nF T (n - (m+1)) p (m+1) 0 g (by omega) (by omega) (by omega) hn (fun i j hi hi2 hj hj2=>?_) fun p' m' q' g' h1 h2 hq hn' he=>?_)
 ·have e1:i=m:=by omega
  have e2:j=m:=by omega
  rw[e1,e2];exact T.irr _
 ·show KTr lt n (if q' > 0 then _ else _) Q
  split
  ·exact uS T (g'.rev _ _) h1 h2 (mL T g' h2 hq (b5 _) hn' he) k
  ·exact uS T g' h1 h2 hn' k
theorem Be(T:TotLt lt){p:Array Nat}(g:PermN n p)(h1:1≤n){Q:Nat×Array Nat→Prop}
  (k:∀ p' m',PermN n p'→1≤m'→m'≤n→iY lt p' m'→Q (m',p')):KTr lt n (kas_count n p) Q:=by
 unfold kas_count
 have hs:=g.size
 refine KTr.bind (wX T g (n - 1) 1 (b5 _) (by omega) (fun i j hij hj=>?_) fun m hm hn so hor=>?_)
 ·have e1:i=j:=by omega
  rw[e1];exact T.irr _
 ·split
  ·exact k p m g hm hn so
  ·rename_i hne
   have hne':m≠n:=fun e=>hne (by rw[e];simp)
   have hlt:lt (p.getD m 0) (p.getD (m - 1) 0)=true:=by
    rcases hor with e | e
    ·exact absurd e hne'
    ·exact e
   split
   ·rename_i hm1
    refine⟨g.below (by omega),g.below (by omega),?_⟩
    cases hc:lt (p.getD 0 0) (p.getD (m - 1) 0) with
    | true=>exact k p m g hm hn so
    | false =>
     have all:∀ i j,i<m→j<m→lt (p.getD i 0) (p.getD j 0)=false:=fun i j hi hj =>
      T.tr _ _ _ (so j (m - 1) (by omega) (by omega)) (T.tr _ _ _ hc (so 0 i (by omega) hi))
     have hn1:kA lt p (m+1):=fun i j hij hj=>by
      by_cases e:j=m
      ·subst e
       by_cases e2:i=j
       ·subst e2;exact T.irr _
       ·exact T.tr _ _ _ (T.asym _ _ hlt) (all i (j - 1) (by omega) (by omega))
      ·exact all i j (by omega) (by omega)
     have hr:=mL T g (q:=m - 1) hn (by omega) (aQD m) hn1 (fun i j _ hi _ hj=>all i j hi hj)
     rw[show m - (m - 1+1)=0 by omega] at hr
     exact mW T (g.rev 0 m) (by omega) hr k
   ·rename_i hm1
    have e1:m=1:=by omega
    subst e1
    refine mW T g (by omega) (fun i j hij hj=>?_) k
    by_cases e:i=j
    ·subst e;exact T.irr _
    ·have e1:i=0:=by omega
     have e2:j=1:=by omega
     rw[e1,e2]
     exact T.asym _ _ hlt
theorem oR(T:TotLt lt){p:Array Nat}(g:PermN n p){k:Nat}(hk:k<n)(so:iY lt p k){Q:Nat→Prop}:∀ (f l r:Nat),l≤r→r≤k→r - l≤f→(∀ i,i<l→lt (p.getD k 0) (p.getD i 0)=false)→(∀ i,r≤i→i<k→lt (p.getD k 0) (p.getD i 0)=true) →
  (∀ l',l'≤k→(∀ i,i<l'→lt (p.getD k 0) (p.getD i 0)=false)→(∀ i,l'≤i→i<k→lt (p.getD k 0) (p.getD i 0)=true)→Q l')→KTr lt n (kas_place p k f l r) Q
 | 0,l,r,h1,h2,h3,ha,hb,q=>q l (by omega) ha fun i hi=>hb i (by omega)
 | f+1,l,r,h1,h2,h3,ha,hb,q=>by
  show KTr lt n (if l ≥ r then _ else _) Q
  split
  ·exact q l (by omega) ha fun i hi=>hb i (by omega)
  ·refine⟨g.below hk,g.below (by omega),?_⟩
   cases hc:lt (p.getD k 0) (p.getD ((l+r) / 2) 0) with
   | true =>
    refine oR T g hk so f l ((l+r) / 2) (by omega) (by omega) (by omega) ha (fun i hi hik=>?_) q
    cases hz:lt (p.getD k 0) (p.getD i 0) with
    | true=>rfl
    | false =>
     have:=T.tr _ _ _ (so ((l+r) / 2) i hi hik) hz
     rw[hc] at this;cases this
   | false =>
    refine oR T g hk so f ((l+r) / 2+1) r (by omega) h2 (by omega) (fun i hi=>?_) hb q
    exact T.tr _ _ _ (so i ((l+r) / 2) (by omega) (by omega)) hc
theorem Dv{p:Array Nat}{k l:Nat}(hk:k<p.size)(hl:l≤k)(i:Nat):(bubble p k (k - l)).getD i 0=if i=l then p.getD k 0 else if l<i∧i≤k then p.getD (i - 1) 0 else p.getD i 0:=by
 have:=getElem?_bubble hk (k - l) (by omega) i
 rw[show k - (k - l)=l by omega] at this
 by_cases h:i=l
 ·rw[if_pos h] at this ⊢;exact lA this
 ·rw[if_neg h] at this ⊢
  by_cases h2:l<i∧i≤k
  ·rw[if_pos h2] at this ⊢;exact lA this
  ·rw[if_neg h2] at this ⊢;exact lA this
theorem BV(T:TotLt lt){Q:Array Nat→Prop}:∀ (f:Nat) (p:Array Nat) (k:Nat),PermN n p→k+f=n→iY lt p k→(∀ p',PermN n p'→iY lt p' n→Q p')→KTr lt n (kas_bin f p k) Q
 | 0,p,k,g,h,so,q=>q p g (by rw[← h];exact so)
 | f+1,p,k,g,h,so,q=>by
  have hs:=g.size
  refine KTr.bind (oR T g (by omega) so k 0 k (by omega) (b5 _) (by omega) (fun i hi=>absurd hi (aQg _)) (fun i h1 h2=>absurd h2 (by omega)) fun l hl ha hb=>?_)
  refine BV T f _ (k+1) (g.bub _ _) (by omega) (fun i j hij hj=>?_) q
  have rd:=Dv (p:=p) (k:=k) (l:=l) (by omega) hl
  rw[rd,rd]
  by_cases e1:i=j
  ·subst e1;exact T.irr _
  ·by_cases cj:j=l
   ·rw[if_pos cj,if_neg (by omega),if_neg (by omega)]
    exact ha i (by omega)
   ·rw[if_neg cj]
    by_cases ci:i=l
    ·rw[if_pos ci,if_pos (by omega)]
     exact T.asym _ _ (hb (j - 1) (by omega) (by omega))
    ·rw[if_neg ci]
     split <;> split
     ·exact so _ _ (by omega) (by omega)
     ·exact so _ _ (by omega) (by omega)
     ·exact so _ _ (by omega) (by omega)
     ·exact so _ _ (by omega) (by omega)
theorem DY(T:TotLt lt)(h1:1≤n):KTr lt n (kas_sort n) fun p=>PermN n p∧iY lt p n:=by
 unfold kas_sort
 refine KTr.bind (Be T (aZ2 _) h1 fun p m g h2 h3 so=>?_)
 show KTr lt n (if m<n then _ else _) _
 split
 ·rw[show max m 1=m by omega]
  exact BV T (n - m) p m g (by omega) so fun p' g' so'=>⟨g',so'⟩
 ·rename_i h
  have e:m=n:=by omega
  subst e
  exact⟨g,so⟩
end
end L2
namespace L2
open PySem PySem.W PySem.Spec PyProof.Rows
def mC(x y:Int×List Int):Bool:=if x.1=y.1 then HT.lexLt x.2 y.2 else decide (x.1<y.1)
def oI(H:Hp)(v:V)(k:Int×List Int):Prop:=∃ (p a:Addr),v=.ref p∧H p=some (.tup [.int k.1,.ref a])∧H a=some (.lst (k.2.map V.int))
theorem C9{X:Cx}{pins:List (Addr×Obj)}{σ:St}{H:Hp}{s:Shared}(hu:X.A.units+8<cLine)(I:Inv X pins σ H s){v y:V}{u z:Value}{k m:Int×List Int}(hv:oI H v k)(hw:oI H y m)(ru:RelV v u)(rz:RelV y z)
  (hl:k.1=m.1→k.2.length=m.2.length) {Q:Bool→Shared→Prop} {E:Value→Shared→Prop} (h:Q (mC k m) s):wpAny (model X.prog X.w) X.A (keyLt' (tuples' true) u z) Q E s:=by
 obtain⟨L,ns⟩:=k
 obtain⟨M,ms⟩:=m
 obtain⟨p,a,rfl,hp,ha⟩:=hv
 obtain⟨q,c,rfl,hq,hc⟩:=hw
 cases ru
 cases rz
 obtain⟨_,ip,rp,⟨op,gp1,gp2,np,gp3⟩,_⟩:=I.hok p _ hp
 obtain⟨_,iq,rq,⟨oq,gq1,gq2,nq,gq3⟩,_⟩:=I.hok q _ hq
 obtain⟨u1,u2,rfl,r1,r2⟩:=rp.two
 obtain⟨w1,w2,rfl,r3,r4⟩:=rq.two
 obtain⟨t1,rfl⟩:=r1
 obtain⟨t3,rfl⟩:=r3
 cases r2
 cases r4
 obtain⟨_,us,n1,ru,gu⟩:=I.hok a _ ha
 obtain⟨_,vs,n2,rv,gv⟩:=I.hok c _ hc
 have lus:us.length=ns.length:=by rw[← ru.length,b7]
 have lvs:vs.length=ms.length:=by rw[← rv.length,b7]
 have hla:s.heap.IsList a us.toArray:=⟨_,gu,rfl,n1,rfl⟩
 have hlc:s.heap.IsList c vs.toArray:=⟨_,gv,rfl,n2,rfl⟩
 have fl:∀ zs:List Int,(zs.map V.int).all eV=true:=fun zs=>by rw[aXp];exact p9.mpr fun _ _=>rfl
 have hu1:X.A.in1.units<cLine:=by unfold Around.in1;show X.A.units+1<cLine;omega
 have hu0:X.A.units<cLine:=by omega
 have hiu:=pM ru
 have hiv:=pM rv
 refine kat_lt gp1 gp3 gq1 gq3 ?_
 refine kat_cons ((aQV L t1 M t3 (A:=X.A) (s:=s)) X.prog X.w _ _ ?_)
 show KatGo _ _ _ _ _ _ _ _ _ _ (L == M) s
 by_cases e:L=M
 ·subst e
  have hlen:ns.length=ms.length:=hl rfl
  have h':Q (HT.lexLt ns ms) s:=by
   have:mC (L,ns) (L,ms)=HT.lexLt ns ms:=by unfold mC;rw[if_pos rfl]
   rw[← this];exact h
  rw[show (L == L)=true from by simp]
  refine kat_yes ?_
  have heq:SeqAt.EqAt X.A s (.ref a) (.ref c) (decide (ns=ms)):=by
   by_cases hac:a=c
   ·subst hac
    rw[ha] at hc
    have e1:ns=ms:=by
     have:=HO.lst.inj (i3 hc)
     exact(List.map_inj_right (fun x y h=>V.int.inj h)).mp this
    rw[decide_eq_true e1]
    exact aQd _
   ·have z:=aZU (A:=X.A) hla hlc (by simp;omega) hu0 (jI (A:=X.A.in1) (s:=s) ru rv (fl ns) (fl ms))
    rw[b8,← ru.length,eZ (by rw[b7,b7];exact hlen),oV] at z
    exact aQu hac z
  refine kat_cons (heq X.prog X.w _ _ ?_)
  show KatGo _ _ _ _ _ _ _ _ _ _ (decide (ns=ms)) s
  by_cases e2:ns=ms
  ·rw[decide_eq_true e2]
   refine kat_yes (kat_nil ?_)
   rw[e2,pN] at h'
   exact h'
  ·rw[decide_eq_false e2]
   refine kat_no (kat_one _ _ ?_)
   exact richCompare_meets_room (op:=.Lt) ⟨_,gu,rfl⟩ ⟨_,gv,rfl⟩ PySem.F.slot_list_lt PySem.F.entry_list_lt (PySem.F.args_list_lt_2 _ _) (LtL.list_lt a c us vs n1 n2 ns ms hiu hiv (by omega))
    ⟨gu,gv,show Value.bool (HT.lexLt ns ms)≠Value.notImplemented∧PySem.W.BoolBack Q (.bool (HT.lexLt ns ms)) s from ⟨(fun x=>nomatch x),h'⟩⟩ hu0
 ·have h':Q (decide (L<M)) s:=by
   have:mC (L,ns) (M,ms)=decide (L<M):=by unfold mC;rw[if_neg e]
   rw[← this];exact h
  rw[show (L == M)=false from by simpa using e]
  exact kat_no (oneLt_int h')
section
variable {X:Cx}{pins:List (Addr×Obj)}{σ:St}{H:Hp}{s:Shared}{h':Heap}
theorem Inv.adopt{t':Nat}{D:Addr}{xs:List V}(I:Inv X pins σ H s)(k:∀ b o,b≠D→s.heap.get? b=some o→h'.get? b=some o)(hf:gB X pins H D)
  (new:ObjOk X.prog X.w (upd H D (.lst xs)) h' D (.lst xs)):Inv X pins σ (upd H D (.lst xs)) { s with heap:=h',toks:=t' }:=by
 obtain⟨f0,f1,f2,f3,f4,f5⟩:=hf
 have un:∀ {b u},H b=some u→upd H D (.lst xs) b=some u:=fun e=>by rw[aE (aI e f0)];exact e
 have nch:∀ {b u},H b=some u→b≠D:=fun e=>aI e f0
 refine I.step (g':=s.gens) (d':=s.drawn) (ch:=[D]) (fun b hb=>?_) (fun b o _ _ hc e _=>k b o (by simpa using hc) e) (fun b o _ _ hc e _=>⟨o.slots,k b o (by simpa using hc) e⟩) (fun b o hc e n=>?_) (fun b o hc e=>⟨o,k b o (by simpa using hc) e⟩) (fun _ _ e=>un e) (fun _ _ _ e=>un e)
  (fun b ps e=>⟨#[],by rw[un e];simp⟩) (fun m hm=>?_) (fun b u e=>?_) I.bare
 ·have e:b=D:=by simpa using hb
  subst e
  exact⟨f3,f1,f4,f5⟩
 ·rw[aE (by simpa using hc)]
  exact n
 ·obtain⟨o,es,ep,ho,r⟩:=hm
  exact⟨o,es,ep,k _ o (fun z=>f1 z.symm) ho,r⟩
 ·by_cases hb:b=D
  ·subst hb
   rw[aC] at e
   cases e
   exact new
  ·rw[aE hb] at e
   refine(I.hok b u e).stay (fun c v hc q=>k c v ?_ q) (fun c q=>un q) fun c ys q=>un q
   rcases hc with z | z
   ·rw[z];exact hb
   ·exact nch z
end
def F9(K:b0)(sp:Sp)(ta:TA):TE:=fun σ H Q=>ta σ H fun vs H1=>∃ (l:Addr) (xs:List V) (kz:List (Int×List Int)) (Pv:Addr→Nat→List V→Hp→Prop),vs=[.ref l]∧SqL K H1 l xs∧xs.length<64∧kz.length=xs.length ∧
 (∀ (i j:Nat) (a b:Int×List Int),kz[i]?=some a→kz[j]?=some b→a.1=b.1→a.2.length=b.2.length)∧TotLt (fun i j=>mC (kz.getD i (0,[])) (kz.getD j (0,[]))) ∧
 (∀ S,H1 S=none→Pv S 0 [] (upd H1 S (.lst []))) ∧
 (∀ S i ks H,Pv S i ks H→∀ y,xs[i]?=some y→sp [y] H (fun v H2=>H2 S=some (.lst ks)∧ks.length=i∧Pv S (i+1) (ks++[v]) (upd H2 S (.lst (ks++[v])))) E0) ∧
 (∀ S ks H,Pv S xs.length ks H→H S=some (.lst ks)∧ks.length=xs.length∧(∀ (i:Nat) (v:V) (k:Int×List Int),ks[i]?=some v→kz[i]?=some k→oI H v k) ∧
  ∀ p:Array Nat,PermN xs.length p→iY (fun i j=>mC (kz.getD i (0,[])) (kz.getD j (0,[]))) p xs.length→∀ D,upd H S (.lst []) D=none→Q (.ref D) (upd (upd H S (.lst [])) D (.lst (p.toList.map fun i=>xs.getD i .non))))
section
variable {X:Cx}{k:Nat}{f:Addr}{fd:FuncData}{ps:List Str}{sp:Sp}
theorem zJ{pins:List (Addr×Obj)}{σ:St}{S:Addr}{xs:List V}{Pv:Nat→List V→Hp→Prop}{body:Value→PUnit→Sem (ForInStep PUnit)}{E:Value→Shared→Prop}
  (F:FnOk X.prog X.w X.K X.mg X.base zO k f fd ps sp) (hr:Room k X.one.one.A) (hb:Binds X.K fd ps []) (h64:xs.length<64)
  (hbody:∀ x (s:Shared) (R:ForInStep PUnit→Shared→Prop),wpAny (model X.prog X.w) X.one.one.A (call (.ref f) [x]) (fun kv s'=>wpAny (model X.prog X.w) X.one.one.A (Builtin.List.listUpdate (.ref S) (·.push kv)) (fun _ s''=>R (.yield ⟨⟩) s'') E s') (fun _ _=>False) s→wpAny (model X.prog X.w) X.one.one.A (body x ⟨⟩) R E s)
  (hst:∀ i ks H,Pv i ks H→∀ y,xs[i]?=some y→sp [y] H (fun v H2=>H2 S=some (.lst ks)∧ks.length=i∧Pv (i+1) (ks++[v]) (upd H2 S (.lst (ks++[v])))) E0) :
  ∀ (r:List V) (us:List Value) (i:Nat) (ks:List V) (s:Shared) (H:Hp),Vals r us→xs.drop i=r→i+r.length=xs.length→Inv X.one.one pins σ H s→Pv i ks H →
   wpAny (model X.prog X.w) X.one.one.A (forIn us PUnit.unit body) (fun _ s'=>∃ ks H',Inv X.one.one pins σ H' s'∧Pv xs.length ks H') E s
 | [],us,i,ks,s,H,rv,hd,hl,I,pv=>by
  cases rv
  rw[List.forIn_nil]
  have:i=xs.length:=by simpa using hl
  subst this
  exact wpAny_pure ⟨ks,H,I,pv⟩
 | y::r,us,i,ks,s,H,rv,hd,hl,I,pv=>by
  cases rv with
  | cons ru rr =>
   rename_i u us
   have hy:xs[i]?=some y:=by
    have:=congrArg List.head? hd
    rw[List.head?_drop] at this
    exact this
   rw[aZZ]
   refine wpAny_bind (hbody _ _ _ (wpAny_mono (sF (X:=X.one.one) F hr hb .nil eF I (.cons ru .nil) (hst i ks H pv y hy)) (fun kv s1 hq=>?_) fun _ _ e=>e))
   obtain⟨v,H1,I1,rk,eS,hkl,pv1⟩:=hq
   obtain⟨z,its,n,rks,hlk,eo⟩:=I1.lstM eS
   rw[j1] at hl
   have h64':its.length<64:=by omega
   refine listUpdate_at eo rfl ?_ (by rw[b8,sizeLine_eq];omega) (j0 (aXk (Array.size_push ..)) (by rw[b8,sizeLine_eq];omega))
   have I2:=I1.lset (t':=s1.toks) (its':=its++[kv]) (ys:=ks++[v]) (f:=(·.push kv)) eS eo (by simp) (rks.append (.cons rk .nil)) (by rw[b9,aQM,sizeLine_eq];omega)
   exact zJ F hr hb h64 hbody hst r us (i+1) (ks++[v]) _ _ rr (by rw[← List.drop_drop,hd];rfl) (by omega) I2 pv1
theorem xS{kz:List (Int×List Int)}{i:Nat}(h:i<kz.length):kz[i]?=some (kz.getD i (0,[])):=by
 rw[c6,a9 h];rfl
theorem oQ{pins:List (Addr×Obj)}{σ:St}{H:Hp}{s:Shared}(I:Inv X pins σ H s):∀ (ks:List V) (us:List Value),Vals ks us→(∀ v∈ks,∃ q,oI H v q)→∃ fs,PySem.W.KatTups s.heap us fs∧fs.length=us.length∧∀ v∈fs,∃ i t,v=Value.int i t
 | [],us,r,_=>by
  cases r
  exact⟨[],.nil,rfl,fun v hv=>(nomatch hv)⟩
 | v::ks,us,r,h=>by
  cases r with
  | cons r1 r2 =>
   obtain⟨fs,t,hl,hi⟩:=oQ I ks _ r2 fun y hy=>h y (c8 _ hy)
   obtain⟨q,p,a,rfl,hp,ha⟩:=h v (d8 ..)
   cases r1
   obtain⟨_,ip,rp,⟨op,gp1,gp2,np,gp3⟩,_⟩:=I.hok p _ hp
   obtain⟨u1,u2,rfl,r1,r2⟩:=rp.two
   obtain⟨t1,rfl⟩:=r1
   refine⟨Value.int q.1 t1::fs,.cons gp1 gp2 gp3 (by simp) t,by simp[hl],fun y hy=>?_⟩
   rcases c4.mp hy with rfl | hy
   ·exact⟨_,_,rfl⟩
   ·exact hi y hy
theorem sO{xs:List V}{us:List Value}(r:Vals xs us)(i:Nat)(h:i<xs.length):RelV (xs.getD i .non) (us.getD i Value.none):=by
 obtain⟨u,hu,ru⟩:=r.get (a9 h)
 rw[c6,c6,hu,a9 h]
 exact ru
theorem qK{xs:List V}{us:List Value}(r:Vals xs us):∀ l:List Nat,(∀ i∈l,i<xs.length)→Vals (l.map fun i=>xs.getD i .non) (l.map fun i=>us.getD i Value.none)
 | [],_=>.nil
 | i::l,h=>.cons (sO r i (h i (d8 ..))) (qK r l fun j hj=>h j (c8 _ hj))
theorem C1(us vs:List Value)(h:us.length=vs.length):(us.toArray.zip vs.toArray).map (·.2)=vs.toArray:=by
 apply aZT.mp
 rw[Array.toList_map,ksk_zip]
 simp only [aQo]
 rw[List.map_snd_zip (by omega)]
theorem xR(vs:List Value):List.toArray ((List.toArray (List.range vs.length)).toList.map fun i=>vs.getD i Value.none)=vs.toArray:=by
 congr 1
 refine aQx fun i=>?_
 by_cases h:i<vs.length
 ·simp[h]
 ·simp[h]
theorem Ce{pins:List (Addr×Obj)}{σ:St}{H:Hp}{s:Shared}{S D:Addr}{e1:Nat}{ks xs:List V}{vs:List Value}{kz:List (Int×List Int)}{P:PySem.Fin→Shared→Prop}{E:Value→Shared→Prop}(hu:X.one.one.A.units+8<cLine)
  (I:Inv X.one.one (pins++[(D,seqObj "list" #[] e1)]) σ H s) (hf:gB X.one.one pins H D) (eS:H S=some (.lst ks)) (rx:Vals xs vs) (hl:ks.length=xs.length) (h64:xs.length<64) (hkl:kz.length=xs.length)
  (hk:∀ (i:Nat) (v:V) (q:Int×List Int),ks[i]?=some v→kz[i]?=some q→oI H v q)
  (hlen:∀ (i j:Nat) (a b:Int×List Int),kz[i]?=some a→kz[j]?=some b→a.1=b.1→a.2.length=b.2.length) (T:TotLt (fun i j=>mC (kz.getD i (0,[])) (kz.getD j (0,[]))))
  (h:∀ (p:Array Nat) (s':Shared),PermN xs.length p→iY (fun i j=>mC (kz.getD i (0,[])) (kz.getD j (0,[]))) p xs.length→Inv X.one.one pins σ (upd (upd H S (.lst [])) D (.lst (p.toList.map fun i=>xs.getD i .non))) s'→P (.done (.ret .none)) s') :
  wpAny (model X.prog X.w) X.one.one.A (Builtin.List.listItems (.ref S) >>= fun keys=>ksk_end D false vs.toArray e1 (.ref S) keys) P E s:=by
 obtain⟨z,us,n,ru,hlu,eo⟩:=I.lstM eS
 have lx:=rx.length
 have hD:s.heap.get? D=some (seqObj "list" #[] e1):=(I.pin (D,seqObj "list" #[] e1) (d6 _ (d6 _ (z4 _)))).1
 refine wpAny_bind (listItems_at eo rfl ?_)
 -- the last steps: the keys' list is emptied,the sorted one is laid
 have tail:∀ (st:SortSt) (p:Array Nat) (s1:Shared),Inv X.one.one (pins++[(D,seqObj "list" #[] e1)]) σ H s1→(arrOf st).map (·.2)=List.toArray (p.toList.map fun i=>vs.getD i Value.none)→failedOf st=none→PermN xs.length p →
   iY (fun i j=>mC (kz.getD i (0,[])) (kz.getD j (0,[]))) p xs.length→wpAny (model X.prog X.w) X.one.one.A (ksk_tail D false e1 (.ref S) st) P E s1:=fun st p s1 I1 hout hfl hp hso=>by
  obtain⟨z1,us1,n1,ru1,hlu1,eo1⟩:=I1.lstM eS
  have I2:=I1.lset (t':=s1.toks) (its':=[]) (ys:=[]) (f:=fun _=>#[]) eS eo1 rfl .nil (j6 _)
  have hD1:s1.heap.get? D=some (seqObj "list" #[] e1):=(I1.pin (D,seqObj "list" #[] e1) (d6 _ (d6 _ (z4 _)))).1
  have hD2:(s1.heap.update S (Obj.mapSeq fun _=>(#[]:Array Value))).get? D=some (seqObj "list" #[] e1):=(I2.pin (D,seqObj "list" #[] e1) (d6 _ (d6 _ (z4 _)))).1
  have hps:p.toList.length=xs.length:=by rw[p5];exact hp.size
  have hpb:∀ i∈p.toList,i<xs.length:=fun i hi=>by
   have:=(y3.mp hp).mem_iff.mp hi
   simpa using this
  unfold ksk_tail
  try dsimp only
  rw[hout]
  refine wpAny_bind (listUpdate_at eo1 rfl ?_ (by rw[b8,sizeLine_eq];omega) (j6 _))
  refine wpAny_bind (wpAny_letGo ?_)
  refine wpAny_bind (seqEpoch_at hD2 rfl ?_)
  simp only [aQB,if_false]
  refine wpAny_bind (listUpdate_at hD2 rfl ?_ (j6 _) (by show (List.toArray (p.toList.map fun i=>vs.getD i Value.none)).size≤_;rw[b8,b7,hps,sizeLine_eq];omega))
  rw[hfl]
  simp only [bne_self_eq_false,aQB,if_false]
  refine wpAny_pure (h p _ hp hso ?_)
  have rv:=qK rx p.toList hpb
  have I3:=I2.unpinned
  have f2:gB X.one.one pins (upd H S (.lst [])) D:=⟨by rw[aE (aI eS hf.1).symm];exact hf.1,hf.2⟩
  have sb:=p6 (s1.heap.update S (Obj.mapSeq fun _=>(#[]:Array Value))) D (Obj.mapSeq fun _=>List.toArray (p.toList.map fun i=>vs.getD i Value.none))
  refine I3.adopt (t':=s1.toks) (D:=D) (fun b o hb e=>(sb.2 b hb).trans e) f2 ⟨by rw[b7,hps,sizeLine_eq];omega,_,_,rv,get?_update_seq hD2 fun _=>List.toArray (p.toList.map fun i=>vs.getD i Value.none)⟩
 unfold ksk_end
 try dsimp only
 simp only [aQB,if_false]
 by_cases h2:xs.length<2
 ·have h2':vs.toArray.size<2:=by rw[b8];omega
  rw[if_pos h2',if_pos h2']
  refine wpAny_bind (wpAny_pure ?_)
  show wpAny _ _ (pure ((),SortSt.mk' general' (us.toArray.zip vs.toArray) #[] 7 none) >>= _) _ _ _
  refine wpAny_bind (wpAny_pure ?_)
  refine tail _ (List.toArray (List.range xs.length)) s I ?_ rfl (aZ2 _) (fun i j hij hj=>?_)
  ·show (us.toArray.zip vs.toArray).map (·.2)=_
   rw[C1 us vs (by omega),lx,xR]
  ·have e:i=j:=by omega
   rw[e];exact T.irr _
 ·have h2':¬ vs.toArray.size<2:=by rw[b8];omega
  rw[if_neg h2',if_neg h2']
  have lu:us.length=vs.length:=by omega
  obtain⟨fs,ht,hfl,hfi⟩:=oQ I ks us ru fun v hv=>by
   obtain⟨i,hi⟩:=l8 hv
   have hi':i<ks.length:=(a8.mp hi).1
   exact⟨_,hk i v _ hi (xS (by omega))⟩
  refine wpAny_bind (PySem.W.kat_kind (T:=.type "int") ht (by omega) (fun v hv=>?_) (by decide) ?_)
  ·obtain⟨i,t,rfl⟩:=hfi v hv
   exact .now
  ·have hsort:=KTr.wp (cmp:=PySem.W.kas_ask X.prog X.w X.one.one.A (tuples' true) us) (Ok:=Inv X.one.one (pins++[(D,seqObj "list" #[] e1)]) σ H) (fun i j C s' hi hj o k'=>?_) (R:=fun p s'=>(PermN xs.length p∧iY (fun i j=>mC (kz.getD i (0,[])) (kz.getD j (0,[]))) p xs.length)∧Inv X.one.one (pins++[(D,seqObj "list" #[] e1)]) σ H s') (fun a s' q o=>⟨q,o⟩) (DY T (n:=xs.length) (by omega)) I
   ·refine wpAny_bind (wpAny_mono (PySem.W.kat_run (Q:=fun st s'=>∃ p:Array Nat,arrOf st=p.map (PySem.W.kas_item (us.toArray.zip vs.toArray))∧failedOf st=none∧(PermN xs.length p∧iY (fun i j=>mC (kz.getD i (0,[])) (kz.getD j (0,[]))) p xs.length)∧Inv X.one.one (pins++[(D,seqObj "list" #[] e1)]) σ H s')
     lu (by omega) (by omega) (fun p st s' _ a2 a3 a4=>⟨p,a2,a3,a4⟩) (by rw[← lx];exact hsort)) ?_ fun _ _ x=>x)
    rintro⟨⟨⟩,st⟩ s1 ⟨p,har,hfl1,⟨hp,hso⟩,I1⟩
    exact tail st p s1 I1 (PySem.W.kat_snds lu har) hfl1 hp hso
   ·have e1':ks[i]?=some (ks.getD i .non):=by rw[c6,a9 (by omega)];rfl
    have e2':ks[j]?=some (ks.getD j .non):=by rw[c6,a9 (by omega)];rfl
    have z1:=xS (kz:=kz) (i:=i) (by omega)
    have z2:=xS (kz:=kz) (i:=j) (by omega)
    exact C9 hu o (hk i _ _ e1' z1) (hk j _ _ e2' z2) (sO ru i (by omega)) (sO ru j (by omega)) (hlen i j _ _ z1 z2) (k' s' o)
theorem B_{pins:List (Addr×Obj)}{σ:St}{Q:VK}{l:Addr}{xs:List V}{kz:List (Int×List Int)}{Pv:Addr→Nat→List V→Hp→Prop}{s:Shared}{H:Hp}
  (F:FnOk X.prog X.w X.K X.mg X.base zO k f fd ps sp) (hr:Room (k+2) X.A) (hu:X.one.one.A.units+8<cLine) (hb:Binds X.K fd ps []) (I:Inv X pins σ H s) (hq:SqL X.K H l xs) (h64:xs.length<64) (hkl:kz.length=xs.length)
  (hlen:∀ (i j:Nat) (a b:Int×List Int),kz[i]?=some a→kz[j]?=some b→a.1=b.1→a.2.length=b.2.length) (T:TotLt (fun i j=>mC (kz.getD i (0,[])) (kz.getD j (0,[]))))
  (h0:∀ S,H S=none→Pv S 0 [] (upd H S (.lst [])))
  (hst:∀ S i ks H,Pv S i ks H→∀ y,xs[i]?=some y→sp [y] H (fun v H2=>H2 S=some (.lst ks)∧ks.length=i∧Pv S (i+1) (ks++[v]) (upd H2 S (.lst (ks++[v])))) E0)
  (hend:∀ S ks H,Pv S xs.length ks H→H S=some (.lst ks)∧ks.length=xs.length∧(∀ (i:Nat) (v:V) (k:Int×List Int),ks[i]?=some v→kz[i]?=some k→oI H v k) ∧
   ∀ p:Array Nat,PermN xs.length p→iY (fun i j=>mC (kz.getD i (0,[])) (kz.getD j (0,[]))) p xs.length→∀ D,upd H S (.lst []) D=none→Q (.ref D) (upd (upd H S (.lst [])) D (.lst (p.toList.map fun i=>xs.getD i .non)))) :
  wpAny (model X.prog X.w) X.A (call (.builtin "sorted") [.ref l] [(Str.ofString "key",.ref f)]) (EP X pins σ Q) X.xe s:=by
 obtain⟨vs,rx,pl,hz⟩:=I.list hq
 have lx:=rx.length
 refine call_function_entry_kw kind_sorted plain_sorted entry_sorted (ksk_s1 _ _) ?_
 unfold Builtin.«sorted»
 refine wpAny_bind (m:=checkCount "sorted" 1 1 _) (wpAny_pure ?_)
 refine wpAny_bind (collect_list pl.isList ?_ (by rw[sizeLine_eq];omega))
 refine wpAny_bind (wpAny_newList ?_ (by rw[sizeLine_eq];omega))
 have hsz:((s.heap.push (seqObj "list" #[] 0)).update s.heap.objs.size (Obj.mapSeq (·++vs.toArray))).objs.size=s.heap.objs.size+1:=by
  rw[Heap.size_update,size_push']
 have hoL:(((s.heap.push (seqObj "list" #[] 0)).update s.heap.objs.size (Obj.mapSeq (·++vs.toArray))).push (seqObj "list" vs.toArray 0)).get? (s.heap.objs.size+1)=some (seqObj "list" vs.toArray 0):=by
  rw[← hsz];exact g8 _ rfl
 have keep:∀ b o,s.heap.get? b=some o→(((s.heap.push (seqObj "list" #[] 0)).update s.heap.objs.size (Obj.mapSeq (·++vs.toArray))).push (seqObj "list" vs.toArray 0)).get? b=some o:=fun b o q=>by
  have hlt:b<s.heap.objs.size:=c7 q
  rw[aZD _ _ _ (by rw[hsz];exact d5 (aZE hlt)),Heap.get?_update_ne _ _ _ _ (d5 hlt),aZD _ _ _ (d5 hlt)]
  exact q
 show wpAny _ _ _ _ _ { s with heap:=((s.heap.push (seqObj "list" #[] 0)).update s.heap.objs.size (Obj.mapSeq (·++vs.toArray))).push (seqObj "list" vs.toArray 0) }
 rw[hsz]
 have I0:Inv X.one.one pins σ H { s with heap:=((s.heap.push (seqObj "list" #[] 0)).update s.heap.objs.size (Obj.mapSeq (·++vs.toArray))).push (seqObj "list" vs.toArray 0) }:=I.one.one.kept (t':=s.toks) keep
 have fD:gB X.one.one pins H (s.heap.objs.size+1):=I.one.one.fpOk (aQD _) (I.hok.fresh (aQD _))
 generalize ((s.heap.push (seqObj "list" #[] 0)).update s.heap.objs.size (Obj.mapSeq (·++vs.toArray))).push (seqObj "list" vs.toArray 0)=hA at hoL keep I0
 generalize s.heap.objs.size+1=D at hoL fD
 refine wpAny_bind (wpAny_holding (wpAny_call_entry_kw slot_list_sort ⟨_,hoL,rfl⟩ entry_list_sort ?body (ksk_l1 _ _)))
 case body =>
  show wpAny (model X.prog X.w) X.A.in1.in1 (Builtin.«list.sort» ⟨[.ref D],[(Str.ofString "key",.ref f)]⟩) _ _ _
  rw[ksk_t1]
  obtain⟨f0,f1,f2,f3,f4,f5⟩:=id fD
  have s1:=p6 hA D (Obj.mapSeq fun _=>(#[]:Array Value))
  obtain⟨e1,ho1⟩:∃ e1,(hA.update D (Obj.mapSeq fun _=>(#[]:Array Value))).get? D=some (seqObj "list" #[] e1):=⟨_,get?_update_seq hoL fun _=>#[]⟩
  have I1:Inv X.one.one pins σ H { s with heap:=hA.update D (Obj.mapSeq fun _=>(#[]:Array Value)) }:=I0.turned (t':=s.toks) (fun b o hb e=>(s1.2 b hb).trans e) f0 f1 f3 f4 f5
  unfold ksk_tree
  refine wpAny_bind (listItems_at hoL rfl ?_)
  refine wpAny_bind (listUpdate_at hoL rfl ?_ (by rw[b8,sizeLine_eq];omega) (j6 _))
  refine wpAny_bind (seqEpoch_at ho1 rfl ?_)
  refine wpAny_bind (wpAny_newTuple ?_ (by show vs.length≤_;rw[sizeLine_eq];omega))
  refine wpAny_bind (wpAny_newList ?_ (j6 _))
  refine wpAny_holding ?_
  show wpAny (model X.prog X.w) X.one.one.A _ _ _ { s with heap:=((hA.update D (Obj.mapSeq fun _=>(#[]:Array Value))).push (seqObj "tuple" vs.toArray 0)).push (seqObj "list" #[] 0) }
  generalize hA.update D (Obj.mapSeq fun _=>(#[]:Array Value))=hB at ho1 I1
  have I2:Inv X.one.one pins σ H { s with heap:=hB.push (seqObj "tuple" vs.toArray 0) }:=I1.kept (t':=s.toks) fun b o e=>c0 _ e
  have ho2:(hB.push (seqObj "tuple" vs.toArray 0)).get? D=some (seqObj "list" #[] e1):=c0 _ ho1
  generalize hB.push (seqObj "tuple" vs.toArray 0)=hC at ho2 I2
  have fS:H hC.objs.size=none:=I2.hok.fresh (b5 _)
  have I3:Inv X.one.one pins σ (upd H hC.objs.size (.lst [])) { s with heap:=hC.push (seqObj "list" #[] 0) }:=I2.lnew (t':=s.toks) (its:=[]) (ys:=[]) .nil (j6 _)
  have ho3:(hC.push (seqObj "list" #[] 0)).get? D=some (seqObj "list" #[] e1):=c0 _ ho2
  have hDS:D≠hC.objs.size:=d5 (c7 ho2)
  have fD3:gB X.one.one pins (upd H hC.objs.size (.lst [])) D:=⟨by rw[aE hDS];exact f0,fD.2⟩
  have I4:=I3.pinned (fp:=[D]) (fun b hb=>by rw[c9.mp hb];exact fD3) (fun b hb=>by rw[c9.mp hb];exact⟨_,ho3,fun v z=>by cases z⟩)
  have epn:jK [D] (hC.push (seqObj "list" #[] 0))=[(D,seqObj "list" #[] e1)]:=by unfold jK;simp[ho3]
  have I5:Inv X.one.one (pins++[(D,seqObj "list" #[] e1)]) σ (upd H hC.objs.size (.lst [])) { s with heap:=hC.push (seqObj "list" #[] 0) }:=by rw[← epn];exact I4
  generalize hC.objs.size=S at fS I5 hDS
  unfold ksk_rest
  refine wpAny_bind (wpAny_rule ?_)
  first
   | rw[List.forIn_toArray]
   | (rw[← aXr];simp only [aQo])
   | rw[← aXr]
  refine wpAny_bind (wpAny_mono (zJ (X:=X) (pins:=pins++[(D,seqObj "list" #[] e1)]) (S:=S) (Pv:=Pv S) F hr.in1.in1 hb h64 (fun x s' R hx=>?_) (hst S) xs vs 0 [] _ _ rx rfl (by simp) I5 (h0 S fS)) (fun _ s' hd=>?_) fun _ _ x=>x)
  ·refine wpAny_bind (wpAny_attempt (wpAny_mono hx (fun kv s'' hk=>?_) fun _ _ hF=>hF.elim))
   try dsimp only
   exact wpAny_bind (wpAny_mono hk (fun _ s3 h3=>wpAny_pure h3) fun _ _ x=>x)
  ·obtain⟨ks,H',I6,pv⟩:=hd
   obtain⟨eS,hkl2,hka,hfin⟩:=hend S ks H' pv
   have pD:=(I6.pin (D,seqObj "list" #[] e1) (d6 _ (d6 _ (z4 _)))).2.1
   refine Ce (X:=X) (pins:=pins) (D:=D) (kz:=kz) hu I6 ⟨pD,fD.2⟩ eS rx hkl2 h64 hkl hka hlen T fun p s4 hp hso I7=>?_
   exact⟨_,rfl,wpAny_pure ⟨_,rfl,⟨.ref D,_,(I7.unone I.ok.one).unone I.ok,rfl,hfin p hp hso D (by rw[aE (aI eS pD).symm];exact pD)⟩⟩⟩
theorem Bz{K:b0}{e:Expr}{ta:TA}{kn:Str}{p kp kpos pos:Pos}(hK:X.K=K)(F:FnOk X.prog X.w X.K X.mg X.base zO k f fd ps sp)(hr:Room (k+2) X.A)(hb:Binds X.K fd ps [])
  (hg:Gl X "sorted") (hm:X.mg "sorted"=none) (hgk:Gl X kn) (hmk:X.mg kn=some (.ref f)) (ha:PA X [e] ta) (hkd:(kn == ("__debug__":Str))=false:=by decide)
  (hall:(backToKw pos (keywordEach [⟨some (Str.ofString "key"),.Name kn kp,kpos⟩] X.env)).all (·.1.isSome)=true:=by rfl) (hks:(backToKw pos (keywordEach [⟨some (Str.ofString "key"),.Name kn kp,kpos⟩] X.env)).filterMap (·.1)=[Str.ofString "key"]:=by rfl)
  (hs:backTo pos (starEach [e] X.env)=[(false,eval e X.env)]:=by rfl) (hkw:(backToKw pos (keywordEach [⟨some (Str.ofString "key"),.Name kn kp,kpos⟩] X.env)).any (·.1.isNone)=false:=by rfl) :
  PE X (.Call (.Name "sorted" p) [e] [⟨some (Str.ofString "key"),.Name kn kp,kpos⟩] pos) (F9 K sp ta):=by
 subst hK
 intro pins s σ H Q I h
 refine wpAny_Call_Name_kw (jA I hg hm boot_sorted ?_ (by decide) (by decide))
 refine callWith_kw (bP (ha pos pins s σ H _ I h) fun us s1 ⟨vs,H1,I1,r1,q1⟩=>?_) (by rw[hs];rfl) (by rw[hs];rfl) hall hkw
 obtain⟨l,xs,kz,Pv,rfl,hq,h64,hkl,hlen,T,h0,hst,hend⟩:=q1
 have hpk:PK X [⟨some (Str.ofString "key"),.Name kn kp,kpos⟩] (BS (tC (.ref f)) wL):=CT (nI (v:=.ref f) hgk hmk rfl hkd) FE
 refine bP (hpk pos pins s1 σ H1 (fun zs H2=>zs=[.ref f]∧H2=H1) I1 ⟨rfl,rfl⟩) fun ks s2 ⟨zs,H2,I2,r2,e2,e3⟩=>?_
 subst e2 e3
 obtain⟨u,rfl,ru⟩:=kW r1
 obtain⟨kf,rfl,rk⟩:=kW r2
 cases ru
 cases rk
 rw[hks]
 have hu:X.one.one.A.units+8<cLine:=by
  have:=hr.units
  show X.A.units+1+1+8<cLine
  omega
 exact B_ F hr hu hb I2 hq h64 hkl hlen T h0 hst hend
end
end L2
namespace PySem
open Sem (wp)
end PySem
namespace L2
open PySem PySem.Spec PyProof.Rows
end L2
namespace Lw
open PySem PySem.Spec PyProof.Rows L2 Ma MaR
def lG(x:List Nat):Int×List Int:=((x.length:Nat),rks x)
theorem wF:∀ {a b:List Int},a.length=b.length→HT.lexLt a b=true→HT.lexLt b a=false
 | [],[],_,h=>by cases h
 | x::a,y::b,hl,h=>by
  rw[HT.lexLt_cons] at h ⊢
  by_cases e:x=y
  ·subst e
   rw[if_pos rfl] at h ⊢
   exact wF (by simpa using hl) h
  ·rw[if_neg e] at h
   rw[if_neg (fun z=>e z.symm)]
   have:=of_decide_eq_true h
   exact decide_eq_false (by omega)
theorem BX:∀ {a b c:List Int},a.length=b.length→b.length=c.length→HT.lexLt b a=false→HT.lexLt c b=false→HT.lexLt c a=false
 | [],[],[],_,_,_,h=>h
 | x::a,y::b,z::c,h1,h2,h3,h4=>by
  rw[HT.lexLt_cons] at h3 h4 ⊢
  by_cases e:y=x
  ·subst e
   rw[if_pos rfl] at h3
   by_cases e2:z=y
   ·subst e2
    rw[if_pos rfl] at h4 ⊢
    exact BX (by simpa using h1) (by simpa using h2) h3 h4
   ·rw[if_neg e2] at h4 ⊢
    exact h4
  ·rw[if_neg e] at h3
   have q1:=of_decide_eq_false h3
   by_cases e2:z=y
   ·subst e2
    rw[if_neg e]
    exact h3
   ·rw[if_neg e2] at h4
    have q2:=of_decide_eq_false h4
    rw[if_neg (by omega)]
    exact decide_eq_false (by omega)
def CQ(k:Int×List Int):Prop:=k.1=(k.2.length:Nat)
theorem BQ{a b:Int×List Int}(ha:CQ a)(hb:CQ b)(h:mC a b=true):mC b a=false:=by
 unfold mC at h ⊢
 unfold CQ at ha hb
 by_cases e:a.1=b.1
 ·rw[if_pos e] at h
  rw[if_pos e.symm]
  exact wF (by omega) h
 ·rw[if_neg e] at h
  rw[if_neg (fun z=>e z.symm)]
  have:=of_decide_eq_true h
  exact decide_eq_false (by omega)
theorem Gc{a b c:Int×List Int}(ha:CQ a)(hb:CQ b)(hc:CQ c)(h1:mC b a=false)(h2:mC c b=false):mC c a=false:=by
 unfold mC at h1 h2 ⊢
 unfold CQ at ha hb hc
 by_cases e:b.1=a.1
 ·rw[if_pos e] at h1
  by_cases e2:c.1=b.1
  ·rw[if_pos e2] at h2
   rw[if_pos (e2.trans e)]
   exact BX (by omega) (by omega) h1 h2
  ·rw[if_neg e2] at h2
   rw[if_neg (by omega)]
   have:=of_decide_eq_false h2
   exact decide_eq_false (by omega)
 ·rw[if_neg e] at h1
  have q1:=of_decide_eq_false h1
  by_cases e2:c.1=b.1
  ·rw[if_neg (by omega)]
   exact decide_eq_false (by omega)
  ·rw[if_neg e2] at h2
   have q2:=of_decide_eq_false h2
   rw[if_neg (by omega)]
   exact decide_eq_false (by omega)
theorem iE(x:List Nat):CQ (lG x):=by
 unfold CQ lG
 rw[nV]
theorem mE(ws:List (List Nat))(i:Nat):(ws.map lG).getD i (0,[])=lG (ws.getD i []):=by
 rw[c6,c5,c6]
 cases ws[i]? with
 | none=>rfl
 | some x=>rfl
theorem BY(ws:List (List Nat)):TotLt (fun i j=>mC ((ws.map lG).getD i (0,[])) ((ws.map lG).getD j (0,[]))):=by
 refine⟨fun i j h=>?_,fun i j k h1 h2=>?_⟩
 ·simp only [mE] at h ⊢
  exact BQ (iE _) (iE _) h
 ·simp only [mE] at h1 h2 ⊢
  exact Gc (iE _) (iE _) (iE _) h1 h2
def BE(x y:List Nat):Prop:=mC (lG y) (lG x)=false
theorem xD{ws:List (List Nat)}{p:Array Nat}(h:PermN ws.length p):(p.toList.map fun i=>ws.getD i []).Perm ws:=by
 have h1:=(y3.mp h).map fun i=>ws.getD i []
 have e:(List.range ws.length).map (fun i=>ws.getD i [])=ws:=by
  refine aQx fun i=>?_
  by_cases hi:i<ws.length
  ·simp[hi]
  ·simp[hi]
 simp only [aQo] at h1
 rw[e] at h1
 exact h1
theorem tM{ws:List (List Nat)}{p:Array Nat}{n:Nat}(hn:ws.length=n)(h:PermN n p)(so:iY (fun i j=>mC ((ws.map lG).getD i (0,[])) ((ws.map lG).getD j (0,[]))) p n):(p.toList.map fun i=>ws.getD i []).Pairwise BE:=by
 rw[List.pairwise_iff_getElem]
 intro i j hi hj hij
 have hs:=h.size
 rw[b7,p5] at hi hj
 have:=so i j (by omega) (by omega)
 simp only [mE] at this
 unfold BE
 rw[aZV,aZV]
 have e1:p.getD i 0=p.toList[i]'(by rw[p5];exact hi):=by simp[Array.getD,hi]
 have e2:p.getD j 0=p.toList[j]'(by rw[p5];exact hj):=by simp[Array.getD,hj]
 rw[← e1,← e2]
 exact this
theorem By(ws:List (List Nat))(l:List Nat)(h:∀ i∈l,i<ws.length):(l.map fun i=>(bI ws).getD i .non)=bI (l.map fun i=>ws.getD i []):=by
 unfold bI
 rw[t4]
 refine p7 fun i hi=>?_
 have:=h i hi
 simp[c6,this]
theorem _root_.L2.SqL_same{K:b0}{H H':Hp}{a:Addr}{xs:List V}(s:Same H H')(h:SqL K H a xs):SqL K H' a xs:=by
 rcases h with (h | ⟨o,h⟩) | h
 ·exact .inl (.inl (s _ _ h))
 ·exact .inl (.inr ⟨o,s _ _ h⟩)
 ·exact .inr h
theorem zZ:∀ {x y:List Nat},AllL x→AllL y→rks x=rks y→x=y
 | [],[],_,_,_=>rfl
 | [],_::_,_,_,h=>by simp[rks] at h
 | _::_,[],_,_,h=>by simp[rks] at h
 | a::x,b::y,hx,hy,h=>by
  obtain⟨e1,e2⟩:=List.cons.inj (show ((rk a:Nat):Int)::rks x=((rk b:Nat):Int)::rks y from h)
  rw[E8 (AllL.cons.mp hx).1 (AllL.cons.mp hy).1 (by omega),zZ (AllL.cons.mp hx).2 (AllL.cons.mp hy).2 e2]
theorem Ck:∀ {a b:List Int},a.length=b.length→HT.lexLt a b=false→HT.lexLt b a=false→a=b
 | [],[],_,_,_=>rfl
 | x::a,y::b,hl,h1,h2=>by
  rw[HT.lexLt_cons] at h1 h2
  by_cases e:x=y
  ·subst e
   rw[if_pos rfl] at h1 h2
   rw[Ck (by simpa using hl) h1 h2]
  ·rw[if_neg e] at h1
   rw[if_neg (fun z=>e z.symm)] at h2
   have:=of_decide_eq_false h1
   have:=of_decide_eq_false h2
   omega
theorem Cw{x y:List Nat}(hx:AllL x)(hy:AllL y)(h1:BE x y)(h2:BE y x):x=y:=by
 unfold BE mC lG at h1 h2
 dsimp only at h1 h2
 by_cases e:x.length=y.length
 ·rw[if_pos (by omega)] at h1 h2
  exact zZ hx hy (Ck (by rw[nV,nV,e]) h2 h1)
 ·rw[if_neg (by omega)] at h1 h2
  have:=of_decide_eq_false h1
  have:=of_decide_eq_false h2
  omega
theorem rW:∀ {ps qs:List (List Nat)},(∀ x∈ps,AllL x)→ps.Perm qs→ps.Pairwise BE→qs.Pairwise BE→ps=qs
 | [],qs,_,h,_,_=>by rw[List.nil_perm.mp h]
 | x::ps,[],_,h,_,_=>by exact absurd h.length_eq (by simp)
 | x::ps,y::qs,ha,h,h1,h2=>by
  have hy:y∈x::ps:=h.mem_iff.mpr d8
  have hx:x∈y::qs:=h.mem_iff.mp d8
  obtain⟨p1,p2⟩:=aXs.mp h1
  obtain⟨q1,q2⟩:=aXs.mp h2
  have e:x=y:=by
   rcases c4.mp hy with e | m1
   ·exact e.symm
   ·rcases c4.mp hx with e | m2
    ·exact e
    ·exact Cw (ha x d8) (ha y hy) (p1 y m1) (q1 x m2)
  subst e
  rw[rW (fun z hz=>ha z (c8 _ hz)) (List.perm_cons _ |>.mp h) p2 q2]
theorem iC{c:Nat}(h:cR c):AllL [c]:=fun d hd=>by rw[c9.mp hd];exact h
theorem yN{n c:Nat}(h:c∈cN n):cR c:=by
 have:c∈[97,98,99,100]:=o6 h
 simp only [c4,l6,or_false] at this
 unfold cR
 omega
theorem gY{n:Nat}(h4:n≤4):(cN n).length=n:=by unfold cN;rw[i6];simp;omega
theorem CO{n c:Nat}(h1:1≤n)(h4:n≤4)(h:c∈aJ n):(bW c=true∧(cN n)[c - 97]?=some c)∨(bW c=false∧(cN n)[c - 65]?=some (aU c)):=by
 have hL:=aY (bA h)
 rcases Ed h1 h4 with rfl | rfl | rfl | rfl <;> rcases hL with rfl | rfl | rfl | rfl | rfl | rfl | rfl | rfl <;> revert h <;> decide
theorem oC{f g:Nat→List Nat}:∀ {w:List Nat},(∀ c∈w,f c=g c)→w.flatMap f=w.flatMap g
 | [],_=>rfl
 | c::w,h=>by rw[u9,u9,h c d8,oC fun d hd=>h d (c8 _ hd)]
theorem jL{n c:Nat}(h1:1≤n)(h4:n≤4)(h:c∈cN n):c∈aJ n:=Di h1 h4 [c] (g9.mpr ⟨c,h,rfl⟩) c (c9.mpr rfl)
theorem Bt{n i:Nat}(hv:(bI (cW n))[i]?=some (.str (S [97+i]))):(cN n)[i]?=some (97+i):=by
 obtain⟨x,hx,ex⟩:=eQ hv
 have ex':=Cg (V.str.inj ex)
 unfold cW at hx
 rw[c5] at hx
 cases hq:(cN n)[i]? with
 | none=>rw[hq] at hx;cases hx
 | some c=>rw[hq] at hx;cases hx;simpa using ex'.symm
def rJ(c:Nat)(sd:List Nat)(d:Nat):List Nat:=if d=lo c then [d] else (if aU d∈sd then [aU c] else [])++[d]++(if d∈sd then [c] else [])
def iO(n c:Nat)(sd:List Nat):List (List Nat):=(cN n).map (rJ c sd)
theorem CI(d:Nat)(sd:List Nat):Bk (.str (S [d])) (bH sd)=decide (d∈sd):=by
 unfold Bk bH
 rw[z8,aXL,decide_eq_true_iff]
 constructor
 ·rintro⟨v,hv,he⟩
  obtain⟨e,hm,rfl⟩:=g9.mp hv
  have h2:decide (S [e]=S [d])=true:=he
  have:=Cg (of_decide_eq_true h2)
  have h3:e=d:=by simpa using this
  rw[← h3];exact hm
 ·intro h
  refine⟨_,g9.mpr ⟨d,h,rfl⟩,?_⟩
  show decide (S [d]=S [d])=true
  exact decide_eq_true rfl
theorem qX(sd:List Nat):(bH sd).all eV=true:=by
 rw[p9]
 intro v hv
 obtain⟨x,_,rfl⟩:=g9.mp hv
 rfl
def IsChg(H:Hp)(p:Addr)(c:Nat)(sd:List Nat):Prop:=∃ q,H p=some (.tup [.str (S [c]),.ref q])∧H q=some (.tup (bH sd))
theorem IsChg.same{H H':Hp}{p:Addr}{c:Nat}{sd:List Nat}(h:IsChg H p c sd)(s:Same H H'):IsChg H' p c sd:=by
 obtain⟨q,h1,h2⟩:=h
 exact⟨q,s _ _ h1,s _ _ h2⟩
theorem CZ(c:Nat)(sd:List Nat)(d:Nat):(rJ c sd d).length≤3:=by
 unfold rJ
 split
 ·simp
 ·rw[b9,b9]
  split <;> split <;> simp
theorem Dl{c d:Nat}{sd:List Nat}(hc:cR c)(hd:cR d):AllL (rJ c sd d):=by
 unfold rJ
 split
 ·exact iC hd
 ·refine AllL.app.mpr ⟨AllL.app.mpr ⟨?_,iC hd⟩,?_⟩
  ·split
   ·exact iC (dM hc)
   ·exact AllL.nil
  ·split
   ·exact iC hc
   ·exact AllL.nil
theorem C6{n c d:Nat}{sd:List Nat}(h1:1≤n)(h4:n≤4)(hc:c∈aJ n)(hd:d∈aJ n):OfN n (rJ c sd d):=by
 have one:∀ {e:Nat},e∈aJ n→OfN n [e]:=fun he z hz=>by rw[c9.mp hz];exact he
 unfold rJ
 split
 ·exact one hd
 ·refine OfN.app (OfN.app ?_ (one hd)) ?_
  ·split
   ·exact one (jP (by omega) (by omega) hc)
   ·exact OfN.nil
  ·split
   ·exact one hc
   ·exact OfN.nil
theorem zA{n c:Nat}{sd:List Nat}(h4:n≤4)(hc:cR c):RT (iO n c sd) n 3:=by
 refine⟨by unfold iO;rw[b7,gY h4],fun x hx=>?_,fun x hx=>?_⟩
 ·obtain⟨d,hd,rfl⟩:=g9.mp hx
  exact Dl hc (yN hd)
 ·obtain⟨d,hd,rfl⟩:=g9.mp hx
  exact CZ c sd d
theorem vD{n c:Nat}{sd:List Nat}(h1:1≤n)(h4:n≤4)(hc:c∈aJ n):∀ x∈iO n c sd,OfN n x:=fun x hx=>by
 obtain⟨d,hd,rfl⟩:=g9.mp hx
 exact C6 h1 h4 hc (jL h1 h4 hd)
theorem zF{n d:Nat}(h:d∈cN n):bW d=true:=by
 have:d∈[97,98,99,100]:=o6 h
 simp only [c4,l6,or_false] at this
 unfold bW
 exact decide_eq_true (by omega)
theorem FT{c d:Nat}:decide (V.str (S [d])=V.str (S [lo c]))=decide (d=lo c):=by
 rw[fK]
 by_cases h:d=lo c
 ·rw[h,decide_eq_true rfl,decide_eq_true rfl]
 ·rw[decide_eq_false h,decide_eq_false (by simpa using h)]
theorem Ej(w:List Nat)(b:Bool):Txt.mul (S w) (if b=true then 1 else 0)=S (if b=true then w else []):=by
 cases b with
 | true =>
  show Txt.mul (S w) 1=S w
  unfold Txt.mul
  rw[if_neg (by decide),if_pos (by rfl)]
 | false =>
  show Txt.mul (S w) 0=S []
  unfold Txt.mul
  rw[if_pos (by decide)]
  rfl
theorem yP(c:Nat)(b:Bool):MulOk (S [c]) (if b=true then 1 else 0):=by
 cases b with
 | true=>exact EB [c] 1 (by decide) (by decide) (by simp)
 | false =>
  refine⟨by decide,fun h=>?_,fun h=>?_⟩
  ·exact absurd h (by decide)
  ·exact absurd h (by decide)
def tS:Sp:=fun vs H Q _=>∃ (n:Nat) (p:Addr) (c:Nat) (sd:List Nat),vs=[.int (n:Nat),.ref p]∧1≤n∧n≤4∧IsChg H p c sd∧cR c∧(∀ d∈sd,cR d)∧∀ (t:Addr) (H':Hp),H t=none→Same H H'→H' t=some (.tup (bI (iO n c sd)))→Q (.ref t) H'
end Lw
namespace L2
open PySem PySem.Spec PyProof.Rows
section
variable {prog:Program}{w:World}{A:Around}{E:Value→Shared→Prop}{s:Shared}
theorem AI{it d:Addr}{i n ep:Nat}{o:Obj}{es:Array DictEntry}{e:DictEntry}{Q:Fin→Shared→Prop}(hit:s.heap.IsKeyIter it d i es.size ep)(hd:s.heap.get? d=some o)(dt:o.data=.dict es ep)(he:es[i]?=some e)
  (hQ:∀ g,g.IsKeyIter it d (i+1) es.size ep→Heap.SameBut it s.heap g→Q (.done (.ret e.key)) { s with heap:=g }) :
  wpAny (model prog w) A (Builtin.«dict_keyiterator.__next__» ⟨[.ref it],[]⟩) Q E s:=by
 obtain⟨oi,go,co,do'⟩:=id hit
 have hT:s.TypeIs (.ref it) "dict_keyiterator":=⟨_,go,co⟩
 show wpAny _ _ (Builtin.Dict_items.slot0 "__next__" ⟨[.ref it],[]⟩ >>= _) _ _ _
 rw[show Builtin.Dict_items.slot0 "__next__" ⟨[.ref it],[]⟩=pure (.ref it) from rfl]
 refine wpAny_bind (wpAny_pure (wpAny_bind ?_))
 show wpAny _ _ (_ >>= _) _ _ _
 refine wpAny_bind ?_
 refine wpAny_bind (wpAny_typeNameOfWhole_keyiter hT (wpAny_pure ?_))
 rw[show (if Builtin.Dict_items.ownsTuple "dict_keyiterator"=true then 2 else 0)=0 from rfl]
 refine wpAny_bind (wpAny_fieldsOf go do' ?_)
 show wpAny _ _ (if (Value.ref d == Value.none)=true then _ else _) _ _ _
 rw[if_neg (by intro c;cases c)]
 refine wpAny_bind (wpAny_pure (wpAny_bind (wpAny_dictEntries hd dt ?_)))
 dsimp only
 rw[if_neg (by simp)]
 refine wpAny_bind (wpAny_pure (wpAny_bind (wpAny_dictEpoch hd dt ?_)))
 rw[if_neg (by simp)]
 refine wpAny_pure ?_
 dsimp only
 rw[if_neg (by omega),aZF,he]
 dsimp only
 refine wpAny_bind (wpAny_bind (wpAny_typeNameOfWhole_keyiter hT (wpAny_pure ?_)))
 rw[show (if Builtin.Dict_items.ownsTuple "dict_keyiterator"=true then 2 else 0)=0 from rfl]
 refine wpAny_bind (wpAny_isOneOf_keyiter hT ?_)
 refine wpAny_bind (wpAny_setField go do' (by simp) ?_)
 have gu:(s.heap.update it (Obj.mapFields fun x=>x.setIfInBounds (0+1) (rawInt ((i:Int)+1)))).IsKeyIter it d (i+1) es.size ep:=by
  refine⟨_,u5 _ go (aQ7 (x9 do' _)),(aZB ..).trans co,?_⟩
  rw[x9 do' _]
  rfl
 have sb:Heap.SameBut it s.heap (s.heap.update it (Obj.mapFields fun x=>x.setIfInBounds (0+1) (rawInt ((i:Int)+1)))):=p6 ..
 have hT2:Shared.TypeIs { s with heap:=s.heap.update it (Obj.mapFields fun x=>x.setIfInBounds (0+1) (rawInt ((i:Int)+1))) } (.ref it) "dict_keyiterator":=by
  obtain⟨o2,g2,c2,_⟩:=gu
  exact⟨_,g2,c2⟩
 refine wpAny_bind (wpAny_holding (wpAny_bind (wpAny_isOneOf_keyiter hT2 ?_)))
 refine wpAny_pure (wpAny_pure ?_)
 exact hQ _ gu sb
theorem Bm{it d:Addr}{i n ep:Nat}{o:Obj}{es:Array DictEntry}{Q:Fin→Shared→Prop}(hh:A.handled=none)(hit:s.heap.IsKeyIter it d i es.size ep)(hd:s.heap.get? d=some o)(dt:o.data=.dict es ep)(he:es[i]?=none)
  (hE:∀ g e,Heap.ExtBut it s.heap g→(∃ o,g.get? e=some o∧o.cls=.type "StopIteration")→E (.ref e) { s with heap:=g }) :
  wpAny (model prog w) A (Builtin.«dict_keyiterator.__next__» ⟨[.ref it],[]⟩) Q E s:=by
 obtain⟨oi,go,co,do'⟩:=id hit
 have hT:s.TypeIs (.ref it) "dict_keyiterator":=⟨_,go,co⟩
 show wpAny _ _ (Builtin.Dict_items.slot0 "__next__" ⟨[.ref it],[]⟩ >>= _) _ _ _
 rw[show Builtin.Dict_items.slot0 "__next__" ⟨[.ref it],[]⟩=pure (.ref it) from rfl]
 refine wpAny_bind (wpAny_pure (wpAny_bind ?_))
 show wpAny _ _ (_ >>= _) _ _ _
 refine wpAny_bind ?_
 refine wpAny_bind (wpAny_typeNameOfWhole_keyiter hT (wpAny_pure ?_))
 rw[show (if Builtin.Dict_items.ownsTuple "dict_keyiterator"=true then 2 else 0)=0 from rfl]
 refine wpAny_bind (wpAny_fieldsOf go do' ?_)
 show wpAny _ _ (if (Value.ref d == Value.none)=true then _ else _) _ _ _
 rw[if_neg (by intro c;cases c)]
 refine wpAny_bind (wpAny_pure (wpAny_bind (wpAny_dictEntries hd dt ?_)))
 dsimp only
 rw[if_neg (by simp)]
 refine wpAny_bind (wpAny_pure (wpAny_bind (wpAny_dictEpoch hd dt ?_)))
 rw[if_neg (by simp)]
 refine wpAny_pure ?_
 dsimp only
 rw[if_neg (by omega),aZF,he]
 dsimp only
 refine wpAny_bind (wpAny_bind (wpAny_typeNameOfWhole_keyiter hT (wpAny_pure ?_)))
 rw[show (if Builtin.Dict_items.ownsTuple "dict_keyiterator"=true then 2 else 0)=0 from rfl]
 refine wpAny_bind (wpAny_setField go do' (by simp) ?_)
 refine wpAny_bind ?_
 simp only [newExc,newTuple]
 refine wpAny_bind (wpAny_newObj_type ?_ (by size_fits))
 refine wpAny_bind (m:=firstArgMember _ _) (wpAny_of_eq (a:=Value.none) (by first | rfl | (simp only [firstArgMember];rfl)) ?_)
 refine wpAny_newObj_type ?_ (by size_fits)
 simp only [raiseNew]
 refine wpAny_bind (wpAny_handled ?_)
 first | rw[show A.in1.handled=none from hh] | rw[hh]
 refine wpAny_bind (wpAny_pure (wpAny_throw ?_))
 exact hE _ _ (((p6 ..).extBut.push _).push _) ⟨_,g8 _ rfl,rfl⟩
theorem xC{it d:Addr}{i n ep:Nat}{o:Obj}{es:Array DictEntry}{e:DictEntry}{Q:Option Value→Shared→Prop}(hit:s.heap.IsKeyIter it d i es.size ep)(hd:s.heap.get? d=some o)(dt:o.data=.dict es ep)(he:es[i]?=some e)
  (hQ:∀ g,g.IsKeyIter it d (i+1) es.size ep→Heap.SameBut it s.heap g→Q (some e.key) { s with heap:=g }):wpAny (model prog w) A (pyNext (.ref it)) Q E s:=by
 have hT:s.TypeIs (.ref it) "dict_keyiterator":=let ⟨_,go,co,_⟩:=hit;⟨_,go,co⟩
 unfold pyNext
 exact wpAny_bind (wpAny_attempt (wpAny_callSpecial?_slot (name:=Str.ofString "__next__") hT t5 (wpAny_call_entry t5 hT aQl (AI (n:=0) hit hd dt he fun g b1 b2=>⟨_,rfl,wpAny_pure (hQ g b1 b2)⟩) (aQh _))))
theorem AH{it d:Addr}{i n ep:Nat}{o:Obj}{es:Array DictEntry}{Q:Option Value→Shared→Prop}(hh:A.handled=none)(hit:s.heap.IsKeyIter it d i es.size ep)(hd:s.heap.get? d=some o)(dt:o.data=.dict es ep)(he:es[i]?=none)
  (hQ:∀ g,Heap.ExtBut it s.heap g→Q none { s with heap:=g }):wpAny (model prog w) A (pyNext (.ref it)) Q E s:=by
 have hT:s.TypeIs (.ref it) "dict_keyiterator":=let ⟨_,go,co,_⟩:=hit;⟨_,go,co⟩
 unfold pyNext
 refine wpAny_bind (wpAny_attempt (wpAny_callSpecial?_slot (name:=Str.ofString "__next__") hT t5 (wpAny_call_entry t5 hT aQl (Bm (n:=0) hh hit hd dt he fun g e kp hx=>?_) (aQh _))))
 obtain⟨o,go,co⟩:=hx
 exact wpAny_bind (wpAny_isInstance (T:="StopIteration") (b:=true) ⟨o,go,co⟩ isSubtype_stop (wpAny_pure (hQ _ kp)))
end
section
variable {X:Cx}{pins:List (Addr×Obj)}{σ:St}{H:Hp}{s:Shared}
theorem Inv.swap{d:Addr}{u u':HO}(I:Inv X pins σ H s)(e:H d=some u)(nt:∀ xs,u≠.tup xs)(nf:(∀ o v,u≠.frz o v)∨∀ o v,X.H₀ d≠some (.frz o v))(nb:∀ ps,u≠.tbl ps)(no:∀ x,u≠.own x)
  (new:ObjOk X.prog X.w (upd H d u') s.heap d u'):Inv X pins σ (upd H d u') s:=by
 have ne:∀ {b:Addr},H b=none→b≠d:=fun h z=>by rw[z,e] at h;cases h
 have tp:∀ b xs,H b=some (.tup xs)→upd H d u' b=some (.tup xs):=fun b xs h=>by
  rw[aE (fun z=>by rw[z,e] at h;exact nt xs (i3 h))];exact h
 refine⟨I.ok,I.os,I.bare,⟨I.base.keep,I.base.slot,fun b o h n hx=>?_,I.base.there,fun b xs h=>tp b xs (I.base.tups b xs h),fun b o v h=>?_,fun b ps h=>?_⟩,I.loc,I.cell,?_,fun x c h=>?_,fun p hp=>?_,fun b v h=>?_,I.len⟩
 ·have:=I.base.free b o h n hx
  rw[aE (ne this)];exact this
 ·have h1:=I.base.frzs b o v h
  rw[aE]
  ·exact h1
  ·intro z
   subst z
   rcases nf with nf | nf
   ·rw[e] at h1;exact nf o v (i3 h1)
   ·exact nf o v h
 ·obtain⟨more,h1⟩:=I.base.tbls b ps h
  refine⟨more,?_⟩
  rw[aE]
  ·exact h1
  ·intro z
   subst z
   rw[e] at h1
   exact nb _ (i3 h1)
 ·rw[aE (ne I.free)];exact I.free
 ·rw[aE (ne (I.freeC x c h))];exact I.freeC x c h
 ·obtain⟨h1,h2,h3⟩:=I.pin p hp
  exact⟨h1,by rw[aE (ne h2)];exact h2,h3⟩
 ·by_cases hb:b=d
  ·subst hb
   rw[aC] at h
   cases h
   exact new
  ·rw[aE hb] at h
   refine(I.hok b v h).stay (fun _ _ _ q=>q) (fun c q=>?_) tp
   rw[aE (fun z=>by rw[z,e] at q;exact no b (i3 q))];exact q
end
theorem B0{prog:Program}{w:World}{A:Around}{E:Value→Shared→Prop}{s:Shared}{d:Addr}{o:Obj}{es:Array DictEntry}{ep:Nat}{Q:Value→Shared→Prop}(hn:(d == sysModules)=false)(hd:s.heap.get? d=some o)(ho:o.ExactDict)(dt:o.data=.dict es ep)
  (h:Q (.ref s.heap.objs.size) { s with heap:=s.heap.push { cls:=.type "dict_keyiterator",data:=.fields #[.ref d,.int 0 0,.int es.size 0,.int ep 0] } }):wpAny (model prog w) A (pyIter (.ref d)) Q E s:=by
 have hT:s.TypeIs (.ref d) "dict":=⟨_,hd,ho.1⟩
 refine wpAny_pyIter_slot hT aZW (wpAny_call_entry aZW hT F.entry_dict_iter ?_ (F.args_dict_iter_1 _))
 unfold Builtin.«dict.__iter__» Builtin.Dict.dictSlotNone Builtin.Dict.notOrdered
 rw[if_pos (by decide)]
 refine wpAny_bind (wpAny_bind (wpAny_bind (wpAny_typeOf hT ?_)))
 rw[if_neg (by decide)]
 refine wpAny_pure ?_
 rw[show slotArgs "__iter__" 0 ⟨[.ref d],[]⟩=pure (.ref d,[]) from rfl]
 refine wpAny_bind (wpAny_pure (wpAny_pure (wpAny_bind (wpAny_pure (wpAny_bind ?_)))))
 unfold Builtin.Dict.showsAll
 rw[hn]
 refine wpAny_pure (wpAny_bind (wpAny_dictEntries hd dt (wpAny_bind (wpAny_dictEpoch hd dt (wpAny_bind ?_)))))
 unfold newFields
 refine wpAny_newObj_type (wpAny_pure ⟨_,rfl,"dict_keyiterator",_,⟨_,g8 _ rfl,rfl⟩,t5.lookup,?_⟩) (by size_fits)
 exact h
theorem mQ(ns:List Int):∀ n,preSum (fun i=>(ns[i]?).getD 0) n=(ns.take n).sum
 | 0=>by simp[preSum]
 | n+1=>by
  show preSum (fun i=>(ns[i]?).getD 0) n+(ns[n]?).getD 0=_
  rw[mQ ns n]
  by_cases h:n<ns.length
  ·rw[m4,a9 h,aXW]
   simp
  ·rw[aQa (by omega),p0 (by omega),p0 (by omega)]
   simp
theorem nX:∀ {ns:List Int} {us:List Value},Vals (ns.map V.int) us→us.length=ns.length∧∀ (i:Nat) (v:Value),us[i]?=some v→∃ t,v=Value.int ((ns[i]?).getD 0) t
 | [],us,r=>by
  cases r
  exact⟨rfl,fun i v h=>by simp at h⟩
 | n::ns,us,r=>by
  rw[d3] at r
  cases r with
  | cons r1 r2 =>
   obtain⟨t,rfl⟩:=r1
   obtain⟨h1,h2⟩:=nX r2
   refine⟨by rw[j1,j1,h1],fun i v h=>?_⟩
   cases i with
   | zero=>exact⟨t,by simpa using h.symm⟩
   | succ i=>simpa using h2 i v (by simpa using h)
section
variable {X:Cx}{K:b0}
theorem Ak(hK:X.K=K)(hc:X.calm=true):dX X (.builtin "sum") (fun xs H Q=>∃ (a:Addr) (ns:List Int),xs=[.ref a]∧SqL K H a (ns.map V.int)∧Q (.int ns.sum) H):=by
 subst hK
 intro pins s σ H xs us Q I r h
 obtain⟨a,ns,rfl,hq,q⟩:=h
 obtain⟨u,rfl,ru⟩:=r.one
 cases ru
 obtain⟨its,rv,pl,_⟩:=I.list hq
 have hl:=pl.isList
 obtain⟨hn,hi⟩:=nX rv
 have hlt:a<s.heap.objs.size:=by obtain⟨_,e,_⟩:=hl;exact c7 e
 refine call_sum_walkG (wpAny_pyIter_list hl ?_)
 refine⟨s.heap.objs.size,[s.heap.objs.size,a],[s.heap.objs.size],its.toArray.size,_,_,fun i=>(ns[i]?).getD 0,rfl,aJI (A:=X.A.in1) (I.ok.hd hc) _ a (d5 hlt) its.toArray,
  ⟨⟨_,g8 _ rfl,rfl,rfl⟩,hl.push _⟩,?_,fun i v hP=>hi i v (by simpa using hP),fun h' tk t' hk=>?_⟩
 ·intro b hb
  simp only [c4,l6,or_false] at hb
  rcases hb with rfl | rfl
  ·exact c7 (g8 _ rfl)
  ·exact j8 hlt (by show _≤(s.heap.push _).objs.size;rw[aQp];exact aQD _)
 ·rw[mQ,b8,hn,i9]
  exact⟨.int _,H,I.kept (t':=tk) (aZb hk),⟨_,rfl⟩,q⟩
end
end L2
namespace Lw
open PySem PySem.Spec PyProof.Rows L2 Ma MaR
abbrev C7(K:b0)(sp:Sp)(vs:List V)(H1:Hp)(Q:VK):Prop:=∃ (l:Addr) (xs:List V) (kz:List (Int×List Int)) (Pv:Addr→Nat→List V→Hp→Prop),vs=[.ref l]∧SqL K H1 l xs∧xs.length<64∧kz.length=xs.length ∧
 (∀ (i j:Nat) (a b:Int×List Int),kz[i]?=some a→kz[j]?=some b→a.1=b.1→a.2.length=b.2.length)∧TotLt (fun i j=>mC (kz.getD i (0,[])) (kz.getD j (0,[]))) ∧
 (∀ S,H1 S=none→Pv S 0 [] (upd H1 S (.lst []))) ∧
 (∀ S i ks H,Pv S i ks H→∀ y,xs[i]?=some y→sp [y] H (fun v H2=>H2 S=some (.lst ks)∧ks.length=i∧Pv S (i+1) (ks++[v]) (upd H2 S (.lst (ks++[v])))) E0) ∧
 (∀ S ks H,Pv S xs.length ks H→H S=some (.lst ks)∧ks.length=xs.length∧(∀ (i:Nat) (v:V) (k:Int×List Int),ks[i]?=some v→kz[i]?=some k→oI H v k) ∧
  ∀ p:Array Nat,PermN xs.length p→iY (fun i j=>mC (kz.getD i (0,[])) (kz.getD j (0,[]))) p xs.length→∀ D,upd H S (.lst []) D=none→Q (.ref D) (upd (upd H S (.lst [])) D (.lst (p.toList.map fun i=>xs.getD i .non))))
theorem CN{K:b0}{H:Hp}{Q:VK}{l:Addr}{ws:List (List Nat)}(hq:SqL K H l (bI ws))(h64:ws.length<64)(hall:∀ x∈ws,AllL x∧x.length≤900)
  (k:∀ (D:Addr) (ws':List (List Nat)) (H':Hp),H D=none→Same H H'→H' D=some (.lst (bI ws'))→ws'.Perm ws→ws'.Pairwise BE→Q (.ref D) H'):C7 K Cq [.ref l] H Q:=by
 refine⟨l,bI ws,ws.map lG,fun S i ks H1=>H S=none∧Same H H1∧H1 S=some (.lst ks)∧ks.length=i∧∀ (j:Nat) (v:V) (x:List Nat),ks[j]?=some v→ws[j]?=some x→∃ p a:Addr,v=.ref p∧a≠S∧H1 p=some (.tup [.int (lG x).1,.ref a])∧H1 a=some (.lst ((lG x).2.map V.int)),rfl,hq,by rw[aP];exact h64,by rw[aP,b7],fun i j a b ha hb e=>?_,BY ws,fun S hS=>⟨hS,Same.new hS,aC,rfl,fun j v x hv=>by simp at hv⟩,?_,?_⟩
 ·rw[c5] at ha hb
  obtain⟨x,_,rfl⟩:=i8.mp ha
  obtain⟨y,_,rfl⟩:=i8.mp hb
  have h1:=iE x
  have h2:=iE y
  unfold CQ at h1 h2
  omega
 ·rintro S i ks H1 ⟨hS,s1,eS,hkl,hks⟩ y hy
  obtain⟨x,hx,rfl⟩:=eQ hy
  obtain⟨hxa,hxl⟩:=hall x (b6 hx)
  refine⟨x,rfl,hxa,hxl,fun p a H2 hp ha s2 ep ea=>⟨s2 _ _ eS,hkl,hS,(s1.trans s2).upd hS,aC,by rw[b9,hkl];rfl,fun j v z hv hz=>?_⟩⟩
  have hpS:p≠S:=(aI eS hp).symm
  have haS:a≠S:=(aI eS ha).symm
  by_cases hj:j<ks.length
  ·rw[l5 hj] at hv
   obtain⟨p',a',e0,e1,e2,e3⟩:=hks j v z hv hz
   refine⟨p',a',e0,e1,?_,?_⟩
   ·rw[aE (bS e2 eS (by intro z;cases z))];exact s2 _ _ e2
   ·rw[aE e1];exact s2 _ _ e3
  ·have ej:j=ks.length:=by
    have:=(a8.mp hv).1
    rw[b9,aQM] at this
    omega
   subst ej
   rw[hkl] at hz
   rw[hx] at hz
   cases hz
   have ev:v=.ref p:=by simpa using hv.symm
   subst ev
   exact⟨p,a,rfl,haS,by rw[aE hpS];exact ep,by rw[aE haS];exact ea⟩
 ·rintro S ks H1 ⟨hS,s1,eS,hkl,hks⟩
  refine⟨eS,hkl,fun i v q hv hq2=>?_,fun p hp so D hD=>?_⟩
  ·rw[c5] at hq2
   obtain⟨x,hx,rfl⟩:=i8.mp hq2
   obtain⟨p,a,e0,_,e2,e3⟩:=hks i v x hv hx
   exact⟨p,a,e0,e2,e3⟩
  ·rw[aP] at hp so
   have hb:∀ i∈p.toList,i<ws.length:=fun i hi=>by
    have:=(y3.mp hp).mem_iff.mp hi
    simpa using this
   rw[By ws p.toList hb]
   have sS:Same H (upd H1 S (.lst [])):=s1.upd hS
   exact k D _ _ (sS.free hD) (sS.upd' hD) aC (xD hp) (tM rfl hp so)
end Lw
namespace L2
open PySem PySem.Spec PyProof.Rows
section
variable {prog:Program}{w:World}{A:Around}{E:Value→Shared→Prop}{s:Shared}
theorem xZ{d:Addr}{o:Obj}{Q:Value→Shared→Prop}(hn:(d == sysModules)=false)(hd:s.heap.get? d=some o)(ho:o.ExactDict)
  (h:Q (.ref s.heap.objs.size) { s with heap:=s.heap.push { cls:=.type "dict_items",data:=.fields #[.ref d] } }):wpAny (model prog w) A (call (.builtin "dict.items") [.ref d]) Q E s:=by
 have hT:s.TypeIs (.ref d) "dict":=⟨_,hd,ho.1⟩
 refine wpAny_call_entry F.slot_dict_items hT F.entry_dict_items ?_ (F.args_dict_items_1 _)
 unfold Builtin.«dict.items» Builtin.Dict.noArgs Builtin.Dict.notOrdered
 rw[if_pos (by decide)]
 refine wpAny_bind (wpAny_bind (wpAny_bind (wpAny_typeOf hT ?_)))
 rw[if_neg (by decide)]
 refine wpAny_pure (wpAny_bind ?_)
 rw[show Builtin.Dict.nameIsSure "items" ⟨[.ref d],[]⟩ (!(⟨[.ref d],[]⟩:Args).kw.isEmpty || (⟨[.ref d],[]⟩:Args).pos.length != 1)=pure () from rfl]
 refine wpAny_pure (wpAny_bind ?_)
 rw[show selfOnly (toString "dict."++toString "items") ⟨[.ref d],[]⟩=pure (.ref d) from rfl]
 refine wpAny_pure (wpAny_pure (wpAny_bind ?_))
 unfold Builtin.Dict.showsAll
 rw[hn]
 refine wpAny_pure (wpAny_bind ?_)
 unfold newFields
 exact wpAny_newObj_type (wpAny_pure ⟨_,rfl,h⟩) (by size_fits)
end
end L2
namespace Lw
open PySem PySem.Spec PyProof.Rows L2 Ma MaR
section
variable {c:Nat}{sd:List Nat}
theorem Fo{c e:Nat}(hc:cR c)(he:cR e)(hl:bW e=true):e=lo c↔e=c∨e=aU c:=by
 rcases aY hc with rfl | rfl | rfl | rfl | rfl | rfl | rfl | rfl <;> rcases aY he with rfl | rfl | rfl | rfl | rfl | rfl | rfl | rfl <;> revert hl <;> decide
end
end Lw
namespace L2
open PySem PySem.Spec PyProof.Rows
end L2
namespace Lw
open PySem PySem.Spec PyProof.Rows L2 Ma MaR
theorem rO{n:Nat}(h1:1≤n)(h4:n≤4):letV.take (2 * n)=bH (aJ n):=by
 rcases Ed h1 h4 with rfl | rfl | rfl | rfl <;> rfl
def BP(K:b0):Sp:=fun vs H Q _=>∃ n:Nat,vs=[.int (n:Nat)]∧1≤n∧n≤4∧∀ (p:Addr) (H':Hp),Same H H'→SqT K H' p (bH (aJ n))→Q (.ref p) H'
end Lw
namespace L2
open PySem PySem.Spec PyProof.Rows
theorem Bv{x:V}(h:eV x=true):lY x x=true:=by
 cases x <;> first | (simp[lY];done) | exact absurd (show false=true from h) g7
end L2
namespace Lw
open PySem PySem.Spec PyProof.Rows L2
end Lw
namespace L2
open PySem PySem.Spec PyProof.Rows
end L2
namespace Lw
open PySem PySem.Spec PyProof.Rows L2 Ma MaR
end Lw
namespace L2
open PySem PySem.Spec PyProof.Rows
end L2
namespace Lw
open PySem PySem.Spec PyProof.Rows L2
end Lw
namespace L2
open PySem PySem.Spec PyProof.Rows
end L2
namespace Lw
open PySem PySem.Spec PyProof.Rows L2 Ma MaR
theorem nC(K:b0)(H:Hp){v:V}(h:eV v=true):∃ t,BTy K H v t∧gT t "list"=false∧gT t "tuple"=false:=by
 cases v with
 | non=>exact⟨_,.non,by decide,by decide⟩
 | bl b=>exact⟨_,.bl b,by decide,by decide⟩
 | int i=>exact⟨_,.int i,by decide,by decide⟩
 | str x=>exact⟨_,.str x,by decide,by decide⟩
 | _=>exact absurd (show false=true from h) g7
end Lw
namespace L2
open PySem PySem.Spec PyProof.Rows
end L2
namespace Lw
open PySem PySem.Spec PyProof.Rows L2 Ma MaR
end Lw
namespace L2
open PySem PySem.Spec PyProof.Rows
end L2
namespace LtL
open PySem PyProof.Rows HT
open PySem.SeqAt
open PySem.AutoSeq1 (wpAny_loadPart')
open PySem.MeetsSeq PySem.MeetsSeq2 PySem.MeetsSeq3
end LtL
namespace L2
open PySem PySem.Spec PyProof.Rows
end L2
namespace Lw
open PySem PySem.Spec PyProof.Rows L2 Ma MaR
end Lw
namespace L2
open PySem PySem.Spec PyProof.Rows
end L2
namespace Lw
open PySem PySem.Spec PyProof.Rows L2 Ma MaR
end Lw
namespace PySem
open Sem (wp)
end PySem
namespace L2
open PySem PySem.Spec PyProof.Rows
end L2
namespace Lw
open PySem PySem.Spec PyProof.Rows L2 Ma MaR
def mX(cs:List Nat):List (List Nat):=cs.map fun c=>[c]
theorem Ez{d:Nat}(hd:cR d)(h:bW d=true):lo d=d:=((Fo hd hd h).mpr (.inl rfl)).symm
end Lw
namespace L2
open PySem PySem.Spec PyProof.Rows
end L2
namespace Lw
open PySem PySem.Spec PyProof.Rows L2 Ma MaR
theorem iM{d:Nat}(hd:cR d):lo (aU d)=lo d:=by
 rcases aY hd with rfl | rfl | rfl | rfl | rfl | rfl | rfl | rfl <;> decide
def lQ(c:Nat)(sd:List Nat):List Nat:=sd.map fun d=>if d=c then aU c else d
structure GoodB(n c:Nat)(sd:List Nat):Prop where
 let':c∈aJ n
 side:∀ d∈sd,d∈aJ n
 ord:sd.Pairwise fun a b=>rk a<rk b
 has:c∈sd
 hasn:¬ aU c∈sd
theorem iI{c d:Nat}{sd:List Nat}(h:c∈sd):d∈lQ c sd↔d=aU c∨(d∈sd∧d≠c):=by
 unfold lQ
 rw[g9]
 constructor
 ·rintro⟨a,ha,e⟩
  by_cases q:a=c
  ·rw[if_pos q] at e;exact .inl e.symm
  ·rw[if_neg q] at e;subst e;exact .inr ⟨ha,q⟩
 ·rintro(rfl | ⟨a,b⟩)
  ·exact⟨c,h,if_pos rfl⟩
  ·exact⟨d,a,if_neg b⟩
theorem DV{c:Nat}{sd:List Nat}(hc:cR c)(hn:¬ aU c∈sd):lQ (aU c) (lQ c sd)=sd:=by
 unfold lQ
 rw[t4]
 refine(p7 fun d hd=>?_).trans (aZL sd)
 show (if (if d=c then aU c else d)=aU c then aU (aU c) else (if d=c then aU c else d))=d
 by_cases q:d=c
 ·rw[if_pos q,if_pos rfl,bV hc,q]
 ·have q2:¬ d=aU c:=fun z=>hn (z ▸ hd)
  rw[if_neg q,if_neg q2]
theorem zN{c d:Nat}(hc:cR c)(hd:cR d)(h1:d≠c)(h2:d≠aU c):(rk d<rk c↔rk d<rk (aU c))∧(rk c<rk d↔rk (aU c)<rk d):=by
 rcases aY hc with rfl | rfl | rfl | rfl | rfl | rfl | rfl | rfl <;> rcases aY hd with rfl | rfl | rfl | rfl | rfl | rfl | rfl | rfl <;> revert h1 h2 <;> decide
theorem GoodB.back{n c:Nat}{sd:List Nat}(h1:1≤n)(h4:n≤4)(g:GoodB n c sd):GoodB n (aU c) (lQ c sd):=by
 have hc:=bA g.let'
 have hcn:aU c∈aJ n:=jP (by omega) (by omega) g.let'
 refine⟨hcn,fun d hd=>?_,?_,(iI g.has).mpr (.inl rfl),fun z=>?_⟩
 ·rcases(iI g.has).mp hd with rfl | ⟨h,_⟩
  ·exact hcn
  ·exact g.side d h
 ·unfold lQ
  rw[aZG]
  refine aJB (fun {a b} ha hb hab=>?_) g.ord
  have na:a≠aU c:=fun z=>g.hasn (z ▸ ha)
  have nb:b≠aU c:=fun z=>g.hasn (z ▸ hb)
  by_cases qa:a=c
  ·by_cases qb:b=c
   ·subst qa;subst qb;exact absurd hab (x0 _)
   ·subst qa
    rw[if_pos rfl,if_neg qb]
    exact(zN hc (bA (g.side b hb)) qb nb).2.mp hab
  ·by_cases qb:b=c
   ·subst qb
    rw[if_neg qa,if_pos rfl]
    exact(zN hc (bA (g.side a ha)) qa na).1.mp hab
   ·rw[if_neg qa,if_neg qb];exact hab
 ·rw[bV hc] at z
  rcases(iI g.has).mp z with z | ⟨_,z⟩
  ·exact Cs hc z.symm
  ·exact z rfl
theorem lH{n c:Nat}{sd:List Nat}(h1:1≤n)(h4:n≤4){d:Nat}(hd:d∈aJ n):fC (iO n c sd) d=if bW d=true then rJ c sd d else back (rJ c sd (aU d)):=by
 unfold fC iO
 rcases CO h1 h4 hd with ⟨a,b⟩ | ⟨a,b⟩
 ·rw[if_pos a,if_pos a,c6,c5,b];rfl
 ·rw[if_neg (by rw[a];decide),if_neg (by rw[a];decide),c6,c5,b];rfl
def wZ(c d:Nat)(p q:Bool):List Nat:=if d=lo c then [d] else (if p=true then [aU c] else [])++[d]++(if q=true then [c] else [])
theorem Ec(c:Nat)(sd:List Nat)(d:Nat):rJ c sd d=wZ c d (decide (aU d∈sd)) (decide (d∈sd)):=by
 unfold rJ wZ
 simp only [decide_eq_true_eq]
theorem tH:∀ c∈lets,∀ d∈[97,98,99,100],∀ p q:Bool,lay ((wZ c d p q).flatMap fun e=>if e=c∨e=aU c then [e] else if bW e=true then wZ (aU c) e p q else back (wZ (aU c) (aU e) p q))=[d]:=by decide +kernel
theorem EU{c d e:Nat}{p q:Bool}(h:e∈wZ c d p q):e=d∨e=c∨e=aU c:=by
 unfold wZ at h
 split at h
 ·exact .inl (c9.mp h)
 ·rcases i5.mp h with h | h
  ·rcases i5.mp h with h | h
   ·split at h
    ·exact .inr (.inr (c9.mp h))
    ·cases h
   ·exact .inl (c9.mp h)
  ·split at h
   ·exact .inr (.inl (c9.mp h))
   ·cases h
theorem nL{c:Nat}(hc:cR c):(lo c=c∧bW c=true)∨(lo c=aU c∧bW c=false):=by
 rcases aY hc with rfl | rfl | rfl | rfl | rfl | rfl | rfl | rfl <;> decide
theorem lZ(c:Nat)(sd:List Nat):rJ c sd (lo c)=[lo c]:=by unfold rJ;rw[if_pos rfl]
theorem rL{n c:Nat}{sd:List Nat}(h1:1≤n)(h4:n≤4)(g:GoodB n c sd):bO (iO n c sd) (iO n (aU c) (lQ c sd))=cW n:=by
 have hc:=bA g.let'
 unfold bO iO cW
 rw[t4]
 refine p7 fun d hd=>?_
 show fN (iO n (aU c) (lQ c sd)) (rJ c sd d)=[d]
 have hdl:d∈aJ n:=jL h1 h4 hd
 have hdL:=bA hdl
 have hlow:bW d=true:=zF hd
 by_cases q:d=lo c
 ·-- the change's own letter
  subst q
  rw[lZ]
  unfold fN dO
  rw[u9,List.flatMap_nil,m6,lH h1 h4 hdl,if_pos hlow,← iM hc,lZ,iM hc]
  rcases aY hc with rfl | rfl | rfl | rfl | rfl | rfl | rfl | rfl <;> decide
 ·have n1:d≠c:=by
   intro z;subst z
   rcases nL hc with ⟨a,_⟩ | ⟨_,b⟩
   ·exact q a.symm
   ·rw[b] at hlow;cases hlow
  have n2:d≠aU c:=by
   intro z;subst z
   exact q (by rw[← iM hc,Ez (dM hc) hlow])
  have n3:aU d≠c:=fun z=>n2 (by rw[← z,bV hdL])
  have n4:aU d≠aU c:=fun z=>n1 (by rw[← bV hdL,z,bV hc])
  have e1:decide (d∈lQ c sd)=decide (d∈sd):=decide_eq_decide.mpr ⟨fun z=>((iI g.has).mp z).elim (fun z=>absurd z n2) (·.1),fun z=>(iI g.has).mpr (.inr ⟨z,n1⟩)⟩
  have e2:decide (aU d∈lQ c sd)=decide (aU d∈sd):=decide_eq_decide.mpr ⟨fun z=>((iI g.has).mp z).elim (fun z=>absurd z n4) (·.1),fun z=>(iI g.has).mpr (.inr ⟨z,n3⟩)⟩
  have key:=tH c (BW hc) d (by unfold cN at hd;exact o6 hd) (decide (aU d∈sd)) (decide (d∈sd))
  unfold fN dO
  rw[Ec,← key]
  congr 1
  refine oC fun e he=>?_
  rcases EU he with rfl | z | z
  ·rw[if_neg (fun z=>z.elim n1 n2),if_pos hlow,lH h1 h4 hdl,if_pos hlow,Ec,e1,e2]
  ·subst z
   rw[if_pos (.inl rfl),lH h1 h4 g.let']
   rcases nL hc with ⟨a,b⟩ | ⟨a,b⟩
   ·rw[if_pos b]
    have:=lZ (aU e) (lQ e sd)
    rw[iM hc,a] at this
    exact this
   ·rw[if_neg (by rw[b];decide)]
    have:=lZ (aU e) (lQ e sd)
    rw[iM hc,a] at this
    rw[this]
    show [aU (aU e)]=[e]
    rw[bV hc]
  ·subst z
   rw[if_pos (.inr rfl),lH h1 h4 (jP (by omega) (by omega) g.let')]
   rcases nL hc with ⟨a,b⟩ | ⟨a,b⟩
   ·have b':bW (aU c)=false:=by rcases aY hc with rfl | rfl | rfl | rfl | rfl | rfl | rfl | rfl <;> revert b <;> decide
    rw[if_neg (by rw[b'];decide),bV hc]
    have:=lZ (aU c) (lQ c sd)
    rw[iM hc,a] at this
    rw[this]
    rfl
   ·have b':bW (aU c)=true:=by rcases aY hc with rfl | rfl | rfl | rfl | rfl | rfl | rfl | rfl <;> revert b <;> decide
    rw[if_pos b']
    have:=lZ (aU c) (lQ c sd)
    rw[iM hc,a] at this
    exact this
theorem uY{c:Nat}{sd:List Nat}(hs:sd.Nodup)(h:c∈sd):(lQ c sd).Perm ((sd.filter fun d=>decide (d≠c))++[aU c]):=by
 induction sd with
 | nil=>cases h
 | cons a sd ih =>
  obtain⟨hn,hs'⟩:=j7.mp hs
  by_cases q:a=c
  ·subst q
   have e1:lQ a (a::sd)=aU a::sd:=by
    show (if a=a then aU a else a)::(sd.map fun d=>if d=a then aU a else d)=_
    rw[if_pos rfl]
    congr 1
    refine(p7 fun d hd=>?_).trans (aZL sd)
    have q2:¬ d=a:=fun z=>hn (z ▸ hd)
    rw[if_neg q2];rfl
   have e2:((a::sd).filter fun d=>decide (d≠a))=sd:=by
    rw[aXR (by simp)]
    exact List.filter_eq_self.mpr fun d hd=>decide_eq_true fun z=>hn (z ▸ hd)
   rw[e1,e2]
   exact List.perm_append_comm (l₁:=[aU a])
  ·have e1:lQ c (a::sd)=a::lQ c sd:=by
    show (if a=c then aU c else a)::_=_
    rw[if_neg q];rfl
   rw[e1,aXS (by simpa using q)]
   exact(ih hs' ((c4.mp h).resolve_left fun z=>q z.symm)).cons a
structure IvS(n:Nat)(st bk:List (List Nat)):Prop where
 rt:RT st n 3∧∀ x∈st,OfN n x
 bt:RT bk n 3∧∀ x∈bk,OfN n x
 there:bO st bk=cW n
 back:bO bk st=cW n
theorem D3{n c:Nat}{sd:List Nat}(h1:1≤n)(h4:n≤4)(g:GoodB n c sd):IvS n (iO n c sd) (iO n (aU c) (lQ c sd)):=by
 have hc:=bA g.let'
 have b:=g.back h1 h4
 refine⟨⟨zA h4 hc,vD h1 h4 g.let'⟩,⟨zA h4 (dM hc),vD h1 h4 b.let'⟩,rL h1 h4 g,?_⟩
 have:=rL h1 h4 b
 rw[bV hc,DV hc g.hasn] at this
 exact this
theorem Bu{n:Nat}{f:List (List Nat)}(h1:1≤n)(h4:n≤4)(ho:∀ x∈f,OfN n x)(hp:∀ x∈f,cP x):bO f (cW n)=f:=by
 unfold bO
 exact(p7 fun x hx=>A1 h1 h4 (ho x hx) (hp x hx)).trans (aZL f)
theorem oH(f s:List (List Nat)):∀ x∈bO f s,cP x:=fun x hx=>by
 obtain⟨y,_,rfl⟩:=g9.mp hx
 exact fP _
theorem pB(n:Nat):∀ x∈cW n,cP x:=fun x hx=>by
 obtain⟨c,_,rfl⟩:=g9.mp hx
 exact trivial
end Lw
namespace PySem
open Sem (wp)
section
variable {prog:Program}{w:World}{K:Type}[DecidableEq K]{knd:KeyKind prog w K}{A:Around}{E:Value→Shared→Prop}{s:Shared}
theorem AQ{d:Addr}{kvs:List (K×Value)}{k:K}{key dflt:Value}{Q:Value→Shared→Prop}(hkey:knd.is k key=true)(hm:s.heap.DictOf knd d kvs)(hsz:kvs.length≤sizeLine)
  (h1:∀ v,valueAt kvs k=some v→Q v { s with toks:=s.toks+1 })
  (h2:valueAt kvs k=none→∀ h',h'.DictOf knd d (stored kvs k dflt)→Heap.SameBut d s.heap h'→Q dflt { s with heap:=h',toks:=s.toks+1 }) :
  wpAny (model prog w) A (dictSetDefault d key dflt) Q E s:=by
 have hz:s.heap.DictLe d sizeLine:=by
  obtain⟨o,es,ep,ho,hc,hd,hk,hp,hn⟩:=hm
  intro o' es' ep' ho' hd'
  rw[ho] at ho'
  cases ho'
  rw[hd] at hd'
  cases hd'
  have e1:=hp.length
  have e2:es.toList.length=es.size:=by simp
  omega
 cases hv:valueAt kvs k with
 | some v=>exact wpAny_dictSetDefault_of (hz:=hz) hkey hm.mapOf (fun v' e'=>h1 v' e') fun hn=>by rw[hv] at hn;cases hn
 | none =>
  obtain⟨o,es,ep,ho,hc,hd,hk,hp,hn⟩:=id hm
  have hidx:(es.findIdx? fun e=>knd.is k e.key)=kvs.findIdx? fun kv=>decide (kv.1=k):=by
   rw[← hp.findIdx k];obtain⟨l⟩:=es;simp
  have hnot:k ∉ kvs.map (·.1):=by
   intro hk'
   obtain⟨kv,hkv,he⟩:=g9.mp hk'
   obtain⟨i,hi⟩:=l8 hkv
   have:valueAt kvs k=some kv.2:=valueAt_of_get hn (i:=i) (k:=k) (v:=kv.2) (by rw[hi,← he])
   rw[hv] at this
   cases this
  have hany:¬ (kvs.any fun kv=>decide (kv.1=k))=true:=by
   intro z
   obtain⟨kv,hkv,he⟩:=aXL.mp z
   exact hnot (g9.mpr ⟨kv,hkv,of_decide_eq_true he⟩)
  have hi:(es.findIdx? fun e=>knd.is k e.key)=none:=by
   rw[hidx,List.findIdx?_eq_none_iff]
   intro kv hkv
   exact decide_eq_false fun z=>hnot (g9.mpr ⟨kv,hkv,z⟩)
  unfold dictSetDefault
  try with_reducible refine wpAny_holding ?_
  refine wpAny_bind (knd.pyHash hkey ?_)
  refine wpAny_bind (wpAny_dictFind_of (s:={ s with toks:=s.toks+1 }) hkey ho hd hk ?_)
  rw[hi]
  refine wpAny_bind (wpAny_rule (wpAny_bind (wpAny_updateDictKeys (hz:=hz _ _ _ ho hd) (s:={ s with toks:=s.toks+1 }) ho hd (wpAny_pure (h2 hv _ ⟨_,_,ep+1,u5 _ ho (aXf (aQS hd _)),
   hc.mapDictKeys _,aQS hd _,hk.push hkey _,?_,?_⟩ (p6 ..))))))
  ·rw[stored,if_neg hany]
   have:=hp.append hkey (knd.hash k) dflt
   obtain⟨l⟩:=es
   simpa using this
  ·rw[stored,if_neg hany,d9]
   refine aQL.mpr ⟨hn,by simp,fun a ha b hb=>?_⟩
   have hb':b=k:=by simpa using hb
   subst hb'
   intro e
   exact hnot (e ▸ ha)
theorem meets_sdf{k:K}{key:Value}(d:Addr)(hkey:knd.is k key=true)(hd:(d == sysModules)=false)(dflt:Value) :
  MeetsIn prog w (Builtin.«dict.setdefault» ⟨[.ref d,key,dflt],[]⟩) (fun _ R s=>∃ kvs,s.heap.DictOf knd d kvs∧kvs.length≤sizeLine ∧
   (∀ v,valueAt kvs k=some v→R (.ok (.ret v)) { s with toks:=s.toks+1 }) ∧
   (valueAt kvs k=none→∀ h',h'.DictOf knd d (stored kvs k dflt)→Heap.SameBut d s.heap h'→R (.ok (.ret dflt)) { s with heap:=h',toks:=s.toks+1 })) :=
 .of_wp fun A R s ⟨kvs,hm,hz,h1,h2⟩=>by
  unfold Builtin.«dict.setdefault»
  refine wpAny_bind ?_
  unfold Builtin.Dict.keyAndDefault
  refine wpAny_bind (wpAny_notOrdered_dict hm.typeIs ?_)
  show wpAny _ _ (pure (d,key,some dflt)) _ _ s
  refine wpAny_pure ?_
  show wpAny _ _ (if (d == sysModules)=true then _ else (dictSetDefault d key dflt >>= _)) _ _ s
  rw[if_neg (by rw[hd];exact g7)]
  exact wpAny_bind (AQ hkey hm hz (fun v hv=>wpAny_pure ⟨v,rfl,h1 v hv⟩) fun hn h' hm' hs'=>wpAny_pure ⟨dflt,rfl,h2 hn h' hm' hs'⟩)
end
end PySem
namespace L2
open PySem PySem.Spec PyProof.Rows
section
variable {X:Cx}{pins:List (Addr×Obj)}{σ:St}{H:Hp}{s:Shared}{a:Addr}{kvs:List (cI×V)}{k:cI}{z:V}{u r:Value}{A:Around}{E:Value→Shared→Prop}
theorem Fj{Q:Value→Shared→Prop}(I:Inv X pins σ H s)(e:H a=some (.dK kvs))(hl:kvs.length<sizeLine)(ry:RelV (kV k) u)(rz:RelV z r)
  (h1:∀ v w' s',cO kvs k=some v→Inv X pins σ H s'→RelV v w'→Q w' s') (h2:cO kvs k=none→∀ s',Inv X pins σ (upd H a (.dK (dF kvs k z))) s'→Q r s') :
  wpAny (model X.prog X.w) A (call (.builtin "dict.setdefault") [.ref a,u,r]) Q E s:=by
 obtain⟨zl,hd,vs,rel,dd⟩:=vO I.hok e
 refine call_meetsIn x6 dd.typeIs aQm (aQi _ _ _) (PySem.meets_sdf (knd:=bJ X.prog X.w) a (mU ry) hd r)
  ⟨vs,dd,by rw[← rel.length];exact zl,fun v hv=>?_,fun hn h' dd' hs=>?_⟩
 ·have rv:=rel.val k
  rw[hv] at rv
  cases l:cO kvs k with
  | none=>rw[l] at rv;exact absurd rv (fun z=>z)
  | some v0 =>
   rw[l] at rv
   exact h1 v0 v _ l (I.tok _) rv
 ·have l:cO kvs k=none:=by
   have rv:=rel.val k
   rw[hn] at rv
   cases l:cO kvs k with
   | none=>rfl
   | some v0=>rw[l] at rv;exact absurd rv (fun z=>z)
  have he:∃ q,h'.get? a=some q:=let ⟨q,_,_,hq,_⟩:=dd';⟨q,hq⟩
  refine h2 l _ (lE I (by rw[e];exact True.intro) hs he (wK ?_ hd (rel.put k rz) dd'))
  have:=dC kvs k z
  omega
end
def FF(td ty tx:TE):TE:=fun σ H Q=>td σ H fun x H1=>∃ a,x=.ref a∧Hj H1 a∧ty σ H1 fun y H2=>tx σ H2 fun z H3=>∃ kvs k,H3 a=some (.dK kvs)∧kvs.length<sizeLine∧y=kV k ∧
 (∀ v,cO kvs k=some v→Q v H3)∧(cO kvs k=none→Q z (upd H3 a (.dK (dF kvs k z))))
section
variable {X:Cx}{o e f:Expr}{apos cpos:Pos}{td ty tx:TE}
theorem Bb(ho:PE X o td)(he:PE X e ty)(hf:PE X f tx)(m:M2 X o "setdefault" apos e f cpos):PE X (.Call (.Attribute o "setdefault" apos) [e,f] [] cpos) (FF td ty tx):=by
 intro pins s σ H Q I h
 refine wpAny_Call_method m.base m.few m.line x3 x6 aQq (bP (ho pins s σ H _ I h) fun u s1 ⟨x,H1,I1,rx,a,ex,d,q1⟩=>?_)
 subst ex
 obtain rfl:u=Value.ref a:=rx
 obtain⟨t1,t2,_⟩:=sZ I1 d
 refine⟨t1,t2,?_⟩
 rw[m.trees]
 refine q8 rfl (y4 (r6 (bP (he pins s1 σ H1 _ I1 q1) fun iv s2 ⟨y,H2,I2,ry,q2⟩ =>
  r6 (bP (hf pins s2 σ H2 _ I2 q2) fun fv s3 ⟨z,H3,I3,rz,kvs,k,ea,hl,ey,q3,q4⟩=>aQJ ?_))))
 subst ey
 exact Fj I3 ea hl ry rz (fun v w' s4 l I4 rw'=>⟨v,H3,I4,rw',q3 v l⟩) fun l s4 I4=>⟨z,_,I4,rz,q4 l⟩
end
def kB(s:Stmt)(j:Nat):Stmt:=match s with
 | .ClassDef _ _ _ b _ _ _ _ _ _ _=>b.getD j (.Pass ⟨0,0,0,0⟩)
 | _=>.Pass ⟨0,0,0,0⟩
section
variable {X:Cx}{K:b0}{o e value:Expr}{f:Str}{pos pos':Pos}{ta tv:TE}
theorem cB(hK:X.K=K)(he:PE X e ta)(hb:attributeBase e f X.env (eval e X.env)=eval e X.env):PE X (.Attribute e f pos) (HG K ta f):=by subst hK;exact Fh he hb
theorem nR(hK:X.K=K)(ha:PE X o ta)(hv:PE X value tv)(hs:swapsWith value (some (.Attribute o f pos')) pos.line X.env=pure false):PS X (.Assign [.Attribute o f pos'] value pos) (Gj K ta tv f):=by subst hK;exact Ex ha hv hs
end
end L2
namespace Lw
open PySem PySem.Spec PyProof.Rows L2
def nD(P:Program)(w:World)(K:b0)(mg:Str→Option Value)(base:Heap)(C:Addr)(m:Str)(ps:List Str)(n:Nat)(sp:Sp):Prop :=
 ∃ f fd,FnOk P w K mg base zO n f fd ps sp∧Meth K C m f∧Binds K fd ps []
structure DfM(K:b0)(C:Addr)(m q:Str)(st:Stmt)(ps:List Str)(f:Addr)(fd:FuncData):Prop where
 F:Fun K m q st f fd
 b:Binds K fd ps []
 m:Meth K C m f
theorem DfM.cl{P:Program}{w:World}{K:b0}{mg:Str→Option Value}{base:Heap}{C:Addr}{m q:Str}{st:Stmt}{ps:List Str}{f:Addr}{fd:FuncData}{n:Nat}{sp:Sp}(D:DfM K C m q st ps f fd)(h:FnOk P w K mg base zO n f fd ps sp):nD P w K mg base C m ps n sp :=
 ⟨f,fd,h,D.m,D.b⟩
structure Own(K:b0)(C:Addr):Prop where
 cl:Cls K C
 makes:PySem.W.makesIn K C=true
 kp:PySem.W.keepIn K (.ref C)=true
theorem Own.make{K:b0}{C f:Addr}(o:Own K C)(m:Meth K C "__init__" f):Mk K C f:=⟨o.makes,m.at_,m.fn,o.kp⟩
theorem I_{K:b0}{C:Addr}{x q:Str}{st:Stmt}{ps:List Str}{f:Addr}{oc:Value}{od an:Option Addr}{osl:Array (Option Value)}{kV doc pm cdv ct:Value}(hf:PySem.W.findIn K (.ref C) x=some (some (.ref f)))(hi:PySem.W.isFn K (.ref f)=true)
  (l:K.lookup f=some ⟨oc,od,.func (PySem.W.fnOf x q (eB st) (dS st) (aH st) .none kV doc pm an cdv ct),osl⟩)
  (c:PySem.W.codeIn K cdv q=true) (k:PySem.W.keepIn K (.ref f)=true) (h:∀ (kV doc pm:Value) (an:Option Addr) (cdv ct:Value) (us:List Value),us.length=ps.length→bindArgs (PySem.W.fnOf x q (eB st) (dS st) (aH st) .none kV doc pm an cdv ct) ⟨us,[]⟩=pure (ps.zip us)) :
  DfM K C x q st ps f (PySem.W.fnOf x q (eB st) (dS st) (aH st) .none kV doc pm an cdv ct) :=
 ⟨lW l c k,(lW l c k).binds h,⟨hf,hi,k⟩⟩
end Lw
namespace Lw
open PySem PySem.Spec PyProof.Rows L2 Ma MaR
inductive Lq(K:b0)(H:Hp):Nat→V→V→Prop where
 | flat {d:Nat} {v:V} (h:eV v=true):Lq K H d v v
 | tup {d:Nat} {a b:Addr} {xs ys:List V} (h1:SqT K H a xs) (h2:SqT K H b ys) (hl:xs.length=ys.length) (hm:xs.length≤900) (h:∀ (i:Nat) (x y:V),xs[i]?=some x→ys[i]?=some y→Lq K H d x y):Lq K H (d+1) (.ref a) (.ref b)
 | lst {d:Nat} {a b:Addr} {xs ys:List V} (h1:H a=some (.lst xs)) (h2:H b=some (.lst ys)) (hl:xs.length=ys.length) (hm:xs.length≤900) (h:∀ (i:Nat) (x y:V),xs[i]?=some x→ys[i]?=some y→Lq K H d x y):Lq K H (d+1) (.ref a) (.ref b)
theorem Lq.same{K:b0}{H H':Hp}(s:Same H H'):∀ {d:Nat} {x y:V},Lq K H d x y→Lq K H' d x y:=fun h=>by
 induction h with
 | flat h=>exact .flat h
 | tup h1 h2 hl hm _ ih=>exact .tup (L2.SqT.same s h1) (L2.SqT.same s h2) hl hm ih
 | lst h1 h2 hl hm _ ih=>exact .lst (s _ _ h1) (s _ _ h2) hl hm ih
def Do(K:b0)(d:Nat):Sp:=fun vs H Q _=>∃ x y:V,vs=[x,y]∧Lq K H d x y∧∀ H',Same H H'→Q (.bl true) H'
section
variable {X:Cx}
theorem jO{A:Around}{s:Shared}{xs ys:List V}{us vs:List Value}(rx:Vals xs us)(ry:Vals ys vs)(h:∀ (i:Nat) (x y:V),xs[i]?=some x→ys[i]?=some y→∀ u v,RelV x u→RelV y v→SeqAt.EqAt A s u v true) :
  ∀ (j:Nat) (h1:j<us.toArray.size) (h2:j<vs.toArray.size),SeqAt.EqAt A s us.toArray[j] vs.toArray[j] ((fun _=>true) j):=fun j h1 h2=>by
 have hx:j<xs.length:=by rw[rx.length];simpa using h1
 have hy:j<ys.length:=by rw[ry.length];simpa using h2
 obtain⟨u,hu,ru⟩:=rx.get (a9 hx)
 obtain⟨v,hv,rv⟩:=ry.get (a9 hy)
 have eu:us.toArray[j]=u:=by
  have:us[j]?=some us.toArray[j]:=by rw[a9 (by simpa using h1)];simp
  rw[hu] at this;exact(i3 this).symm
 have ev:vs.toArray[j]=v:=by
  have:vs[j]?=some vs.toArray[j]:=by rw[a9 (by simpa using h2)];simp
  rw[hv] at this;exact(i3 this).symm
 rw[eu,ev]
 exact h j _ _ (a9 hx) (a9 hy) u v ru rv
theorem mH(n:Nat):(List.range n).all (fun _=>true)=true:=p9.mpr fun _ _=>rfl
theorem sL{pins:List (Addr×Obj)}{σ:L2.St}{H:Hp}{s:Shared}(I:Inv X pins σ H s){d:Nat}{x y:V}(h:Lq X.K H d x y):∀ (A:Around),A.units+d<cLine→∀ u v,RelV x u→RelV y v→SeqAt.EqAt A s u v true:=by
 induction h with
 | @flat d v hf =>
  intro A _ u w ru rw'
  have:=xF (A:=A) (s:=s) ru rw' hf hf
  rwa [Bv hf] at this
 | @tup d a b xs ys h1 h2 hl hm _ ih =>
  intro A hu u w ru rw'
  cases ru
  cases rw'
  by_cases hab:a=b
  ·subst hab;exact aQd _
  ·obtain⟨us,r1,p1,_⟩:=I.tuple h1
   obtain⟨vs,r2,p2,_⟩:=I.tuple h2
   have z:=SeqAt.RcAt.tuples (A:=A) (show s.heap.IsTuple a us.toArray from p1) (show s.heap.IsTuple b vs.toArray from p2) (by omega) (jO (A:=A.in1) (s:=s) r1 r2 fun i x y hx hy u v=>ih i x y hx hy A.in1 (by show A.units+1+d<cLine;omega) u v)
   have e:((List.range (min us.toArray.size vs.toArray.size)).all (fun _=>true) && us.toArray.size == vs.toArray.size)=true:=by
    rw[mH,b8,b8,← r1.length,← r2.length,hl];simp
   rw[e] at z
   exact aQu hab z
 | @lst d a b xs ys h1 h2 hl hm _ ih =>
  intro A hu u w ru rw'
  cases ru
  cases rw'
  by_cases hab:a=b
  ·subst hab;exact aQd _
  ·obtain⟨us,r1,p1,_⟩:=I.list (SqL.of h1)
   obtain⟨vs,r2,p2,_⟩:=I.list (SqL.of h2)
   have z:=aZU (A:=A) p1.isList p2.isList (by simp;rw[← r1.length,← r2.length];exact hl) (by omega) (jO (A:=A.in1) (s:=s) r1 r2 fun i x y hx hy u v=>ih i x y hx hy A.in1 (by show A.units+1+d<cLine;omega) u v)
   rw[mH] at z
   exact aQu hab z
def H_(K:b0)(neg:Bool):R2:=fun x y H Q=>∃ (d:Nat) (a b:Addr) (xs ys:List V),d≤30∧x=.ref a∧y=.ref b∧((H a=some (.lst xs)∧H b=some (.lst ys))∨(SqT K H a xs∧SqT K H b ys))∧xs.length=ys.length∧(∀ (i:Nat) (x y:V),xs[i]?=some x→ys[i]?=some y→Lq K H d x y)∧Q (.bl (!neg)) H
theorem IK{K:b0}(hK:X.K=K)(hu:X.A.units+64<cLine):iZ X (compareOp .Eq) (H_ K false):=by
 subst hK
 intro pins s σ H x y v u Q I rx ry h
 obtain⟨d,a,b,xs,ys,hd,rfl,rfl,hq,hl,hall,q⟩:=h
 cases rx
 cases ry
 rcases hq with ⟨ha,hb⟩ | ⟨ha,hb⟩
 ·obtain⟨us,r1,p1,_⟩:=I.list (SqL.of ha)
  obtain⟨vs,r2,p2,_⟩:=I.list (SqL.of hb)
  refine aZ0 p1.isList p2.isList (by simp;rw[← r1.length,← r2.length];exact hl) (by omega) (jO (A:=X.A.in1) (s:=s) r1 r2 fun i x y hx hy u v=>sL I (hall i x y hx hy) X.A.in1 (by show X.A.units+1+d<cLine;omega) u v) ?_
  rw[mH]
  exact⟨.bl _,H,I,rfl,q⟩
 ·obtain⟨us,r1,p1,_⟩:=I.tuple ha
  obtain⟨vs,r2,p2,_⟩:=I.tuple hb
  refine aZS (show s.heap.IsTuple a us.toArray from p1) (show s.heap.IsTuple b vs.toArray from p2) (by omega) (jO (A:=X.A.in1) (s:=s) r1 r2 fun i x y hx hy u v=>sL I (hall i x y hx hy) X.A.in1 (by show X.A.units+1+d<cLine;omega) u v) ?_
  have e:((List.range (min us.toArray.size vs.toArray.size)).all (fun _=>true) && us.toArray.size == vs.toArray.size)=true:=by
   rw[mH,b8,b8,← r1.length,← r2.length,hl];simp
  rw[e]
  exact⟨.bl _,H,I,rfl,q⟩
theorem ER{K:b0}(hK:X.K=K)(hu:X.A.units+64<cLine):iZ X (compareOp .NotEq) (H_ K true):=by
 subst hK
 intro pins s σ H x y v u Q I rx ry h
 obtain⟨d,a,b,xs,ys,hd,rfl,rfl,hq,hl,hall,q⟩:=h
 cases rx
 cases ry
 rcases hq with ⟨ha,hb⟩ | ⟨ha,hb⟩
 ·obtain⟨us,r1,p1,_⟩:=I.list (SqL.of ha)
  obtain⟨vs,r2,p2,_⟩:=I.list (SqL.of hb)
  refine aQK (aXq p1.isList p2.isList (by simp;rw[← r1.length,← r2.length];exact hl) (by omega) (jO (A:=X.A.in1) (s:=s) r1 r2 fun i x y hx hy u v=>sL I (hall i x y hx hy) X.A.in1 (by show X.A.units+1+d<cLine;omega) u v)) ?_
  rw[mH]
  exact⟨.bl _,H,I,rfl,q⟩
 ·obtain⟨us,r1,p1,_⟩:=I.tuple ha
  obtain⟨vs,r2,p2,_⟩:=I.tuple hb
  refine aQK (aXc (show s.heap.IsTuple a us.toArray from p1) (show s.heap.IsTuple b vs.toArray from p2) (by omega) (jO (A:=X.A.in1) (s:=s) r1 r2 fun i x y hx hy u v=>sL I (hall i x y hx hy) X.A.in1 (by show X.A.units+1+d<cLine;omega) u v)) ?_
  have e:((List.range (min us.toArray.size vs.toArray.size)).all (fun _=>true) && us.toArray.size == vs.toArray.size)=true:=by
   rw[mH,b8,b8,← r1.length,← r2.length,hl];simp
  rw[e]
  exact⟨.bl _,H,I,rfl,q⟩
end
end Lw
namespace L2
open PySem PySem.Spec PyProof.Rows
section
variable {X:Cx}{pins:List (Addr×Obj)}{σ:St}{H:Hp}{s:Shared}
theorem Inv.freezeK{d:Addr}{kvs:List (cI×V)}(I:Inv X pins σ H s)(e:H d=some (.dK kvs)):∃ o,s.heap.get? d=some o∧Inv X pins σ (upd H d (.frz o (.dK kvs))) s:=by
 obtain⟨z,y,vs,r,o,es,ep,h1,h2⟩:=(show ObjOk X.prog X.w H s.heap d (.dK kvs) from I.hok d _ e)
 exact⟨o,h1,I.swap e (fun _ z=>by cases z) (.inl fun _ _ z=>by cases z) (fun _ z=>by cases z) (fun _ z=>by cases z) ⟨h1,z,y,vs,r,o,es,ep,h1,h2⟩⟩
theorem Inv.thawK{d:Addr}{o:Obj}{kvs:List (cI×V)}(I:Inv X pins σ H s)(e:H d=some (.frz o (.dK kvs)))(h0:∀ o v,X.H₀ d≠some (.frz o v)):Inv X pins σ (upd H d (.dK kvs)) s:=by
 obtain⟨_,z,y,r⟩:=(show ObjOk X.prog X.w H s.heap d (.frz o (.dK kvs)) from I.hok d _ e)
 exact I.swap e (fun _ z=>by cases z) (.inr h0) (fun _ z=>by cases z) (fun _ z=>by cases z) ⟨z,y,r⟩
def Fv(H0 H H':Hp):Prop:=H'=H∨∃ d o kvs,H d=some (.frz o (.dK kvs))∧(∀ o v,H0 d≠some (.frz o v))∧H'=upd H d (.dK kvs)
def Fp(H0:Hp)(t:TE):TE:=fun σ H Q=>t σ H fun v H'=>∃ H'',Fv H0 H' H''∧Q v H''
theorem uI{e:Expr}{t:TE}{H0:Hp}(h0:X.H₀=H0)(h:PE X e t):PE X e (Fp H0 t):=by
 subst h0
 intro pins s σ H Q I q
 refine bP (h pins s σ H _ I q) fun u s1 ⟨v,H1,I1,rv,H2,th,q2⟩=>?_
 rcases th with rfl | ⟨d,o,kvs,e1,n0,rfl⟩
 ·exact⟨v,_,I1,rv,q2⟩
 ·exact⟨v,_,I1.thawK e1 n0,rv,q2⟩
end
def Ai(d:Addr)(o:Obj)(kvs:List (cI×V)):It :=
 ⟨fun i H=>H d=some (.frz o (.dK kvs))∧i<kvs.length,fun i H x H'=>H'=H∧∃ k v,kvs[i]?=some (k,v)∧x=kV k,fun i H=>H d=some (.frz o (.dK kvs))∧kvs.length≤i⟩
theorem sA{X:Cx}{pins:List (Addr×Obj)}{σ:St}{H:Hp}{s:Shared}{d:Addr}{o:Obj}{kvs:List (cI×V)}(I:Inv X pins σ H s)(e:H d=some (.frz o (.dK kvs))) :
  s.heap.get? d=some o∧(d == sysModules)=false∧∃ (vs:List (cI×Value)) (es:Array DictEntry) (ep:Nat),KV kvs vs∧o.ExactDict∧o.data=.dict es ep∧Pairs (bJ X.prog X.w) es.toList vs:=by
 obtain⟨h0,z,y,vs,r,o',es,ep,h1,h2,h3,h4,h5,h6⟩:=(show ObjOk X.prog X.w H s.heap d (.frz o (.dK kvs)) from I.hok d _ e)
 rw[h0] at h1
 cases h1
 exact⟨h0,y,vs,es,ep,r,h2,h3,h5⟩
theorem Er{P:Program}{w:World}{k:cI}{u:Value}(h:(bJ P w).is k u=true):RelV (kV k) u:=by
 rcases cL h with ⟨i,t,rfl,rfl⟩ | ⟨x,t,rfl,rfl⟩
 ·exact⟨t,rfl⟩
 ·exact⟨t,rfl⟩
theorem Bp{P:Program}{w:World}:∀ {es:List DictEntry} {vs:List (cI×Value)},Pairs (bJ P w) es vs→∀ {kvs:List (cI×V)},KV kvs vs→∀ {i:Nat} {kv:cI×V},kvs[i]?=some kv→∃ e,es[i]?=some e∧RelV (kV kv.1) e.key:=by
 intro es vs hp
 induction hp with
 | nil =>
  intro kvs r i kv h
  cases r
  simp at h
 | @cons e p es vs h1 h2 hp ih =>
  intro kvs r i kv h
  cases r with
  | cons ra rb =>
   cases i with
   | zero =>
    simp at h
    subst h
    exact⟨e,rfl,by rw[ra.1];exact Er h1⟩
   | succ i =>
    obtain⟨e',he,hr⟩:=ih rb (i:=i) (kv:=kv) (by simpa using h)
    exact⟨e',by simpa using he,hr⟩
theorem Al{P:Program}{w:World}{K:b0}{tg:Expr}(d it:Addr)(o:Obj)(es:Array DictEntry)(ep:Nat)(kvs:List (cI×V))(od:o.data=.dict es ep)(hl:es.size=kvs.length) :
  Turn P w K tg (Ai d o kvs) [it] it (fun i h=>h.IsKeyIter it d i es.size ep) where
 mem:=by simp
 obj:=fun i h st b hb=>by
  have e:b=it:=by simpa using hb
  subst e
  obtain⟨o,e,c,d⟩:=st
  exact⟨o,e,fun v z=>by rw[d] at z;cases z⟩
 keep:=fun i h h' st k=>st.at fun o e=>k it (by simp) o e
 item:=by
  intro X hP hw hK hc i pins s σ H E I hf st hg
  subst hP hw hK
  obtain⟨hd,hi⟩:=hg
  obtain⟨g0,_,vs,es',ep',r,_,od',hp⟩:=sA I hd
  rw[od] at od'
  cases od'
  obtain⟨kv,hkv⟩:∃ kv,kvs[i]?=some kv:=⟨_,a9 hi⟩
  obtain⟨en,hen,hr⟩:=Bp hp r hkv
  have hes:es[i]?=some en:=by rw[← aQN];exact hen
  obtain⟨f0,f1,f2,f3,f4,f5⟩:=hf it (by simp)
  refine xC (n:=0) st g0 od hes fun h' st' sb=>?_
  have I1:Inv X pins σ H { s with heap:=h' }:=I.turned (t':=s.toks) (fun b o hb e=>(sb.2 b hb).trans e) f0 f1 f3 f4 f5
  obtain⟨o2,e2,c2,d2⟩:=id st'
  exact⟨_,rfl,qN (s:={ s with heap:=h' }) e2 c2 d2 (by decide) ⟨kV kv.1,H,I1,hr,⟨rfl,kv.1,kv.2,hkv,rfl⟩,st',fun b hb=>(hf b hb).1⟩⟩
 done:=by
  intro X hP hw hK hc i pins s σ H E I hf st hg
  subst hP hw hK
  obtain⟨hd,hi⟩:=hg
  obtain⟨g0,_,vs,es',ep',r,_,od',hp⟩:=sA I hd
  rw[od] at od'
  cases od'
  obtain⟨f0,f1,f2,f3,f4,f5⟩:=hf it (by simp)
  exact AH (n:=0) (I.ok.hd hc) st g0 od (by rw[Array.getElem?_eq_none_iff];omega) fun h' eb=>⟨rfl,I.turned (t':=s.toks) (fun b o hb e=>eb b o hb e) f0 f1 f3 f4 f5⟩
 self:=fun _ _ _ _ _ st h=>wpAny_pyIter_keyiter st h
section
variable {X:Cx}
def FI(td:TE):TI:=fun σ H R=>td σ H fun x H1=>∃ d kvs,x=.ref d∧((H1 d=some (.dK kvs)∧∀ o,R (Ai d o kvs) (upd H1 d (.frz o (.dK kvs))))∨∃ o,H1 d=some (.frz o (.dK kvs))∧R (Ai d o kvs) H1)
theorem tX{tg e:Expr}{td:TE}(he:PE X e td):PI X tg e (FI td):=by
 intro pins s σ H R I h
 refine bP (he pins s σ H _ I h) fun u s1 ⟨x,H1,I1,rx,d,kvs,ex,hq⟩=>?_
 subst ex
 cases (show u=Value.ref d from rx)
 obtain⟨o,H2,e2,I2,q2⟩:∃ o H2,H2 d=some (.frz o (.dK kvs))∧Inv X pins σ H2 s1∧R (Ai d o kvs) H2:=by
  rcases hq with ⟨e1,q⟩ | ⟨o,e1,q⟩
  ·obtain⟨o,_,I2⟩:=I1.freezeK e1
   exact⟨o,_,aC,I2,q o⟩
  ·exact⟨o,H1,e1,I1,q⟩
 obtain⟨g0,hn,vs,es,ep,r,xo,od,hp⟩:=sA I2 e2
 have hl:es.size=kvs.length:=by rw[← p5,hp.length,← KV.length r]
 refine B0 hn g0 xo od ⟨s1.heap.objs.size,[s1.heap.objs.size],_,Ai d o kvs,H2,rfl,I2.kept (t':=s1.toks) (fun b u e=>c0 _ e),Al d _ o es ep kvs od hl,⟨_,g8 _ rfl,rfl,rfl⟩,fun b hb=>?_,q2⟩
 have e:b=s1.heap.objs.size:=by simpa using hb
 subst e
 exact I2.fpOk (b5 _) (I2.hok.fresh (b5 _))
end
theorem Am{d:Addr}{o:Obj}{kvs:List (cI×V)}{D:Addr}{Q:VK}{ti:TT}{te:TE}{c:St}{H0:Hp}(Pv:Nat→Hp→Prop)(h0:Pv 0 H0)(hl:∀ i H,i≤kvs.length→Pv i H→H d=some (.frz o (.dK kvs)))
  (hs:∀ i k v H,kvs[i]?=some (k,v)→Pv i H→ti (some (kV k)::c) H fun b H1=>if b=true then te (some (kV k)::c) H1 fun y H2=>∃ ys,H2 D=some (.lst ys)∧ys.length<sizeLine∧Pv (i+1) (upd H2 D (.lst (ys++[y]))) else Pv (i+1) H1)
  (hd:∀ H,Pv kvs.length H→Q (.ref D) H):jH (Ai d o kvs) D Q ti te c H0:=by
 refine⟨fun i m H'=>m=kvs.length - i∧i≤kvs.length∧Pv i H',⟨kvs.length,by simp,j6 _,h0⟩,?_⟩
 rintro i m H' ⟨rfl,hi,p⟩
 have q:=hl i H' hi p
 by_cases hlt:i<kvs.length
 ·refine .inr ⟨⟨q,hlt⟩,Pv (i+1),fun H'' p=>⟨kvs.length - (i+1),by omega,rfl,hlt,p⟩,fun v H2 y=>?_⟩
  obtain⟨e,k,v',hk,rfl⟩:=y
  subst e
  exact hs i k v' H2 hk p
 ·have e:i=kvs.length:=by omega
  subst e
  exact .inl ⟨⟨q,b5 _⟩,hd H' p⟩
theorem DGet.fk{H:Hp}{a:Addr}{o:Obj}{kvs:List (cI×V)}{k:cI}(e:H a=some (.frz o (.dK kvs))):DGet H a (kV k) (cO kvs k):=.inl ⟨kvs,k,.inr ⟨o,e⟩,rfl,rfl⟩
end L2
namespace PySem
open Sem (wp)
open Builtin
end PySem
namespace L2
open PySem PySem.Spec PyProof.Rows
end L2
namespace Lw
open PySem PySem.Spec PyProof.Rows L2 Ma MaR
def wf(hd tn wy al:Addr):List (Str×V):=fF "alike" (.ref al) (fF "ways" (.ref wy) (fF "turns" (.ref tn) (fF "heads" (.ref hd) [])))
theorem Ju:¬ (("heads":Str)="alike"):=by decide +kernel
theorem Jy:¬ (("heads":Str)="ways"):=by decide +kernel
theorem JB:¬ (("heads":Str)="turns"):=by decide +kernel
theorem JC:¬ (("turns":Str)="alike"):=by decide +kernel
theorem JD:¬ (("turns":Str)="ways"):=by decide +kernel
theorem Jw:¬ (("ways":Str)="alike"):=by decide +kernel
section
variable (hd tn wy al:Addr)
theorem fE:(wf hd tn wy al).lookup ("heads":Str)=some (.ref hd):=by unfold wf;rw[bC,if_neg Ju,bC,if_neg Jy,bC,if_neg JB,bC,if_pos rfl]
theorem gW:(wf hd tn wy al).lookup ("turns":Str)=some (.ref tn):=by unfold wf;rw[bC,if_neg JC,bC,if_neg JD,bC,if_pos rfl]
theorem nJ:(wf hd tn wy al).lookup ("ways":Str)=some (.ref wy):=by unfold wf;rw[bC,if_neg Jw,bC,if_pos rfl]
theorem oJ:(wf hd tn wy al).lookup ("alike":Str)=some (.ref al):=by unfold wf;rw[bC,if_pos rfl]
theorem gD{m:Str}(h1:¬ m="alike")(h2:¬ m="ways")(h3:¬ m="turns")(h4:¬ m="heads"):(wf hd tn wy al).lookup m=none:=by
 unfold wf
 rw[bC,if_neg h1,bC,if_neg h2,bC,if_neg h3,bC,if_neg h4]
 rfl
end
def Gw:Sp:=fun _ _ _ _=>False
theorem nK{H:Hp}{p q:Addr}{o:HO}(u o':HO)(hp:H p=some o)(hq:H q=none):upd (upd H q u) p o' p=some o'∧upd (upd H q u) p o' q=some u∧∀ b x,H b=some x→b≠p→upd (upd H q u) p o' b=some x:=by
 have n:q≠p:=(aI hp hq).symm
 refine⟨aC,by rw[aE n,aC],fun b x e hb=>?_⟩
 rw[aE hb,aE (aI e hq)]
 exact e
theorem hV{H:Hp}{p q:Addr}{o:HO}(u:HO)(hp:H p=some o)(hq:H q=none):upd H q u p=some o:=by rw[aE (aI hp hq)];exact hp
end Lw
namespace L2
open PySem PySem.Spec PyProof.Rows
def DU(H:Hp)(S:Addr)(as:List Addr)(kvs:List (cI×V)):Hp:=fun b=>if b=S then some (.lst (as.map V.ref)) else match (as.zip kvs).find? (fun q=>decide (q.1=b)) with
 | some q=>some (.tup [kV q.2.1,q.2.2])
 | none=>H b
theorem tU{b:Addr}:∀ {as:List Addr} {kvs:List (cI×V)} {q:Addr×cI×V},(as.zip kvs).find? (fun q=>decide (q.1=b))=some q→q.1=b∧∃ j:Nat,as[j]?=some q.1∧kvs[j]?=some q.2:=by
 intro as kvs q h
 have h1:=aZ3 h
 have h2:=aQz h
 obtain⟨j,hj⟩:=l8 h2
 rw[aXA] at hj
 exact⟨of_decide_eq_true h1,j,hj.1,hj.2⟩
section
variable {H:Hp}{S:Addr}{as:List Addr}{kvs:List (cI×V)}
theorem Ek:DU H S as kvs S=some (.lst (as.map V.ref)):=by unfold DU;rw[if_pos rfl]
theorem nE{b:Addr}(h1:b≠S)(h2:b ∉ as):DU H S as kvs b=H b:=by
 unfold DU
 rw[if_neg h1]
 cases e:(as.zip kvs).find? (fun q=>decide (q.1=b)) with
 | none=>rfl
 | some q =>
  obtain⟨e1,j,e2,_⟩:=tU e
  rw[e1] at e2
  exact absurd (b6 e2) h2
theorem Cc{j:Nat}{a:Addr}{kv:cI×V}(hS:a≠S)(nd:as.Nodup)(ha:as[j]?=some a)(hk:kvs[j]?=some kv):DU H S as kvs a=some (.tup [kV kv.1,kv.2]):=by
 unfold DU
 rw[if_neg hS]
 have hm:(a,kv)∈as.zip kvs:=b6 (i:=j) (by rw[aXA];exact⟨ha,hk⟩)
 cases e:(as.zip kvs).find? (fun q=>decide (q.1=a)) with
 | none =>
  have:=aXt.mp e (a,kv) hm
  simp at this
 | some q =>
  obtain⟨e1,i,e2,e3⟩:=tU e
  rw[e1] at e2
  have hij:i=j:=by
   obtain⟨l1,x1⟩:=a8.mp e2
   obtain⟨l2,x2⟩:=a8.mp ha
   exact(aXB nd).mp (x1.trans x2.symm)
  subst hij
  rw[hk] at e3
  cases e3
  rfl
end
theorem lS{α β:Type}{F:α→β→Prop}:∀ {l₁:List α} {l₂:List β},Paired F l₁ l₂→∀ {j:Nat} {y:β},l₂[j]?=some y→∃ x,l₁[j]?=some x∧F x y
 | _,_,.nil,j,y,h=>by simp at h
 | _,_,.cons (b:=b) f r,0,y,h=>by
  have e:b=y:=by simpa using h
  subst e
  exact⟨_,rfl,f⟩
 | _,_,.cons f r,j+1,y,h=>by
  obtain⟨x,hx,q⟩:=lS r (j:=j) (by simpa using h)
  exact⟨x,by simpa using hx,q⟩
section
variable {X:Cx}{pins:List (Addr×Obj)}{σ:St}{H:Hp}{s:Shared}
theorem Inv.laidItems{h':Heap}{t' c:Nat}{S:Addr}{as:List Addr}{kvs:List (cI×V)}{vs:List (cI×Value)}{acc:Array Value}(I:Inv X pins σ H s)(r:KV kvs vs)(hz:kvs.length≤sizeLine)(k:∀ b u,s.heap.get? b=some u→h'.get? b=some u)(hp:s.heap.objs.size≤S)
  (hS:h'.get? S=some { cls:=.type "list",dict:=none,data:=.seq acc c,slots:=#[] }) (hacc:acc.toList=as.map Value.ref) (hl:as.length=vs.length) (G:PySem.W.KdxG (bJ X.prog X.w) vs S h' as) :
  Inv X pins σ (DU H S as kvs) { s with heap:=h',toks:=t' }:=by
 have hlen:=r.length
 have nd:as.Nodup:=G.rise.imp fun h=>d5 h
 have hnew:∀ b,b=S∨b∈as→s.heap.objs.size≤b:=fun b hb=>by
  rcases hb with rfl | hb
  ·exact hp
  ·exact x8 (j9 hp (G.above b hb))
 have hold:∀ b o,H b=some o→DU H S as kvs b=some o:=fun b o e=>by
  have hb:=(I.hok b o e).lt
  rw[nE (fun z=>absurd (hnew b (.inl z)) (aQ4 hb)) (fun z=>absurd (hnew b (.inr z)) (aQ4 hb))]
  exact e
 have hfree:∀ b o,s.heap.get? b=some o→DU H S as kvs b=H b:=fun b o e=>by
  have hb:=c7 e
  exact nE (fun z=>absurd (hnew b (.inl z)) (aQ4 hb)) (fun z=>absurd (hnew b (.inr z)) (aQ4 hb))
 refine I.un ⟨fun b u q _ _ _=>k b u q,fun b u q _ _ _=>⟨u.slots,k b u q⟩,fun b u q n _=>by rw[hfree b u q];exact n,fun b u q _=>⟨u,k b u q⟩,fun b xs q=>hold b _ q,fun b o u q=>hold b _ q,fun b ps q=>⟨#[],by rw[hold b _ q];simp⟩⟩ ?_
 intro b u e
 by_cases hbS:b=S
 ·subst hbS
  rw[Ek] at e
  cases e
  refine⟨by rw[b7,hl,← hlen];exact hz,as.map Value.ref,c,?_,?_⟩
  ·clear hold hfree hnew nd G hl hacc
   induction as with
   | nil=>exact .nil
   | cons a as ih=>exact .cons rfl (ih)
  ·rw[hS,← hacc,Array.toArray_toList]
 ·by_cases hba:b∈as
  ·obtain⟨j,hj⟩:=l8 hba
   obtain⟨key,kk,x,hv,hk,hg⟩:=G.pairs j b hj
   obtain⟨kv,hkv,e1,e2⟩:∃ kv,kvs[j]?=some kv∧kv.1=kk∧RelV kv.2 x:=by
    obtain⟨kv,hkv,q1,q2⟩:=lS r hv
    exact⟨kv,hkv,q1,q2⟩
   rw[Cc hbS nd hj hkv] at e
   cases e
   refine⟨by show 2≤sizeLine;decide,[key,x],.cons (by rw[e1];exact Er hk) (.cons e2 .nil),⟨_,hg,rfl,_,rfl⟩,⟨_,hg,rfl⟩⟩
  ·rw[nE hbS hba] at e
   refine(I.hok b u e).stay (fun c v _ q=>k c v q) (fun c q=>hold _ _ q) fun c xs q=>hold _ _ q
def IW(td:TE):TE:=fun σ H Q=>td σ H fun x H1=>∃ d kvs,x=.ref d∧H1 d=some (.dK kvs)∧∀ v,H1 v=none→Q (.ref v) (upd H1 v (.ext fun h=>h.IsItemsView v d))
theorem AA{o:Expr}{apos cpos:Pos}{td:TE}(ho:PE X o td)(hb:attributeBase o "items" X.env (eval o X.env)=eval o X.env:=by rfl)(hline:(apos.endLine == cpos.line)=true:=by rfl):PE X (.Call (.Attribute o "items" apos) [] [] cpos) (IW td):=by
 intro pins s σ H Q I h
 refine wpAny_Call_method0_late hb hline (bP (ho pins s σ H _ I h) fun u s1 ⟨x,H1,I1,rx,d,kvs,ex,e1,q⟩=>?_)
 subst ex
 cases (show u=Value.ref d from rx)
 obtain⟨z,hd,vs,rel,dd⟩:=vO I1.hok e1
 obtain⟨o,es,ep,g0,xo,od⟩:=id dd
 refine⟨"dict","dict.items",x3,PySem.F.slot_dict_items,PySem.F.type_dict_items,⟨_,g0,xo.1⟩,fun b q=>?_,?_⟩
 ·cases q
  exact⟨o,g0,xo.2.1⟩
 refine q8 rfl (aXb ?_)
 refine xZ hd g0 xo ?_
 have hn:=I1.hok.fresh (b5 s1.heap.objs.size)
 have g1:(s1.heap.push { cls:=.type "dict_items",data:=.fields #[.ref d] }).get? s1.heap.objs.size=some { cls:=.type "dict_items",data:=.fields #[.ref d] }:=g8 _ rfl
 refine⟨.ref s1.heap.objs.size,_,I1.laid (t':=s1.toks) (fun b u e=>c0 _ e) (b5 _) ?_,rfl,q _ hn⟩
 exact⟨⟨_,g1,rfl,rfl⟩,⟨_,g1⟩,fun h1 h2 ⟨o,a,b,c⟩ k=>⟨o,k o a,b,c⟩⟩
theorem xW(hc:X.calm=true):dX X (.type "list") (fun xs H Q=>∃ v d kvs,xs=[.ref v]∧H v=some (.ext fun h=>h.IsItemsView v d)∧H d=some (.dK kvs) ∧
  ∀ (l:Addr) (as:List Addr) (H':Hp),H l=none→Same H H'→H' l=some (.lst (as.map V.ref))→as.length=kvs.length→(∀ (j:Nat) (a:Addr) (kv:cI×V),as[j]?=some a→kvs[j]?=some kv→H' a=some (.tup [kV kv.1,kv.2]))→Q (.ref l) H'):=by
 intro pins s σ H xs us Q I r h
 obtain⟨v,d,kvs,rfl,hv,he,q⟩:=h
 obtain⟨u,rfl,rx⟩:=kW r
 cases rx
 obtain⟨z,hd,vs,rel,dd⟩:=vO I.hok he
 obtain⟨ep,da⟩:=dd.dictAt
 obtain⟨iv,_,_⟩:=I.hok v _ hv
 refine PySem.W.kdx_call (knd:=bJ X.prog X.w) (I.ok.hd hc) iv da (by rw[← rel.length];exact z) fun h' tk acc c as kp hS hl G hacc=>?_
 have nd:as.Nodup:=G.rise.imp fun h=>d5 h
 refine⟨.ref s.heap.objs.size,_,I.laidItems (t':=tk) rel z kp (b5 _) hS hacc hl G,rfl,q _ as _ (I.hok.fresh (b5 _)) (fun b o e=>?_) Ek (by rw[hl,rel.length]) fun j a kv ha hk=>Cc (aQc (G.above a (b6 ha))) nd ha hk⟩
 have hb:=(I.hok b o e).lt
 rw[nE (d5 hb) fun z=>absurd (G.above b z) (Nat.not_lt_of_ge (x8 hb))]
 exact e
end
end L2
namespace Lw
open PySem PySem.Spec PyProof.Rows L2 Ma MaR
theorem nT{u v:List Nat}(hu:AllL u)(hv:AllL v):lay (lay u++lay v)=lay (u++v):=by
 rw[fT u _ hu,eW u v hu hv]
theorem fY{u v w:List Nat}(hu:AllL u)(hv:AllL v)(hw:AllL w):lay (u++(v++(back v++w)))=lay (u++w):=by
 have e:lay (u++(v++back v)++w)=lay (u++w):=by
  rw[← zE u (v++back v) w hu (AllL.app.mpr ⟨hv,aS hv⟩) hw,iQ hv,m6]
 rw[← e]
 simp only [k7]
theorem Bd{u v w:List Nat}(hu:AllL u)(hv:AllL v)(hw:AllL w):lay (u++(back v++(v++w)))=lay (u++w):=by
 have:=fY hu (aS hv) hw
 rwa [eC hv] at this
section
variable {a b c d x:List Nat}(ha:AllL a)(hb:AllL b)(hc:AllL c)(hd:AllL d)(hx:AllL x)
include ha hb hc
theorem Jm:lay (lay (back a++b)++lay (back b++c))=lay (back a++c):=by
 have q:=aS ha
 have q2:=aS hb
 rw[nT (AllL.app.mpr ⟨q,hb⟩) (AllL.app.mpr ⟨q2,hc⟩),k7]
 exact fY q hb hc
theorem IR:lay (lay (a++b)++lay (back b++c))=lay (a++c):=by
 have q2:=aS hb
 rw[nT (AllL.app.mpr ⟨ha,hb⟩) (AllL.app.mpr ⟨q2,hc⟩),k7]
 exact fY ha hb hc
omit hc in
theorem Jl:back (lay (back a++b))=lay (back b++a):=by
 have q:=aS ha
 rw[← lC (AllL.app.mpr ⟨q,hb⟩),dN,eC ha]
include hx in
omit hc in
theorem Jg:back (lay (back a++(x++b)))=lay (back b++(back x++a)):=by
 have q:=aS ha
 rw[← lC (AllL.app.mpr ⟨q,AllL.app.mpr ⟨hx,hb⟩⟩),dN,dN,eC ha,k7]
include hx in
theorem Jv:lay (back (lay (back a++(x++b)))++lay (back a++(x++c)))=lay (back b++c):=by
 have q:=aS ha
 have q2:=aS hb
 have q3:=aS hx
 rw[Jg ha hb hx,nT (AllL.app.mpr ⟨q2,AllL.app.mpr ⟨q3,ha⟩⟩) (AllL.app.mpr ⟨q,AllL.app.mpr ⟨hx,hc⟩⟩)]
 have e1:back b++(back x++a)++(back a++(x++c))=(back b++back x)++(a++(back a++(x++c))):=by simp only [k7]
 rw[e1,fY (AllL.app.mpr ⟨q2,q3⟩) ha (AllL.app.mpr ⟨hx,hc⟩),k7]
 exact Bd q2 hx hc
include hx in
theorem IZ:lay (back (lay (back a++b))++lay (back a++(x++c)))=lay (back b++(x++c)):=by
 have q:=aS ha
 have q2:=aS hb
 rw[Jl ha hb,nT (AllL.app.mpr ⟨q2,ha⟩) (AllL.app.mpr ⟨q,AllL.app.mpr ⟨hx,hc⟩⟩),k7]
 exact fY q2 ha (AllL.app.mpr ⟨hx,hc⟩)
include hx in
omit hc in
end
structure WvS where
 hs:List Nat
 ts:List (List Nat)
 ws:List (List (Nat×Nat×List Nat))
 al:List (Nat×List Nat×Nat)
structure WI(h:Nat→List Nat)(φ:Nat→List Nat)(ρ rk:Nat→Nat)(L:Nat)(S:WvS):Prop where
 lt:S.ts.length=S.hs.length
 lw:S.ws.length=S.hs.length
 hd:∀ (i a:Nat),S.hs[i]?=some a→a<S.hs.length∧(a=i∨rk a<rk i)∧ρ a=ρ i∧(a=i→ρ i=i)
 rt:∀ i:Nat,i<S.hs.length→ρ i<S.hs.length∧S.hs[ρ i]?=some (ρ i)
 tn:∀ (i a:Nat) (t:List Nat),S.hs[i]?=some a→S.ts[i]?=some t→t=lay (back (φ i)++φ a)
 wy:∀ (i:Nat) (es:List (Nat×Nat×List Nat)),S.ws[i]?=some es→(es.map (·.1)).Nodup∧∀ e∈es,cR e.1∧e.2.1<S.hs.length∧e.2.2=lay (back (φ i)++(h e.1++φ e.2.1))
 al:∀ e∈S.al,e.1<S.hs.length∧e.2.2<S.hs.length∧e.2.1=lay (back (φ e.1)++φ e.2.2)
 fa:∀ i,AllL (φ i)∧(φ i).length≤L
 ha:∀ c,cR c→AllL (h c)∧(h c).length≤L
section
variable {h:Nat→List Nat}{φ:Nat→List Nat}{ρ rk:Nat→Nat}{L:Nat}{S:WvS}
theorem eN{α:Type}{xs:List α}{i j:Nat}{v y:α}(h:(xs.set i v)[j]?=some y):(j=i∧y=v∧i<xs.length)∨(j≠i∧xs[j]?=some y):=by
 rw[List.getElem?_set] at h
 split at h
 ·rename_i e
  split at h
  ·cases h;exact .inl ⟨e.symm,rfl,by assumption⟩
  ·cases h
 ·rename_i e
  exact .inr ⟨fun z=>e z.symm,h⟩
theorem WI.comp(I:WI h φ ρ rk L S){i a b:Nat}{t u:List Nat}(hi:S.hs[i]?=some a)(hne:a≠i)(ha:S.hs[a]?=some b)(ht:S.ts[i]?=some t)(hu:S.ts[a]?=some u) :
  WI h φ ρ rk L { S with hs:=S.hs.set i b,ts:=S.ts.set i (lay (t++u)) }∧lay (t++u)=lay (back (φ i)++φ b)∧rk b<rk i∧ρ b=ρ i:=by
 obtain⟨a1,a2,a3,a4⟩:=I.hd i a hi
 obtain⟨b1,b2,b3,b4⟩:=I.hd a b ha
 have hlt:rk a<rk i:=a2.resolve_left hne
 have hrb:rk b<rk i:=by
  rcases b2 with e | e
  ·rw[e];exact hlt
  ·omega
 have hte:lay (t++u)=lay (back (φ i)++φ b):=by
  rw[I.tn i a t hi ht,I.tn a b u ha hu]
  exact Jm (I.fa i).1 (I.fa a).1 (I.fa b).1
 have hil:i<S.hs.length:=(a8.mp hi).1
 have hbi:b≠i:=fun z=>by rw[z] at hrb;omega
 refine⟨⟨?_,?_,?_,?_,?_,?_,?_,I.fa,I.ha⟩,hte,hrb,b3.trans a3⟩
 ·show (S.ts.set i _).length=(S.hs.set i b).length
  rw[k0,k0];exact I.lt
 ·show S.ws.length=(S.hs.set i b).length
  rw[k0];exact I.lw
 ·intro j c hj
  show c<(S.hs.set i b).length∧_
  rw[k0]
  rcases eN hj with ⟨rfl,rfl,_⟩ | ⟨hji,hj⟩
  ·exact⟨b1,.inr hrb,b3.trans a3,fun z=>absurd z hbi⟩
  ·exact I.hd j c hj
 ·intro j hj
  have hj':j<S.hs.length:=by
   have:j<(S.hs.set i b).length:=hj
   rwa [k0] at this
  show ρ j<(S.hs.set i b).length∧(S.hs.set i b)[ρ j]?=some (ρ j)
  rw[k0]
  obtain⟨r1,r2⟩:=I.rt j hj'
  refine⟨r1,?_⟩
  rw[u7]
  ·exact r2
  ·intro z
   rw[← z,hi] at r2
   exact hne (by simpa using r2)
 ·intro j c v hj hv
  rcases eN hj with ⟨rfl,rfl,_⟩ | ⟨hji,hj⟩
  ·rcases eN hv with ⟨_,rfl,_⟩ | ⟨z,_⟩
   ·exact hte
   ·exact absurd rfl z
  ·rcases eN hv with ⟨z,_,_⟩ | ⟨_,hv⟩
   ·exact absurd z hji
   ·exact I.tn j c v hj hv
 ·intro j es hj
  obtain⟨w1,w2⟩:=I.wy j es hj
  refine⟨w1,fun e he=>?_⟩
  show _∧e.2.1<(S.hs.set i b).length∧_
  rw[k0]
  exact w2 e he
 ·intro e he
  show e.1<(S.hs.set i b).length∧e.2.2<(S.hs.set i b).length∧_
  rw[k0]
  exact I.al e he
def cT(es:List (Nat×Nat×List Nat))(c:Nat):Option (Nat×List Nat):=(es.find? fun e=>decide (e.1=c)).map (·.2)
theorem dJ{es:List (Nat×Nat×List Nat)}{c:Nat}{r:Nat×List Nat}(h:cT es c=some r):(c,r)∈es:=by
 unfold cT at h
 obtain⟨e,he,rfl⟩:=i8.mp h
 have h1:=aZ3 he
 have h2:=aQz he
 have:e.1=c:=of_decide_eq_true h1
 rw[← this]
 exact h2
theorem oE{es:List (Nat×Nat×List Nat)}{c:Nat}(h:cT es c=none):∀ e∈es,e.1≠c:=by
 unfold cT at h
 have:=aXt.mp (Option.map_eq_none_iff.mp h)
 intro e he z
 have:=this e he
 simp[z] at this
theorem lP{es:List (Nat×Nat×List Nat)}{c:Nat}{r:Nat×List Nat}(nd:(es.map (·.1)).Nodup)(h:(c,r)∈es):cT es c=some r:=by
 cases e:cT es c with
 | none=>exact absurd rfl (oE e _ h)
 | some r' =>
  have h2:=dJ e
  congr 1
  induction es with
  | nil=>cases h
  | cons x es ih =>
   obtain⟨n1,n2⟩:=j7.mp nd
   rcases c4.mp h with z | z <;> rcases c4.mp h2 with y | y
   ·rw[← z] at y;exact(aZM y).2
   ·exact absurd (g9.mpr ⟨_,y,by rw[← z]⟩) n1
   ·exact absurd (g9.mpr ⟨_,z,by rw[← y]⟩) n1
   ·exact ih n2 z (by
     unfold cT at e ⊢
     rw[aXZ] at e
     ·exact e
     ·simp only [decide_eq_true_eq]
      intro q
      exact n1 (g9.mpr ⟨_,z,q.symm⟩)) y
def aZ(S:WvS)(i c g:Nat)(t:List Nat)(es:List (Nat×Nat×List Nat)):WvS:=match cT es c with
 | none=>{ S with ws:=S.ws.set i (es++[(c,g,t)]) }
 | some (g',t')=>if (g',t')=(g,t) then S else { S with al:=S.al++[(g,lay (back t++t'),g')] }
theorem gR(i c g:Nat)(t:List Nat)(es:List (Nat×Nat×List Nat)):(aZ S i c g t es).hs=S.hs∧(aZ S i c g t es).ts=S.ts:=by
 unfold aZ
 split
 ·exact⟨rfl,rfl⟩
 ·split <;> exact⟨rfl,rfl⟩
theorem WI.lay(I:WI h φ ρ rk L S){i c g:Nat}{t:List Nat}{es:List (Nat×Nat×List Nat)}(hi:S.ws[i]?=some es)(hc:cR c)(hg:g<S.hs.length)(ht:t=lay (back (φ i)++(h c++φ g))):WI h φ ρ rk L (aZ S i c g t es):=by
 obtain⟨w1,w2⟩:=I.wy i es hi
 unfold aZ
 cases e:cT es c with
 | none =>
  have hn:=oE e
  refine⟨I.lt,by show (S.ws.set i _).length=_;rw[k0];exact I.lw,I.hd,I.rt,I.tn,?_,I.al,I.fa,I.ha⟩
  intro j es' hj
  rcases eN hj with ⟨rfl,rfl,_⟩ | ⟨_,hj⟩
  ·refine⟨?_,fun x hx=>?_⟩
   ·rw[d9,aQL]
    refine⟨w1,by simp,fun a ha b hb=>?_⟩
    obtain⟨x,hx,rfl⟩:=g9.mp ha
    simp at hb
    rw[hb]
    exact hn x hx
   ·rcases i5.mp hx with z | z
    ·exact w2 x z
    ·rw[c9.mp z];exact⟨hc,hg,ht⟩
  ·exact I.wy j es' hj
 | some r =>
  obtain⟨g',t'⟩:=r
  dsimp only
  split
  ·exact I
  ·have hm:=w2 _ (dJ e)
   refine⟨I.lt,I.lw,I.hd,I.rt,I.tn,I.wy,?_,I.fa,I.ha⟩
   intro x hx
   rcases i5.mp hx with z | z
   ·exact I.al x z
   ·rw[c9.mp z]
    refine⟨hg,hm.2.1,?_⟩
    have ht':t'=Ma.lay (back (φ i)++(h c++φ g')):=hm.2.2
    show Ma.lay (back t++t')=Ma.lay (back (φ g)++φ g')
    rw[ht,ht']
    exact Jv (I.fa i).1 (I.fa g).1 (I.fa g').1 (I.ha c hc).1
end
inductive Lnk(ρ:Nat→Nat)(al:List (Nat×List Nat×Nat)):Nat→Nat→Prop where
 | refl (x:Nat):Lnk ρ al x x
 | symm {x y:Nat} (h:Lnk ρ al x y):Lnk ρ al y x
 | trans {x y z:Nat} (h:Lnk ρ al x y) (g:Lnk ρ al y z):Lnk ρ al x z
 | root (x:Nat):Lnk ρ al x (ρ x)
 | pair {x y:Nat} {t:List Nat} (h:(x,t,y)∈al):Lnk ρ al x y
theorem Lnk.mono{ρ ρ':Nat→Nat}{al al':List (Nat×List Nat×Nat)}(hr:∀ x,Lnk ρ' al' x (ρ x))(ha:∀ x t y,(x,t,y)∈al→Lnk ρ' al' x y){x y:Nat}(h:Lnk ρ al x y):Lnk ρ' al' x y:=by
 induction h with
 | refl x=>exact .refl x
 | symm _ ih=>exact .symm ih
 | trans _ _ a b=>exact .trans a b
 | root x=>exact hr x
 | pair h=>exact ha _ _ _ h
theorem Lnk.nil{ρ:Nat→Nat}(hi:∀ x,ρ (ρ x)=ρ x){x y:Nat}(h:Lnk ρ [] x y):ρ x=ρ y:=by
 induction h with
 | refl x=>rfl
 | symm _ ih=>exact ih.symm
 | trans _ _ a b=>exact a.trans b
 | root x=>exact(hi x).symm
 | pair h=>cases h
structure EI(E:Nat→Nat→Nat→Prop)(ρ:Nat→Nat)(S:WvS):Prop where
 lt:∀ p c q,E p c q→p<S.hs.length∧q<S.hs.length
 on:∀ p c q,E p c q→∃ es g t,S.ws[ρ p]?=some es∧(c,g,t)∈es∧Lnk ρ S.al g q
 of:∀ (i:Nat) (es:List (Nat×Nat×List Nat)),S.ws[i]?=some es→∀ e∈es,∃ p q,E p e.1 q∧Lnk ρ S.al p i∧Lnk ρ S.al q e.2.1
section
variable {E:Nat→Nat→Nat→Prop}{ρ:Nat→Nat}{S:WvS}
theorem Aq{i c g:Nat}{t:List Nat}{es:List (Nat×Nat×List Nat)}{x:Nat×List Nat×Nat}(h:x∈S.al):x∈(aZ S i c g t es).al:=by
 unfold aZ
 split
 ·exact h
 ·split
  ·exact h
  ·exact l7 _ h
theorem cS{i c g:Nat}{t:List Nat}{es:List (Nat×Nat×List Nat)}{x y:Nat}(h:Lnk ρ S.al x y):Lnk ρ (aZ S i c g t es).al x y:=h.mono (fun x=>.root x) fun x t y hm=>.pair (Aq hm)
theorem rS{i c g:Nat}{t:List Nat}{es:List (Nat×Nat×List Nat)}(hi:S.ws[i]?=some es){j:Nat}{es':List (Nat×Nat×List Nat)}(hj:S.ws[j]?=some es'):∃ es'',(aZ S i c g t es).ws[j]?=some es''∧(∀ e∈es',e∈es'')∧(j≠i→es''=es'):=by
 unfold aZ
 split
 ·by_cases q:j=i
  ·subst q
   rw[hi] at hj
   cases hj
   refine⟨es++[(c,g,t)],?_,fun e he=>l7 _ he,fun z=>absurd rfl z⟩
   show (S.ws.set j _)[j]?=_
   rw[t9 (a8.mp hi).1]
  ·refine⟨es',?_,fun e he=>he,fun _=>rfl⟩
   show (S.ws.set i _)[j]?=_
   rw[u7 (fun z=>q z.symm)]
   exact hj
 ·split <;> exact⟨es',hj,fun e he=>he,fun _=>rfl⟩
theorem pT{i c g:Nat}{t:List Nat}{es:List (Nat×Nat×List Nat)}(hi:S.ws[i]?=some es):∃ es' g' t',(aZ S i c g t es).ws[i]?=some es'∧(c,g',t')∈es'∧Lnk ρ (aZ S i c g t es).al g' g:=by
 unfold aZ
 cases e:cT es c with
 | none =>
  refine⟨es++[(c,g,t)],g,t,?_,by simp,.refl g⟩
  show (S.ws.set i _)[i]?=_
  rw[t9 (a8.mp hi).1]
 | some r =>
  obtain⟨g',t'⟩:=r
  dsimp only
  split
  ·rename_i q
   obtain⟨rfl,rfl⟩:=aZM q
   exact⟨es,g',t',hi,dJ e,.refl g'⟩
  ·exact⟨es,g',t',hi,dJ e,.symm (.pair (t:=lay (back t++t')) (by simp))⟩
theorem lX{i c g:Nat}{t:List Nat}{es:List (Nat×Nat×List Nat)}(hi:S.ws[i]?=some es){j:Nat}{es':List (Nat×Nat×List Nat)}(hj:(aZ S i c g t es).ws[j]?=some es'){e:Nat×Nat×List Nat}(he:e∈es'):(∃ es0,S.ws[j]?=some es0∧e∈es0)∨(j=i∧e=(c,g,t)):=by
 unfold aZ at hj
 split at hj
 ·rcases eN hj with ⟨rfl,rfl,_⟩ | ⟨_,hj⟩
  ·rcases i5.mp he with z | z
   ·exact .inl ⟨es,hi,z⟩
   ·exact .inr ⟨rfl,c9.mp z⟩
  ·exact .inl ⟨es',hj,he⟩
 ·split at hj <;> exact .inl ⟨es',hj,he⟩
theorem EI.lay'(X:EI E ρ S){i c g:Nat}{t:List Nat}{es:List (Nat×Nat×List Nat)}(hi:S.ws[i]?=some es)(hr:ρ i=i)(h1:i<S.hs.length)(h2:g<S.hs.length):EI (fun p c' q=>E p c' q∨(p=i∧c'=c∧q=g)) ρ (aZ S i c g t es):=by
 refine⟨fun p c' q hE=>?_,fun p c' q hE=>?_,fun j es' hj e he=>?_⟩
 ·rw[(gR (S:=S) i c g t es).1]
  rcases hE with hE | ⟨rfl,rfl,rfl⟩
  ·exact X.lt p c' q hE
  ·exact⟨h1,h2⟩
 ·rcases hE with hE | ⟨rfl,rfl,rfl⟩
  ·obtain⟨es0,g0,t0,a,b,d⟩:=X.on p c' q hE
   obtain⟨es1,a1,b1,_⟩:=rS (c:=c) (g:=g) (t:=t) hi a
   exact⟨es1,g0,t0,a1,b1 _ b,cS d⟩
  ·rw[hr]
   exact pT hi
 ·rcases lX hi hj he with ⟨es0,a,b⟩ | ⟨rfl,rfl⟩
  ·obtain⟨p,q,a1,a2,a3⟩:=X.of j es0 a e b
   exact⟨p,q,.inl a1,cS a2,cS a3⟩
  ·exact⟨j,g,.inr ⟨rfl,rfl,rfl⟩,.refl _,.refl _⟩
end
section
variable {h:Nat→List Nat}{φ:Nat→List Nat}{ρ rk:Nat→Nat}{L:Nat}{S:WvS}{E:Nat→Nat→Nat→Prop}
def ρU(ρ:Nat→Nat)(hd ab:Nat):Nat→Nat:=fun x=>if ρ x=hd then ab else ρ x
def Io(ρ rk:Nat→Nat)(hd ab:Nat):Nat→Nat:=fun x=>if ρ x=hd then rk x+(rk ab+1) else rk x
def dE(S:WvS)(hd ab:Nat)(t:List Nat):WvS:={ S with hs:=S.hs.set hd ab,ts:=S.ts.set hd t }
theorem WI.under(I:WI h φ ρ rk L S){hd ab:Nat}{t:List Nat}(h1:S.hs[hd]?=some hd)(h2:S.hs[ab]?=some ab)(hne:hd≠ab)(ht:t=Ma.lay (back (φ hd)++φ ab)):WI h φ (ρU ρ hd ab) (Io ρ rk hd ab) L (dE S hd ab t):=by
 have l1:hd<S.hs.length:=(a8.mp h1).1
 have l2:ab<S.hs.length:=(a8.mp h2).1
 have r1:ρ hd=hd:=(I.hd hd hd h1).2.2.2 rfl
 have r2:ρ ab=ab:=(I.hd ab ab h2).2.2.2 rfl
 have hlen:(S.hs.set hd ab).length=S.hs.length:=k0 ..
 refine⟨?_,?_,?_,?_,?_,?_,?_,I.fa,I.ha⟩
 ·show (S.ts.set hd t).length=(S.hs.set hd ab).length
  rw[k0,k0];exact I.lt
 ·show S.ws.length=(S.hs.set hd ab).length
  rw[hlen];exact I.lw
 ·intro i a hi
  show a<(S.hs.set hd ab).length∧_
  rw[hlen]
  rcases eN hi with ⟨rfl,rfl,_⟩ | ⟨hn,hi⟩
  ·refine⟨l2,.inr ?_,?_,fun z=>absurd z.symm hne⟩
   ·unfold Io
    rw[r2,r1,if_neg (fun z=>hne z.symm),if_pos rfl]
    omega
   ·unfold ρU
    rw[r1,r2,if_pos rfl,if_neg (fun z=>hne z.symm)]
  ·obtain⟨a1,a2,a3,a4⟩:=I.hd i a hi
   refine⟨a1,?_,?_,fun z=>?_⟩
   ·rcases a2 with z | z
    ·exact .inl z
    ·refine .inr ?_
     unfold Io
     rw[a3]
     split <;> omega
   ·unfold ρU;rw[a3]
   ·have:=a4 z
    unfold ρU
    rw[this,if_neg hn]
 ·intro i hi
  have hi':i<S.hs.length:=by have:i<(S.hs.set hd ab).length:=hi;rwa [hlen] at this
  obtain⟨a1,a2⟩:=I.rt i hi'
  show ρU ρ hd ab i<(S.hs.set hd ab).length∧(S.hs.set hd ab)[ρU ρ hd ab i]?=some (ρU ρ hd ab i)
  rw[hlen]
  unfold ρU
  split
  ·refine⟨l2,?_⟩
   rw[u7 hne]
   exact h2
  ·rename_i q
   refine⟨a1,?_⟩
   rw[u7 (fun z=>q z.symm)]
   exact a2
 ·intro i a v hi hv
  rcases eN hi with ⟨rfl,rfl,_⟩ | ⟨hn,hi⟩
  ·rcases eN hv with ⟨_,rfl,_⟩ | ⟨z,_⟩
   ·exact ht
   ·exact absurd rfl z
  ·rcases eN hv with ⟨z,_,_⟩ | ⟨_,hv⟩
   ·exact absurd z hn
   ·exact I.tn i a v hi hv
 ·intro i es hi
  obtain⟨w1,w2⟩:=I.wy i es hi
  refine⟨w1,fun e he=>?_⟩
  show _∧e.2.1<(S.hs.set hd ab).length∧_
  rw[hlen]
  exact w2 e he
 ·intro e he
  show e.1<(S.hs.set hd ab).length∧e.2.2<(S.hs.set hd ab).length∧_
  rw[hlen]
  exact I.al e he
def underW(ab:Nat)(t:List Nat)(T:WvS)(es:List (Nat×Nat×List Nat)):WvS:=es.foldl (fun T e=>aZ T ab e.1 e.2.1 (lay (back t++e.2.2)) (T.ws.getD ab [])) T
theorem Lnk.under{al al':List (Nat×List Nat×Nat)}{hd ab:Nat}(hh:ρ hd=hd)(ha:∀ x t y,(x,t,y)∈al→Lnk (ρU ρ hd ab) al' x y){x y:Nat}(g:Lnk ρ al x y):Lnk (ρU ρ hd ab) al' x y:=by
 have e1:Lnk (ρU ρ hd ab) al' hd ab:=by
  have:=Lnk.root (ρ:=ρU ρ hd ab) (al:=al') hd
  unfold ρU at this ⊢
  rw[hh,if_pos rfl] at this
  exact this
 refine g.mono (fun x=>?_) ha
 by_cases q:ρ x=hd
 ·have:=Lnk.root (ρ:=ρU ρ hd ab) (al:=al') x
  have e2:ρU ρ hd ab x=ab:=by unfold ρU;rw[if_pos q]
  rw[e2] at this
  rw[q]
  exact this.trans e1.symm
 ·have:=Lnk.root (ρ:=ρU ρ hd ab) (al:=al') x
  have e2:ρU ρ hd ab x=ρ x:=by unfold ρU;rw[if_neg q]
  rw[e2] at this
  exact this
structure UI(E:Nat→Nat→Nat→Prop)(ρ:Nat→Nat)(hd ab N:Nat)(es:List (Nat×Nat×List Nat))(T:WvS):Prop where
 ln:T.hs.length=N
 lt:∀ p c q,E p c q→p<N∧q<N
 on:∀ p c q,E p c q→(∃ es g t,T.ws[ρU ρ hd ab p]?=some es∧(c,g,t)∈es∧Lnk (ρU ρ hd ab) T.al g q)∨(ρ p=hd∧∃ e∈es,e.1=c∧Lnk (ρU ρ hd ab) T.al e.2.1 q)
 of:∀ (i:Nat) (es:List (Nat×Nat×List Nat)),T.ws[i]?=some es→∀ e∈es,∃ p q,E p e.1 q∧Lnk (ρU ρ hd ab) T.al p i∧Lnk (ρU ρ hd ab) T.al q e.2.1
 me:∀ e∈es,∃ p q,E p e.1 q∧Lnk (ρU ρ hd ab) T.al p ab∧Lnk (ρU ρ hd ab) T.al q e.2.1
theorem qP{hd ab:Nat}{t:List Nat}{ρ1 rk1:Nat→Nat}(hρ:ρ1=ρU ρ hd ab)(ht:t=lay (back (φ hd)++φ ab)):∀ {es:List (Nat×Nat×List Nat)} {T:WvS},WI h φ ρ1 rk1 L T→ab<T.hs.length→(∀ e∈es,cR e.1∧e.2.1<T.hs.length∧e.2.2=lay (back (φ hd)++(h e.1++φ e.2.1)))→UI E ρ hd ab T.hs.length es T →
  WI h φ ρ1 rk1 L (underW ab t T es)∧EI E ρ1 (underW ab t T es)∧(underW ab t T es).hs=T.hs∧(underW ab t T es).ts=T.ts
 | [],T,I,hab,hes,U=>by
  subst hρ
  refine⟨I,⟨fun p c q hE=>U.lt p c q hE,fun p c q hE=>?_,U.of⟩,rfl,rfl⟩
  rcases U.on p c q hE with z | ⟨_,e,he,_⟩
  ·exact z
  ·cases he
 | e::es,T,I,hab,hes,U=>by
  subst hρ
  obtain⟨ea,hea⟩:∃ ea,T.ws[ab]?=some ea:=⟨_,a9 (by rw[I.lw];exact hab)⟩
  have hgd:T.ws.getD ab []=ea:=by rw[c6,hea];rfl
  obtain⟨e1,e2,e3⟩:=hes e d8
  have htd:lay (back t++e.2.2)=lay (back (φ ab)++(h e.1++φ e.2.1)):=by
   rw[ht,e3]
   exact IZ (I.fa hd).1 (I.fa ab).1 (I.fa e.2.1).1 (I.ha e.1 e1).1
  have I1:=I.lay hea e1 e2 htd
  obtain⟨hhs,hts⟩:=gR (S:=T) ab e.1 e.2.1 (lay (back t++e.2.2)) ea
  have key:underW ab t T (e::es)=underW ab t (aZ T ab e.1 e.2.1 (lay (back t++e.2.2)) ea) es:=by
   unfold underW
   rw[aQe,hgd]
  have U1:UI E ρ hd ab (aZ T ab e.1 e.2.1 (lay (back t++e.2.2)) ea).hs.length es (aZ T ab e.1 e.2.1 (lay (back t++e.2.2)) ea):=by
   refine⟨rfl,fun p c q hE=>by rw[hhs];exact U.lt p c q hE,fun p c q hE=>?_,fun i es' hi x hx=>?_,fun x hx=>?_⟩
   ·rcases U.on p c q hE with ⟨es0,g0,t0,a,b,d⟩ | ⟨a,x,hx,b,d⟩
    ·obtain⟨es1,a1,b1,_⟩:=rS (c:=e.1) (g:=e.2.1) (t:=lay (back t++e.2.2)) hea a
     exact .inl ⟨es1,g0,t0,a1,b1 _ b,cS d⟩
    ·rcases c4.mp hx with rfl | hx
     ·obtain⟨es',g',t',q1,q2,q3⟩:=pT (ρ:=ρU ρ hd ab) (c:=x.1) (g:=x.2.1) (t:=lay (back t++x.2.2)) hea
      refine .inl ⟨es',g',t',?_,by rw[← b];exact q2,q3.trans (cS d)⟩
      have:ρU ρ hd ab p=ab:=by unfold ρU;rw[if_pos a]
      rw[this]
      exact q1
     ·exact .inr ⟨a,x,hx,b,cS d⟩
   ·rcases lX hea hi hx with ⟨es0,a,b⟩ | ⟨rfl,rfl⟩
    ·obtain⟨p,q,a1,a2,a3⟩:=U.of i es0 a x b
     exact⟨p,q,a1,cS a2,cS a3⟩
    ·obtain⟨p,q,a1,a2,a3⟩:=U.me e d8
     exact⟨p,q,a1,cS a2,cS a3⟩
   ·obtain⟨p,q,a1,a2,a3⟩:=U.me x (c8 _ hx)
    exact⟨p,q,a1,cS a2,cS a3⟩
  rw[key]
  obtain⟨o1,o2,o3,o4⟩:=qP (es:=es) rfl ht I1 (by rw[hhs];exact hab) (fun x hx=>by rw[hhs];exact hes x (c8 _ hx)) U1
  exact⟨o1,o2,o3.trans hhs,o4.trans hts⟩
theorem Fd(I:WI h φ ρ rk L S){a b:Nat}{tt:List Nat}(X:EI E ρ { S with al:=(a,tt,b)::S.al }){hd ab:Nat}{t:List Nat}(ha:a<S.hs.length)(hb:b<S.hs.length)(hra:ρ a=hd)(hrb:ρ b=ab)(hne:hd≠ab)(ht:t=lay (back (φ hd)++φ ab)){es:List (Nat×Nat×List Nat)}(hes:S.ws[hd]?=some es) :
  WI h φ (ρU ρ hd ab) (Io ρ rk hd ab) L (underW ab t (dE S hd ab t) es)∧EI E (ρU ρ hd ab) (underW ab t (dE S hd ab t) es)∧(underW ab t (dE S hd ab t) es).hs=S.hs.set hd ab:=by
 obtain⟨l1,h1⟩:=I.rt a ha
 obtain⟨l2,h2⟩:=I.rt b hb
 rw[hra] at l1 h1
 rw[hrb] at l2 h2
 have r1:ρ hd=hd:=(I.hd hd hd h1).2.2.2 rfl
 have r2:ρ ab=ab:=(I.hd ab ab h2).2.2.2 rfl
 have I1:=I.under h1 h2 hne ht
 have hlen:(S.hs.set hd ab).length=S.hs.length:=k0 ..
 have eab:Lnk (ρU ρ hd ab) S.al a b:=by
  have q1:=Lnk.root (ρ:=ρU ρ hd ab) (al:=S.al) a
  have q2:=Lnk.root (ρ:=ρU ρ hd ab) (al:=S.al) b
  have e1:ρU ρ hd ab a=ab:=by unfold ρU;rw[if_pos hra]
  have e2:ρU ρ hd ab b=ab:=by unfold ρU;rw[hrb,if_neg (fun z=>hne z.symm)]
  rw[e1] at q1
  rw[e2] at q2
  exact q1.trans q2.symm
 have mv:∀ {x y:Nat},Lnk ρ ((a,tt,b)::S.al) x y→Lnk (ρU ρ hd ab) S.al x y:=fun g=>Lnk.under r1 (fun x t y hm=>by
  rcases c4.mp hm with z | z
  ·obtain⟨rfl,rfl,rfl⟩:x=a∧t=tt∧y=b:=by simpa using z
   exact eab
  ·exact .pair z) g
 have hdab:Lnk (ρU ρ hd ab) S.al hd ab:=by
  have:=Lnk.root (ρ:=ρU ρ hd ab) (al:=S.al) hd
  have e1:ρU ρ hd ab hd=ab:=by unfold ρU;rw[r1,if_pos rfl]
  rwa [e1] at this
 have U:UI E ρ hd ab (dE S hd ab t).hs.length es (dE S hd ab t):=by
  refine⟨rfl,fun p c q hE=>by show p<(S.hs.set hd ab).length∧q<(S.hs.set hd ab).length;rw[hlen];exact X.lt p c q hE,fun p c q hE=>?_,fun i es' hi x hx=>?_,fun x hx=>?_⟩
  ·obtain⟨es0,g0,t0,a1,b1,d1⟩:=X.on p c q hE
   by_cases q0:ρ p=hd
   ·refine .inr ⟨q0,(c,g0,t0),?_,rfl,mv d1⟩
    have a1':S.ws[ρ p]?=some es0:=a1
    rw[q0,hes] at a1'
    cases a1'
    exact b1
   ·refine .inl ⟨es0,g0,t0,?_,b1,mv d1⟩
    have:ρU ρ hd ab p=ρ p:=by unfold ρU;rw[if_neg q0]
    rw[this]
    exact a1
  ·obtain⟨p,q,a1,a2,a3⟩:=X.of i es' hi x hx
   exact⟨p,q,a1,mv a2,mv a3⟩
  ·obtain⟨p,q,a1,a2,a3⟩:=X.of hd es hes x hx
   exact⟨p,q,a1,(mv a2).trans hdab,mv a3⟩
 obtain⟨o1,o2,o3,_⟩:=qP (es:=es) rfl ht I1 (by show ab<(S.hs.set hd ab).length;rw[hlen];exact l2) (fun e he=>by
  show _∧e.2.1<(S.hs.set hd ab).length∧_
  rw[hlen]
  exact(I.wy hd es hes).2 e he) U
 exact⟨o1,o2,o3⟩
theorem EI.pop{a b:Nat}{tt:List Nat}(X:EI E ρ { S with al:=(a,tt,b)::S.al })(hab:ρ a=ρ b):EI E ρ S:=by
 have mv:∀ {x y:Nat},Lnk ρ ((a,tt,b)::S.al) x y→Lnk ρ S.al x y:=fun g=>g.mono (fun x=>.root x) fun x t y hm=>by
  rcases c4.mp hm with z | z
  ·obtain⟨rfl,rfl,rfl⟩:x=a∧t=tt∧y=b:=by simpa using z
   have q1:=Lnk.root (ρ:=ρ) (al:=S.al) x
   have q2:=Lnk.root (ρ:=ρ) (al:=S.al) y
   rw[hab] at q1
   exact q1.trans q2.symm
  ·exact .pair z
 refine⟨X.lt,fun p c q hE=>?_,fun i es hi x hx=>?_⟩
 ·obtain⟨es0,g0,t0,a1,b1,d1⟩:=X.on p c q hE
  exact⟨es0,g0,t0,a1,b1,mv d1⟩
 ·obtain⟨p,q,a1,a2,a3⟩:=X.of i es hi x hx
  exact⟨p,q,a1,mv a2,mv a3⟩
end
section
variable {h:Nat→List Nat}{φ:Nat→List Nat}{ρ rk:Nat→Nat}{L:Nat}{S:WvS}{E:Nat→Nat→Nat→Prop}
def wT(ρ:Nat→Nat)(N:Nat):Nat:=(List.range N).countP fun i=>decide (ρ i=i)
theorem wA{p q:Nat→Bool}{a:Nat}(hp:p a=true)(hq:q a=false)(he:∀ x,x≠a→q x=p x):∀ {N:Nat},a<N→(List.range N).countP q+1=(List.range N).countP p
 | N+1,hN=>by
  rw[List.range_succ,aXu,aXu]
  by_cases e:a=N
  ·subst e
   have same:∀ M,M≤a→(List.range M).countP q=(List.range M).countP p:=fun M hM=>aZH fun x hx=>by
    rw[he x (by have:=aX2.mp hx;omega)]
   rw[same a (b5 _)]
   simp[hp,hq]
  ·have:=wA hp hq he (N:=N) (by omega)
   have e2:List.countP q [N]=List.countP p [N]:=aZH fun x hx=>by rw[he x (by rw[c9.mp hx];exact fun z=>e z.symm)]
   omega
theorem AU{hd ab N:Nat}(hl:hd<N)(h1:ρ hd=hd)(h2:ρ ab=ab)(hne:hd≠ab):wT (ρU ρ hd ab) N+1=wT ρ N:=by
 refine wA (a:=hd) (by rw[decide_eq_true_iff];exact h1) (decide_eq_false ?_) (fun x hx=>?_) hl
 ·unfold ρU;rw[if_pos h1];exact fun z=>hne z.symm
 ·unfold ρU
  split
  ·rename_i q
   rw[decide_eq_false (show ¬ ab=x from fun z=>hne (by rw[← q,← z,h2])),decide_eq_false (show ¬ ρ x=x from fun z=>hx (by rw[← z,q]))]
  ·rfl
theorem FB(N:Nat):wT ρ N≤N:=by
 unfold wT
 have:=List.countP_le_length (p:=fun i=>decide (ρ i=i)) (l:=List.range N)
 rwa [aQZ] at this
theorem oS:∀ {l m:List Nat},l.Nodup→(∀ x∈l,x∈m)→l.length≤m.length
 | [],m,_,_=>j6 _
 | a::l,m,nd,sub=>by
  obtain⟨n1,n2⟩:=j7.mp nd
  have ha:=sub a d8
  have:=oS (l:=l) (m:=m.erase a) n2 fun x hx=>(List.mem_erase_of_ne (fun z=>n1 (by rw[← z];exact hx))).mpr (sub x (c8 _ hx))
  rw[List.length_erase_of_mem ha] at this
  have:0<m.length:=aQ0 ha
  rw[j1]
  omega
theorem sD{es:List (Nat×Nat×List Nat)}(nd:(es.map (·.1)).Nodup)(hl:∀ e∈es,cR e.1):es.length≤8:=by
 have:=oS (m:=[97,98,99,100,65,66,67,68]) nd fun x hx=>by
  obtain⟨e,he,rfl⟩:=g9.mp hx
  have:=hl e he
  unfold cR at this
  simp
  omega
 rw[b7] at this
 exact this
theorem kM{i c g:Nat}{t:List Nat}{es:List (Nat×Nat×List Nat)}:(aZ S i c g t es).al.length≤S.al.length+1:=by
 unfold aZ
 split
 ·exact aQD _
 ·split
  ·exact aQD _
  ·show (S.al++_).length≤_;rw[b9];exact b5 _
theorem kJ{ab:Nat}{t:List Nat}:∀ {es:List (Nat×Nat×List Nat)} {T:WvS},(underW ab t T es).al.length≤T.al.length+es.length
 | [],T=>b5 _
 | e::es,T=>by
  have:=kJ (ab:=ab) (t:=t) (es:=es) (T:=aZ T ab e.1 e.2.1 (lay (back t++e.2.2)) (T.ws.getD ab []))
  have h2:=kM (S:=T) (i:=ab) (c:=e.1) (g:=e.2.1) (t:=lay (back t++e.2.2)) (es:=T.ws.getD ab [])
  rw[j1]
  show (underW ab t (aZ T ab e.1 e.2.1 (lay (back t++e.2.2)) (T.ws.getD ab [])) es).al.length≤_
  omega
def Bh(S:WvS):WvS:={ hs:=S.hs++[S.hs.length],ts:=S.ts++[[]],ws:=S.ws++[[]],al:=S.al }
def φN(φ:Nat→List Nat)(N:Nat)(v:List Nat):Nat→List Nat:=fun j=>if j=N then v else φ j
theorem dQ{α:Type}{xs:List α}{v y:α}{j:Nat}(h:(xs++[v])[j]?=some y):(j<xs.length∧xs[j]?=some y)∨(j=xs.length∧y=v):=by
 rcases Nat.lt_trichotomy j xs.length with q | q | q
 ·rw[l5 q] at h;exact .inl ⟨q,h⟩
 ·subst q
  rw[u0 (b5 _)] at h
  simp at h
  exact .inr ⟨rfl,h.symm⟩
 ·rw[u0 (by omega)] at h
  have:j - xs.length=(j - xs.length - 1)+1:=by omega
  rw[this] at h
  simp at h
theorem WI.new(I:WI h φ (fun x=>x) rk L S){v:List Nat}(hv:AllL v)(hl:v.length≤L):WI h (φN φ S.hs.length v) (fun x=>x) rk L (Bh S):=by
 have hold:∀ {i:Nat},i<S.hs.length→φN φ S.hs.length v i=φ i:=fun {i} hi=>by unfold φN;rw[if_neg (by omega)]
 have hnew:φN φ S.hs.length v S.hs.length=v:=by unfold φN;rw[if_pos rfl]
 have ln:(S.hs++[S.hs.length]).length=S.hs.length+1:=by rw[b9];rfl
 refine⟨?_,?_,?_,?_,?_,?_,?_,?_,I.ha⟩
 ·show (S.ts++[[]]).length=(S.hs++[S.hs.length]).length
  rw[b9,ln,I.lt];rfl
 ·show (S.ws++[[]]).length=(S.hs++[S.hs.length]).length
  rw[b9,ln,I.lw];rfl
 ·intro i a hi
  show a<(S.hs++[S.hs.length]).length∧_
  rw[ln]
  rcases dQ hi with ⟨q,hi⟩ | ⟨rfl,rfl⟩
  ·obtain⟨a1,a2,a3,a4⟩:=I.hd i a hi
   exact⟨by omega,a2,a3,a4⟩
  ·exact⟨by omega,.inl rfl,rfl,fun _=>rfl⟩
 ·intro i hi
  have hi':i<S.hs.length+1:=by rw[← ln];exact hi
  refine⟨hi,?_⟩
  show (S.hs++[S.hs.length])[i]?=some i
  by_cases q:i<S.hs.length
  ·rw[l5 q];exact(I.rt i q).2
  ·have:i=S.hs.length:=by omega
   subst this
   rw[u0 (b5 _)]
   simp
 ·intro i a t hi ht
  have ht':(S.ts++[[]])[i]?=some t:=ht
  rcases dQ hi with ⟨q,hi⟩ | ⟨rfl,rfl⟩
  ·rcases dQ ht' with ⟨_,ht⟩ | ⟨z,_⟩
   ·rw[hold q,hold (I.hd i a hi).1]
    exact I.tn i a t hi ht
   ·rw[I.lt] at z;omega
  ·rcases dQ ht' with ⟨z,_⟩ | ⟨_,rfl⟩
   ·rw[I.lt] at z;omega
   ·rw[hnew];exact(jC hv).symm
 ·intro i es hi
  rcases dQ (show (S.ws++[[]])[i]?=some es from hi) with ⟨q,hi⟩ | ⟨_,rfl⟩
  ·obtain⟨w1,w2⟩:=I.wy i es hi
   refine⟨w1,fun e he=>?_⟩
   obtain⟨a,b,c⟩:=w2 e he
   refine⟨a,by show _<(S.hs++[S.hs.length]).length;rw[ln];omega,?_⟩
   rw[hold (by rw[I.lw] at q;exact q),hold b]
   exact c
  ·exact⟨by simp,fun e he=>by cases he⟩
 ·intro e he
  obtain⟨a,b,c⟩:=I.al e he
  refine⟨by show _<(S.hs++[S.hs.length]).length;rw[ln];omega,by show _<(S.hs++[S.hs.length]).length;rw[ln];omega,?_⟩
  rw[hold a,hold b]
  exact c
 ·intro i
  unfold φN
  split
  ·exact⟨hv,hl⟩
  ·exact I.fa i
theorem EI.new(X:EI E (fun x=>x) S)(hw:S.ws.length=S.hs.length):EI E (fun x=>x) (Bh S):=by
 refine⟨fun p c q hE=>?_,fun p c q hE=>?_,fun i es hi e he=>?_⟩
 ·obtain⟨a,b⟩:=X.lt p c q hE
  show p<(S.hs++[S.hs.length]).length∧q<(S.hs++[S.hs.length]).length
  rw[b9]
  simp
  omega
 ·obtain⟨es,g,t,a,b,d⟩:=X.on p c q hE
  refine⟨es,g,t,?_,b,d⟩
  show (S.ws++[[]])[p]?=_
  rw[l5 (a8.mp a).1]
  exact a
 ·rcases dQ (show (S.ws++[[]])[i]?=some es from hi) with ⟨_,hi⟩ | ⟨_,rfl⟩
  ·exact X.of i es hi e he
  ·cases he
def Hi(E:Nat→Nat→Nat→Prop):Prop:=∀ p c q,E p c q→cR c∧E q (aU c) p
def Fw(E:Nat→Nat→Nat→Prop)(ρ:Nat→Nat)(z:Nat):List Nat→Nat→Prop
 | [],y=>z=y
 | c::w,y=>∃ p q,ρ p=z∧E p c q∧Fw E ρ (ρ q) w y
theorem Fw.app:∀ {w v:List Nat} {x y z:Nat},Fw E ρ x w y→Fw E ρ y v z→Fw E ρ x (w++v) z
 | [],v,x,y,z,a,b=>by cases a;exact b
 | c::w,v,x,y,z,⟨p,q,a1,a2,a3⟩,b=>⟨p,q,a1,a2,Fw.app a3 b⟩
theorem Fw.back(hs:Hi E):∀ {w:List Nat} {x y:Nat},Fw E ρ x w y→Fw E ρ y (Ma.back w) x
 | [],x,y,a=>by cases a;rfl
 | c::w,x,y,⟨p,q,a1,a2,a3⟩=>by
  have ih:=Fw.back hs a3
  have e:Ma.back (c::w)=Ma.back w++[aU c]:=by rw[show c::w=[c]++w from rfl,dN];rfl
  rw[e]
  exact ih.app ⟨q,p,rfl,(hs p c q a2).2,a1⟩
theorem Fw.mono{E':Nat→Nat→Nat→Prop}(hm:∀ p c q,E p c q→E' p c q):∀ {w:List Nat} {x y:Nat},Fw E ρ x w y→Fw E' ρ x w y
 | [],x,y,a=>a
 | c::w,x,y,⟨p,q,a1,a2,a3⟩=>⟨p,q,a1,hm _ _ _ a2,Fw.mono hm a3⟩
theorem EI.det(I:WI h φ ρ rk L S)(X:EI E ρ S)(h0:S.al=[])(hid:∀ x,ρ (ρ x)=ρ x):∀ p c q p' q',E p c q→E p' c q'→ρ p=ρ p'→ρ q=ρ q':=by
 intro p c q p' q' hE hE' e
 obtain⟨es,g,t,a1,a2,a3⟩:=X.on p c q hE
 obtain⟨es',g',t',b1,b2,b3⟩:=X.on p' c q' hE'
 rw[← e,a1] at b1
 cases b1
 rw[h0] at a3 b3
 have m1:=lP (I.wy _ es a1).1 a2
 have m2:=lP (I.wy _ es a1).1 b2
 rw[m1] at m2
 cases m2
 exact(Lnk.nil hid a3).symm.trans (Lnk.nil hid b3)
end
abbrev tK:=Nat×Nat×List Nat
def DcIs(H:Hp)(kvs:List (cI×V))(es:List tK):Prop:=Paired (fun (kv:cI×V) (e:tK)=>kv.1=.inr (S [e.1])∧∃ t,kv.2=.ref t∧H t=some (.tup [.int (e.2.1:Nat),.str (S e.2.2)])) kvs es
def cJ(l:List Nat):List V:=l.map fun (i:Nat)=>V.int i
theorem dI(l:List Nat):(cJ l).length=l.length:=by unfold cJ;rw[b7]
theorem iH{l:List Nat}{i a:Nat}(h:l[i]?=some a):(cJ l)[i]?=some (.int (a:Nat)):=by unfold cJ;rw[c5,h];rfl
theorem pJ(l:List Nat)(a:Nat):cJ l++[.int (a:Nat)]=cJ (l++[a]):=by unfold cJ;rw[d9];rfl
theorem vH(l:List Nat)(i a:Nat):(cJ l).set i (.int (a:Nat))=cJ (l.set i a):=by unfold cJ;rw[aJC]
theorem DcIs.mono{H H':Hp}{kvs:List (cI×V)}{es:List tK}(ht:∀ t xs,H t=some (.tup xs)→H' t=some (.tup xs))(h:DcIs H kvs es):DcIs H' kvs es :=
 Paired.mapP h fun kv e ⟨a,t,b,c⟩=>⟨a,t,b,ht _ _ c⟩
theorem yH{c d:Nat}(h:(Sum.inr (S [c]):cI)=Sum.inr (S [d])):c=d:=by
 have z2:=aJE h
 have:=congrArg (fun y:Str=>y.cps.toList) z2
 simpa [S] using this
theorem DcIs.val{H:Hp}{c:Nat}:∀ {kvs:List (cI×V)} {es:List tK},DcIs H kvs es→match cT es c with
  | none=>cO kvs (.inr (S [c]))=none
  | some r=>∃ t,cO kvs (.inr (S [c]))=some (.ref t)∧H t=some (.tup [.int (r.1:Nat),.str (S r.2)])
 | [],[],.nil=>rfl
 | kv::kvs,e::es,.cons ⟨a,t,b,d⟩ r=>by
  have ih:=DcIs.val (c:=c) (show DcIs H kvs es from r)
  by_cases q:e.1=c
  ·have:cT (e::es) c=some e.2:=by unfold cT;rw[List.find?_cons_of_pos (by simpa using q)];rfl
   rw[this]
   refine⟨t,?_,d⟩
   rw[dA (by rw[a,q]),b]
  ·have e1:cT (e::es) c=cT es c:=by unfold cT;rw[aXZ (by simpa using q)]
   rw[e1,cZ (show ¬ kv.1=Sum.inr (S [c]) from fun z=>q (yH (a.symm.trans z)))]
   exact ih
theorem DcIs.put{H:Hp}{kvs:List (cI×V)}{es:List tK}{c g:Nat}{w:List Nat}{t:Addr}(h:DcIs H kvs es)(hn:cT es c=none)(ht:H t=some (.tup [.int (g:Nat),.str (S w)])):DcIs H (dF kvs (.inr (S [c])) (.ref t)) (es++[(c,g,w)]):=by
 have hv:=h.val (c:=c)
 rw[hn] at hv
 have hv:cO kvs (.inr (S [c]))=none:=hv
 rw[tV _ hv]
 exact aZK h ⟨rfl,t,rfl,ht⟩
structure WvC(C:Addr)(H:Hp)(p dx hd tn wy al:Addr)(ds as:List Addr)(Z:WvS):Prop where
 nd:(hd::tn::wy::al::ds).Nodup
 ob:H p=some (.ins C dx (wf hd tn wy al))
 hh:H hd=some (.lst (cJ Z.hs))
 ht:H tn=some (.lst (bI Z.ts))
 hw:H wy=some (.lst (ds.map V.ref))
 ha:H al=some (.lst (as.map V.ref))
 ld:ds.length=Z.ws.length
 dc:∀ (i:Nat) (d:Addr) (es:List tK),ds[i]?=some d→Z.ws[i]?=some es→∃ kvs,H d=some (.dK kvs)∧DcIs H kvs es
 la:as.length=Z.al.length
 at':∀ (j:Nat) (a:Addr) (e:Nat×List Nat×Nat),as[j]?=some a→Z.al[j]?=some e→H a=some (.tup [.int (e.1:Nat),.str (S e.2.1),.int (e.2.2:Nat)])
def FrW(M:List Addr)(H H':Hp):Prop:=∀ b o,H b=some o→b ∉ M→H' b=some o
def MU(H:Hp)(M M':List Addr):Prop:=∀ x∈M',x∈M∨H x=none
theorem FrW.refl(M:List Addr)(H:Hp):FrW M H H:=fun _ _ h _=>h
theorem FrW.ofSame{M:List Addr}{H H':Hp}(s:Same H H'):FrW M H H':=fun b o h _=>s b o h
theorem FrW.trans{M M1:List Addr}{H H1 H2:Hp}(a:FrW M H H1)(u:MU H M M1)(b:FrW M1 H1 H2):FrW M H H2:=fun x o h n=>b x o (a x o h n) fun z=>(u x z).elim n fun q=>by rw[h] at q;cases q
theorem FrW.upd{M:List Addr}{H H':Hp}{x:Addr}{o:HO}(a:FrW M H H')(hx:x∈M):FrW M H (L2.upd H' x o):=fun b u h n=>by rw[aE (fun z=>n (by rw[z];exact hx))];exact a b u h n
theorem MU.refl(H:Hp)(M:List Addr):MU H M M:=fun _ h=>.inl h
section
variable {C:Addr}{H H':Hp}{p dx hd tn wy al:Addr}{ds as:List Addr}{Z:WvS}
theorem WvC.same(w:WvC C H p dx hd tn wy al ds as Z)(s:Same H H'):WvC C H' p dx hd tn wy al ds as Z :=
 ⟨w.nd,s _ _ w.ob,s _ _ w.hh,s _ _ w.ht,s _ _ w.hw,s _ _ w.ha,w.ld,fun i d es h1 h2=>let ⟨kvs,a,b⟩:=w.dc i d es h1 h2;⟨kvs,s _ _ a,b.mono fun t xs q=>s _ _ q⟩,w.la,fun j a e h1 h2=>s _ _ (w.at' j a e h1 h2)⟩
theorem WvC.out(w:WvC C H p dx hd tn wy al ds as Z){b:Addr}{o:HO}(e:H b=some o)(h1:∀ xs,o≠.lst xs)(h2:∀ kvs,o≠.dK kvs):b ∉ hd::tn::wy::al::ds:=fun z=>by
 have k:∀ {o':HO},H b=some o'→o=o':=fun q=>by rw[e] at q;exact i3 q
 rcases c4.mp z with rfl | z
 ·exact h1 _ (k w.hh)
 rcases c4.mp z with rfl | z
 ·exact h1 _ (k w.ht)
 rcases c4.mp z with rfl | z
 ·exact h1 _ (k w.hw)
 rcases c4.mp z with rfl | z
 ·exact h1 _ (k w.ha)
 ·obtain⟨i,hi⟩:=l8 z
  obtain⟨es,hes⟩:∃ es,Z.ws[i]?=some es:=⟨_,a9 (by rw[← w.ld];exact(a8.mp hi).1)⟩
  obtain⟨kvs,q,_⟩:=w.dc i b es hi hes
  exact h2 _ (k q)
theorem WvC.tup(w:WvC C H p dx hd tn wy al ds as Z)(f:FrW (hd::tn::wy::al::ds) H H'){t:Addr}{xs:List V}(e:H t=some (.tup xs)):H' t=some (.tup xs):=f t _ e (w.out e (by intro xs z;cases z) (by intro kvs z;cases z))
theorem WvC.self(w:WvC C H p dx hd tn wy al ds as Z)(f:FrW (hd::tn::wy::al::ds) H H'):H' p=some (.ins C dx (wf hd tn wy al)):=f p _ w.ob (w.out w.ob (by intro xs z;cases z) (by intro kvs z;cases z))
theorem WvC.put1{x:Addr}{o:HO}(hx:x∈hd::tn::wy::al::ds):FrW (hd::tn::wy::al::ds) H (L2.upd H x o):=(FrW.refl _ H).upd hx
theorem WvC.upHd(w:WvC C H p dx hd tn wy al ds as Z)(l:List Nat):WvC C (L2.upd H hd (.lst (cJ l))) p dx hd tn wy al ds as { Z with hs:=l }:=by
 have f:FrW (hd::tn::wy::al::ds) H (L2.upd H hd (.lst (cJ l))):=WvC.put1 d8
 obtain⟨n1,_⟩:=j7.mp w.nd
 have ne:∀ {b:Addr},b∈tn::wy::al::ds→b≠hd:=fun hb z=>n1 (z ▸ hb)
 refine⟨w.nd,w.self f,aC,by rw[aE (ne (by simp))];exact w.ht,by rw[aE (ne (by simp))];exact w.hw,by rw[aE (ne (by simp))];exact w.ha,w.ld,fun i d es h1 h2=>?_,w.la,fun j a e h1 h2=>w.tup f (w.at' j a e h1 h2)⟩
 obtain⟨kvs,a,b⟩:=w.dc i d es h1 h2
 exact⟨kvs,by rw[aE (ne (by simp[b6 h1]))];exact a,b.mono fun t xs q=>w.tup f q⟩
theorem WvC.upTn(w:WvC C H p dx hd tn wy al ds as Z)(l:List (List Nat)):WvC C (L2.upd H tn (.lst (bI l))) p dx hd tn wy al ds as { Z with ts:=l }:=by
 have f:FrW (hd::tn::wy::al::ds) H (L2.upd H tn (.lst (bI l))):=WvC.put1 (by simp)
 obtain⟨n1,n2⟩:=j7.mp w.nd
 obtain⟨n3,_⟩:=j7.mp n2
 have ne:∀ {b:Addr},b∈wy::al::ds→b≠tn:=fun hb z=>n3 (z ▸ hb)
 have nh:hd≠tn:=fun z=>n1 (z ▸ d8)
 refine⟨w.nd,w.self f,by rw[aE nh];exact w.hh,aC,by rw[aE (ne (by simp))];exact w.hw,by rw[aE (ne (by simp))];exact w.ha,w.ld,fun i d es h1 h2=>?_,w.la,fun j a e h1 h2=>w.tup f (w.at' j a e h1 h2)⟩
 obtain⟨kvs,a,b⟩:=w.dc i d es h1 h2
 exact⟨kvs,by rw[aE (ne (by simp[b6 h1]))];exact a,b.mono fun t xs q=>w.tup f q⟩
theorem WvC.upAl(w:WvC C H p dx hd tn wy al ds as Z)(as':List Addr)(l:List (Nat×List Nat×Nat))(hl:as'.length=l.length)(ha:∀ (j:Nat) (a:Addr) (e:Nat×List Nat×Nat),as'[j]?=some a→l[j]?=some e→H a=some (.tup [.int (e.1:Nat),.str (S e.2.1),.int (e.2.2:Nat)])) :
  WvC C (L2.upd H al (.lst (as'.map V.ref))) p dx hd tn wy al ds as' { Z with al:=l }:=by
 have f:FrW (hd::tn::wy::al::ds) H (L2.upd H al (.lst (as'.map V.ref))):=WvC.put1 (by simp)
 obtain⟨n1,n2⟩:=j7.mp w.nd
 obtain⟨n3,n4⟩:=j7.mp n2
 obtain⟨n5,n6⟩:=j7.mp n4
 obtain⟨n7,_⟩:=j7.mp n6
 have nh:hd≠al:=fun z=>n1 (z ▸ by simp)
 have nt:tn≠al:=fun z=>n3 (z ▸ by simp)
 have nw:wy≠al:=fun z=>n5 (z ▸ by simp)
 refine⟨w.nd,w.self f,by rw[aE nh];exact w.hh,by rw[aE nt];exact w.ht,by rw[aE nw];exact w.hw,aC,w.ld,fun i d es h1 h2=>?_,hl,fun j a e h1 h2=>w.tup f (ha j a e h1 h2)⟩
 obtain⟨kvs,a,b⟩:=w.dc i d es h1 h2
 exact⟨kvs,by rw[aE (fun z=>n7 (by rw[← z];exact b6 h1))];exact a,b.mono fun t xs q=>w.tup f q⟩
theorem WvC.upDc(w:WvC C H p dx hd tn wy al ds as Z){i:Nat}{d:Addr}(hi:ds[i]?=some d)(kvs:List (cI×V))(es:List tK)(hk:DcIs H kvs es):WvC C (L2.upd H d (.dK kvs)) p dx hd tn wy al ds as { Z with ws:=Z.ws.set i es }:=by
 have hm:=b6 hi
 have f:FrW (hd::tn::wy::al::ds) H (L2.upd H d (.dK kvs)):=WvC.put1 (by simp[hm])
 obtain⟨n1,n2⟩:=j7.mp w.nd
 obtain⟨n3,n4⟩:=j7.mp n2
 obtain⟨n5,n6⟩:=j7.mp n4
 obtain⟨n7,n8⟩:=j7.mp n6
 have nh:hd≠d:=fun z=>n1 (z ▸ by simp[hm])
 have nt:tn≠d:=fun z=>n3 (z ▸ by simp[hm])
 have nw:wy≠d:=fun z=>n5 (z ▸ by simp[hm])
 have na:al≠d:=fun z=>n7 (z ▸ hm)
 refine⟨w.nd,w.self f,by rw[aE nh];exact w.hh,by rw[aE nt];exact w.ht,by rw[aE nw];exact w.hw,by rw[aE na];exact w.ha,by show ds.length=(Z.ws.set i es).length;rw[k0];exact w.ld,fun j d' es' h1 h2=>?_,w.la,fun j a e h1 h2=>w.tup f (w.at' j a e h1 h2)⟩
 rcases eN h2 with ⟨rfl,rfl,_⟩ | ⟨hn,h2⟩
 ·rw[hi] at h1
  cases h1
  exact⟨kvs,aC,hk.mono fun t xs q=>w.tup f q⟩
 ·obtain⟨kvs',a,b⟩:=w.dc j d' es' h1 h2
  have nd:d'≠d:=fun z=>by
   subst z
   obtain⟨l1,e1⟩:=a8.mp h1
   obtain⟨l2,e2⟩:=a8.mp hi
   exact hn ((aXB n8).mp (e1.trans e2.symm))
  exact⟨kvs',by rw[aE nd];exact a,b.mono fun t xs q=>w.tup f q⟩
theorem WvC.upNew(w:WvC C H p dx hd tn wy al ds as Z){d:Addr}(hd0:H d=none):WvC C (L2.upd (L2.upd H d (.dK [])) wy (.lst ((ds++[d]).map V.ref))) p dx hd tn wy al (ds++[d]) as { Z with ws:=Z.ws++[[]] }:=by
 have w1:=w.same (Same.new (o:=.dK []) hd0)
 have e1:L2.upd H d (.dK []) d=some (.dK []):=aC
 have nin:d ∉ hd::tn::wy::al::ds:=fun z=>by
  rcases c4.mp z with rfl | z
  ·rw[w.hh] at hd0;cases hd0
  rcases c4.mp z with rfl | z
  ·rw[w.ht] at hd0;cases hd0
  rcases c4.mp z with rfl | z
  ·rw[w.hw] at hd0;cases hd0
  rcases c4.mp z with rfl | z
  ·rw[w.ha] at hd0;cases hd0
  ·obtain⟨i,hi⟩:=l8 z
   obtain⟨es,hes⟩:∃ es,Z.ws[i]?=some es:=⟨_,a9 (by rw[← w.ld];exact(a8.mp hi).1)⟩
   obtain⟨kvs,q,_⟩:=w.dc i d es hi hes
   rw[q] at hd0;cases hd0
 generalize L2.upd H d (.dK [])=G at w1 e1
 have f:FrW (hd::tn::wy::al::ds) G (L2.upd G wy (.lst ((ds++[d]).map V.ref))):=WvC.put1 (by simp)
 obtain⟨n1,n2⟩:=j7.mp w.nd
 obtain⟨n3,n4⟩:=j7.mp n2
 obtain⟨n5,n6⟩:=j7.mp n4
 have nh:hd≠wy:=fun z=>n1 (z ▸ by simp)
 have nt:tn≠wy:=fun z=>n3 (z ▸ by simp)
 have na:al≠wy:=fun z=>n5 (z ▸ by simp)
 have nd':(hd::tn::wy::al::(ds++[d])).Nodup:=by
  have:hd::tn::wy::al::(ds++[d])=(hd::tn::wy::al::ds)++[d]:=rfl
  rw[this,aQL]
  exact⟨w.nd,by simp,fun a ha b hb z=>nin (by rw[← c9.mp hb,← z];exact ha)⟩
 have nwd:d≠wy:=fun z=>nin (z ▸ by simp)
 refine⟨nd',w1.self f,by rw[aE nh];exact w1.hh,by rw[aE nt];exact w1.ht,aC,by rw[aE na];exact w1.ha,by show (ds++[d]).length=(Z.ws++[[]]).length;rw[b9,b9,w.ld];rfl,fun i d' es h1 h2=>?_,w.la,fun j a e h1 h2=>w1.tup f (w1.at' j a e h1 h2)⟩
 rcases dQ h2 with ⟨q,h2⟩ | ⟨q,rfl⟩
 ·rw[l5 (by rw[w.ld];exact q)] at h1
  obtain⟨kvs,a,b⟩:=w1.dc i d' es h1 h2
  exact⟨kvs,by rw[aE (fun z=>n5 (by rw[← z];exact c8 _ (b6 h1)))];exact a,b.mono fun t xs q=>w1.tup f q⟩
 ·rcases dQ h1 with ⟨q',_⟩ | ⟨_,rfl⟩
  ·rw[w.ld] at q';omega
  ·exact⟨[],by rw[aE nwd];exact e1,.nil⟩
end
def Wat(C:Addr)(H:Hp)(p:Addr)(M:List Addr)(Z:WvS):Prop:=∃ dx hd tn wy al ds as,M=hd::tn::wy::al::ds∧WvC C H p dx hd tn wy al ds as Z
theorem Wat.same{C:Addr}{H H':Hp}{p:Addr}{M:List Addr}{Z:WvS}(w:Wat C H p M Z)(s:Same H H'):Wat C H' p M Z:=by
 obtain⟨dx,hd,tn,wy,al,ds,as,e,w⟩:=w;exact⟨dx,hd,tn,wy,al,ds,as,e,w.same s⟩
end Lw
namespace Lw
open PySem PySem.Spec PyProof.Rows L2 Ma
def He(N P:List Str)(sc:Scope):Bool:=decide (sc.kind=.function) && (decide (sc.isCoroutine=false) && (decide (sc.isGenerator=false) && (decide N.Nodup && (decide (N.take P.length=P) && (P.all (fun x=>decide (sc.names.lookup x=some .local∨sc.names.lookup x=some .cell)) && sc.names.all (fun y=>decide (y.2≠.free)))))))
theorem gM{N P:List Str}{sc:Scope}(h:He N P sc=true):FnScope N P sc:=by
 unfold He at h
 simp only [r9,decide_eq_true_eq,p9] at h
 obtain⟨a,b,c,d,e,f,g⟩:=h
 exact⟨a,b,c,d,e,f,g⟩
theorem pC{X:Cx}{x:Str}{ps:List Str}{n m:Nat}{sp:Sp}{e:Expr}{es:List Expr}{t:TA}{p pos:Pos}(c:Cl X.prog X.w X.K X.mg X.base x ps n sp)(hr:Room m X.A)(ha:PA X (e::es) t)(hg:Gl X x:=by rfl)(hle:n≤m:=by first | decide | exact b5 _)
  (hdb:(x == ("__debug__":Str))=false:=by decide) (he:starEach (e::es) X.env=(false,eval e X.env)::starEach es X.env:=by rfl) (hpl:(backTo pos (starEach es X.env)).any (·.1)=false:=by rfl) :
  PE X (.Call (.Name x p) (e::es) [] pos) (D8 sp [] E0 t):=by
 obtain⟨f,fd,F,hm,hk,hb⟩:=c
 exact D1 F (hr.mono hle) hg hm hk hb .nil eF ha hdb he hpl
abbrev DI(K:b0)(x:Str)(st:Stmt):Prop:=∃ (f:Addr) (oc kV dc pm cd ct:Value) (od an:Option Addr) (sl:Array (Option Value)),PySem.W.nsIn K mainGlobals x=some (some (.ref f))∧K.lookup f=some ⟨oc,od,.func (PySem.W.fnOf x x (eB st) (dS st) (aH st) .none kV dc pm an cd ct),sl⟩∧PySem.W.codeIn K cd x=true∧PySem.W.keepIn K (.ref f)=true
theorem kO{K:b0}{h:Heap}{mg:Str→Option Value}{x:Str}{st:Stmt}{ps:List Str}(d:DI K x st)(X:K.In h)(G:h.Ns mainGlobals mg)(hb:∀ (kV doc pm:Value) (an:Option Addr) (cdv ct:Value) (us:List Value),us.length=ps.length→bindArgs (PySem.W.fnOf x x (eB st) (dS st) (aH st) .none kV doc pm an cdv ct) ⟨us,[]⟩=pure (ps.zip us)):∃ f fd,Df K mg x st ps f fd:=by
 obtain⟨f,oc,kV,dc,pm,cd,ct,od,an,sl,a,l,c,k⟩:=d
 exact⟨f,_,lW l c k,(lW l c k).binds hb,z6 X G a⟩
abbrev DJ(K:b0)(C:Addr)(x q:Str)(st:Stmt):Prop:=∃ (f:Addr) (oc kV dc pm cd ct:Value) (od an:Option Addr) (sl:Array (Option Value)),PySem.W.findIn K (.ref C) x=some (some (.ref f))∧PySem.W.isFn K (.ref f)=true∧K.lookup f=some ⟨oc,od,.func (PySem.W.fnOf x q (eB st) (dS st) (aH st) .none kV dc pm an cd ct),sl⟩∧PySem.W.codeIn K cd q=true∧PySem.W.keepIn K (.ref f)=true
theorem CS{K:b0}{C:Addr}{x q:Str}{st:Stmt}{ps:List Str}(d:DJ K C x q st)(hb:∀ (kV doc pm:Value) (an:Option Addr) (cdv ct:Value) (us:List Value),us.length=ps.length→bindArgs (PySem.W.fnOf x q (eB st) (dS st) (aH st) .none kV doc pm an cdv ct) ⟨us,[]⟩=pure (ps.zip us)):∃ f fd,DfM K C x q st ps f fd:=by
 obtain⟨f,oc,kV,dc,pm,cd,ct,od,an,sl,a,i,l,c,k⟩:=d
 exact⟨f,_,I_ a i l c k hb⟩
end Lw
namespace L2
open PySem PySem.Spec PyProof.Rows
section
variable {X:Cx}{tg:Expr}
def GR(ta:TA):TI:=fun σ H R=>ta σ H fun vs H1=>∃ z:Str,vs=[.str z]∧z.length≤60000∧R (Gh z) H1
theorem CV{a:Expr}{ta:TA}{p pos:Pos}(hg:Gl X "reversed")(hm:X.mg "reversed"=none)(ha:PA X [a] ta)(hs:starEach [a] X.env=[(false,eval a X.env)]:=by rfl):PI X tg (.Call (.Name "reversed" p) [a] [] pos) (GR ta):=by
 intro pins s σ H R I h
 refine Call_ (jA I hg hm boot_reversed (t7 (bP (ha pos pins s σ H _ I h) fun us s1 ⟨vs,H1,I1,r1,q1⟩=>?_) hs rfl))
 obtain⟨z,e,hz,q⟩:=q1
 subst e
 obtain⟨u,rfl,ru⟩:=r1.one
 obtain⟨t,rfl⟩:=ru
 refine gH (by omega) fun tk=>?_
 have I2:Inv X pins σ H1 { s1 with heap:=s1.heap.push { cls:=.type "reversed",data:=.fields #[.str z t,rawInt ((z.length:Int) - 1)] },toks:=tk }:=I1.kept fun b o e=>c0 _ e
 have st:(s1.heap.push { cls:=.type "reversed",data:=.fields #[.str z t,rawInt ((z.length:Int) - 1)] }).IsRvd s1.heap.objs.size z t ((z.length:Int) - 1):=⟨_,g8 _ rfl,rfl,rfl⟩
 refine eY st ?_
 refine⟨s1.heap.objs.size,[s1.heap.objs.size],_,_,H1,rfl,I2,uG z t _ (by omega),⟨j6 _,?_⟩,fun b hb=>?_,q⟩
 ·have e0:(z.cps.size:Int) - 1 - ((0:Nat):Int)=(z.length:Int) - 1:=by show (z.cps.size:Int) - 1 - ((0:Nat):Int)=(z.cps.size:Int) - 1;omega
  rw[e0];exact st
 ·have e:b=s1.heap.objs.size:=by simpa using hb
  subst e
  exact I1.fpOk (b5 _) (I1.hok.fresh (b5 _))
end
end L2
namespace PySem
namespace SeqAt
end SeqAt
end PySem
namespace L2
open PySem PySem.Spec PyProof.Rows
end L2
namespace PySem
open Sem (wp)
open PyProof.Rows
namespace F
end F
end PySem
namespace L2
open PySem PySem.Spec PyProof.Rows
end L2
namespace Lw
open PySem PySem.Spec PyProof.Rows L2 Ma MaR
theorem qL(cs:List Nat):bI (mX cs)=bH cs:=by unfold bI mX bH;rw[t4];rfl
def uH:Sp:=fun vs H Q _=>∃ (fl sc:Addr) (n:Nat),vs=[.ref fl,.int (n:Nat)]∧IsFl H fl sc∧1≤n∧n≤4∧∀ (p:Addr) (c:Nat) (sd:List Nat) (H':Hp),H p=none→GoodB n c sd→sd.length≤8→IsChg H' p c sd→IsFl H' fl sc→Kp fl H H'→Q (.ref p) H'
def Bn:Sp:=fun vs H Q _=>∃ (n:Nat) (p:Addr) (c:Nat) (sd:List Nat),vs=[.ref p]∧1≤n∧n≤4∧IsChg H p c sd∧GoodB n c sd∧sd.length≤8∧∀ (q:Addr) (H':Hp),Same H H'→IsChg H' q (aU c) (lQ c sd)→Q (.ref q) H'
theorem Jt{a b:Nat}(h:¬ rk b<rk a):BE [a] [b]:=by
 show (if ((1:Nat):Int)=((1:Nat):Int) then HT.lexLt [((rk b:Nat):Int)] [((rk a:Nat):Int)] else _)=false
 rw[if_pos rfl,HT.lexLt_cons]
 by_cases e:((rk b:Nat):Int)=((rk a:Nat):Int)
 ·rw[if_pos e];rfl
 ·rw[if_neg e];exact decide_eq_false (by omega)
theorem GoodB.nodup{n c:Nat}{sd:List Nat}(g:GoodB n c sd):sd.Nodup:=g.ord.imp fun {a b} h e=>by rw[e] at h;exact x0 _ h
theorem vP{n c:Nat}{sd:List Nat}(h1:1≤n)(h4:n≤4)(g:GoodB n c sd){ws:List (List Nat)}(hp:ws.Perm (mX ((sd.filter fun d=>decide (d≠c))++[aU c])))(ho:ws.Pairwise BE):ws=mX (lQ c sd):=by
 have b:=g.back h1 h4
 refine rW (fun x hx=>?_) (hp.trans ((uY g.nodup g.has).map _).symm) ho ?_
 ·obtain⟨d,hd,rfl⟩:=g9.mp (hp.mem_iff.mp hx)
  have:=(uY g.nodup g.has).mem_iff.mpr hd
  exact iC (bA (b.side d this))
 ·unfold mX
  rw[aZG]
  exact b.ord.imp fun h=>Jt (by omega)
theorem Bq{n:Nat}(h1:1≤n)(h4:n≤4):(aJ (n:Nat)).Pairwise fun a b=>rk a<rk b:=by
 rcases Ed h1 h4 with rfl | rfl | rfl | rfl <;> decide
theorem Dx{w:List Nat}{i:Nat}{v:V}(h:(bH w)[i]?=some v):∃ c,w[i]?=some c∧v=.str (S [c]):=by
 unfold bH at h
 rw[c5] at h
 cases hq:w[i]? with
 | none=>rw[hq] at h;cases h
 | some o=>rw[hq] at h;exact⟨o,rfl,(i3 h).symm⟩
end Lw
namespace PySem
open Sem (wp)
end PySem
namespace L2
open PySem PySem.Spec PyProof.Rows
end L2
namespace Lw
open PySem PySem.Spec PyProof.Rows L2 Ma MaR
theorem uD(a b:Nat)(u v:List Nat):fR [.int (a:Nat),.str (S u)] [.int (b:Nat),.str (S v)]=decide ((a,u)=(b,v)):=by
 have e1:fR [.int (a:Nat),.str (S u)] [.int (b:Nat),.str (S v)]=(decide (((a:Nat):Int)=((b:Nat):Int)) && decide (u=v)):=by
  have:=oV [((a:Nat):Int)] [((b:Nat):Int)]
  have e2:=wI [S u] [S v]
  show (lY (.int (a:Nat)) (.int (b:Nat)) && (lY (.str (S u)) (.str (S v)) && true))=_
  have q1:lY (.int (a:Nat)) (.int (b:Nat))=decide (((a:Nat):Int)=((b:Nat):Int)):=by
   have q:(lY (.int (a:Nat)) (.int (b:Nat)) && true)=decide ([((a:Nat):Int)]=[((b:Nat):Int)]):=this
   rw[aX9] at q
   rw[q]
   exact decide_eq_decide.mpr ⟨fun z=>by simpa using z,fun z=>by rw[z]⟩
  have q2:lY (.str (S u)) (.str (S v))=decide (u=v):=by
   have q:(lY (.str (S u)) (.str (S v)) && true)=decide ([S u]=[S v]):=e2
   rw[aX9] at q
   rw[q]
   refine decide_eq_decide.mpr ⟨fun z=>?_,fun z=>by rw[z]⟩
   have z':S u=S v:=by simpa using z
   have:=congrArg (fun y:Str=>y.cps.toList) z'
   simpa [S] using this
  rw[q1,q2,aX9]
 rw[e1]
 by_cases h1:a=b
 ·by_cases h2:u=v
  ·subst h1 h2;simp
  ·simp[h2]
 ·have:¬ ((a:Nat):Int)=((b:Nat):Int):=by omega
  simp[h1,this]
theorem tD{n:Nat}{i:Int}(h0:0≤i)(h1:i<(n:Nat)):Cp n i=some i.toNat:=by
 unfold Cp
 rw[if_pos h0,if_pos h1]
theorem yS(ws:List (List Nat))(j:Nat)(w:List Nat):(bI ws).set j (.str (S w))=bI (ws.set j w):=by
 unfold bI
 rw[aJC]
section
variable {h:Nat→List Nat}{φ:Nat→List Nat}{ρ rk:Nat→Nat}{L:Nat}{Z:WvS}
theorem hX(I:WI h φ ρ rk L Z)(i j:Nat):AllL (lay (back (φ i)++φ j))∧(lay (back (φ i)++φ j)).length≤2 * L:=by
 obtain⟨a1,a2⟩:=I.fa i
 obtain⟨b1,b2⟩:=I.fa j
 refine⟨iJ (AllL.app.mpr ⟨aS a1,b1⟩),?_⟩
 have:=gG (back (φ i)++φ j)
 rw[b9,bY] at this
 omega
theorem nZ(I:WI h φ ρ rk L Z){c:Nat}(hc:cR c)(i j:Nat):AllL (lay (back (φ i)++(h c++φ j)))∧(lay (back (φ i)++(h c++φ j))).length≤3 * L:=by
 obtain⟨a1,a2⟩:=I.fa i
 obtain⟨b1,b2⟩:=I.fa j
 obtain⟨c1,c2⟩:=I.ha c hc
 refine⟨iJ (AllL.app.mpr ⟨aS a1,AllL.app.mpr ⟨c1,b1⟩⟩),?_⟩
 have:=gG (back (φ i)++(h c++φ j))
 rw[b9,b9,bY] at this
 omega
theorem rK{hd ab:Nat}{t:List Nat}(ht:t=lay (back (φ hd)++φ ab)):∀ {es:List tK} {T:WvS},WI h φ ρ rk L T→ab<T.hs.length→(∀ e∈es,cR e.1∧e.2.1<T.hs.length∧e.2.2=lay (back (φ hd)++(h e.1++φ e.2.1)))→WI h φ ρ rk L (underW ab t T es)∧(underW ab t T es).hs=T.hs
 | [],T,I,_,_=>⟨I,rfl⟩
 | e::es,T,I,hab,hes=>by
  obtain⟨ea,hea⟩:∃ ea,T.ws[ab]?=some ea:=⟨_,a9 (by rw[I.lw];exact hab)⟩
  have hgd:T.ws.getD ab []=ea:=by rw[c6,hea];rfl
  obtain⟨e1,e2,e3⟩:=hes e d8
  have htd:lay (back t++e.2.2)=lay (back (φ ab)++(h e.1++φ e.2.1)):=by
   rw[ht,e3]
   exact IZ (I.fa hd).1 (I.fa ab).1 (I.fa e.2.1).1 (I.ha e.1 e1).1
  have I1:=I.lay hea e1 e2 htd
  obtain⟨hhs,_⟩:=gR (S:=T) ab e.1 e.2.1 (lay (back t++e.2.2)) ea
  have key:underW ab t T (e::es)=underW ab t (aZ T ab e.1 e.2.1 (lay (back t++e.2.2)) ea) es:=by
   unfold underW
   rw[aQe,hgd]
  rw[key]
  obtain⟨o1,o2⟩:=rK ht (es:=es) I1 (by rw[hhs];exact hab) (fun x hx=>by rw[hhs];exact hes x (c8 _ hx))
  exact⟨o1,o2.trans hhs⟩
theorem vX{ab:Nat}{t:List Nat}{T:WvS}{es:List tK}{e:tK}:underW ab t T (es++[e])=aZ (underW ab t T es) ab e.1 e.2.1 (lay (back t++e.2.2)) ((underW ab t T es).ws.getD ab []):=by
 unfold underW
 rw[aQw]
 rfl
end
theorem EI.move{E:Nat→Nat→Nat→Prop}{ρ:Nat→Nat}{Z Z':WvS}(X:EI E ρ Z)(hw:Z'.ws=Z.ws)(ha:Z'.al=Z.al)(hl:Z'.hs.length=Z.hs.length):EI E ρ Z' :=
 ⟨fun p c q h=>by rw[hl];exact X.lt p c q h,fun p c q h=>by rw[hw,ha];exact X.on p c q h,fun i es h e he=>by rw[ha];exact X.of i es (by rw[← hw];exact h) e he⟩
theorem WI.alDrop{h φ:Nat→List Nat}{ρ rk:Nat→Nat}{L:Nat}{Z:WvS}(I:WI h φ ρ rk L Z){l:List (Nat×List Nat×Nat)}(hl:∀ e∈l,e∈Z.al):WI h φ ρ rk L { Z with al:=l } :=
 ⟨I.lt,I.lw,I.hd,I.rt,I.tn,I.wy,fun e he=>I.al e (hl e he),I.fa,I.ha⟩
theorem At{ρ:Nat→Nat}{hd ab:Nat}(hi:∀ x,ρ (ρ x)=ρ x)(hb:ρ ab=ab)(hne:hd≠ab):∀ x,ρU ρ hd ab (ρU ρ hd ab x)=ρU ρ hd ab x:=fun x=>by
 unfold ρU
 by_cases q:ρ x=hd
 ·rw[if_pos q,hb,if_neg (fun z=>hne z.symm)]
 ·rw[if_neg q,hi x,if_neg q]
def lL:Sp:=fun vs H Q _=>∃ w:List Nat,vs=[.str (S w)]∧AllL w∧w.length≤60000∧∀ H',Same H H'→Q (.str (S (back w))) H'
def lB:Sp:=fun vs H Q _=>∃ u w:List Nat,vs=[.str (S u),.str (S w)]∧AllL u∧AllL w∧u.length+w.length≤60000∧∀ H',Same H H'→Q (.str (S (lay (u++w)))) H'
def Hb:WvS:={ hs:=[0],ts:=[[]],ws:=[[]],al:=[] }
def uT(C:Addr):Sp:=fun vs H Q _=>∃ (p dx:Addr),vs=[.ref p]∧H p=some (.ins C dx [])∧∀ (M:List Addr) (H':Hp),(∀ x∈M,H x=none)→Wat C H' p M Hb→(∀ b o,H b=some o→b≠p→H' b=some o)→Q .non H'
structure Kept(C:Addr)(h φ:Nat→List Nat)(ρ rk:Nat→Nat)(L:Nat)(p:Addr)(M:List Addr)(H H':Hp)(Z Z':WvS):Prop where
 at':Wat C H' p M Z'
 wi:WI h φ ρ rk L Z'
 ws:Z'.ws=Z.ws
 al:Z'.al=Z.al
 ln:Z'.hs.length=Z.hs.length
 fr:FrW M H H'
def yA(C:Addr):Sp:=fun vs H Q _=>∃ (h φ:Nat→List Nat) (ρ rk:Nat→Nat) (L:Nat) (p:Addr) (M:List Addr) (Z:WvS) (i:Nat) (x:List Nat),vs=[.ref p,.int (i:Nat),.str (S x)]∧Wat C H p M Z∧WI h φ ρ rk L Z∧L≤8000∧i<Z.hs.length∧AllL x∧lay x=x∧x.length≤3 * L ∧
 ∀ (t:Addr) (H':Hp) (Z':WvS),Kept C h φ ρ rk L p M H H' Z Z'→H' t=some (.tup [.int (ρ i:Nat),.str (S (lay (x++(back (φ i)++φ (ρ i)))))])→Q (.ref t) H'
def sE(C:Addr):Sp:=fun vs H Q _=>∃ (h φ:Nat→List Nat) (ρ rk:Nat→Nat) (L:Nat) (p:Addr) (M:List Addr) (Z:WvS) (i:Nat),vs=[.ref p,.int (i:Nat)]∧Wat C H p M Z∧WI h φ ρ rk L Z∧L≤8000∧i<Z.hs.length ∧
 ∀ (H':Hp) (Z':WvS),Kept C h φ ρ rk L p M H H' Z Z'→Q (.int (ρ i:Nat)) H'
def tL(C:Addr):Sp:=fun vs H Q _=>∃ (h φ:Nat→List Nat) (ρ rk:Nat→Nat) (L:Nat) (p:Addr) (M:List Addr) (Z:WvS) (i c:Nat) (es:List tK),vs=[.ref p,.int (i:Nat),.str (S [c])]∧Wat C H p M Z∧WI h φ ρ rk L Z∧L≤8000∧Z.ws[i]?=some es ∧
 ∀ (H':Hp) (Z':WvS),Kept C h φ ρ rk L p M H H' Z Z'→Q (match cT es c with | none=>.non | some r=>.int (ρ r.1:Nat)) H'
def BC(C:Addr):Sp:=fun vs H Q _=>∃ (p:Addr) (M:List Addr) (Z:WvS),vs=[.ref p]∧Wat C H p M Z∧Z.hs.length≤900∧Z.ts.length≤900∧Z.ws.length≤900 ∧
 ∀ (d:Addr) (H':Hp),Wat C H' p (M++[d]) (Bh Z)→H d=none→FrW M H H'→Q (.int (Z.hs.length:Nat)) H'
def xX(C:Addr):Sp:=fun vs H Q _=>∃ (h φ:Nat→List Nat) (ρ rk:Nat→Nat) (L:Nat) (p:Addr) (M:List Addr) (Z:WvS) (i c g:Nat) (t:List Nat) (es:List tK),vs=[.ref p,.int (i:Nat),.str (S [c]),.int (g:Nat),.str (S t)]∧Wat C H p M Z∧WI h φ ρ rk L Z∧L≤8000∧Z.ws[i]?=some es∧cR c∧g<Z.hs.length∧t=lay (back (φ i)++(h c++φ g))∧Z.al.length≤50000 ∧
 ∀ H',Wat C H' p M (aZ Z i c g t es)→FrW M H H'→Q .non H'
def Cb(C:Addr):Sp:=fun vs H Q _=>∃ (h φ:Nat→List Nat) (ρ rk ρ1 rk1:Nat→Nat) (L:Nat) (p:Addr) (M:List Addr) (Z:WvS) (hd ab:Nat) (t:List Nat) (es:List tK),vs=[.ref p,.int (hd:Nat),.int (ab:Nat),.str (S t)]∧Wat C H p M Z∧WI h φ ρ rk L Z∧WI h φ ρ1 rk1 L (dE Z hd ab t)∧L≤8000∧Z.ws[hd]?=some es∧hd<Z.hs.length∧ab<Z.hs.length∧hd≠ab∧t=lay (back (φ hd)++φ ab)∧Z.al.length≤40000 ∧
 ∀ H',Wat C H' p M (underW ab t (dE Z hd ab t) es)→FrW M H H'→Q .non H'
def Hw(h:Nat→List Nat)(w:List Nat):List Nat:=w.flatMap h
theorem yD{h:Nat→List Nat}(ha:∀ c,cR c→AllL (h c)):∀ {w:List Nat},AllL w→AllL (Hw h w)
 | [],_=>AllL.nil
 | c::w,hw=>by
  obtain⟨a,b⟩:=AllL.cons.mp hw
  show AllL (h c++Hw h w)
  exact AllL.app.mpr ⟨ha c a,yD ha b⟩
theorem yK{h:Nat→List Nat}(w:List Nat)(c:Nat):Hw h (w++[c])=Hw h w++h c:=by
 unfold Hw
 rw[aXe]
 simp
theorem zT{x:List Nat}(hx:AllL x):back (lay (back x))=lay x:=by
 rw[← lC (aS hx),eC hx]
theorem Ab{h:Nat→List Nat}{u:List Nat}{c:Nat}(hu:AllL (Hw h u))(hc:AllL (h c)):lay (back (lay (back (Hw h u)))++(h c++[]))=lay (Hw h (u++[c])):=by
 rw[zT hu,m6,fT _ _ hu,yK]
theorem Cv{h:Nat→List Nat}{u:List Nat}{c:Nat}(hu:AllL (Hw h u))(hc:AllL (h c)):lay (back (lay (back (Hw h u)))++(h c++lay (back (Hw h (u++[c])))))=[]:=by
 have q:=aS hu
 have q2:=aS hc
 rw[zT hu,fT _ _ hu,yK,dN,← k7,eW _ _ (AllL.app.mpr ⟨hu,hc⟩) (AllL.app.mpr ⟨q2,q⟩)]
 have e1:Hw h u++h c++(back (h c)++back (Hw h u))=Hw h u++(h c++(back (h c)++back (Hw h u))):=by simp only [k7]
 rw[e1,fY hu hc q]
 exact iQ hu
theorem Wat.dom{C:Addr}{H:Hp}{p:Addr}{M:List Addr}{Z:WvS}(w:Wat C H p M Z){x:Addr}(hx:x∈M):∃ o,H x=some o:=by
 obtain⟨dx,hd,tn,wy,al,ds,as,hM,w⟩:=w
 rw[hM] at hx
 rcases c4.mp hx with rfl | hx
 ·exact⟨_,w.hh⟩
 rcases c4.mp hx with rfl | hx
 ·exact⟨_,w.ht⟩
 rcases c4.mp hx with rfl | hx
 ·exact⟨_,w.hw⟩
 rcases c4.mp hx with rfl | hx
 ·exact⟨_,w.ha⟩
 ·obtain⟨i,hi⟩:=l8 hx
  obtain⟨es,hes⟩:∃ es,Z.ws[i]?=some es:=⟨_,a9 (by rw[← w.ld];exact(a8.mp hi).1)⟩
  obtain⟨kvs,q,_⟩:=w.dc i x es hi hes
  exact⟨_,q⟩
theorem Wat.new{C:Addr}{H:Hp}{p:Addr}{M:List Addr}{Z:WvS}(w:Wat C H p M Z){x:Addr}(hx:H x=none):x ∉ M:=fun z=>by
 obtain⟨o,e⟩:=w.dom z
 rw[hx] at e;cases e
theorem Wat.out{C:Addr}{H:Hp}{p:Addr}{M:List Addr}{Z:WvS}(w:Wat C H p M Z){b:Addr}{o:HO}(e:H b=some o)(h1:∀ xs,o≠.lst xs)(h2:∀ kvs,o≠.dK kvs):b ∉ M:=by
 obtain⟨dx,hd,tn,wy,al,ds,as,hM,w⟩:=w
 rw[hM]
 exact w.out e h1 h2
theorem Wat.self{C:Addr}{H:Hp}{p:Addr}{M:List Addr}{Z:WvS}(w:Wat C H p M Z):∃ dx hd tn wy al,H p=some (.ins C dx (wf hd tn wy al)):=by
 obtain⟨dx,hd,tn,wy,al,ds,as,hM,w⟩:=w
 exact⟨dx,hd,tn,wy,al,w.ob⟩
theorem Fm{K:b0}{C:Addr}{H H':Hp}{p:Addr}{M:List Addr}{Z:WvS}(w:Wat C H p M Z)(f:FrW M H H'){t:Addr}{xs:List V}(h:SqT K H t xs):SqT K H' t xs:=by
 rcases h with (h | ⟨o,h⟩) | h
 ·exact .inl (.inl (f _ _ h (w.out h (by intro xs z;cases z) (by intro kvs z;cases z))))
 ·exact .inl (.inr ⟨o,f _ _ h (w.out h (by intro xs z;cases z) (by intro kvs z;cases z))⟩)
 ·exact .inr h
theorem Ft{K:b0}{H:Hp}{d:Addr}{ys:List V}{o:HO}(e:H d=some (.lst ys)){t:Addr}{xs:List V}(h:SqT K H t xs):SqT K (upd H d o) t xs:=by
 rcases h with (h | ⟨q,h⟩) | h
 ·exact .inl (.inl (by rw[aE (bS h e (by intro z;cases z))];exact h))
 ·exact .inl (.inr ⟨q,by rw[aE (bS h e (by intro z;cases z))];exact h⟩)
 ·exact .inr h
section
variable {C:Addr}{h φ:Nat→List Nat}{ρ rk:Nat→Nat}{L:Nat}{p:Addr}{M:List Addr}{H H1 H2:Hp}{Z Z1 Z2:WvS}
theorem Kept.refl(w:Wat C H p M Z)(I:WI h φ ρ rk L Z):Kept C h φ ρ rk L p M H H Z Z:=⟨w,I,rfl,rfl,rfl,FrW.refl _ _⟩
theorem Kept.trans(a:Kept C h φ ρ rk L p M H H1 Z Z1)(b:Kept C h φ ρ rk L p M H1 H2 Z1 Z2):Kept C h φ ρ rk L p M H H2 Z Z2:=⟨b.at',b.wi,b.ws.trans a.ws,b.al.trans a.al,b.ln.trans a.ln,fun x o e n=>b.fr _ _ (a.fr x o e n) n⟩
theorem Kept.same(a:Kept C h φ ρ rk L p M H H1 Z Z1)(s:Same H1 H2):Kept C h φ ρ rk L p M H H2 Z Z1:=⟨a.at'.same s,a.wi,a.ws,a.al,a.ln,fun x o e n=>s _ _ (a.fr x o e n)⟩
theorem Wat.set(w:Wat C H p M Z){d:Addr}{o:HO}(hd:d ∉ M)(hx:∃ xs,H d=some (.lst xs)):Wat C (L2.upd H d o) p M Z:=by
 obtain⟨xs,ex⟩:=hx
 obtain⟨dx,hd',tn,wy,al,ds,as,hM,w⟩:=w
 rw[hM] at hd
 have nt:∀ {t:Addr} {ys:List V},H t=some (.tup ys)→L2.upd H d o t=some (.tup ys):=fun q=>by rw[aE (bS q ex (by intro z;cases z))];exact q
 have nm:∀ {b:Addr} {u:HO},b∈hd'::tn::wy::al::ds→H b=some u→L2.upd H d o b=some u:=fun hb q=>by rw[aE (fun z=>hd (by rw[← z];exact hb))];exact q
 refine⟨dx,hd',tn,wy,al,ds,as,hM,w.nd,?_,nm (by simp) w.hh,nm (by simp) w.ht,nm (by simp) w.hw,nm (by simp) w.ha,w.ld,fun i d' es h1 h2=>?_,w.la,fun j a e h1 h2=>nt (w.at' j a e h1 h2)⟩
 ·rw[aE (bS w.ob ex (by intro z;cases z))];exact w.ob
 ·obtain⟨kvs,a,b⟩:=w.dc i d' es h1 h2
  exact⟨kvs,nm (by simp[b6 h1]) a,b.mono fun t xs q=>nt q⟩
theorem Wat.setD(w:Wat C H p M Z){d:Addr}{o:HO}(hd:d ∉ M)(hx:∃ xs,H d=some (.dK xs)):Wat C (L2.upd H d o) p M Z:=by
 obtain⟨xs,ex⟩:=hx
 obtain⟨dx,hd',tn,wy,al,ds,as,hM,w⟩:=w
 rw[hM] at hd
 have nt:∀ {t:Addr} {ys:List V},H t=some (.tup ys)→L2.upd H d o t=some (.tup ys):=fun q=>by rw[aE (bS q ex (by intro z;cases z))];exact q
 have nm:∀ {b:Addr} {u:HO},b∈hd'::tn::wy::al::ds→H b=some u→L2.upd H d o b=some u:=fun hb q=>by rw[aE (fun z=>hd (by rw[← z];exact hb))];exact q
 refine⟨dx,hd',tn,wy,al,ds,as,hM,w.nd,?_,nm (by simp) w.hh,nm (by simp) w.ht,nm (by simp) w.hw,nm (by simp) w.ha,w.ld,fun i d' es h1 h2=>?_,w.la,fun j a e h1 h2=>nt (w.at' j a e h1 h2)⟩
 ·rw[aE (bS w.ob ex (by intro z;cases z))];exact w.ob
 ·obtain⟨kvs,a,b⟩:=w.dc i d' es h1 h2
  exact⟨kvs,nm (by simp[b6 h1]) a,b.mono fun t xs q=>nt q⟩
theorem Kept.set(a:Kept C h φ ρ rk L p M H H1 Z Z1){d:Addr}{o:HO}{xs:List V}(hM:d ∉ M)(hd:H d=none)(hx:H1 d=some (.lst xs)):Kept C h φ ρ rk L p M H (L2.upd H1 d o) Z Z1 :=
 ⟨a.at'.set hM ⟨xs,hx⟩,a.wi,a.ws,a.al,a.ln,fun x u e n=>by rw[aE (aI e hd)];exact a.fr x u e n⟩
theorem Kept.setD(a:Kept C h φ ρ rk L p M H H1 Z Z1){d:Addr}{o:HO}{xs:List (cI×V)}(hM:d ∉ M)(hd:H d=none)(hx:H1 d=some (.dK xs)):Kept C h φ ρ rk L p M H (L2.upd H1 d o) Z Z1 :=
 ⟨a.at'.setD hM ⟨xs,hx⟩,a.wi,a.ws,a.al,a.ln,fun x u e n=>by rw[aE (aI e hd)];exact a.fr x u e n⟩
theorem Kept.free(a:Kept C h φ ρ rk L p M H H1 Z Z1){d:Addr}(hM:d ∉ M)(hd:H1 d=none):H d=none:=by
 cases e:H d with
 | none=>rfl
 | some o=>rw[a.fr d o e hM] at hd;cases hd
end
theorem WI.init{h:Nat→List Nat}{L:Nat}(hh:∀ c,cR c→AllL (h c)∧(h c).length≤L):WI h (fun _=>[]) (fun x=>x) (fun _=>0) L Hb:=by
 have one:∀ {α:Type} {v y:α} {i:Nat},[v][i]?=some y→i=0∧y=v:=fun {α v y i} e=>by
  cases i with
  | zero=>exact⟨rfl,by simpa using e.symm⟩
  | succ i=>simp at e
 refine⟨rfl,rfl,fun i a e=>?_,fun i hi=>?_,fun i a t e1 e2=>?_,fun i es e=>?_,(fun e he=>by cases he),fun i=>⟨AllL.nil,j6 _⟩,hh⟩
 ·obtain⟨rfl,rfl⟩:=one e
  exact⟨by decide,.inl rfl,rfl,fun _=>rfl⟩
 ·have:i<1:=hi
  have:i=0:=by omega
  subst this
  exact⟨by decide,rfl⟩
 ·obtain⟨rfl,rfl⟩:=one e2
  rfl
 ·obtain⟨rfl,rfl⟩:=one e
  exact⟨by simp,fun e he=>by cases he⟩
theorem EI.init:EI (fun _ _ _=>False) (fun x=>x) Hb:=by
 refine⟨fun _ _ _ z=>z.elim,fun _ _ _ z=>z.elim,fun i es e x hx=>?_⟩
 cases i with
 | zero =>
  have:es=[]:=by
   have e':some ([]:List tK)=some es:=e
   exact(i3 e').symm
  subst this
  cases hx
 | succ i=>cases e
structure IvG(n:Nat)(rs bk:List (List Nat))(A B:Nat):Prop where
 rt:RT rs n A
 ro:∀ x∈rs,OfN n x∧lay x=x
 bt:RT bk n B
 bo:∀ x∈bk,OfN n x∧lay x=x
 there:bO rs bk=cW n
 back:bO bk rs=cW n
end Lw
namespace L2
open PySem PySem.Spec PyProof.Rows
section
variable {X:Cx}{K:b0}
theorem Ad(hK:X.K=K)(hc:X.calm=true):dX X (.builtin "max") (fun xs H Q=>∃ (a:Addr) (ns:List Int),xs=[.ref a]∧SqL K H a (ns.map V.int)∧0<ns.length∧∀ m:Int,(∀ x∈ns,x≤m)→Q (.int m) H):=by
 subst hK
 intro pins s σ H xs us Q I r h
 obtain⟨a,ns,rfl,hq,hn0,q⟩:=h
 obtain⟨u,rfl,ru⟩:=r.one
 cases ru
 obtain⟨its,rv,pl,_⟩:=I.list hq
 have hl:=pl.isList
 obtain⟨hn,hi⟩:=nX rv
 obtain⟨ps,hps⟩:=AllInts.items (vs:=its.toArray) (fun v hv=>by
  obtain⟨i,hi',rfl⟩:=aXg (List.mem_toArray.mp hv)
  obtain⟨t,e⟩:=hi i _ (a9 hi')
  exact⟨_,t,e⟩)
 rw[hps] at hl
 have hsz0:ps.size=ns.length:=by
  have:=congrArg Array.size hps
  simp[intItems] at this
  omega
 have hnum:∀ i,i<ns.length→numAt ps i=(ns[i]?).getD 0:=fun i hi'=>by
  obtain⟨v,hv⟩:∃ v,its[i]?=some v:=⟨_,a9 (by omega)⟩
  obtain⟨t,e⟩:=hi i v hv
  have h2:(intItems ps)[i]?=some v:=by rw[← hps];simpa using hv
  obtain⟨t2,e2⟩:=intItems_at h2
  rw[e] at e2
  exact(Value.int.inj e2).1.symm
 refine max_intList (I.ok.hd hc) hl (by omega) fun v h' tk hv hk=>?_
 obtain⟨t,rfl⟩:=intItems_at hv
 refine⟨.int _,H,I.kept (t':=tk) hk,⟨_,rfl⟩,q _ fun x hx=>?_⟩
 obtain⟨j,hj⟩:=l8 hx
 have hjl:j<ns.length:=(a8.mp hj).1
 have:=(argBest_gt (numAt ps) (ps.size - 1)).2 j (by omega)
 rw[hnum j hjl,hj] at this
 exact this
end
end L2
namespace Lw
open PySem PySem.Spec PyProof.Rows L2 Ma MaR
section
variable {n:Nat}(h1:1≤n)(h4:n≤4)
include h1 h4
theorem yG{f fb s sb:List (List Nat)}{A B C D:Nat}(hf:RT f n A∧∀ x∈f,OfN n x)(hfb:RT fb n B∧∀ x∈fb,OfN n x)(hs:RT s n C∧∀ x∈s,OfN n x)(hsb:RT sb n D∧∀ x∈sb,OfN n x)(e1:bO f fb=cW n)(e2:bO s sb=cW n):bO (bO f s) (bO sb fb)=cW n:=by
 rw[lT hf.1 hs.1 (sH hsb.1 hfb.1),← lT hs.1 hsb.1 hfb.1,e2]
 have:bO f (bO (cW n) fb)=bO (bO f (cW n)) fb:=(lT hf.1 (tN h1 h4) hfb.1).symm
 rw[this]
 refine Eq.trans ?_ e1
 unfold bO
 rw[t4]
 refine p7 fun x hx=>?_
 show fN fb (lay (dO (cW n) x))=fN fb x
 rw[qI h1 h4 (hf.2 x hx)]
 exact uX hfb.1 (hf.1.all x hx)
theorem IvG.comp{f fb s sb:List (List Nat)}{A B C D:Nat}(hf:IvG n f fb A B)(hs:RT s n C∧∀ x∈s,OfN n x)(hsb:RT sb n D∧∀ x∈sb,OfN n x)(e1:bO s sb=cW n)(e2:bO sb s=cW n):IvG n (bO f s) (bO sb fb) (A * C) (D * B):=by
 have a:RT f n A∧∀ x∈f,OfN n x:=⟨hf.rt,fun x hx=>(hf.ro x hx).1⟩
 have b:RT fb n B∧∀ x∈fb,OfN n x:=⟨hf.bt,fun x hx=>(hf.bo x hx).1⟩
 refine⟨sH hf.rt hs.1,fun x hx=>⟨uW h1 h4 hs.2 x hx,iT (oH _ _ x hx)⟩,sH hsb.1 hf.bt,fun x hx=>⟨uW h1 h4 b.2 x hx,iT (oH _ _ x hx)⟩,yG h1 h4 a b hs hsb hf.there e1,yG h1 h4 hsb hs b a e2 hf.back⟩
theorem IvG.low(A B:Nat)(hA:1≤A)(hB:1≤B):IvG n (cW n) (cW n) A B:=by
 have r:=tN h1 h4
 have o:∀ x∈cW n,OfN n x∧lay x=x:=fun x hx=>by
  refine⟨?_,iT (pB n x hx)⟩
  obtain⟨c,hc,rfl⟩:=g9.mp hx
  intro d hd
  rw[c9.mp hd]
  exact jL h1 h4 hc
 have e:bO (cW n) (cW n)=cW n:=Bu h1 h4 (fun x hx=>(o x hx).1) (pB n)
 exact⟨⟨r.len,r.all,fun x hx=>j0 (r.le x hx) hA⟩,o,⟨r.len,r.all,fun x hx=>j0 (r.le x hx) hB⟩,o,e,e⟩
omit h1 h4 in
theorem IvG.le{f fb:List (List Nat)}{A B C D:Nat}(hf:IvG n f fb A B)(h1:∀ x∈f,x.length≤C)(h2:∀ x∈fb,x.length≤D):IvG n f fb C D:=⟨⟨hf.rt.len,hf.rt.all,h1⟩,hf.ro,⟨hf.bt.len,hf.bt.all,h2⟩,hf.bo,hf.there,hf.back⟩
end
def AB(H:Hp)(a:Addr)(f:List (List Nat)):Prop:=H a=some (.tup (bI f))
def BN:Sp:=fun vs H Q _=>∃ (fl sc:Addr) (n mo:Nat) (st:Int),vs=[.ref fl,.int (n:Nat),.int st,.int (mo:Nat)]∧IsFl H fl sc∧1≤n∧n≤4∧1≤mo∧mo≤8∧0≤st∧st≤100 ∧
 ∀ (p a b:Addr) (f fb:List (List Nat)) (H':Hp),H' p=some (.tup [.ref a,.ref b])→AB H' a f→AB H' b fb→IvG n f fb mo mo→IsFl H' fl sc→Kp fl H H'→Q (.ref p) H'
theorem yI{H H':Hp}{fl sc a:Addr}{f:List (List Nat)}(i:IsFl H fl sc)(k:Kp fl H H')(h:AB H a f):AB H' a f:=yB i k h
theorem Fy{f fb:List (List Nat)}{m:Nat}{ns:List Int}{mx:Int}(hns:ns=(f++fb).map fun x=>((x.length:Nat):Int))(h:∀ x∈ns,x≤mx)(hm:mx≤(m:Nat)):(∀ x∈f,x.length≤m)∧∀ x∈fb,x.length≤m:=by
 have key:∀ x∈f++fb,x.length≤m:=fun x hx=>by
  have:=h ((x.length:Nat):Int) (by rw[hns];exact g9.mpr ⟨x,hx,rfl⟩)
  omega
 exact⟨fun x hx=>key x (l7 _ hx),fun x hx=>key x (d6 _ hx)⟩
inductive Rel(E:Nat→Nat→Nat→Prop):Nat→Nat→Prop where
 | refl (x:Nat):Rel E x x
 | symm {x y:Nat} (h:Rel E x y):Rel E y x
 | trans {x y z:Nat} (h:Rel E x y) (g:Rel E y z):Rel E x z
 | go {p p' c q q':Nat} (h:Rel E p p') (a:E p c q) (b:E p' c q'):Rel E q q'
theorem Rel.mono{E E':Nat→Nat→Nat→Prop}(hm:∀ p c q,E p c q→E' p c q){x y:Nat}(h:Rel E x y):Rel E' x y:=by
 induction h with
 | refl x=>exact .refl x
 | symm _ ih=>exact .symm ih
 | trans _ _ a b=>exact .trans a b
 | go _ a b ih=>exact .go ih (hm _ _ _ a) (hm _ _ _ b)
structure LI(E:Nat→Nat→Nat→Prop)(ρ:Nat→Nat)(Z:WvS):Prop where
 ro:∀ x,Rel E x (ρ x)
 al:∀ x t y,(x,t,y)∈Z.al→Rel E x y
section
variable {E:Nat→Nat→Nat→Prop}{ρ:Nat→Nat}{Z:WvS}
theorem LI.lnk(l:LI E ρ Z){x y:Nat}(h:Lnk ρ Z.al x y):Rel E x y:=by
 induction h with
 | refl x=>exact .refl x
 | symm _ ih=>exact .symm ih
 | trans _ _ a b=>exact .trans a b
 | root x=>exact l.ro x
 | pair h=>exact l.al _ _ _ h
theorem LI.move{Z':WvS}(l:LI E ρ Z)(ha:∀ e∈Z'.al,e∈Z.al):LI E ρ Z':=⟨l.ro,fun x t y h=>l.al x t y (ha _ h)⟩
theorem LI.mono{E':Nat→Nat→Nat→Prop}(l:LI E ρ Z)(hm:∀ p c q,E p c q→E' p c q):LI E' ρ Z:=⟨fun x=>(l.ro x).mono hm,fun x t y h=>(l.al x t y h).mono hm⟩
theorem LI.under{hd ab:Nat}(l:LI E ρ Z){a b:Nat}(hab:Rel E a b)(hra:ρ a=hd)(hrb:ρ b=ab)(t:List Nat):LI E (ρU ρ hd ab) (dE Z hd ab t):=by
 have h1:Rel E hd ab:=by
  have r1:=l.ro a
  have r2:=l.ro b
  rw[hra] at r1
  rw[hrb] at r2
  exact(r1.symm.trans hab).trans r2
 refine⟨fun x=>?_,l.al⟩
 unfold ρU
 split
 ·rename_i q
  have:=l.ro x
  rw[q] at this
  exact this.trans h1
 ·exact l.ro x
theorem LI.underW{hd ab:Nat}{t:List Nat}:∀ {es:List tK} {T:WvS},LI E (ρU ρ hd ab) T→(∀ (i:Nat) (fs:List tK),T.ws[i]?=some fs→∀ e∈fs,∃ p q,E p e.1 q∧Rel E p i∧Rel E q e.2.1)→(∀ e∈es,∃ p q,E p e.1 q∧Rel E p ab∧Rel E q e.2.1)→ab<T.ws.length→LI E (ρU ρ hd ab) (Lw.underW ab t T es)
 | [],T,l,_,_,_=>l
 | e::es,T,l,hof,hme,hl=>by
  obtain⟨ea,hea⟩:∃ ea,T.ws[ab]?=some ea:=⟨_,a9 hl⟩
  have hgd:T.ws.getD ab []=ea:=by rw[c6,hea];rfl
  have key:Lw.underW ab t T (e::es)=Lw.underW ab t (aZ T ab e.1 e.2.1 (Ma.lay (back t++e.2.2)) ea) es:=by
   unfold Lw.underW
   rw[aQe,hgd]
  rw[key]
  obtain⟨p,q,a1,a2,a3⟩:=hme e d8
  have lal:LI E (ρU ρ hd ab) (aZ T ab e.1 e.2.1 (Ma.lay (back t++e.2.2)) ea):=by
   refine⟨l.ro,fun x u y hm=>?_⟩
   unfold aZ at hm
   cases ew:cT ea e.1 with
   | none=>rw[ew] at hm;exact l.al x u y hm
   | some r =>
    obtain⟨g',t'⟩:=r
    rw[ew] at hm
    dsimp only at hm
    split at hm
    ·exact l.al x u y hm
    ·rcases i5.mp hm with z | z
     ·exact l.al x u y z
     ·obtain⟨rfl,rfl,rfl⟩:x=e.2.1∧u=Ma.lay (back (Ma.lay (back t++e.2.2))++t')∧y=g':=by simpa using z
      obtain⟨p',q',b1,b2,b3⟩:=hof ab ea hea (e.1,y,t') (dJ ew)
      exact(a3.symm.trans (.go (a2.trans b2.symm) a1 b1)).trans b3
  refine LI.underW lal (fun i fs hi x hx=>?_) (fun x hx=>hme x (c8 _ hx)) ?_
  ·rcases lX hea hi hx with ⟨es0,u1,u2⟩ | ⟨rfl,rfl⟩
   ·exact hof i es0 u1 x u2
   ·exact⟨p,q,a1,a2,a3⟩
  ·unfold aZ
   split
   ·show ab<(T.ws.set ab _).length;rw[k0];exact hl
   ·split <;> exact hl
theorem CL{h φ:Nat→List Nat}{rk:Nat→Nat}{L:Nat}(I:WI h φ ρ rk L Z)(X:EI E ρ Z)(l:LI E ρ Z)(h0:Z.al=[])(hid:∀ x,ρ (ρ x)=ρ x)(x y:Nat):ρ x=ρ y↔Rel E x y:=by
 constructor
 ·intro e
  have:=l.ro y
  rw[← e] at this
  exact(l.ro x).trans this.symm
 ·intro r
  induction r with
  | refl x=>rfl
  | symm _ ih=>exact ih.symm
  | trans _ _ a b=>exact a.trans b
  | go _ a b ih=>exact EI.det I X h0 hid _ _ _ _ _ a b ih
end
def cE(δ:Nat→Option Nat)(ls:List Nat)(ord:List Nat):List Nat:=ls.foldl (fun o c=>match δ c with | some g=>if g∈o then o else o++[g] | none=>o) ord
def cM(δ:Nat→Nat→Option Nat)(ls:List Nat):Nat→Nat→List Nat→List Nat
 | 0,_,ord=>ord
 | f+1,at',ord=>match ord[at']? with
  | some s=>cM δ ls f (at' + 1) (cE (δ s) ls ord)
  | none=>ord
def fH(δ:Nat→Nat→Option Nat)(ls:List Nat)(ord:List Nat)(s:Nat):List (Option Nat):=ls.map fun c=>(δ s c).map fun g=>ord.idxOf g
def gZ(δ:Nat→Nat→Option Nat)(n s0 N:Nat):List (List (Option Nat)):=let ord:=cM δ (aJ (n:Nat)) N 0 [s0];ord.map (fH δ (cN n) ord)
section
variable {δ δ':Nat→Nat→Option Nat}{f:Nat→Nat}{P:Nat→Prop}
theorem rV(hf:∀ x y,P x→P y→f x=f y→x=y){s:Nat}(hd:∀ c,δ' (f s) c=(δ s c).map f)(hp:∀ c g,δ s c=some g→P g):∀ (ls:List Nat) (ord:List Nat),(∀ x∈ord,P x)→cE (δ' (f s)) ls (ord.map f)=(cE (δ s) ls ord).map f∧∀ x∈cE (δ s) ls ord,P x
 | [],ord,ho=>⟨rfl,ho⟩
 | c::ls,ord,ho=>by
  have ih:=rV hf hd hp ls
  show cE (δ' (f s)) ls (match δ' (f s) c with | some g=>if g∈ord.map f then ord.map f else ord.map f++[g] | none=>ord.map f)=(cE (δ s) ls (match δ s c with | some g=>if g∈ord then ord else ord++[g] | none=>ord)).map f∧∀ x∈cE (δ s) ls (match δ s c with | some g=>if g∈ord then ord else ord++[g] | none=>ord),P x
  rw[hd c]
  cases e:δ s c with
  | none=>exact ih ord ho
  | some g =>
   have hg:=hp c g e
   show cE (δ' (f s)) ls (if f g∈ord.map f then ord.map f else ord.map f++[f g])=_∧_
   have hiff:f g∈ord.map f↔g∈ord:=by
    constructor
    ·intro h
     obtain⟨x,hx,e⟩:=g9.mp h
     rw[← hf x g (ho x hx) hg e]
     exact hx
    ·exact fun h=>g9.mpr ⟨g,h,rfl⟩
   by_cases q:g∈ord
   ·rw[if_pos (hiff.mpr q)]
    show _=(cE (δ s) ls (if g∈ord then ord else ord++[g])).map f∧∀ x∈cE (δ s) ls (if g∈ord then ord else ord++[g]),P x
    rw[if_pos q]
    exact ih ord ho
   ·rw[if_neg (fun z=>q (hiff.mp z))]
    show _=(cE (δ s) ls (if g∈ord then ord else ord++[g])).map f∧∀ x∈cE (δ s) ls (if g∈ord then ord else ord++[g]),P x
    rw[if_neg q]
    have:=ih (ord++[g]) (fun x hx=>(i5.mp hx).elim (ho x) fun z=>by rw[c9.mp z];exact hg)
    rw[d9] at this
    exact this
theorem rR(hf:∀ x y,P x→P y→f x=f y→x=y)(hd:∀ s,P s→∀ c,δ' (f s) c=(δ s c).map f)(hp:∀ s,P s→∀ c g,δ s c=some g→P g)(ls:List Nat):∀ (N at':Nat) (ord:List Nat),(∀ x∈ord,P x)→cM δ' ls N at' (ord.map f)=(cM δ ls N at' ord).map f∧∀ x∈cM δ ls N at' ord,P x
 | 0,at',ord,ho=>⟨rfl,ho⟩
 | N+1,at',ord,ho=>by
  unfold cM
  rw[c5]
  cases e:ord[at']? with
  | none=>exact⟨rfl,ho⟩
  | some s =>
   have hs:=ho s (b6 e)
   obtain⟨h1,h2⟩:=rV hf (hd s hs) (hp s hs) ls ord ho
   show cM δ' ls N (at' + 1) (cE (δ' (f s)) ls (ord.map f))=_∧_
   rw[h1]
   exact rR hf hd hp ls N (at' + 1) _ h2
theorem zP(hf:∀ x y,P x→P y→f x=f y→x=y)(hd:∀ s,P s→∀ c,δ' (f s) c=(δ s c).map f)(hp:∀ s,P s→∀ c g,δ s c=some g→P g){n s0 N:Nat}(h0:P s0):gZ δ' n (f s0) N=gZ δ n s0 N:=by
 obtain⟨h1,h2⟩:=rR hf hd hp (aJ (n:Nat)) N 0 [s0] (fun x hx=>by rw[c9.mp hx];exact h0)
 unfold gZ
 have h1':cM δ' (aJ (n:Nat)) N 0 [f s0]=(cM δ (aJ (n:Nat)) N 0 [s0]).map f:=h1
 dsimp only
 rw[h1',t4]
 refine p7 fun s hs=>?_
 show fH δ' (cN n) _ (f s)=fH δ (cN n) _ s
 unfold fH
 refine p7 fun c hc=>?_
 rw[hd s (h2 s hs) c]
 cases e:δ s c with
 | none=>rfl
 | some g =>
  show some _=some _
  congr 1
  dsimp only
  have hg:=hp s (h2 s hs) c g e
  generalize cM δ (aJ (n:Nat)) N 0 [s0]=ord at h2 hs
  clear hs h1 h1'
  induction ord with
  | nil=>rfl
  | cons x ord ih =>
   rw[d3,aQj,aQj]
   have hx:=h2 x d8
   by_cases q:x=g
   ·subst q;simp
   ·have q2:¬ f x=f g:=fun z=>q (hf x g hx hg z)
    have i1:(f x == f g)=false:=by simpa using q2
    have i2:(x == g)=false:=by simpa using q
    rw[i1,i2]
    simp only [cond_false]
    rw[ih fun y hy=>h2 y (c8 _ hy)]
end
def OfE(E:Nat→Nat→Nat→Prop)(Z:WvS):Prop:=∀ (i:Nat) (fs:List tK),Z.ws[i]?=some fs→∀ e∈fs,∃ p q,E p e.1 q∧Rel E p i∧Rel E q e.2.1
theorem EI.ofE{E:Nat→Nat→Nat→Prop}{ρ:Nat→Nat}{Z:WvS}(X:EI E ρ Z)(l:LI E ρ Z):OfE E Z:=fun i fs hi e he=>by
 obtain⟨p,q,a,b,c⟩:=X.of i fs hi e he
 exact⟨p,q,a,l.lnk b,l.lnk c⟩
theorem OfE.mono{E E':Nat→Nat→Nat→Prop}{Z:WvS}(h:OfE E Z)(hm:∀ p c q,E p c q→E' p c q):OfE E' Z:=fun i fs hi e he=>by
 obtain⟨p,q,a,b,c⟩:=h i fs hi e he
 exact⟨p,q,hm _ _ _ a,b.mono hm,c.mono hm⟩
theorem LI.lay'{E:Nat→Nat→Nat→Prop}{ρ:Nat→Nat}{Z:WvS}(l:LI E ρ Z)(hof:OfE E Z){i c g:Nat}{t:List Nat}{es:List tK}(hi:Z.ws[i]?=some es)(hk:E i c g):LI E ρ (aZ Z i c g t es):=by
 refine⟨l.ro,fun x u y hm=>?_⟩
 unfold aZ at hm
 cases e:cT es c with
 | none=>rw[e] at hm;exact l.al x u y hm
 | some r =>
  obtain⟨g',t'⟩:=r
  rw[e] at hm
  dsimp only at hm
  split at hm
  ·exact l.al x u y hm
  ·rcases i5.mp hm with z | z
   ·exact l.al x u y z
   ·obtain⟨rfl,rfl,rfl⟩:x=g∧u=Ma.lay (back t++t')∧y=g':=by simpa using z
    obtain⟨p',q',b1,b2,b3⟩:=hof i es hi (c,y,t') (dJ e)
    exact(Rel.go b2.symm hk b1).trans b3
def bF(N m j:Nat):Nat:=if j=0∨j=m then 0 else N+j - 1
def FlE(N:Nat)(w:List Nat)(i:Nat):Nat→Nat→Nat→Prop:=fun p c q=>∃ j,j<i∧∃ d,w[j]?=some d∧((c=d∧p=bF N w.length j∧q=bF N w.length (j+1))∨(c=aU d∧p=bF N w.length (j+1)∧q=bF N w.length j))
theorem FlE.succ{N i:Nat}{w:List Nat}{d:Nat}(hd:w[i]?=some d){p c q:Nat}:FlE N w (i+1) p c q↔FlE N w i p c q∨(c=d∧p=bF N w.length i∧q=bF N w.length (i+1))∨(c=aU d∧p=bF N w.length (i+1)∧q=bF N w.length i):=by
 constructor
 ·rintro⟨j,hj,e,he,h⟩
  by_cases q:j=i
  ·subst q
   rw[hd] at he
   cases he
   exact .inr h
  ·exact .inl ⟨j,by omega,e,he,h⟩
 ·rintro(⟨j,hj,h⟩ | h)
  ·exact⟨j,by omega,h⟩
  ·exact⟨i,by omega,d,hd,h⟩
def zX(C:Addr):Sp:=fun vs H Q _=>∃ (h φ:Nat→List Nat) (rk:Nat→Nat) (L:Nat) (p:Addr) (M:List Addr) (Z:WvS) (E:Nat→Nat→Nat→Prop) (w t:List Nat),vs=[.ref p,.str (S w),.str (S t)]∧Wat C H p M Z∧WI h φ (fun x=>x) rk L Z∧EI E (fun x=>x) Z∧LI E (fun x=>x) Z∧Hi E∧L≤8000∧φ 0=[]∧0<Z.hs.length∧Z.hs.length+w.length≤900∧Z.al.length+2 * w.length≤9000∧AllL w ∧
 (∀ c,cR c→h (aU c)=back (h c))∧(w≠[]→t=lay (Hw h w))∧(∀ i,i≤w.length→(lay (back (Hw h (w.take i)))).length≤L) ∧
 ∀ (M':List Addr) (H':Hp) (Z':WvS) (φ':Nat→List Nat) (E':Nat→Nat→Nat→Prop),Wat C H' p M' Z'→MU H M M'→FrW M H H'→WI h φ' (fun x=>x) rk L Z'→EI E' (fun x=>x) Z'→LI E' (fun x=>x) Z'→Hi E'→(∀ p c q,E' p c q↔E p c q∨FlE Z.hs.length w w.length p c q)→φ' 0=[]→Fw E' (fun x=>x) 0 w 0→Z'.hs.length=Z.hs.length+(w.length - 1)→Z'.al.length≤Z.al.length+2 * w.length→Q .non H'
def zH(C:Addr):Sp:=fun vs H Q _=>∃ (h φ:Nat→List Nat) (rk:Nat→Nat) (L:Nat) (p:Addr) (M:List Addr) (Z:WvS) (E:Nat→Nat→Nat→Prop),vs=[.ref p]∧Wat C H p M Z∧WI h φ (fun x=>x) rk L Z∧EI E (fun x=>x) Z∧LI E (fun x=>x) Z∧L≤8000∧Z.hs.length≤900∧Z.al.length≤10000 ∧
 ∀ (ρ rk':Nat→Nat) (H':Hp) (Z':WvS),Wat C H' p M Z'→WI h φ ρ rk' L Z'→EI E ρ Z'→LI E ρ Z'→Z'.al=[]→(∀ x,ρ (ρ x)=ρ x)→Z'.hs.length=Z.hs.length→FrW M H H'→Q .non H'
def fL(ρ:Nat→Nat)(Z:WvS)(s c:Nat):Option Nat:=(cT (Z.ws.getD s []) c).map fun r=>ρ r.1
def eJ(ord:List Nat):List (cI×V):=ord.zipIdx.map fun gk=>(.inl (gk.1:Nat),.int (gk.2:Nat))
theorem AN(ord:List Nat)(g:Nat):eJ (ord++[g])=eJ ord++[(.inl (g:Nat),.int (ord.length:Nat))]:=by
 unfold eJ
 rw[List.zipIdx_append,d9]
 simp
theorem vV(g:Nat):∀ (ord:List Nat) (k:Nat),cO ((ord.zipIdx k).map fun gk=>((.inl (gk.1:Nat):cI),V.int (gk.2:Nat))) (.inl (g:Nat))=if g∈ord then some (.int ((k+ord.idxOf g:Nat))) else none
 | [],k=>by rw[if_neg (by simp)];rfl
 | x::ord,k=>by
  rw[List.zipIdx_cons,d3]
  by_cases q:x=g
  ·subst q
   rw[dA rfl,if_pos d8,List.idxOf_cons_self]
   rfl
  ·rw[cZ (show ¬ (Sum.inl ((x:Nat):Int):cI)=Sum.inl ((g:Nat):Int) from fun z=>q (by have:=aZJ z;omega)),vV g ord (k+1)]
   by_cases q2:g∈ord
   ·have e0:(x == g)=false:=by simpa using q
    have e:(x::ord).idxOf g=ord.idxOf g+1:=by rw[aQj,e0];rfl
    rw[if_pos q2,if_pos (c8 _ q2),e]
    congr 2
    omega
   ·rw[if_neg q2,if_neg (by simp[q2];exact fun z=>q z.symm)]
theorem sP(g:Nat)(ord:List Nat):cO (eJ ord) (.inl (g:Nat))=if g∈ord then some (.int (ord.idxOf g:Nat)) else none:=by
 have:=vV g ord 0
 rw[aJD] at this
 exact this
theorem vS(ord:List Nat):(eJ ord).length=ord.length:=by unfold eJ;rw[b7,aXv]
def yZ(C:Addr):Sp:=fun vs H Q _=>∃ (h φ:Nat→List Nat) (ρ rk:Nat→Nat) (L:Nat) (n:Nat) (p:Addr) (M:List Addr) (Z:WvS),vs=[.int (n:Nat),.ref p]∧1≤n∧n≤4∧Wat C H p M Z∧WI h φ ρ rk L Z∧L≤8000∧0<Z.hs.length∧Z.hs.length≤900 ∧
 ∀ (t:Addr) (H':Hp) (Z':WvS),Kept C h φ ρ rk L p M H H' Z Z'→H t=none→H' t=some (.dK (eJ (cM (fL ρ Z) (aJ (n:Nat)) 1000 0 [ρ 0])))→(cM (fL ρ Z) (aJ (n:Nat)) 1000 0 [ρ 0]).length≤900→(∀ x∈cM (fL ρ Z) (aJ (n:Nat)) 1000 0 [ρ 0],x<Z.hs.length)→Q (.ref t) H'
def Jr(H:Hp)(t:Addr)(ord:List Nat):Prop:=∃ o,H t=some (.frz o (.dK (eJ ord)))
def nW:Option Nat→V
 | none=>.non
 | some k=>.int (k:Nat)
def wH(C:Addr):Sp:=fun vs H Q _=>∃ (h φ:Nat→List Nat) (ρ rk:Nat→Nat) (L:Nat) (n:Nat) (p:Addr) (M:List Addr) (Z:WvS) (t:Addr) (s:Nat) (ord:List Nat),vs=[.int (n:Nat),.ref p,.ref t,.int (s:Nat)]∧1≤n∧n≤4∧Wat C H p M Z∧WI h φ ρ rk L Z∧L≤8000∧s<Z.hs.length∧Jr H t ord∧(∀ c∈aJ (n:Nat),∀ g,fL ρ Z s c=some g→g∈ord) ∧
 ∀ (q:Addr) (H':Hp) (Z':WvS),Kept C h φ ρ rk L p M H H' Z Z'→H q=none→H' q=some (.tup ((fH (fL ρ Z) (cN n) ord s).map nW))→Q (.ref q) H'
theorem pO(δ:Nat→Option Nat)(ls:List Nat)(c:Nat)(ord:List Nat):cE δ (ls++[c]) ord=match δ c with | some g=>if g∈cE δ ls ord then cE δ ls ord else cE δ ls ord++[g] | none=>cE δ ls ord:=by
 unfold cE
 rw[aQw]
 rfl
theorem eI(δ:Nat→Option Nat):∀ (ls:List Nat) (ord:List Nat),∃ r,cE δ ls ord=ord++r
 | [],ord=>⟨[],(m6 _).symm⟩
 | c::ls,ord=>by
  show ∃ r,cE δ ls (match δ c with | some g=>if g∈ord then ord else ord++[g] | none=>ord)=ord++r
  cases δ c with
  | none=>exact eI δ ls ord
  | some g =>
   dsimp only
   split
   ·exact eI δ ls ord
   ·obtain⟨r,e⟩:=eI δ ls (ord++[g])
    exact⟨[g]++r,by rw[e,k7]⟩
def OrdOk(N:Nat)(ord:List Nat):Prop:=ord.Nodup∧∀ x∈ord,x<N
theorem OrdOk.len{N:Nat}{ord:List Nat}(h:OrdOk N ord):ord.length≤N:=by
 have:=oS (m:=List.range N) h.1 fun x hx=>aX2.mpr (h.2 x hx)
 rwa [aQZ] at this
theorem OrdOk.snoc{N g:Nat}{ord:List Nat}(h:OrdOk N ord)(hg:g<N)(hn:g ∉ ord):OrdOk N (ord++[g]):=by
 refine⟨?_,fun x hx=>(i5.mp hx).elim (h.2 x) fun z=>by rw[c9.mp z];exact hg⟩
 rw[aQL]
 exact⟨h.1,by simp,fun a ha b hb z=>hn (by rw[← c9.mp hb,← z];exact ha)⟩
theorem mG(δ:Nat→Nat→Option Nat)(ls:List Nat)(f at':Nat)(ord:List Nat)(h:ord.length≤at'):cM δ ls f at' ord=ord:=by
 cases f with
 | zero=>rfl
 | succ f =>
  unfold cM
  rw[aQa h]
theorem kN(δ:Nat→Nat→Option Nat)(ls:List Nat)(f at':Nat)(ord:List Nat){s:Nat}(h:ord[at']?=some s):cM δ ls (f+1) at' ord=cM δ ls f (at' + 1) (cE (δ s) ls ord):=by
 show (match ord[at']? with | some s=>cM δ ls f (at' + 1) (cE (δ s) ls ord) | none=>ord)=_
 rw[h]
theorem B6{ord:List Nat}{g:Nat}(h:g ∉ ord):dF (eJ ord) (.inl (g:Nat)) (.int (ord.length:Nat))=eJ (ord++[g]):=by
 rw[tV _ (by rw[sP,if_neg h]),AN]
theorem wB{C:Addr}{h φ:Nat→List Nat}{ρ rk:Nat→Nat}{L:Nat}{p:Addr}{M:List Addr}{H H1:Hp}{Z Z1:WvS}(a:Kept C h φ ρ rk L p M H H1 Z Z1):fL ρ Z1=fL ρ Z:=by
 funext s c
 unfold fL
 rw[a.ws]
def Gx:Nat→List (List Nat)→Nat
 | N,[]=>N
 | N,w::r=>Gx (N+(w.length - 1)) r
def bT:Nat→List (List Nat)→Nat→Nat→Nat→Prop
 | _,[],_,_,_=>False
 | N,w::r,p,c,q=>FlE N w w.length p c q∨bT (N+(w.length - 1)) r p c q
theorem pL(w:List Nat){p c q:Nat}:∀ (N:Nat) (rs:List (List Nat)),bT N (rs++[w]) p c q↔bT N rs p c q∨FlE (Gx N rs) w w.length p c q
 | N,[]=>by
  show (FlE N w w.length p c q∨False)↔(False∨FlE N w w.length p c q)
  rw[or_false,false_or]
 | N,x::rs=>by
  show (FlE N x x.length p c q∨bT (N+(x.length - 1)) (rs++[w]) p c q)↔_
  rw[pL w (N+(x.length - 1)) rs,← or_assoc]
  rfl
theorem uQ(w:List Nat):∀ (N:Nat) (rs:List (List Nat)),Gx N (rs++[w])=Gx N rs+(w.length - 1)
 | N,[]=>rfl
 | N,x::rs=>uQ w (N+(x.length - 1)) rs
structure Aut(rs:List (List Nat))(ρ:Nat→Nat)(δ:Nat→Nat→Option Nat)(N:Nat):Prop where
 rel:∀ x y,ρ x=ρ y↔Rel (bT 1 rs) x y
 to:∀ p c q,bT 1 rs p c q→δ (ρ p) c=some (ρ q)
 of:∀ s c g,δ s c=some g→∃ p q,bT 1 rs p c q∧ρ p=s∧ρ q=g
theorem Fn{h φ:Nat→List Nat}{ρ rk:Nat→Nat}{L:Nat}{Z:WvS}{E:Nat→Nat→Nat→Prop}{rs:List (List Nat)}(I:WI h φ ρ rk L Z)(X:EI E ρ Z)(l:LI E ρ Z)(h0:Z.al=[])(hid:∀ x,ρ (ρ x)=ρ x)(hE:∀ p c q,E p c q↔bT 1 rs p c q)(N:Nat):Aut rs ρ (fun s c=>if ρ s=s then fL ρ Z s c else none) N:=by
 have m1:∀ p c q,E p c q→bT 1 rs p c q:=fun p c q=>(hE p c q).mp
 have m2:∀ p c q,bT 1 rs p c q→E p c q:=fun p c q=>(hE p c q).mpr
 refine⟨fun x y=>(CL I X l h0 hid x y).trans ⟨fun r=>r.mono m1,fun r=>r.mono m2⟩,fun p c q hf=>?_,fun s c g hs=>?_⟩
 ·obtain⟨es,g,t,b1,b2,b3⟩:=X.on p c q (m2 p c q hf)
  rw[h0] at b3
  rw[if_pos (hid p)]
  unfold fL
  rw[c6,b1]
  show (cT es c).map _=_
  rw[lP (I.wy _ es b1).1 b2,y0,Lnk.nil hid b3]
 ·split at hs
  ·rename_i hss
   unfold fL at hs
   obtain⟨r,hr,rfl⟩:=i8.mp hs
   rw[c6] at hr
   cases e:Z.ws[s]? with
   | none=>rw[e] at hr;cases hr
   | some es =>
    rw[e] at hr
    obtain⟨p,q,a1,a2,a3⟩:=X.of s es e _ (dJ hr)
    rw[h0] at a2 a3
    exact⟨p,q,m1 _ _ _ a1,(Lnk.nil hid a2).trans hss,Lnk.nil hid a3⟩
  ·cases hs
theorem nG{rs:List (List Nat)}{ρ ρ':Nat→Nat}{δ δ':Nat→Nat→Option Nat}{N:Nat}(a:Aut rs ρ δ N)(b:Aut rs ρ' δ' N)(hid:∀ x,ρ (ρ x)=ρ x){n:Nat}:gZ δ' n (ρ' 0) 1000=gZ δ n (ρ 0) 1000:=by
 have hr:∀ x,ρ' (ρ x)=ρ' x:=fun x=>(b.rel _ _).mpr ((a.rel _ _).mp (hid x))
 have:=zP (δ:=δ) (δ':=δ') (f:=ρ') (P:=fun x=>ρ x=x) (n:=n) (s0:=ρ 0) (N:=1000) (fun x y hx hy e=>?_) (fun s hs c=>?_) (fun s hs c g e=>?_) (hid 0)
 ·rw[hr 0] at this
  exact this
 ·have:=(a.rel x y).mpr ((b.rel x y).mp e)
  rw[← hx,← hy]
  exact this
 ·cases e:δ s c with
  | none =>
   show δ' (ρ' s) c=none
   cases e2:δ' (ρ' s) c with
   | none=>rfl
   | some g =>
    obtain⟨p,q,f1,f2,f3⟩:=b.of _ c g e2
    have hps:ρ p=ρ s:=(a.rel _ _).mpr ((b.rel _ _).mp f2)
    have:=a.to p c q f1
    rw[hps,hs,e] at this
    cases this
  | some g =>
   obtain⟨p,q,f1,f2,f3⟩:=a.of s c g e
   have:=b.to p c q f1
   have h1:ρ' p=ρ' s:=by rw[← hr p,f2]
   have h2:ρ' q=ρ' g:=by rw[← hr q,f3]
   rw[h1,h2] at this
   rw[this]
   rfl
 ·obtain⟨p,q,f1,f2,f3⟩:=a.of s c g e
  show ρ g=g
  rw[← f3,hid]
theorem qT{δ:Nat→Option Nat}:∀ {ls:List Nat} {ord:List Nat} {c g:Nat},c∈ls→δ c=some g→g∈cE δ ls ord
 | d::ls,ord,c,g,hc,hg=>by
  show g∈cE δ ls (match δ d with | some g=>if g∈ord then ord else ord++[g] | none=>ord)
  rcases c4.mp hc with rfl | hc
  ·rw[hg]
   dsimp only
   have:g∈(if g∈ord then ord else ord++[g]):=by
    split
    ·assumption
    ·simp
   obtain⟨r,e⟩:=eI δ ls (if g∈ord then ord else ord++[g])
   rw[e]
   exact l7 _ this
  ·exact qT hc hg
theorem hU{δ:Nat→Nat→Option Nat}{ls:List Nat}:∀ (f at':Nat) (ord:List Nat),(∀ (i s:Nat),i<at'→ord[i]?=some s→∀ c∈ls,∀ g,δ s c=some g→g∈ord)→(cM δ ls f at' ord).length≤at' + f→∀ s∈cM δ ls f at' ord,∀ c∈ls,∀ g,δ s c=some g→g∈cM δ ls f at' ord
 | 0,at',ord,h,hl,s,hs,c,hc,g,hg=>by
  obtain⟨i,hi⟩:=l8 (show s∈ord from hs)
  have hl':ord.length≤at':=hl
  exact h i s (by have:=(a8.mp hi).1;omega) hi c hc g hg
 | f+1,at',ord,h,hl,s,hs,c,hc,g,hg=>by
  cases e:ord[at']? with
  | none =>
   have hge:ord.length≤at':=aQy.mp e
   rw[mG _ _ _ _ _ hge] at hs ⊢
   obtain⟨i,hi⟩:=l8 hs
   exact h i s (by have:=(a8.mp hi).1;omega) hi c hc g hg
  | some s0 =>
   rw[kN _ _ _ _ _ e] at hs hl ⊢
   obtain⟨r,er⟩:=eI (δ s0) ls ord
   refine hU f (at' + 1) _ (fun i x hi hx c' hc' g' hg'=>?_) (by omega) s hs c hc g hg
   have hil:i<ord.length:=by
    have:=(a8.mp e).1
    omega
   rw[er,l5 hil] at hx
   by_cases q:i=at'
   ·subst q
    rw[e] at hx
    cases hx
    exact qT hc' hg'
   ·rw[er]
    exact l7 _ (h i x (by omega) hx c' hc' g' hg')
def IsWebV(H:Hp)(r:Addr)(W:List (List (Option Nat))):Prop:=∃ qs:List Addr,H r=some (.tup (qs.map V.ref))∧qs.length=W.length∧∀ (i:Nat) (q:Addr) (row:List (Option Nat)),qs[i]?=some q→W[i]?=some row→H q=some (.tup (row.map nW))
def CJ(K:b0):Sp:=fun vs H Q _=>∃ (n:Nat) (a:Addr) (rs:List (List Nat)),vs=[.int (n:Nat),.ref a]∧1≤n∧n≤4∧(SqT K H a (bI rs)∨SqL K H a (bI rs))∧rs.length≤10∧(∀ x∈rs,AllL x∧x.length≤80) ∧
 ∀ (r:Addr) (H':Hp) (ρ:Nat→Nat) (δ:Nat→Nat→Option Nat),Same H H'→Aut rs ρ δ 0→(∀ x,ρ (ρ x)=ρ x)→IsWebV H' r (gZ δ n (ρ 0) 1000)→Q (.ref r) H'
theorem Bw{ρ:Nat→Nat}{Z:WvS}(hid:∀ x,ρ (ρ x)=ρ x){n:Nat}:gZ (fL ρ Z) n (ρ 0) 1000=gZ (fun s c=>if ρ s=s then fL ρ Z s c else none) n (ρ 0) 1000:=by
 refine zP (δ:=fun s c=>if ρ s=s then fL ρ Z s c else none) (δ':=fL ρ Z) (f:=id) (P:=fun x=>ρ x=x) (fun x y _ _ e=>e) (fun s hs c=>?_) (fun s hs c g e=>?_) (hid 0)
 ·show fL ρ Z s c=Option.map id (if ρ s=s then fL ρ Z s c else none)
  rw[if_pos hs,Option.map_id]
  rfl
 ·rw[if_pos hs] at e
  unfold fL at e
  obtain⟨r,_,rfl⟩:=i8.mp e
  exact hid _
end Lw
namespace PySem
section
variable {prog:Program}{w:World}{K:Type}[DecidableEq K]{knd:HeapKind prog w K}{A:Around}{E:Value→Shared→Prop}{s:Shared}
theorem CD{d a:Addr}{xs:List (K×Addr×Value)}{k:K}{v:Value}{Q:Value→Shared→Prop}(hu:knd.room A)(hkey:knd.is s.heap k a)(hm:s.heap.DictOfH knd d xs)(hsz:xs.length≤sizeLine)
  (h1:∀ p,atKey xs k=some p→Q p.2 { s with toks:=s.toks+knd.draws k })
  (h2:atKey xs k=none→∀ h',h'.DictOfH knd d (storedH xs k a v)→Heap.SameBut d s.heap h'→Q v { s with heap:=h',toks:=s.toks+knd.draws k }) :
  wpAny (model prog w) A (dictSetDefault d (.ref a) v) Q E s:=by
 obtain⟨o,es,ep,ho,hc,hd,he,his,hn⟩:=hm
 unfold dictSetDefault
 try with_reducible refine wpAny_holding ?_
 refine wpAny_bind (knd.pyHash hu hkey ?_)
 refine wpAny_bind (wpAny_dictFind_heap (s:={ s with toks:=s.toks+knd.draws k }) hu hkey ho hd he his hn ?_ ?_)
 ·intro hno
  have hnot:k ∉ xs.map (·.1):=not_mem_keys_of_get hno
  refine wpAny_bind (wpAny_rule (wpAny_bind (wpAny_updateDictKeys (hz:=by have e:=size_of_entries he;omega) (s:={ s with toks:=s.toks+knd.draws k }) ho hd (wpAny_pure (h2 (atKey_none_of_get hno) _ ⟨_,_,ep+1,u5 _ ho (aXf (aQS hd _)),
   hc.mapDictKeys _,aQS hd _,?_,?_,?_⟩ (p6 ..))))))
  ·rw[storedH_new (atKey_none_of_get hno)]
   simp[he,entryOfKey]
  ·rw[storedH_new (atKey_none_of_get hno)]
   intro x hx
   rcases i5.mp hx with hx | hx
   ·exact knd.keeps (his x hx) ho hd (p6 ..)
   ·simp only [c9] at hx
    subst hx
    exact knd.keeps hkey ho hd (p6 ..)
  ·rw[storedH_new (atKey_none_of_get hno)]
   rw[d9,aQL]
   refine⟨hn,by simp,?_⟩
   intro x hx y hy
   simp only [d3,aQU,c9] at hy
   subst hy
   exact fun e=>hnot (e ▸ hx)
 ·intro j p hj
  refine wpAny_bind (wpAny_dictEntries (s:={ s with toks:=s.toks+knd.draws k }) ho hd ?_)
  have hej:es[j]?=some (entryOfKey knd (k,p)):=by
   have:=congrArg (fun l=>l[j]?) he
   simp only [c5,hj,y0] at this
   rw[← aQN]
   exact this
  rw[hej]
  exact wpAny_bind (wpAny_rule (wpAny_pure (h1 p (atKey_of_get hn hj))))
theorem meetsH_sdf(knd:HeapKind prog w K)(d a:Addr)(hd:(d == sysModules)=false)(dflt:Value) :
  MeetsIn prog w (Builtin.«dict.setdefault» ⟨[.ref d,.ref a,dflt],[]⟩) (fun A R s=>knd.room A.in1∧∃ k xs,knd.is s.heap k a∧s.heap.DictOfH knd d xs∧xs.length≤sizeLine ∧
   (∀ p,atKey xs k=some p→R (.ok (.ret p.2)) { s with toks:=s.toks+knd.draws k }) ∧
   (atKey xs k=none→∀ h',h'.DictOfH knd d (storedH xs k a dflt)→Heap.SameBut d s.heap h'→R (.ok (.ret dflt)) { s with heap:=h',toks:=s.toks+knd.draws k })) :=
 .of_wp fun A R s ⟨hu,k,xs,hkey,hm,hz,h1,h2⟩=>by
  unfold Builtin.«dict.setdefault»
  refine wpAny_bind ?_
  unfold Builtin.Dict.keyAndDefault
  refine wpAny_bind (wpAny_notOrdered_dict hm.typeIs ?_)
  show wpAny _ _ (pure (d,Value.ref a,some dflt)) _ _ s
  refine wpAny_pure ?_
  show wpAny _ _ (if (d == sysModules)=true then _ else (dictSetDefault d (.ref a) dflt >>= _)) _ _ s
  rw[if_neg (by rw[hd];exact g7)]
  exact wpAny_bind (CD hu hkey hm hz (fun p hp=>wpAny_pure ⟨p.2,rfl,h1 p hp⟩) fun hn h' hm' hs'=>wpAny_pure ⟨dflt,rfl,h2 hn h' hm' hs'⟩)
end
end PySem
namespace L2
open PySem PySem.Spec PyProof.Rows
section
variable {X:Cx}{pins:List (Addr×Obj)}{σ:St}{H:Hp}{s:Shared}{a b:Addr}{kvs:List (List cI×V)}{k:List cI}{z:V}{r:Value}{A:Around}{E:Value→Shared→Prop}
theorem DB{Q:Value→Shared→Prop}(hu:A.units+1<cLine)(I:Inv X pins σ H s)(e:H a=some (.dT kvs))(eb:H b=some (.tup (k.map kV)))(hl:kvs.length<sizeLine)(rz:RelV z r)
  (h1:∀ v w' s',cO kvs k=some v→Inv X pins σ H s'→RelV v w'→Q w' s') (h2:cO kvs k=none→∀ s',Inv X pins σ (upd H a (.dT (dF kvs k z))) s'→Q r s') :
  wpAny (model X.prog X.w) A (call (.builtin "dict.setdefault") [.ref a,.ref b,r]) Q E s:=by
 obtain⟨zl,hd,xs,rel,dd⟩:=Ea I.hok e
 have hz:xs.length≤sizeLine:=by rw[← z5 rel];exact zl
 refine call_meetsIn x6 dd.typeIs aQm (aQi _ _ _) (PySem.meetsH_sdf (tupleKind (bJ X.prog X.w)) a b hd r)
  ⟨tupleKind_room_in1 hu,k,xs,kF I.hok eb,dd,hz,fun p hp=>?_,fun hn h' dd' hs=>?_⟩
 ·have rv:=rel.val k
  rw[hp] at rv
  cases l:cO kvs k with
  | none=>rw[l] at rv;exact absurd rv (fun z=>z)
  | some v0 =>
   rw[l] at rv
   exact h1 v0 p.2 _ l (I.tok _) rv
 ·have l:cO kvs k=none:=by
   have rv:=rel.val k
   rw[hn] at rv
   cases l:cO kvs k with
   | none=>rfl
   | some v0=>rw[l] at rv;exact absurd rv (fun z=>z)
  have hl2:(dF kvs k z).length≤sizeLine:=by have:=dC kvs k z;omega
  obtain⟨q,es,ep,hq,g2,g3,g4,_,g5⟩:=dd'
  refine h2 l _ (lE I (by rw[e];exact True.intro) hs ⟨q,hq⟩ ⟨hl2,hd,_,(rel.put k eb rz).keeps fun c ys ec=>?_,q,es,ep,hq,g2,g3,g4,g5⟩)
  rw[aE (bS ec e (fun z=>nomatch z))]
  exact ec
end
def De(td ty tx:TE):TE:=fun σ H Q=>td σ H fun x H1=>∃ a,x=.ref a∧Hj H1 a∧ty σ H1 fun y H2=>tx σ H2 fun z H3=>∃ kvs k b,H3 a=some (.dT kvs)∧kvs.length<sizeLine∧y=.ref b∧H3 b=some (.tup (k.map kV)) ∧
 (∀ v,cO kvs k=some v→Q v H3)∧(cO kvs k=none→Q z (upd H3 a (.dT (dF kvs k z))))
section
variable {X:Cx}{o e f:Expr}{apos cpos:Pos}{td ty tx:TE}
theorem AC(hu:X.A.units+1<cLine)(ho:PE X o td)(he:PE X e ty)(hf:PE X f tx)(m:M2 X o "setdefault" apos e f cpos):PE X (.Call (.Attribute o "setdefault" apos) [e,f] [] cpos) (De td ty tx):=by
 intro pins s σ H Q I h
 refine wpAny_Call_method m.base m.few m.line x3 x6 aQq (bP (ho pins s σ H _ I h) fun u s1 ⟨x,H1,I1,rx,a,ex,d,q1⟩=>?_)
 subst ex
 obtain rfl:u=Value.ref a:=rx
 obtain⟨t1,t2,_⟩:=sZ I1 d
 refine⟨t1,t2,?_⟩
 rw[m.trees]
 refine q8 rfl (y4 (r6 (bP (he pins s1 σ H1 _ I1 q1) fun iv s2 ⟨y,H2,I2,ry,q2⟩ =>
  r6 (bP (hf pins s2 σ H2 _ I2 q2) fun fv s3 ⟨z,H3,I3,rz,kvs,k,b,ea,hl,ey,eb,q3,q4⟩=>aQJ ?_))))
 subst ey
 cases (show iv=Value.ref b from ry)
 exact DB hu I3 ea eb hl rz (fun v w' s4 l I4 rw'=>⟨v,H3,I4,rw',q3 v l⟩) fun l s4 I4=>⟨z,_,I4,rz,q4 l⟩
end
end L2
namespace PySem
section
variable {prog:Program}{w:World}{A:Around}{E:Value→Shared→Prop}{s:Shared}{l:Addr}{xs:Array (Int×Tok)}
theorem mT{Q:Value→Shared→Prop}(hl:s.heap.IsTuple l (intItems xs))
  (h:∀ s₂:Shared,s₂={ s with heap:=s.heap.push { cls:=.type "tuple_iterator",data:=.fields #[.ref l,.int 0 0] } } →
   (s₂.heap.IsTupleIter s.heap.objs.size l 0∧s₂.heap.IsTuple l (intItems xs))→(∀ b∈[s.heap.objs.size,l],b<s₂.heap.objs.size)→l≠s.heap.objs.size→Q (.ref s.heap.objs.size) s₂) :
  wpAny (model prog w) A (pyIter (.ref l)) Q E s:=by
 have hlt:l<s.heap.objs.size:=by obtain⟨_,e,_⟩:=hl;exact c7 e
 refine wpAny_pyIter_tuple hl (h _ rfl ⟨⟨_,g8 _ rfl,rfl,rfl⟩,hl.push _⟩ (fun b hb=>?_) (d5 hlt))
 show b<(s.heap.push _).objs.size
 rw[aQp]
 rcases c4.mp hb with rfl | hb
 ·exact aXC _
 ·rcases c4.mp hb with rfl | hb
  ·exact aZE hlt
  ·cases hb
theorem qR{h':Heap}(hk:∀ b o,b ∉ [s.heap.objs.size]→(s.heap.push { cls:=.type "tuple_iterator",data:=.fields #[.ref l,.int 0 0] }).get? b=some o→h'.get? b=some o) :
  ∀ b o,s.heap.get? b=some o→h'.get? b=some o:=fun b o e=>by
 refine hk b o (fun hm=>?_) (c0 _ e)
 rcases c4.mp hm with e1 | hm
 ·exact absurd (e1 ▸ c7 e) (x0 _)
 ·cases hm
theorem xT{Q:Value→Shared→Prop}(hh:A.handled=none)(hl:s.heap.IsTuple l (intItems xs))(hne:0<xs.size)
  (h:∀ v h' tk,(intItems xs)[argBest (fun i j=>decide (numAt xs i > numAt xs j)) (xs.size - 1)]?=some v→(∀ b o,s.heap.get? b=some o→h'.get? b=some o)→Q v { s with heap:=h',toks:=tk }) :
  wpAny (model prog w) A (call (.builtin "max") [.ref l]) Q E s:=by
 refine call_max_walk (mT hl fun s₂ e st hfp hlI=>?_)
 subst e
 refine⟨_,_,_,_,_,_,_,rfl,aJH (A:=A.in1) hh _ l hlI (intItems xs),st,hfp,by simpa [intItems] using hne,CmpOf.ints_gt (numAt xs) (fun _ _=>intItems_at),fun v h' tk hP hk=>?_⟩
 exact h v h' tk (by simpa [intItems] using hP) (qR hk)
theorem xL{Q:Value→Shared→Prop}(hh:A.handled=none)(hl:s.heap.IsTuple l (intItems xs))(hne:0<xs.size)
  (h:∀ v h' tk,(intItems xs)[argBest (fun i j=>decide (numAt xs i<numAt xs j)) (xs.size - 1)]?=some v→(∀ b o,s.heap.get? b=some o→h'.get? b=some o)→Q v { s with heap:=h',toks:=tk }) :
  wpAny (model prog w) A (call (.builtin "min") [.ref l]) Q E s:=by
 refine call_min_walk (mT hl fun s₂ e st hfp hlI=>?_)
 subst e
 refine⟨_,_,_,_,_,_,_,rfl,aJH (A:=A.in1) hh _ l hlI (intItems xs),st,hfp,by simpa [intItems] using hne,CmpOf.ints_lt (numAt xs) (fun _ _=>intItems_at),fun v h' tk hP hk=>?_⟩
 exact h v h' tk (by simpa [intItems] using hP) (qR hk)
end
end PySem
namespace L2
open PySem PySem.Spec PyProof.Rows
section
variable {X:Cx}{K:b0}
theorem vC{a b:Int}{its:List Value}(rv:Vals [V.int a,V.int b] its):∃ ps:Array (Int×Tok),its.toArray=intItems ps∧ps.size=2∧numAt ps 0=a∧numAt ps 1=b:=by
 cases rv with
 | cons r1 rv =>
  cases rv with
  | cons r2 rv =>
   cases rv
   obtain⟨t,rfl⟩:=r1
   obtain⟨u,rfl⟩:=r2
   exact⟨#[(a,t),(b,u)],by simp[intItems],rfl,rfl,rfl⟩
theorem pU(hK:X.K=K)(hc:X.calm=true):dX X (.builtin "min") (fun xs H Q=>∃ (t:Addr) (a b:Int),xs=[.ref t]∧SqT K H t [.int a,.int b]∧Q (.int (min a b)) H):=by
 subst hK
 intro pins s σ H xs us Q I r h
 obtain⟨t,a,b,rfl,hq,q⟩:=h
 obtain⟨u,rfl,ru⟩:=r.one
 cases ru
 obtain⟨its,rv,pl,_⟩:=I.tuple hq
 obtain⟨ps,hps,hsz,n0,n1⟩:=vC rv
 have hl:s.heap.IsTuple t (intItems ps):=by rw[← hps];exact pl
 refine xL (I.ok.hd hc) hl (by omega) fun v h' tk hv hk=>?_
 obtain⟨t',rfl⟩:=intItems_at hv
 refine⟨.int (min a b),H,I.kept (t':=tk) hk,⟨t',?_⟩,q⟩
 congr 1
 rw[hsz]
 show numAt ps (if decide (numAt ps 1<numAt ps 0)=true then 1 else 0)=min a b
 by_cases z:b<a
 ·rw[n0,n1,decide_eq_true z,if_pos rfl,n1];omega
 ·rw[n0,n1,decide_eq_false z,if_neg (by decide),n0];omega
theorem pW(hK:X.K=K)(hc:X.calm=true):dX X (.builtin "max") (fun xs H Q=>∃ (t:Addr) (a b:Int),xs=[.ref t]∧SqT K H t [.int a,.int b]∧Q (.int (max a b)) H):=by
 subst hK
 intro pins s σ H xs us Q I r h
 obtain⟨t,a,b,rfl,hq,q⟩:=h
 obtain⟨u,rfl,ru⟩:=r.one
 cases ru
 obtain⟨its,rv,pl,_⟩:=I.tuple hq
 obtain⟨ps,hps,hsz,n0,n1⟩:=vC rv
 have hl:s.heap.IsTuple t (intItems ps):=by rw[← hps];exact pl
 refine xT (I.ok.hd hc) hl (by omega) fun v h' tk hv hk=>?_
 obtain⟨t',rfl⟩:=intItems_at hv
 refine⟨.int (max a b),H,I.kept (t':=tk) hk,⟨t',?_⟩,q⟩
 congr 1
 rw[hsz]
 show numAt ps (if decide (numAt ps 1 > numAt ps 0)=true then 1 else 0)=max a b
 by_cases z:b > a
 ·rw[n0,n1,decide_eq_true z,if_pos rfl,n1];omega
 ·rw[n0,n1,decide_eq_false z,if_neg (by decide),n0];omega
end
def FA(z:Int):Value→Bool
 | .int n _=>n == z
 | _=>false
theorem xV{X:Cx}{K:b0}(hK:X.K=K):A8 X "list.index" (fun x xs H Q=>∃ (a:Addr) (ns:List Int) (z:Int) (j:Nat),x=.ref a∧xs=[.int z]∧SqL K H a (ns.map V.int)∧ns[j]?=some z∧(∀ m,m<j→ns[m]?≠some z)∧j<1000∧Q (.int ((j:Nat):Int)) H):=by
 subst hK
 intro pins s σ H x xs v us Q I rx rs h
 obtain⟨a,ns,z,j,rfl,rfl,hq,hj,hno,hsm,q⟩:=h
 cases rx
 obtain⟨u,rfl,ru⟩:=rs.one
 obtain⟨t,rfl⟩:=ru
 obtain⟨its,r,pl,_⟩:=I.list hq
 obtain⟨hlen,hi⟩:=nX r
 obtain⟨⟨cls,dd,data,sl⟩,ho,hc,n,hd⟩:=id pl.isList
 simp only at hc hd
 subst hc hd
 have at':∀ m,(hm:m<its.length)→∃ w t,ns[m]?=some w∧its[m]=.int w t:=fun m hm=>by
  obtain⟨t,e⟩:=hi m _ (a9 hm)
  obtain⟨w,hw⟩:∃ w,ns[m]?=some w:=⟨_,a9 (by omega)⟩
  rw[hw] at e
  exact⟨w,t,hw,e⟩
 have hj':j<its.length:=by rw[hlen];exact(a8.mp hj).1
 refine call_meets aXT ⟨_,ho,rfl⟩ PySem.F.entry_list_index (PySem.F.args_list_index_2 _ _) (SeqAt.list_indexAt a its.toArray n dd sl (.int z t) (FA z) j (by simpa using hj') (by omega) ?_ ?_) ⟨ho,fun y hy=>?_,?_⟩
 ·obtain⟨w,tw,h1,h2⟩:=at' j hj'
  rw[hj] at h1
  cases h1
  show FA z its[j]=true
  rw[h2]
  exact beq_self_eq_true z
 ·intro m hm hmj
  have hm':m<its.length:=by simpa using hm
  obtain⟨w,tw,h1,h2⟩:=at' m hm'
  show FA z its[m]=false
  rw[h2]
  refine beq_eq_false_iff_ne.mpr fun e=>hno m hmj ?_
  rw[h1,e]
 ·obtain⟨i,hi',rfl⟩:=aXg (show y∈its by simpa using hy)
  obtain⟨w,tw,_,h2⟩:=at' i hi'
  rw[h2]
  exact aQV w tw z t
 ·exact⟨.int _,H,I.tok _,⟨_,rfl⟩,q⟩
end L2
namespace Lw
open PySem PySem.Spec PyProof.Rows L2 Ma MaR
abbrev Wy:=Nat×Nat×Nat
def jX(ws:List Wy)(p c q:Nat):Prop:=(p,c,q)∈ws∨∃ d,c=aU d∧(q,d,p)∈ws
def Ip(ws:List Wy)(g:Nat→Nat→Option Nat):Prop:=∀ p c q,g p c=some q→jX ws p c q
def IsWy(H:Hp)(v:V)(e:Wy):Prop:=∃ t,v=.ref t∧H t=some (.tup [.int (e.1:Nat),.str (S [e.2.1]),.int (e.2.2:Nat)])
def fI(p c:Nat):List cI:=[.inl (p:Nat),.inr (S [c])]
theorem CF{p c p' c':Nat}(h:fI p c=fI p' c'):p=p'∧c=c':=by
 unfold fI at h
 injection h with h1 h2
 injection h2 with h2 _
 exact⟨by have:=aZJ h1;omega,yH h2⟩
def TabW(kvs:List (List cI×V))(g:Nat→Nat→Option Nat):Prop:=∀ p c,cO kvs (fI p c)=(g p c).map fun (q:Nat)=>V.int q
theorem TabW.nil:TabW [] fun _ _=>none:=fun _ _=>rfl
theorem TabW.put{kvs:List (List cI×V)}{g:Nat→Nat→Option Nat}(h:TabW kvs g)(p c q:Nat):TabW (dF kvs (fI p c) (.int (q:Nat))) fun p' c'=>if p'=p∧c'=c then some q else g p' c':=fun p' c'=>by
 show _=((if p'=p∧c'=c then some q else g p' c').map fun (q:Nat)=>V.int q)
 rw[CP]
 by_cases z:p'=p∧c'=c
 ·obtain⟨rfl,rfl⟩:=z
  rw[if_pos rfl,if_pos ⟨rfl,rfl⟩]
  rfl
 ·rw[if_neg (fun e=>z (CF e)),if_neg z]
  exact h p' c'
def BD(ws:List Wy):Prop:=∀ p c q q',jX ws p c q→jX ws p c q'→q=q'
def wN(K:b0):Sp:=fun vs H Q _=>∃ (l:Addr) (vs':List V) (ws:List Wy),vs=[.ref l]∧H l=some (.lst vs')∧vs'.length=ws.length∧(∀ (i:Nat) (v:V) (e:Wy),vs'[i]?=some v→ws[i]?=some e→IsWy H v e)∧ws.length≤200∧(∀ e∈ws,cR e.2.1∧bW e.2.1=true) ∧
 (∀ H',Same H H'→BD ws→Q .non H')∧(∀ (x y:Nat) (p:Addr) (H':Hp),Same H H'→x≠y→(∃ a c,jX ws a c x∧jX ws a c y)→H' p=some (.tup [.int (x:Nat),.int (y:Nat)])→Q (.ref p) H')
def gF:Nat→List (List Nat)→Nat→Nat→Nat→Prop
 | _,[],_,_,_=>False
 | B,w::r,p,c,q=>FlE B w w.length p c q∨gF (B+w.length) r p c q
def zS:Nat→Nat→List (List Nat)→Nat→Nat
 | _,B,[],x=>B+x
 | N,B,w::r,x=>if x<N+(w.length - 1) then B+(x - N) else zS (N+(w.length - 1)) (B+w.length) r x
def pZ(rs:List (List Nat))(x:Nat):Nat:=if x=0 then 0 else zS 1 1 rs x
theorem pK:∀ (rs:List (List Nat)) (N B x:Nat),N≤x→B≤zS N B rs x
 | [],N,B,x,_=>aXK _ _
 | w::r,N,B,x,h=>by
  unfold zS
  split
  ·omega
  ·exact j0 (aXK _ _) (pK r (N+(w.length - 1)) (B+w.length) x (by omega))
theorem zB:∀ (rs:List (List Nat)) (N B x y:Nat),N≤x→N≤y→zS N B rs x=zS N B rs y→x=y
 | [],N,B,x,y,_,_,e=>by
  have:B+x=B+y:=e
  omega
 | w::r,N,B,x,y,hx,hy,e=>by
  unfold zS at e
  by_cases h1:x<N+(w.length - 1)
  ·by_cases h2:y<N+(w.length - 1)
   ·rw[if_pos h1,if_pos h2] at e;omega
   ·rw[if_pos h1,if_neg h2] at e
    have:=pK r (N+(w.length - 1)) (B+w.length) y (by omega)
    omega
  ·by_cases h2:y<N+(w.length - 1)
   ·rw[if_neg h1,if_pos h2] at e
    have:=pK r (N+(w.length - 1)) (B+w.length) x (by omega)
    omega
   ·rw[if_neg h1,if_neg h2] at e
    exact zB r _ _ x y (by omega) (by omega) e
theorem iG{rs:List (List Nat)}{x y:Nat}(e:pZ rs x=pZ rs y):x=y:=by
 unfold pZ at e
 by_cases h1:x=0
 ·by_cases h2:y=0
  ·omega
  ·rw[if_pos h1,if_neg h2] at e
   have:=pK rs 1 1 y (by omega)
   omega
 ·by_cases h2:y=0
  ·rw[if_neg h1,if_pos h2] at e
   have:=pK rs 1 1 x (by omega)
   omega
  ·rw[if_neg h1,if_neg h2] at e
   exact zB rs 1 1 x y (by omega) (by omega) e
theorem jE{N B:Nat}{w:List Nat}{f:Nat→Nat}(hN:1≤N)(h0:f 0=0)(hf:∀ x,N≤x→x<N+(w.length - 1)→f x=B+(x - N)){j:Nat}(hj:j≤w.length):f (bF N w.length j)=bF B w.length j:=by
 unfold bF
 by_cases q:j=0∨j=w.length
 ·rw[if_pos q,if_pos q];exact h0
 ·rw[if_neg q,if_neg q,hf _ (by omega) (by omega)]
  omega
theorem FlE.io{N B:Nat}{w:List Nat}{f:Nat→Nat}(hN:1≤N)(h0:f 0=0)(hf:∀ x,N≤x→x<N+(w.length - 1)→f x=B+(x - N)){p c q:Nat}(h:FlE N w w.length p c q):FlE B w w.length (f p) c (f q):=by
 obtain⟨j,hj,d,hd,h⟩:=h
 refine⟨j,hj,d,hd,?_⟩
 rcases h with ⟨rfl,rfl,rfl⟩ | ⟨rfl,rfl,rfl⟩
 ·exact .inl ⟨rfl,jE hN h0 hf (by omega),jE hN h0 hf (by omega)⟩
 ·exact .inr ⟨rfl,jE hN h0 hf (by omega),jE hN h0 hf (by omega)⟩
theorem FlE.oi{N B:Nat}{w:List Nat}{f:Nat→Nat}(hN:1≤N)(h0:f 0=0)(hf:∀ x,N≤x→x<N+(w.length - 1)→f x=B+(x - N)){p c q:Nat}(h:FlE B w w.length p c q):∃ p' q',p=f p'∧q=f q'∧FlE N w w.length p' c q':=by
 obtain⟨j,hj,d,hd,h⟩:=h
 rcases h with ⟨rfl,rfl,rfl⟩ | ⟨rfl,rfl,rfl⟩
 ·exact⟨_,_,(jE hN h0 hf (by omega)).symm,(jE hN h0 hf (by omega)).symm,j,hj,_,hd,.inl ⟨rfl,rfl,rfl⟩⟩
 ·exact⟨_,_,(jE hN h0 hf (by omega)).symm,(jE hN h0 hf (by omega)).symm,j,hj,_,hd,.inr ⟨rfl,rfl,rfl⟩⟩
theorem yU:∀ (rs:List (List Nat)) (N B:Nat) (f:Nat→Nat),1≤N→f 0=0→(∀ x,N≤x→f x=zS N B rs x)→∀ {p c q:Nat},bT N rs p c q→gF B rs (f p) c (f q)
 | [],_,_,_,_,_,_,_,_,_,h=>h.elim
 | w::r,N,B,f,hN,h0,hf,p,c,q,h=>by
  rcases h with h | h
  ·exact .inl (h.io hN h0 fun x h1 h2=>by rw[hf x h1];unfold zS;rw[if_pos h2])
  ·exact .inr (yU r (N+(w.length - 1)) (B+w.length) f (by omega) h0 (fun x hx=>by rw[hf x (by omega)];unfold zS;rw[if_neg (by omega)];cases r <;> rfl) h)
theorem yW:∀ (rs:List (List Nat)) (N B:Nat) (f:Nat→Nat),1≤N→f 0=0→(∀ x,N≤x→f x=zS N B rs x)→∀ {p c q:Nat},gF B rs p c q→∃ p' q',p=f p'∧q=f q'∧bT N rs p' c q'
 | [],_,_,_,_,_,_,_,_,_,h=>h.elim
 | w::r,N,B,f,hN,h0,hf,p,c,q,h=>by
  rcases h with h | h
  ·obtain⟨p',q',a,b,d⟩:=h.oi (f:=f) hN h0 fun x h1 h2=>by rw[hf x h1];unfold zS;rw[if_pos h2]
   exact⟨p',q',a,b,.inl d⟩
  ·obtain⟨p',q',a,b,d⟩:=yW r (N+(w.length - 1)) (B+w.length) f (by omega) h0 (fun x hx=>by rw[hf x (by omega)];unfold zS;rw[if_neg (by omega)];cases r <;> rfl) h
   exact⟨p',q',a,b,.inr d⟩
theorem sU(rs:List (List Nat)):pZ rs 0=0∧∀ x,1≤x→pZ rs x=zS 1 1 rs x:=⟨by unfold pZ;rw[if_pos rfl],fun x hx=>by unfold pZ;rw[if_neg (by omega)]⟩
theorem Fe{rs:List (List Nat)}{u v:Nat}(h:Rel (gF 1 rs) u v):u=v∨∃ x y,u=pZ rs x∧v=pZ rs y∧Rel (bT 1 rs) x y:=by
 obtain⟨z0,z1⟩:=sU rs
 induction h with
 | refl x=>exact .inl rfl
 | symm _ ih =>
  rcases ih with rfl | ⟨x,y,a,b,r⟩
  ·exact .inl rfl
  ·exact .inr ⟨y,x,b,a,r.symm⟩
 | trans _ _ h1 h2 =>
  rcases h1 with rfl | ⟨x,y,a,b,r⟩
  ·exact h2
  ·rcases h2 with rfl | ⟨x',y',a',b',r'⟩
   ·exact .inr ⟨x,y,a,b,r⟩
   ·have:y=x':=iG (b.symm.trans a')
    subst this
    exact .inr ⟨x,y',a,b',r.trans r'⟩
 | go _ g1 g2 ih =>
  obtain⟨p,q,rfl,rfl,e1⟩:=yW rs 1 1 (pZ rs) (b5 _) z0 z1 g1
  obtain⟨p',q',rfl,rfl,e2⟩:=yW rs 1 1 (pZ rs) (b5 _) z0 z1 g2
  refine .inr ⟨q,q',rfl,rfl,?_⟩
  rcases ih with e | ⟨x,y,a,b,r⟩
  ·rw[iG e] at e1
   exact .go (.refl _) e1 e2
  ·rw[iG a] at e1
   rw[iG b] at e2
   exact .go r e1 e2
theorem FO{rs:List (List Nat)}{x y:Nat}(h:Rel (bT 1 rs) x y):Rel (gF 1 rs) (pZ rs x) (pZ rs y):=by
 obtain⟨z0,z1⟩:=sU rs
 induction h with
 | refl x=>exact .refl _
 | symm _ ih=>exact .symm ih
 | trans _ _ a b=>exact .trans a b
 | go _ a b ih=>exact .go ih (yU rs 1 1 (pZ rs) (b5 _) z0 z1 a) (yU rs 1 1 (pZ rs) (b5 _) z0 z1 b)
theorem DK{rs:List (List Nat)}{ν:Nat→Nat}{δ:Nat→Nat→Option Nat}(hr:∀ x y,ν x=ν y↔Rel (gF 1 rs) x y)(hto:∀ p c q,gF 1 rs p c q→δ (ν p) c=some (ν q))(hof:∀ s c g,δ s c=some g→∃ p q,gF 1 rs p c q∧ν p=s∧ν q=g):Aut rs (fun x=>ν (pZ rs x)) δ 0:=by
 obtain⟨z0,z1⟩:=sU rs
 refine⟨fun x y=>⟨fun e=>?_,fun r=>(hr _ _).mpr (FO r)⟩,fun p c q h=>hto _ _ _ (yU rs 1 1 (pZ rs) (b5 _) z0 z1 h),fun s c g h=>?_⟩
 ·rcases Fe ((hr _ _).mp e) with e | ⟨x',y',a,b,r⟩
  ·rw[iG e];exact .refl _
  ·rw[iG a,iG b];exact r
 ·obtain⟨p,q,h1,h2,h3⟩:=hof s c g h
  obtain⟨p',q',rfl,rfl,e⟩:=yW rs 1 1 (pZ rs) (b5 _) z0 z1 h1
  exact⟨p',q',e,h2,h3⟩
end Lw
namespace L2
open PySem PySem.Spec PyProof.Rows
theorem Fs{a b d:V}{us:List Value}(r:Vals [a,b,d] us):∃ ua ub ud,us=[ua,ub,ud]∧RelV a ua∧RelV b ub∧RelV d ud:=by
 cases r with
 | cons ra r =>
  cases r with
  | cons rb r =>
   cases r with
   | cons rd r =>
    cases r
    exact⟨_,_,_,rfl,ra,rb,rd⟩
def oO(X:Cx)(x y z:Str)(ix:List Nat):List Str:=x::y::z::ix.map fun i=>X.N.getD i ""
def bN(X:Cx)(scope:Scope)(x y z:Str)(ix:List Nat)(ex:List Addr)(s:Shared)(H:Hp):Cx:={ cA X scope x ix ex s H with N:=oO X x y z ix }
section
variable {X:Cx}{scope:Scope}{x y z:Str}{ix:List Nat}
theorem A7{σ:St}{H H':Hp}{s s':Shared}{fp:List Addr}(J:Inv (cA X scope x ix fp s H) [] (pS σ ix) H' s'):Inv (bN X scope x y z ix fp s H) [] (none::none::none::kS σ ix) H' s':=by
 refine⟨⟨J.ok.mod,J.ok.kind,J.ok.glob,J.ok.blt,J.ok.above,J.ok.inj,J.ok.has,J.ok.cab,J.ok.hd,J.ok.frames,J.ok.stk,J.ok.exf,J.ok.bs,J.ok.bsz,J.ok.noex,J.ok.exfs,J.ok.funs,J.ok.frf⟩,J.os,J.bare,J.base,?_,J.cell,J.free,J.freeC,J.pin,J.hok,?_⟩
 ·obtain⟨m,hn,hl⟩:=J.loc
  refine⟨m,hn,fun i y' v h1 h2 h3=>?_⟩
  cases i with
  | zero=>simp at h2
  | succ i =>
   cases i with
   | zero=>simp at h2
   | succ i =>
    cases i with
    | zero=>simp at h2
    | succ i=>exact hl (i+1) y' v (by simpa [cA,mS,bN,oO] using h1) (by simpa [pS,kS] using h2) h3
 ·simp[bN,oO,kS]
theorem Ap{pins:List (Addr×Obj)}{σ σ':St}{H H':Hp}{s s':Shared}{fp:List Addr}{h'':Heap}(I:Inv X pins σ H s)(hf:∀ b∈fp,gB X pins H b)(J:Inv (bN X scope x y z ix fp s H) [] σ' H' s')
  (sb:Heap.SameBut s.heap.objs.size s'.heap h''):Inv X pins σ H' { s' with heap:=h'' }:=by
 have neC:∀ b o,s.heap.get? b=some o→b≠s.heap.objs.size:=fun b o e=>d5 (c7 e)
 have B:Un (AR X.stack) fp H H' s.heap s'.heap:=J.base
 have hC:H' s.heap.objs.size=none:=J.free
 refine I.call' (ch:=fp) J.os ?_ ?_ J.bare fun b hb=>⟨(hf b hb).2.2.2.1,(hf b hb).2.1,(hf b hb).2.2.2.2.1,(hf b hb).2.2.2.2.2⟩
 ·refine⟨fun b o e n hb hx=>(sb.2 b (neC b o e)).trans (B.keep b o e n hb hx),fun b o e n hb hx=>?_,B.free,fun b o e hx=>?_,B.tups,B.frzs,B.tbls⟩
  ·obtain⟨sl,q⟩:=B.slot b o e n hb hx
   exact⟨sl,(sb.2 b (neC b o e)).trans q⟩
  ·obtain⟨o',q⟩:=B.there b o e hx
   exact⟨o',(sb.2 b (neC b o e)).trans q⟩
 ·intro b ob e
  refine(J.hok b ob e).stay (fun c w' hc q=>(sb.2 c ?_).trans q) (fun _ q=>q) fun _ _ q=>q
  rintro rfl
  rcases hc with hc | hc
  ·rw[← hc,hC] at e;cases e
  ·rw[hC] at hc;cases hc
end
def sW(K:b0)(J:It)(D:Addr)(Q:VK)(ti:TT)(te:TE)(c:St)(H0:Hp):Prop :=
 ∃ W:Nat→Nat→Hp→Prop,(∃ m,W 0 m H0)∧∀ i m H,W i m H →
  (J.stop i H∧Q (.ref D) H)∨(J.go i H∧∃ N:Hp→Prop,(∀ H',N H'→∃ m',m' < m∧W (i+1) m' H')∧∀ v H',J.yld i H v H'→∃ p a b d,v=.ref p∧SqT K H' p [a,b,d] ∧
   ti (some a::some b::some d::c) H' fun t H2=>if t=true then te (some a::some b::some d::c) H2 fun y H3=>∃ ys,H3 D=some (.lst ys)∧ys.length<sizeLine∧N (upd H3 D (.lst (ys++[y]))) else N H2)
def FM(K:b0)(wi:TI)(ix:List Nat)(ti:TT)(te:TE):TE:=fun σ H Q=>wi σ H fun J H1=>∀ D,H1 D=none→sW K J D Q ti te (kS σ ix) (upd H1 D (.lst []))
section
variable {X:Cx}{scope:Scope}{x y z:Str}{px py pz tp pos:Pos}{k1:Nat}{ix:List Nat}{elt iter:Expr}{ifs:List Expr}{wi:TI}{ti:TT}{te:TE}
theorem vJ{pins:List (Addr×Obj)}{σ:St}{H:Hp}{s:Shared}{fp:List Addr}{it D:Addr}{tn:Nat→Heap→Prop}{J:It}{Q:VK}{E:Value→Shared→Prop}{RR:Result→Shared→Prop}(S:CompSc X scope x ix)(hy:scope.names.lookup y=some .local)(hz':scope.names.lookup z=some .local)(hc:X.calm=true)
  (he:∀ s H,PE (bN X scope x y z ix fp s H) elt te) (hi:∀ s H,qG (bN X scope x y z ix fp s H) ifs ti)
  (I:Inv X pins σ H s) (T:Turn X.prog X.w X.K (.Tuple [.Name x px,.Name y py,.Name z pz] k1 tp) J fp it tn) (st:tn 0 s.heap) (hf:∀ b∈fp,gB X pins H b) (go:sW X.K J D Q ti te (kS σ ix) H)
  (nd:(oO X x y z ix).Nodup)
  (hR:∀ σ' H' s',Inv (bN X scope x y z ix fp s H) [] σ' H' s'→Q (.ref D) H'→RR (.ok .next) s') :
  wpAny (model X.prog X.w) X.A (newFunctionEnv scope X.env.globals (Aw scope.names X.env.cells) [] X.env.qual none .none (some X.env)) (fun cenv s₄=>cenv.locals=s.heap.objs.size ∧
   codeAny (model X.prog X.w) X.A (.compStart (.ListComp elt [⟨.Tuple [.Name x px,.Name y py,.Name z pz] k1 tp,iter,ifs,0⟩] scope pos) 0 (.ref it) (.ref D) { cenv with scope:=relabel scope X.env }) RR s₄) E s:=by
 refine wpAny_newFunctionEnv S.nocell (by intro y hy;simp at hy) (fun h' ns sb=>⟨rfl,?_⟩) S.kind
 have hlt:∀ b∈fp,b<s.heap.objs.size:=fun b hb=>by
  obtain⟨o,e,_⟩:=T.obj 0 _ st b hb
  exact c7 e
 have I0:Inv (bN X scope x y z ix fp s H) [] (none::none::none::kS σ ix) H { s with heap:=h',toks:=s.toks+([]:List (Str×Value)).length }:=A7 (vI S I hf hlt ns sb)
 have st0:tn 0 h':=T.keep 0 _ _ st fun b hb o e=>(sb.2 b (d5 (c7 e))).trans (c0 _ e)
 obtain⟨W,⟨m0,w0⟩,turn⟩:=go
 have stat:∀ {H':Hp},(∀ b∈fp,H' b=none)→∀ b∈fp,gB (bN X scope x y z ix fp s H) [] H' b:=fun hn b hb=>by
  refine⟨hn b hb,d5 (hlt b hb),fun zz=>?_,.inl hb,fun y c e=>(I0.ok.exf b hb).2 y c e,fun p hp=>absurd (show p∈([]:List (Addr×Obj)) from hp) (by simp)⟩
  exact I0.ok.exfs b hb zz
 have loop:codeAny (model X.prog X.w) X.A (.compLoop (.ListComp elt [⟨.Tuple [.Name x px,.Name y py,.Name z pz] k1 tp,iter,ifs,0⟩] scope pos) 0 (.ref it) (.ref D) (bN X scope x y z ix fp s H).env) RR { s with heap:=h',toks:=s.toks+([]:List (Str×Value)).length }:=by
  refine vF (fun n s'=>∃ i o o' o'' H',Inv (bN X scope x y z ix fp s H) [] (o::o'::o''::kS σ ix) H' s'∧tn i s'.heap∧(∀ b∈fp,H' b=none)∧W i n H') ?_ m0 ⟨0,none,none,none,H,I0,st0,fun b hb=>(hf b hb).1,w0⟩
  rintro n s3 ⟨i,o3,o3',o3'',H3,I3,st3,fr3,w3⟩
  rcases turn i n H3 w3 with ⟨stop,qn⟩ | ⟨gone,N,hN,step⟩
  ·refine bP (T.done (bN X scope x y z ix fp s H) rfl rfl rfl hc i [] s3 _ H3 _ I3 (stat fr3) st3 stop) fun r s4 ⟨hr,I4⟩=>?_
   subst hr
   exact hR _ H3 s4 I4 qn
  ·refine bP (T.item (bN X scope x y z ix fp s H) rfl rfl rfl hc i [] s3 _ H3 (fun _ _=>False) I3 (stat fr3) st3 gone) fun r s4 ⟨u,hr,h4⟩=>?_
   subst hr
   refine bP h4 fun _ s5 ⟨v5,H5,I5,r5,y5,st5,fr5⟩=>?_
   obtain⟨p,a,b,d,rfl,hq,hstep⟩:=step v5 H5 y5
   cases r5
   have I5':=I5.pinned (stat fr5) (T.obj _ _ st5)
   obtain⟨its,rv,ht,hz⟩:=I5'.tuple hq
   obtain⟨ua,ub,ud,rfl,ra,rb,rd⟩:=Fs rv
   refine assign_Tuple_tuple (I5'.ok.hd hc) ht (by rfl) (by rfl) fun h6 hx6=>?_
   have I6:=I5'.kept (h':=h6) (t':=s5.toks) fun b o e=>hx6 b o (d5 (c7 e)) e
   show wpAny _ _ (assignInOrder [assign (.Name x px) (bN X scope x y z ix fp s H).env,assign (.Name y py) (bN X scope x y z ix fp s H).env,assign (.Name z pz) (bN X scope x y z ix fp s H).env] [ua,ub,ud]) _ _ _
   have hx0:(bN X scope x y z ix fp s H).N[0]?=some x:=rfl
   have hy0:(bN X scope x y z ix fp s H).N[1]?=some y:=rfl
   have hz0:(bN X scope x y z ix fp s H).N[2]?=some z:=rfl
   refine assignInOrder_cons (wpAny_assign_Name (eO I6 nd hx0 (.inl (lookup_relabel_local S.x)) ra (fun s7 I7=>?_) (.inr (lookup_relabel_local S.x))))
   refine assignInOrder_cons (wpAny_assign_Name (eO I7 nd hy0 (.inl (lookup_relabel_local hy)) rb (fun s75 I75=>?_) (.inr (lookup_relabel_local hy))))
   refine assignInOrder_cons (wpAny_assign_Name (eO I75 nd hz0 (.inl (lookup_relabel_local hz')) rd (fun s8 I8=>assignInOrder_nil ?_) (.inr (lookup_relabel_local hz'))))
   refine bP (hi s H _ s8 _ H5 _ I8 hstep) fun ok s9 ⟨H9,I9,q9⟩=>?_
   have again:∀ {o7 o8 o9:Option V} {H7:Hp} {s7:Shared},Inv (bN X scope x y z ix fp s H) ([]++jK fp s5.heap) (o7::o8::o9::kS σ ix) H7 s7→N H7→∃ m,m<n∧∃ i o o' o'' H',Inv (bN X scope x y z ix fp s H) [] (o::o'::o''::kS σ ix) H' s7∧tn i s7.heap∧(∀ b∈fp,H' b=none)∧W i m H':=fun {o7 o8 o9 H7 s7} I7 n7=>by
    obtain⟨m',hm,w7⟩:=hN H7 n7
    refine⟨m',hm,i+1,o7,o8,o9,H7,I7.unpinned,T.keep _ _ _ st5 fun b hb o e=>(I7.pin (b,o) (d6 _ (d6 _ (fB hb e)))).1,fun b hb=>?_,w7⟩
    obtain⟨o,e,d⟩:=T.obj _ _ st5 b hb
    exact(I7.pin (b,o) (d6 _ (d6 _ (fB hb e)))).2.1
   cases ok with
   | false =>
    rw[if_neg (by simp)] at q9
    exact again I9 q9
   | true =>
    rw[if_pos rfl] at q9
    refine bP (he s H _ s9 _ H9 _ I9 q9) fun v s10 ⟨y10,H10,I10,r10,ys,hD,hz,n10⟩=>?_
    exact bR _ s10 _ H10 (.ref D) [y10] (.ref D) [v] _ I10 rfl (.cons r10 .nil) ⟨D,ys,y10,rfl,rfl,hD,hz,n10⟩ |> fun zz=>wpAny_mono zz (fun _ s11 ⟨_,H11,I11,_,q11⟩=>again I11 q11) fun _ _ f=>f.elim
 exact codeAny_compStart_list loop (T.self _ 0 _ _ _ st0 loop)
end
def tT(sc0 scope:Scope)(N:List Str)(x y z:Str)(ix:List Nat):Bool:=lM sc0 scope N x ix && decide (scope.names.lookup y=some .local) && decide (scope.names.lookup z=some .local) && decide ((x::y::z::ix.map fun i=>N.getD i "").Nodup)
theorem xN{K:b0}{a:Addr}{xs:List V}{D:Addr}{Q:VK}{te:TE}{c:St}{H0:Hp}(Pv:Nat→Hp→Prop)(h0:Pv 0 H0)(hl:∀ i H,i≤xs.length→Pv i H→SqL K H a xs)
  (hs:∀ i x H,xs[i]?=some x→Pv i H→∃ p u v w,x=.ref p∧SqT K H p [u,v,w]∧te (some u::some v::some w::c) H fun v H2=>∃ zs,H2 D=some (.lst zs)∧zs.length<sizeLine∧Pv (i+1) (upd H2 D (.lst (zs++[v])))) (hd:∀ H,Pv xs.length H→Q (.ref D) H) :
  sW K (Fl K a) D Q E1 te c H0:=by
 refine⟨fun i m H=>m=xs.length - i∧i≤xs.length∧Pv i H,⟨_,rfl,j6 _,h0⟩,?_⟩
 rintro i m H ⟨rfl,hi,p⟩
 have q1:=hl i H hi p
 by_cases hlt:i<xs.length
 ·refine .inr ⟨⟨xs,xs[i],q1,by simp[hlt]⟩,Pv (i+1),fun H' p'=>⟨xs.length - (i+1),by omega,rfl,hlt,p'⟩,fun v H' hv=>?_⟩
  obtain⟨rfl,hv⟩:=hv
  obtain⟨pp,x,y,w,rfl,hq,h⟩:=hs i v H' (hv xs q1) p
  exact⟨pp,x,y,w,rfl,hq,gC (B:=Pv (i+1) H') h⟩
 ·have e:i=xs.length:=by omega
  subst e
  exact .inl ⟨⟨xs,q1,b5 _⟩,hd H p⟩
def Bg(K:b0)(i:Nat)(wi:TI)(ix:List Nat)(ti:TT)(te:TE):TS:=fun D σ H=>FM K wi ix ti te σ H fun v H1=>D.nx (σ.set i (some v)) H1
section
variable {X:Cx}{scope:Scope}{x y z:Str}{px py pz tp pos:Pos}{k1:Nat}{ix:List Nat}{elt iter:Expr}{ifs:List Expr}{wi:TI}{ti:TT}{te:TE}
theorem Ca{i:Nat}{w:Str}{pw spos:Pos}(hN:X.N.Nodup)(hw:X.N[i]?=some w)(hwl:X.env.scope.names.lookup w=some .local)(S:CompSc X scope x ix)(hy:scope.names.lookup y=some .local)(hz':scope.names.lookup z=some .local)(nd:(oO X x y z ix).Nodup)(hc:X.calm=true)(hi:PI X (.Tuple [.Name x px,.Name y py,.Name z pz] k1 tp) iter wi)
  (hif:∀ fp s H,qG (bN X scope x y z ix fp s H) ifs ti) (he:∀ fp s H,PE (bN X scope x y z ix fp s H) elt te)
  (hsw:swapsWith (.ListComp elt [⟨.Tuple [.Name x px,.Name y py,.Name z pz] k1 tp,iter,ifs,0⟩] scope pos) (some (.Name w pw)) spos.line X.env=pure true:=by rfl)
  (hs:∀ z',foldedSetIterable iter X.env z'=pure z':=by intro _;rfl):PS X (.Assign [.Name w pw] (.ListComp elt [⟨.Tuple [.Name x px,.Name y py,.Name z pz] k1 tp,iter,ifs,0⟩] scope pos) spos) (Bg X.K i wi ix ti te):=by
 intro pins s σ H D I h
 rw[exec_Assign_Name_used _ _ _ _ hsw]
 refine wpAny_bind (wpAny_standAt (wpAny_bind ?_))
 show wpAny _ X.A (do let _ ← comprehension (.ListComp elt [⟨.Tuple [.Name x px,.Name y py,.Name z pz] k1 tp,iter,ifs,0⟩] scope pos) scope X.env _ (newList []) false (eval iter X.env) (some (assign (.Name w pw) X.env))) _ _ s
 refine wpAny_bind (wpAny_mono (wpAny_comprehension_free (use:=some (assign (.Name w pw) X.env)) (Q:=fun _ s'=>SP X pins D .next s') rfl hs (gK (S.cells I.ok)) S.kind S.loc (bP (hi pins s σ H _ I h) fun v s1 h1=>bP h1 fun itv s2 h2=>?_)) (fun _ s' hq=>wpAny_pure (wpAny_pure hq)) fun _ _ e=>e)
 obtain⟨it,fp,tn,J,H2,rfl,I2,T,st2,f2,q⟩:=h2
 refine wpAny_newObj_type ?_
 have fr:=I2.fresh
 have I3:Inv X pins σ (upd H2 s2.heap.objs.size (.lst [])) { s2 with heap:=s2.heap.push { cls:=.type "list",data:=.seq ([]:List Value).toArray } }:=I2.lnew (t':=s2.toks) .nil (j6 _)
 have hD:∀ b∈fp,b≠s2.heap.objs.size:=fun b hb=>by
  obtain⟨o,e,_⟩:=T.obj 0 _ st2 b hb
  exact d5 (c7 e)
 have f3:=Inv.fp_upd (o:=.lst []) f2 hD
 have st3:tn 0 (s2.heap.push { cls:=.type "list",data:=.seq ([]:List Value).toArray }):=T.keep 0 _ _ st2 fun b hb o e=>c0 _ e
 refine bP (vJ (px:=px) (py:=py) (pz:=pz) (tp:=tp) (k1:=k1) (pos:=pos) (iter:=iter) (E:=X.xe) (RR:=compPost (model X.prog X.w) X.A X.xe (some (assign (.Name w pw) X.env)) (fun _ s'=>SP X pins D .next s') (.ref s2.heap.objs.size) (s2.heap.push { cls:=.type "list",data:=.seq ([]:List Value).toArray }).objs.size) S hy hz' hc (he fp) (hif fp) I3 T st3 f3 (q _ fr) nd ?_) fun cenv s4 ⟨e,zz⟩=>?_
 ·intro σ' H' s' J' q'
  have neL:(s2.heap.push { cls:=.type "list",data:=.seq ([]:List Value).toArray }).objs.size≠X.env.locals:=aQc I3.lt
  have I4:Inv X pins σ H' { s' with heap:=s'.heap }:=Ap I3 f3 J' (.refl ..)
  show wpAny (model X.prog X.w) X.A (assign (.Name w pw) X.env (.ref s2.heap.objs.size)) _ X.xe s'
  refine wpAny_assign_Name (lR (s:=s') I4 hN hw (.inl hwl) (show RelV (.ref s2.heap.objs.size) _ from rfl) (fun s6 I6 ⟨a,sb,ha⟩=>?_) (.inr hwl))
  have ha':a≠(s2.heap.push { cls:=.type "list",data:=.seq ([]:List Value).toArray }).objs.size:=by
   rcases ha with ha | ha
   ·rw[ha];exact x4 neL
   ·obtain⟨v,z⟩:=I3.cell w a ha
    exact d5 z.lt
  obtain⟨m,hn,_⟩:=J'.loc
  refine⟨m,hn.sameBut sb (x4 ha'),fun h'' sb2=>⟨σ.set i (some (.ref s2.heap.objs.size)),H',?_,q'⟩⟩
  -- the block's dict is not ours: its change is no matter
  have I7:Inv X pins (σ.set i (some (.ref s2.heap.objs.size))) H' s6:=I6
  have hCn:H' (s2.heap.push { cls:=.type "list",data:=.seq ([]:List Value).toArray }).objs.size=none:=J'.free
  refine I7.turned (s:=s6) (t':=s6.toks) (it:=(s2.heap.push { cls:=.type "list",data:=.seq ([]:List Value).toArray }).objs.size) (fun b o hb e=>(sb2.2 b hb).trans e) hCn neL (.inr (j0 I3.sz (b5 _))) (fun y c e z=>?_) fun p hp z=>?_
  ·obtain⟨v,q⟩:=I3.cell y c e
   exact absurd z (d5 q.lt)
  ·exact absurd z (d5 (c7 (I3.pin p hp).1))
 ·rw[← show cenv.locals=(s2.heap.push { cls:=.type "list",data:=.seq ([]:List Value).toArray }).objs.size from e] at zz;exact zz
theorem As{K:b0}{i:Nat}{w:Str}{pw spos:Pos}{sc0:Scope}{N:List Str}(hN:X.N.Nodup)(hw:X.N[i]?=some w)(hwl:X.env.scope.names.lookup w=some .local)(h:tT sc0 scope N x y z ix=true)(hK:X.K=K)(e1:X.env.scope=sc0)(e2:X.N=N)(hc:X.calm=true)(hi:PI X (.Tuple [.Name x px,.Name y py,.Name z pz] k1 tp) iter wi)
  (hif:∀ fp s H,qG (bN X scope x y z ix fp s H) ifs ti) (he:∀ fp s H,PE (bN X scope x y z ix fp s H) elt te)
  (hsw:swapsWith (.ListComp elt [⟨.Tuple [.Name x px,.Name y py,.Name z pz] k1 tp,iter,ifs,0⟩] scope pos) (some (.Name w pw)) spos.line X.env=pure true:=by rfl)
  (hs:∀ z',foldedSetIterable iter X.env z'=pure z':=by intro _;rfl):PS X (.Assign [.Name w pw] (.ListComp elt [⟨.Tuple [.Name x px,.Name y py,.Name z pz] k1 tp,iter,ifs,0⟩] scope pos) spos) (Bg K i wi ix ti te):=by
 subst hK
 unfold tT at h
 rw[r9,r9,r9,decide_eq_true_iff,decide_eq_true_iff,decide_eq_true_iff] at h
 refine Ca hN hw hwl (gQ h.1.1.1 e1 e2).1 h.1.1.2 h.1.2 ?_ hc hi hif he hsw hs
 subst e2
 exact h.2
end
end L2
namespace Lw
open PySem PySem.Spec PyProof.Rows L2 Ma MaR
def gA(B m j d:Nat):Wy:=if bW d=true then (bF B m j,d,bF B m (j+1)) else (bF B m (j+1),aU d,bF B m j)
def qA(B:Nat)(w:List Nat):List Wy:=w.zipIdx.map fun dj=>gA B w.length dj.2 dj.1
def eT:Nat→List (List Nat)→List Wy
 | _,[]=>[]
 | B,w::r=>qA B w++eT (B+w.length) r
def jJ:Nat→List (List Nat)→Nat
 | B,[]=>B
 | B,w::r=>jJ (B+w.length) r
theorem lN:∀ (B:Nat) (rs:List (List Nat)),jJ B rs=B+(rs.map List.length).sum
 | B,[]=>rfl
 | B,w::r=>by
  show jJ (B+w.length) r=_
  rw[lN (B+w.length) r,d3,p8]
  omega
theorem pX(w:List Nat):∀ (B:Nat) (rs:List (List Nat)),eT B (rs++[w])=eT B rs++qA (jJ B rs) w
 | B,[]=>by show qA B w++[]=[]++qA B w;rw[m6,List.nil_append]
 | B,x::rs=>by
  show qA B x++eT (B+x.length) (rs++[w])=(qA B x++eT (B+x.length) rs)++qA (jJ (B+x.length) rs) w
  rw[pX w,k7]
theorem rZ(w:List Nat):∀ (B:Nat) (rs:List (List Nat)),jJ B (rs++[w])=jJ B rs+w.length
 | B,[]=>rfl
 | B,x::rs=>rZ w (B+x.length) rs
theorem nO(B:Nat)(w:List Nat):(qA B w).length=w.length:=by unfold qA;rw[b7,aXv]
theorem mK:∀ (B:Nat) (rs:List (List Nat)),(eT B rs).length=(rs.map List.length).sum
 | B,[]=>rfl
 | B,w::r=>by
  show (qA B w++eT (B+w.length) r).length=_
  rw[b9,nO,mK,d3,p8]
theorem sI{B:Nat}{w:List Nat}{j d:Nat}(h:w[j]?=some d):(qA B w)[j]?=some (gA B w.length j d):=by
 unfold qA
 rw[c5,aX6,h]
 show some (gA B w.length (0+j) d)=_
 rw[aJD]
theorem CM{B:Nat}{w:List Nat}{j d:Nat}(h:w[j]?=some d):(qA B w).take (j+1)=(qA B w).take j++[gA B w.length j d]:=by
 rw[m4,sI h]
 rfl
theorem wyW_mem{B:Nat}{w:List Nat}{e:Wy}:e∈qA B w↔∃ j d,w[j]?=some d∧e=gA B w.length j d:=by
 constructor
 ·intro h
  obtain⟨j,hj⟩:=l8 h
  have hl:j<w.length:=by rw[← nO B w];exact(a8.mp hj).1
  have hd:w[j]?=some w[j]:=a9 hl
  rw[sI hd] at hj
  exact⟨j,_,hd,(i3 hj).symm⟩
 ·rintro⟨j,d,hd,rfl⟩
  exact b6 (sI hd)
theorem B2{B m j d:Nat}(hd:cR d):cR (gA B m j d).2.1∧bW (gA B m j d).2.1=true:=by
 unfold gA
 split
 ·rename_i h;exact⟨hd,h⟩
 ·rename_i h
  refine⟨dM hd,?_⟩
  show bW (aU d)=true
  unfold bW aU at *
  unfold cR at hd
  simp at h
  split <;> simp <;> omega
theorem Db{a b:List Wy}{p c q:Nat}:jX (a++b) p c q↔jX a p c q∨jX b p c q:=by
 unfold jX
 constructor
 ·rintro(h | ⟨d,e,h⟩)
  ·rcases i5.mp h with h | h
   ·exact .inl (.inl h)
   ·exact .inr (.inl h)
  ·rcases i5.mp h with h | h
   ·exact .inl (.inr ⟨d,e,h⟩)
   ·exact .inr (.inr ⟨d,e,h⟩)
 ·rintro((h | ⟨d,e,h⟩) | (h | ⟨d,e,h⟩))
  ·exact .inl (l7 _ h)
  ·exact .inr ⟨d,e,l7 _ h⟩
  ·exact .inl (d6 _ h)
  ·exact .inr ⟨d,e,d6 _ h⟩
theorem Hx{B:Nat}{w:List Nat}(hw:AllL w){p c q:Nat}:jX (qA B w) p c q↔FlE B w w.length p c q:=by
 have hL:∀ {j d},w[j]?=some d→cR d:=fun h=>hw _ (b6 h)
 constructor
 ·rintro(h | ⟨d,rfl,h⟩)
  ·obtain⟨j,e,he,z⟩:=wyW_mem.mp h
   refine⟨j,(a8.mp he).1,e,he,?_⟩
   unfold gA at z
   split at z
   ·obtain⟨rfl,rfl,rfl⟩:p=_∧c=_∧q=_:=by simpa using z
    exact .inl ⟨rfl,rfl,rfl⟩
   ·obtain⟨rfl,rfl,rfl⟩:p=_∧c=_∧q=_:=by simpa using z
    exact .inr ⟨rfl,rfl,rfl⟩
  ·obtain⟨j,e,he,z⟩:=wyW_mem.mp h
   refine⟨j,(a8.mp he).1,e,he,?_⟩
   unfold gA at z
   split at z
   ·obtain⟨rfl,rfl,rfl⟩:q=_∧d=_∧p=_:=by simpa using z
    exact .inr ⟨rfl,rfl,rfl⟩
   ·obtain⟨rfl,rfl,rfl⟩:q=_∧d=_∧p=_:=by simpa using z
    exact .inl ⟨bV (hL he),rfl,rfl⟩
 ·rintro⟨j,hj,d,hd,⟨rfl,rfl,rfl⟩ | ⟨rfl,rfl,rfl⟩⟩
  ·by_cases q:bW c=true
   ·refine .inl (wyW_mem.mpr ⟨j,c,hd,?_⟩)
    unfold gA;rw[if_pos q]
   ·refine .inr ⟨aU c,(bV (hL hd)).symm,wyW_mem.mpr ⟨j,c,hd,?_⟩⟩
    unfold gA;rw[if_neg q]
  ·by_cases q:bW d=true
   ·refine .inr ⟨d,rfl,wyW_mem.mpr ⟨j,d,hd,?_⟩⟩
    unfold gA;rw[if_pos q]
   ·refine .inl (wyW_mem.mpr ⟨j,d,hd,?_⟩)
    unfold gA;rw[if_neg q]
theorem yX:∀ (B:Nat) (rs:List (List Nat)),(∀ x∈rs,AllL x)→∀ {p c q:Nat},jX (eT B rs) p c q↔gF B rs p c q
 | B,[],_,p,c,q=>by
  constructor
  ·rintro(h | ⟨_,_,h⟩)
   ·cases h
   ·cases h
  ·exact fun h=>h.elim
 | B,w::r,h,p,c,q=>by
  show jX (qA B w++eT (B+w.length) r) p c q↔FlE B w w.length p c q∨gF (B+w.length) r p c q
  rw[Db,Hx (h w d8),yX _ r (fun x hx=>h x (c8 _ hx))]
theorem qW:∀ (B:Nat) (rs:List (List Nat)),(∀ x∈rs,AllL x)→∀ e∈eT B rs,cR e.2.1∧bW e.2.1=true
 | B,[],_,e,he=>by cases he
 | B,w::r,h,e,he=>by
  rcases i5.mp (show e∈qA B w++eT (B+w.length) r from he) with z | z
  ·obtain⟨j,d,hd,rfl⟩:=wyW_mem.mp z
   exact B2 (h w d8 d (b6 hd))
  ·exact qW _ r (fun x hx=>h x (c8 _ hx)) e z
def dW(lo hi:Nat)(e:Wy):Wy:=(if e.1=hi then lo else e.1,e.2.1,if e.2.2=hi then lo else e.2.2)
structure NuI(rs:List (List Nat))(ws:List Wy)(ν:Nat→Nat):Prop where
 snd:∀ x y,ν x=ν y→Rel (gF 1 rs) x y
 ed:∀ p c q,jX ws p c q↔∃ p' q',gF 1 rs p' c q'∧ν p'=p∧ν q'=q
 z:ν 0=0
 low:∀ e∈ws,cR e.2.1∧bW e.2.1=true
 bd:∀ e∈ws,e.1≤200∧e.2.2≤200
theorem vU:∀ (B:Nat) (rs:List (List Nat)),1≤B→∀ e∈eT B rs,e.1<jJ B rs∧e.2.2<jJ B rs
 | B,[],_,e,he=>by cases he
 | B,w::r,hB,e,he=>by
  show e.1<jJ (B+w.length) r∧e.2.2<jJ (B+w.length) r
  rcases i5.mp (show e∈qA B w++eT (B+w.length) r from he) with z | z
  ·obtain⟨j,d,hd,rfl⟩:=wyW_mem.mp z
   have hj:j<w.length:=(a8.mp hd).1
   have hb:∀ i,i≤w.length→bF B w.length i<B+w.length:=fun i hi=>by unfold bF;split <;> omega
   have g:=lN (B+w.length) r
   have b1:=hb j (by omega)
   have b2:=hb (j+1) (by omega)
   unfold gA
   split
   ·dsimp only;omega
   ·dsimp only;omega
  ·exact vU _ r (by omega) e z
theorem NuI.init{rs:List (List Nat)}(h:∀ x∈rs,AllL x)(hs:(rs.map List.length).sum≤100):NuI rs (eT 1 rs) fun x=>x:=by
 refine⟨fun x y e=>?_,fun p c q=>?_,rfl,qW 1 rs h,fun e he=>by have:=vU 1 rs (b5 _) e he;rw[lN] at this;omega⟩
 ·have e':x=y:=e
  rw[e'];exact .refl _
 ·rw[yX 1 rs h]
  exact⟨fun z=>⟨p,q,z,rfl,rfl⟩,fun ⟨_,_,z,e1,e2⟩=>by
   have e1':_=p:=e1
   have e2':_=q:=e2
   rw[← e1',← e2'];exact z⟩
def mF(ws:List Wy):Nat:=(ws.map fun e=>e.1+e.2.2).sum
theorem yV{lo hi:Nat}(h:lo≤hi)(e:Wy):(dW lo hi e).1+(dW lo hi e).2.2≤e.1+e.2.2:=by
 unfold dW
 dsimp only
 split <;> split <;> omega
theorem zD{lo hi:Nat}(h:lo≤hi):∀ ws:List Wy,mF (ws.map (dW lo hi))≤mF ws
 | []=>b5 _
 | e::ws=>by
  have:=zD h ws
  have:=yV h e
  unfold mF at *
  rw[d3,d3,p8,d3,p8]
  omega
theorem zQ{lo hi:Nat}(h:lo<hi):∀ {ws:List Wy} {e:Wy},e∈ws→(e.1=hi∨e.2.2=hi)→mF (ws.map (dW lo hi))<mF ws
 | x::ws,e,he,hh=>by
  have g:=zD (x8 h) ws
  have g2:=yV (x8 h) x
  rcases c4.mp he with rfl | he
  ·have:(dW lo hi e).1+(dW lo hi e).2.2<e.1+e.2.2:=by
    unfold dW
    dsimp only
    rcases hh with hh | hh
    ·rw[if_pos hh];split <;> omega
    ·rw[if_pos hh];split <;> omega
   unfold mF at *
   rw[d3,d3,p8,d3,p8]
   omega
  ·have:=zQ h he hh
   unfold mF at *
   rw[d3,d3,p8,d3,p8]
   omega
theorem D2{lo hi:Nat}{ws:List Wy}{p c q:Nat}:jX (ws.map (dW lo hi)) p c q↔∃ p' q',jX ws p' c q'∧(if p'=hi then lo else p')=p∧(if q'=hi then lo else q')=q:=by
 constructor
 ·rintro(h | ⟨d,rfl,h⟩)
  ·obtain⟨e,he,z⟩:=g9.mp h
   obtain⟨rfl,rfl,rfl⟩:_=p∧_=c∧_=q:=by simpa [dW] using z
   exact⟨e.1,e.2.2,.inl he,rfl,rfl⟩
  ·obtain⟨e,he,z⟩:=g9.mp h
   obtain⟨rfl,rfl,rfl⟩:_=q∧_=d∧_=p:=by simpa [dW] using z
   exact⟨e.2.2,e.1,.inr ⟨_,rfl,he⟩,rfl,rfl⟩
 ·rintro⟨p',q',h | ⟨d,rfl,h⟩,rfl,rfl⟩
  ·exact .inl (g9.mpr ⟨_,h,rfl⟩)
  ·exact .inr ⟨d,rfl,g9.mpr ⟨_,h,rfl⟩⟩
theorem NuI.step{rs:List (List Nat)}{ws:List Wy}{ν:Nat→Nat}(h:NuI rs ws ν){x y:Nat}(hxy:∃ a c,jX ws a c x∧jX ws a c y)(hne:x≠y):NuI rs (ws.map (dW (min x y) (max x y))) (fun z=>if ν z=max x y then min x y else ν z)∧mF (ws.map (dW (min x y) (max x y)))<mF ws:=by
 obtain⟨a,c,h1,h2⟩:=hxy
 obtain⟨p1,q1,e1,a1,b1⟩:=(h.ed a c x).mp h1
 obtain⟨p2,q2,e2,a2,b2⟩:=(h.ed a c y).mp h2
 have rq:Rel (gF 1 rs) q1 q2:=.go (h.snd p1 p2 (a1.trans a2.symm)) e1 e2
 have hlt:min x y<max x y:=by omega
 have key:∀ u v,ν u=max x y→ν v=min x y→Rel (gF 1 rs) u v:=fun u v hu hv=>by
  by_cases g:x≤y
  ·have hu':ν u=ν q2:=by rw[b2,hu];omega
   have hv':ν v=ν q1:=by rw[b1,hv];omega
   exact((h.snd _ _ hu').trans rq.symm).trans (h.snd _ _ hv'.symm)
  ·have hu':ν u=ν q1:=by rw[b1,hu];omega
   have hv':ν v=ν q2:=by rw[b2,hv];omega
   exact((h.snd _ _ hu').trans rq).trans (h.snd _ _ hv'.symm)
 refine⟨⟨fun u v e=>?_,fun p c' q=>?_,?_,fun e he=>?_,fun e he=>?_⟩,?_⟩
 ·by_cases hu:ν u=max x y
  ·by_cases hv:ν v=max x y
   ·exact h.snd _ _ (hu.trans hv.symm)
   ·rw[if_pos hu,if_neg hv] at e
    exact key u v hu e.symm
  ·by_cases hv:ν v=max x y
   ·rw[if_neg hu,if_pos hv] at e
    exact(key v u hv e).symm
   ·rw[if_neg hu,if_neg hv] at e
    exact h.snd _ _ e
 ·rw[D2]
  constructor
  ·rintro⟨p',q',hE,rfl,rfl⟩
   obtain⟨p'',q'',z,rfl,rfl⟩:=(h.ed _ _ _).mp hE
   exact⟨p'',q'',z,rfl,rfl⟩
  ·rintro⟨p',q',z,rfl,rfl⟩
   exact⟨ν p',ν q',(h.ed _ _ _).mpr ⟨p',q',z,rfl,rfl⟩,rfl,rfl⟩
 ·show (if ν 0=max x y then min x y else ν 0)=0
  rw[h.z,if_neg (by omega)]
 ·obtain⟨e',he',rfl⟩:=g9.mp he
  exact h.low e' he'
 ·obtain⟨e',he',rfl⟩:=g9.mp he
  have:=h.bd e' he'
  unfold dW
  dsimp only
  constructor <;> split <;> omega
 ·have hm:∃ e∈ws,e.1=max x y∨e.2.2=max x y:=by
   have:∀ {g},jX ws a c g→∃ e∈ws,e.1=g∨e.2.2=g:=fun {g} hg=>by
    rcases hg with z | ⟨d,_,z⟩
    ·exact⟨_,z,.inr rfl⟩
    ·exact⟨_,z,.inl rfl⟩
   by_cases g:x≤y
   ·rw[show max x y=y by omega];exact this h2
   ·rw[show max x y=x by omega];exact this h1
  obtain⟨e,he,z⟩:=hm
  exact zQ hlt he z
theorem NuI.done{rs:List (List Nat)}{ws:List Wy}{ν:Nat→Nat}(h:NuI rs ws ν)(hd:BD ws){g:Nat→Nat→Option Nat}(hg:∀ p c q,g p c=some q↔jX ws p c q):Aut rs (fun x=>ν (pZ rs x)) g 0:=by
 refine DK (fun x y=>⟨h.snd x y,fun r=>?_⟩) (fun p c q z=>(hg _ _ _).mpr ((h.ed _ _ _).mpr ⟨p,q,z,rfl,rfl⟩)) fun s c q z=>?_
 ·induction r with
  | refl x=>rfl
  | symm _ ih=>exact ih.symm
  | trans _ _ a b=>exact a.trans b
  | go _ a b ih =>
   have h1:=(h.ed _ _ _).mpr ⟨_,_,a,rfl,rfl⟩
   have h2:=(h.ed _ _ _).mpr ⟨_,_,b,rfl,rfl⟩
   rw[ih] at h1
   exact hd _ _ _ _ h1 h2
 ·obtain⟨p,q',a,b,d⟩:=(h.ed _ _ _).mp ((hg _ _ _).mp z)
  exact⟨p,q',a,b,d⟩
def WyL(H:Hp)(l:Addr)(ws:List Wy):Prop:=∃ vs,H l=some (.lst vs)∧vs.length=ws.length∧∀ (i:Nat) (v:V) (e:Wy),vs[i]?=some v→ws[i]?=some e→IsWy H v e
theorem IsWy.same{H H':Hp}{v:V}{e:Wy}(h:IsWy H v e)(s:Same H H'):IsWy H' v e:=by
 obtain⟨t,rfl,et⟩:=h
 exact⟨t,rfl,s _ _ et⟩
theorem WyL.same{H H':Hp}{l:Addr}{ws:List Wy}(h:WyL H l ws)(s:Same H H'):WyL H' l ws:=by
 obtain⟨vs,a,b,c⟩:=h
 exact⟨vs,s _ _ a,b,fun i v e x y=>(c i v e x y).same s⟩
theorem WyL.snoc{H:Hp}{l t:Addr}{vs:List V}{ws:List Wy}{e:Wy}(a:H l=some (.lst vs))(b:vs.length=ws.length)(c:∀ (i:Nat) (v:V) (e:Wy),vs[i]?=some v→ws[i]?=some e→IsWy H v e)(ht:H t=some (.tup [.int (e.1:Nat),.str (S [e.2.1]),.int (e.2.2:Nat)])):WyL (upd H l (.lst (vs++[.ref t]))) l (ws++[e]):=by
 have old:∀ {v:V} {e:Wy},IsWy H v e→IsWy (upd H l (.lst (vs++[.ref t]))) v e:=fun {v e} h=>by
  obtain⟨u,rfl,eu⟩:=h
  exact⟨u,rfl,by rw[aE (bS eu a (by intro z;cases z))];exact eu⟩
 refine⟨_,aC,by rw[b9,b9,b];rfl,fun i v e' h1 h2=>?_⟩
 rcases dQ h1 with ⟨z,h1⟩ | ⟨z,rfl⟩
 ·have hl:i<ws.length:=by rw[← b];exact(a8.mp h1).1
  rw[l5 hl] at h2
  exact old (c i v e' h1 h2)
 ·rw[z,b,u0 (b5 _),Nat.sub_self] at h2
  cases h2
  exact old ⟨t,rfl,ht⟩
theorem NuI.edb{rs:List (List Nat)}{ws:List Wy}{ν:Nat→Nat}(h:NuI rs ws ν){p c q:Nat}(e:jX ws p c q):q≤200:=by
 rcases e with z | ⟨_,_,z⟩
 ·exact(h.bd _ z).2
 ·exact(h.bd _ z).1
theorem wS(g:Nat)(l:List Nat):Bk (.int (g:Nat)) (cJ l)=decide (g∈l):=by
 unfold Bk cJ
 rw[z8,aXL,decide_eq_true_iff]
 constructor
 ·rintro⟨v,hv,he⟩
  obtain⟨e,hm,rfl⟩:=g9.mp hv
  have h2:((e:Nat):Int)=((g:Nat):Int):=by simpa [lY] using he
  have h3:e=g:=by omega
  rw[← h3];exact hm
 ·intro h
  exact⟨_,g9.mpr ⟨g,h,rfl⟩,by simp[lY]⟩
theorem wE(l:List Nat):(cJ l).all eV=true:=by
 unfold cJ
 rw[aXp]
 exact p9.mpr fun x _=>rfl
theorem C3(l:List Nat):cJ l=(l.map fun x=>((x:Nat):Int)).map V.int:=by
 unfold cJ
 rw[t4]
 rfl
theorem CB{g:Nat}:∀ {l:List Nat},g∈l→l[l.idxOf g]?=some g∧∀ m,m<l.idxOf g→l[m]?≠some g
 | x::l,h=>by
  rw[aQj]
  by_cases z:x=g
  ·have:(x == g)=true:=by simpa using z
   rw[this]
   simp[z]
  ·have e:(x == g)=false:=by simpa using z
   rw[e]
   simp only [cond_false]
   have hg:g∈l:=(c4.mp h).elim (fun e=>absurd e.symm z) id
   obtain⟨a,b⟩:=CB hg
   refine⟨by rw[aXU];exact a,fun m hm=>?_⟩
   cases m with
   | zero=>rw[List.getElem?_cons_zero];exact fun e=>z (i3 e)
   | succ m=>rw[aXU];exact b m (by omega)
def CA(K:b0):Sp:=fun vs H Q _=>∃ (n:Nat) (a:Addr) (rs:List (List Nat)),vs=[.int (n:Nat),.ref a]∧1≤n∧n≤4∧SqL K H a (bI rs)∧rs.length≤10∧(∀ x∈rs,AllL x)∧(rs.map List.length).sum≤100 ∧
 ∀ (r:Addr) (H':Hp) (ρ:Nat→Nat) (δ:Nat→Nat→Option Nat),Same H H'→Aut rs ρ δ 0→IsWebV H' r (gZ δ n (ρ 0) 1000)→(gZ δ n (ρ 0) 1000).length≤900→Q (.ref r) H'
theorem vL{δ:Nat→Nat→Option Nat}{n s0 N:Nat}(h4:n≤4){row:List (Option Nat)}(h:row∈gZ δ n s0 N):row.length≤900:=by
 unfold gZ at h
 obtain⟨s,_,rfl⟩:=g9.mp h
 unfold fH
 rw[b7,gY h4]
 omega
def Iz(N:Nat)(E E':Nat→Nat→Nat→Prop):Prop:=∃ f g:Nat→Nat,(∀ x,x<N→f x=x)∧(∀ x,f (g x)=x)∧(∀ x,g (f x)=x)∧∀ p c q,E p c q↔E' (f p) c (f q)
theorem Iz.refl(N:Nat)(E:Nat→Nat→Nat→Prop):Iz N E E:=⟨id,id,fun _ _=>rfl,fun _=>rfl,fun _=>rfl,fun _ _ _=>Iff.rfl⟩
theorem Iz.trans{N:Nat}{E E' E'':Nat→Nat→Nat→Prop}(a:Iz N E E')(b:Iz N E' E''):Iz N E E'':=by
 obtain⟨f,g,a1,a2,a3,a4⟩:=a
 obtain⟨f',g',b1,b2,b3,b4⟩:=b
 refine⟨fun x=>f' (f x),fun x=>g (g' x),fun x h=>by dsimp only;rw[a1 x h,b1 x h],fun x=>by dsimp only;rw[a2,b2],fun x=>by dsimp only;rw[b3,a3],fun p c q=>(a4 p c q).trans (b4 _ _ _)⟩
theorem Da{N m j:Nat}(hN:1≤N)(hj:j≤m):bF N m j<N+(m - 1):=by
 unfold bF
 split <;> omega
theorem pQ:∀ {rs:List (List Nat)} {N:Nat},1≤N→∀ {p c q:Nat},bT N rs p c q→(p=0∨N≤p)∧(q=0∨N≤q)
 | [],N,hN,p,c,q,h=>h.elim
 | w::r,N,hN,p,c,q,h=>by
  rcases h with h | h
  ·obtain⟨j,hj,d,hd,⟨rfl,rfl,rfl⟩ | ⟨rfl,rfl,rfl⟩⟩:=h
   ·unfold bF;constructor <;> split <;> omega
   ·unfold bF;constructor <;> split <;> omega
  ·have:=pQ (rs:=r) (by omega) h
   omega
theorem FlE.mv{N N':Nat}{w:List Nat}{f g:Nat→Nat}(hgf:∀ x,g (f x)=x)(hf:∀ j,j≤w.length→f (bF N w.length j)=bF N' w.length j){p c q:Nat}:FlE N w w.length p c q↔FlE N' w w.length (f p) c (f q):=by
 have inj:∀ {x y},f x=f y→x=y:=fun {x y} e=>by rw[← hgf x,e,hgf]
 constructor
 ·rintro⟨j,hj,d,hd,⟨rfl,rfl,rfl⟩ | ⟨rfl,rfl,rfl⟩⟩
  ·exact⟨j,hj,c,hd,.inl ⟨rfl,hf _ (by omega),hf _ (by omega)⟩⟩
  ·exact⟨j,hj,d,hd,.inr ⟨rfl,hf _ (by omega),hf _ (by omega)⟩⟩
 ·rintro⟨j,hj,d,hd,⟨rfl,h1,h2⟩ | ⟨rfl,h1,h2⟩⟩
  ·rw[← hf _ (by omega)] at h1 h2
   exact⟨j,hj,c,hd,.inl ⟨rfl,inj h1,inj h2⟩⟩
  ·rw[← hf _ (by omega)] at h1 h2
   exact⟨j,hj,d,hd,.inr ⟨rfl,inj h1,inj h2⟩⟩
theorem oW{w:List Nat}{j d:Nat}(h:w[j]?=some d):(back w)[w.length - 1 - j]?=some (aU d):=by
 have hj:=(a8.mp h).1
 unfold back
 rw[aQ8 (by rw[b7];omega),b7,c5,show w.length - 1 - (w.length - 1 - j)=j by omega,h]
 rfl
theorem FlE.tb{N:Nat}{w:List Nat}(hw:AllL w){f g:Nat→Nat}(hgf:∀ x,g (f x)=x)(hf:∀ j,j≤w.length→f (bF N w.length j)=bF N w.length (w.length - j)){p c q:Nat}:FlE N w w.length p c q↔FlE N (back w) (back w).length (f p) c (f q):=by
 have inj:∀ {x y},f x=f y→x=y:=fun {x y} e=>by rw[← hgf x,e,hgf]
 rw[bY]
 unfold FlE
 rw[bY]
 constructor
 ·rintro⟨j,hj,d,hd,⟨rfl,rfl,rfl⟩ | ⟨rfl,rfl,rfl⟩⟩
  ·refine⟨w.length - 1 - j,by omega,_,oW hd,.inr ⟨(bV (hw _ (b6 hd))).symm,?_,?_⟩⟩
   ·rw[hf _ (by omega)];congr 1;omega
   ·rw[hf _ (by omega)];congr 1;omega
  ·refine⟨w.length - 1 - j,by omega,_,oW hd,.inl ⟨rfl,?_,?_⟩⟩
   ·rw[hf _ (by omega)];congr 1;omega
   ·rw[hf _ (by omega)];congr 1;omega
 ·rintro⟨j,hj,d,hd,h⟩
  have hd':w[w.length - 1 - j]?=some (aU d):=by
   have:=oW hd
   rw[eC hw,bY] at this
   exact this
  have hdL:cR d:=aS hw d (b6 hd)
  refine⟨w.length - 1 - j,by omega,_,hd',?_⟩
  have e1:bF N w.length (j+1)=f (bF N w.length (w.length - 1 - j)):=by rw[hf _ (by omega)];congr 1;omega
  have e2:bF N w.length j=f (bF N w.length (w.length - 1 - j+1)):=by rw[hf _ (by omega)];congr 1;omega
  rw[e1,e2] at h
  rcases h with ⟨rfl,h1,h2⟩ | ⟨rfl,h1,h2⟩
  ·exact .inr ⟨(bV hdL).symm,inj h1,inj h2⟩
  ·exact .inl ⟨rfl,inj h1,inj h2⟩
theorem Iz.cons{N:Nat}(hN:1≤N)(w:List Nat){r r':List (List Nat)}(h:Iz (N+(w.length - 1)) (bT (N+(w.length - 1)) r) (bT (N+(w.length - 1)) r')):Iz N (bT N (w::r)) (bT N (w::r')):=by
 obtain⟨f,g,a1,a2,a3,a4⟩:=h
 refine⟨f,g,fun x hx=>a1 x (by omega),a2,a3,fun p c q=>?_⟩
 show (FlE N w w.length p c q∨_)↔(FlE N w w.length (f p) c (f q)∨_)
 rw[FlE.mv a3 (fun j hj=>a1 _ (Da hN hj)),a4]
theorem Iz.rest{M:Nat}{r:List (List Nat)}{f g:Nat→Nat}(hM:1≤M)(h0:f 0=0)(hgf:∀ x,g (f x)=x)(hf:∀ x,M≤x→f x=x){p c q:Nat}:bT M r p c q↔bT M r (f p) c (f q):=by
 have fx:∀ x,(x=0∨M≤x)→f x=x:=fun x h=>h.elim (fun e=>by rw[e];exact h0) (hf x)
 have xf:∀ x,(f x=0∨M≤f x)→f x=x:=fun x h=>by
  have:=fx (f x) h
  have e:g (f (f x))=g (f x):=by rw[this]
  rwa [hgf,hgf] at e
 constructor
 ·intro h
  obtain⟨a,b⟩:=pQ hM h
  rw[fx p a,fx q b]
  exact h
 ·intro h
  obtain⟨a,b⟩:=pQ hM h
  rw[xf p a,xf q b] at h
  exact h
theorem Iz.swap{N:Nat}(hN:1≤N)(x y:List Nat)(r:List (List Nat)):Iz N (bT N (x::y::r)) (bT N (y::x::r)):=by
 obtain⟨a,ha⟩:∃ a,a=x.length - 1:=⟨_,rfl⟩
 obtain⟨b,hb⟩:∃ b,b=y.length - 1:=⟨_,rfl⟩
 have sw:∀ a b:Nat,∀ z,(fun z=>if z<N then z else if z<N+a then z+b else if z<N+a+b then z - a else z) ((fun z=>if z<N then z else if z<N+b then z+a else if z<N+b+a then z - b else z) z)=z:=fun a b z=>by
  dsimp only
  by_cases h1:z<N
  ·rw[if_pos h1,if_pos h1]
  ·rw[if_neg h1]
   by_cases h2:z<N+b
   ·rw[if_pos h2,if_neg (by omega),if_neg (by omega),if_pos (by omega)];omega
   ·rw[if_neg h2]
    by_cases h3:z<N+b+a
    ·rw[if_pos h3,if_neg (by omega),if_pos (by omega)];omega
    ·rw[if_neg h3,if_neg h1,if_neg (by omega),if_neg (by omega)]
 refine⟨fun z=>if z<N then z else if z<N+a then z+b else if z<N+a+b then z - a else z,fun z=>if z<N then z else if z<N+b then z+a else if z<N+b+a then z - b else z,fun z h=>if_pos h,sw a b,sw b a,fun p c q=>?_⟩
 have f0:(fun z=>if z<N then z else if z<N+a then z+b else if z<N+a+b then z - a else z) 0=0:=if_pos (by omega)
 have fM:∀ z,N+a+b≤z→(fun z=>if z<N then z else if z<N+a then z+b else if z<N+a+b then z - a else z) z=z:=fun z h=>by
  dsimp only
  rw[if_neg (by omega),if_neg (by omega),if_neg (by omega)]
 have fx:∀ j,j≤x.length→(fun z=>if z<N then z else if z<N+a then z+b else if z<N+a+b then z - a else z) (bF N x.length j)=bF (N+b) x.length j:=fun j hj=>by
  dsimp only
  unfold bF
  by_cases h:j=0∨j=x.length
  ·rw[if_pos h,if_pos h,if_pos (by omega)]
  ·rw[if_neg h,if_neg h,if_neg (by omega),if_pos (by omega)];omega
 have fy:∀ j,j≤y.length→(fun z=>if z<N then z else if z<N+a then z+b else if z<N+a+b then z - a else z) (bF (N+a) y.length j)=bF N y.length j:=fun j hj=>by
  dsimp only
  unfold bF
  by_cases h:j=0∨j=y.length
  ·rw[if_pos h,if_pos h,if_pos (by omega)]
  ·rw[if_neg h,if_neg h,if_neg (by omega),if_neg (by omega),if_pos (by omega)];omega
 have gf:=sw b a
 generalize (fun z=>if z<N then z else if z<N+a then z+b else if z<N+a+b then z - a else z)=f at *
 generalize (fun z=>if z<N then z else if z<N+b then z+a else if z<N+b+a then z - b else z)=g at *
 show (FlE N x x.length p c q∨FlE (N+(x.length - 1)) y y.length p c q∨bT (N+(x.length - 1)+(y.length - 1)) r p c q)↔(FlE N y y.length (f p) c (f q)∨FlE (N+(y.length - 1)) x x.length (f p) c (f q)∨bT (N+(y.length - 1)+(x.length - 1)) r (f p) c (f q))
 rw[← ha,← hb,show N+b+a=N+a+b by omega,FlE.mv gf fx,FlE.mv gf fy,Iz.rest (M:=N+a+b) (by omega) f0 gf fM,or_left_comm]
theorem Iz.perm{l l':List (List Nat)}(h:l.Perm l'):∀ {N:Nat},1≤N→Iz N (bT N l) (bT N l'):=by
 induction h with
 | nil=>exact fun _=>Iz.refl _ _
 | cons x _ ih=>exact fun hN=>Iz.cons hN x (ih (by omega))
 | swap x y l=>exact fun hN=>Iz.swap hN y x l
 | trans _ _ a b=>exact fun hN=>(a hN).trans (b hN)
theorem Iz.flip{N:Nat}(hN:1≤N){w:List Nat}(hw:AllL w)(r:List (List Nat)):Iz N (bT N (w::r)) (bT N (back w::r)):=by
 have inv:∀ z,(fun z=>if N≤z∧z<N+(w.length - 1) then N+(N+(w.length - 1) - 1 - z) else z) ((fun z=>if N≤z∧z<N+(w.length - 1) then N+(N+(w.length - 1) - 1 - z) else z) z)=z:=fun z=>by
  dsimp only
  by_cases h:N≤z∧z<N+(w.length - 1)
  ·rw[if_pos h,if_pos (by omega)];omega
  ·rw[if_neg h,if_neg h]
 refine⟨fun z=>if N≤z∧z<N+(w.length - 1) then N+(N+(w.length - 1) - 1 - z) else z,fun z=>if N≤z∧z<N+(w.length - 1) then N+(N+(w.length - 1) - 1 - z) else z,fun x hx=>if_neg (by omega),inv,inv,fun p c q=>?_⟩
 have f0:(fun z=>if N≤z∧z<N+(w.length - 1) then N+(N+(w.length - 1) - 1 - z) else z) 0=0:=if_neg (by omega)
 have fM:∀ z,N+(w.length - 1)≤z→(fun z=>if N≤z∧z<N+(w.length - 1) then N+(N+(w.length - 1) - 1 - z) else z) z=z:=fun z h=>if_neg (by omega)
 have fw:∀ j,j≤w.length→(fun z=>if N≤z∧z<N+(w.length - 1) then N+(N+(w.length - 1) - 1 - z) else z) (bF N w.length j)=bF N w.length (w.length - j):=fun j hj=>by
  dsimp only
  unfold bF
  by_cases h:j=0∨j=w.length
  ·rw[if_pos h,if_neg (by omega),if_pos (by omega)]
  ·rw[if_neg h,if_pos (by omega),if_neg (by omega)];omega
 generalize (fun z=>if N≤z∧z<N+(w.length - 1) then N+(N+(w.length - 1) - 1 - z) else z)=f at *
 show (FlE N w w.length p c q∨bT (N+(w.length - 1)) r p c q)↔(FlE N (back w) (back w).length (f p) c (f q)∨bT (N+((back w).length - 1)) r (f p) c (f q))
 rw[FlE.tb hw inv fw,Iz.rest (M:=N+(w.length - 1)) (by omega) f0 inv fM,bY]
inductive Flp:List (List Nat)→List (List Nat)→Prop where
 | nil:Flp [] []
 | same {w:List Nat} {r r':List (List Nat)} (h:Flp r r'):Flp (w::r) (w::r')
 | back {w:List Nat} {r r':List (List Nat)} (h:Flp r r'):Flp (w::r) (Ma.back w::r')
theorem Iz.flp{r r':List (List Nat)}(h:Flp r r'):(∀ x∈r,AllL x)→∀ {N:Nat},1≤N→Iz N (bT N r) (bT N r'):=by
 induction h with
 | nil=>exact fun _ _ _=>Iz.refl _ _
 | same _ ih=>exact fun ha _ hN=>Iz.cons hN _ (ih (fun x hx=>ha x (c8 _ hx)) (by omega))
 | @back w r r' _ ih=>exact fun ha _ hN=>(Iz.cons hN _ (ih (fun x hx=>ha x (c8 _ hx)) (by omega))).trans (Iz.flip hN (ha w d8) r')
theorem Flp.snoc{r r':List (List Nat)}(h:Flp r r'){w w':List Nat}(e:w'=w∨w'=Ma.back w):Flp (r++[w]) (r'++[w']):=by
 induction h with
 | nil=>exact e.elim (fun e=>e ▸ .same .nil) fun e=>e ▸ .back .nil
 | same _ ih=>exact .same ih
 | back _ ih=>exact .back ih
theorem Flp.len{r r':List (List Nat)}(h:Flp r r'):r'.length=r.length:=by
 induction h with
 | nil=>rfl
 | same _ ih=>simp[ih]
 | back _ ih=>simp[ih]
theorem Flp.all{r r':List (List Nat)}(h:Flp r r'){k:Nat}:(∀ x∈r,AllL x∧x.length≤k)→∀ x∈r',AllL x∧x.length≤k:=by
 induction h with
 | nil=>exact fun _ x hx=>by cases hx
 | @same w r r' _ ih =>
  intro ha x hx
  rcases c4.mp hx with rfl | hx
  ·exact ha x d8
  ·exact ih (fun x hx=>ha x (c8 _ hx)) x hx
 | @back w r r' _ ih =>
  intro ha x hx
  rcases c4.mp hx with rfl | hx
  ·obtain⟨a,b⟩:=ha w d8
   exact⟨aS a,by rw[bY];exact b⟩
  ·exact ih (fun x hx=>ha x (c8 _ hx)) x hx
theorem Iz.rel{N:Nat}{E E':Nat→Nat→Nat→Prop}{f g:Nat→Nat}(a2:∀ x,f (g x)=x)(a3:∀ x,g (f x)=x)(a4:∀ p c q,E p c q↔E' (f p) c (f q)){x y:Nat}:Rel E x y↔Rel E' (f x) (f y):=by
 constructor
 ·intro h
  induction h with
  | refl x=>exact .refl _
  | symm _ ih=>exact .symm ih
  | trans _ _ a b=>exact .trans a b
  | go _ a b ih=>exact .go ih ((a4 _ _ _).mp a) ((a4 _ _ _).mp b)
 ·have key:∀ {u v},Rel E' u v→Rel E (g u) (g v):=fun {u v} h=>by
   induction h with
   | refl x=>exact .refl _
   | symm _ ih=>exact .symm ih
   | trans _ _ a b=>exact .trans a b
   | @go p p' c q q' _ a b ih=>exact .go ih ((a4 _ _ _).mpr (by rw[a2,a2];exact a)) ((a4 _ _ _).mpr (by rw[a2,a2];exact b))
  intro h
  have:=key h
  rwa [a3,a3] at this
theorem Aut.iz{rs rs':List (List Nat)}{ρ:Nat→Nat}{δ:Nat→Nat→Option Nat}{N:Nat}(h:Iz 1 (bT 1 rs) (bT 1 rs'))(a:Aut rs' ρ δ N):∃ ρ',Aut rs ρ' δ N∧ρ' 0=ρ 0:=by
 obtain⟨f,g,a1,a2,a3,a4⟩:=h
 refine⟨fun x=>ρ (f x),⟨fun x y=>(a.rel _ _).trans (Iz.rel (N:=1) a2 a3 a4).symm,fun p c q h=>a.to _ _ _ ((a4 _ _ _).mp h),fun s c u h=>?_⟩,by dsimp only;rw[a1 0 (by omega)]⟩
 obtain⟨p,q,e1,e2,e3⟩:=a.of s c u h
 exact⟨g p,g q,(a4 _ _ _).mpr (by rw[a2,a2];exact e1),by rw[a2];exact e2,by rw[a2];exact e3⟩
theorem DS{rs l rs':List (List Nat)}{ρ ρ':Nat→Nat}{δ δ':Nat→Nat→Option Nat}(hp:l.Perm rs)(hf:Flp l rs')(hw:∀ x∈rs,AllL x)(a:Aut rs' ρ δ 0)(hid:∀ x,ρ (ρ x)=ρ x)(b:Aut rs ρ' δ' 0){n:Nat}:gZ δ' n (ρ' 0) 1000=gZ δ n (ρ 0) 1000:=by
 have hl:∀ x∈l,AllL x:=fun x hx=>hw x (hp.mem_iff.mp hx)
 obtain⟨ρ1,b1,e1⟩:=b.iz (Iz.perm hp (b5 1))
 have key:Iz 1 (bT 1 rs') (bT 1 l):=by
  obtain⟨f,g,a1,a2,a3,a4⟩:=Iz.flp hf hl (b5 1)
  refine⟨g,f,fun x hx=>?_,a3,a2,fun p c q=>?_⟩
  ·have:=a3 x;rw[a1 x hx] at this;exact this
  ·have:=a4 (g p) c (g q);rw[a2,a2] at this;exact this.symm
 obtain⟨ρ2,b2,e2⟩:=b1.iz key
 have:=nG a b2 hid (n:=n)
 rw[e2,e1] at this
 exact this
theorem Ef{b:Bool}{A B:Prop}(e:b=false)(h:B):if b=true then A else B:=by rw[e];exact fV h
theorem GX{b:Bool}{A B:Prop}(e:b=true)(h:A):if b=true then A else B:=by rw[e];exact gC h
def Js(rs:List (List Nat))(w:List Nat):Prop:=∃ us:List (List Nat),(∀ u∈us,∃ v∈rs,u=v∨u=back v)∧w=lay us.flatten
def Ei:Sp:=fun vs H Q _=>∃ (fl sc a:Addr) (rs:List (List Nat)) (n m M:Nat),vs=[.ref fl,.ref a,.int (m:Nat)]∧IsFl H fl sc∧H a=some (.lst (bI rs))∧a≠fl∧1≤n∧n≤4∧rs.length≤100∧(∀ x∈rs,OfN n x∧x.length≤M)∧m≤5∧M≤100 ∧
 ∀ (w:List Nat) (H':Hp),OfN n w→cP w→w.length≤m * M→Js rs w→IsFl H' fl sc→Kp fl H H'→Q (.str (S w)) H'
structure SmW(n most lt:Nat)(rs:List (List Nat)):Prop where
 len:rs.length≤most
 sum:(rs.map List.length).sum≤lt
 ofn:∀ x∈rs,OfN n x∧cP x
def zK:Sp:=fun vs H Q _=>∃ (fl sc:Addr) (n most lt:Nat),vs=[.ref fl,.int (n:Nat),.int (most:Nat),.int (lt:Nat)]∧IsFl H fl sc∧1≤n∧n≤4 ∧
 ∀ (l:Addr) (rs:List (List Nat)) (H':Hp),H l=none→H' l=some (.lst (bI rs))→SmW n most lt rs→IsFl H' fl sc→Kp fl H H'→Q (.ref l) H'
def zU:Sp:=fun vs H Q _=>∃ (fl sc a:Addr) (rs:List (List Nat)),vs=[.ref fl,.ref a]∧IsFl H fl sc∧H a=some (.lst (bI rs))∧rs.length≤100∧a≠fl ∧
 ∀ (l:Addr) (rs':List (List Nat)) (H':Hp),H l=none→H' l=some (.lst (bI rs'))→rs'.Perm rs→IsFl H' fl sc→Kp fl H H'→Q (.ref l) H'
theorem SmW.one{n most lt:Nat}{rs:List (List Nat)}(h:SmW n most lt rs){x:List Nat}(hx:x∈rs):x.length≤lt:=by
 have key:∀ {zs:List (List Nat)} {z:List Nat},z∈zs→z.length≤(zs.map List.length).sum:=fun {zs z} hz=>by
  induction zs with
  | nil=>cases hz
  | cons y zs ih =>
   rw[d3,p8]
   rcases c4.mp hz with rfl | hz
   ·omega
   ·have:=ih hz;omega
 have:=key hx
 have:=h.sum
 omega
theorem mI:∀ (rs:List (List Nat)) (i:Nat),(bI rs).eraseIdx i=bI (rs.eraseIdx i)
 | [],_=>rfl
 | _::_,0=>rfl
 | c::w,i+1=>by
  show V.str (S c)::(bI w).eraseIdx i=V.str (S c)::bI (w.eraseIdx i)
  rw[mI w i]
theorem uF{rs:List (List Nat)}{i:Nat}{x:List Nat}(h:rs[i]?=some x):(x::rs.eraseIdx i).Perm rs:=by
 induction rs generalizing i with
 | nil=>simp at h
 | cons a ls ih =>
  cases i with
  | zero=>simp at h;subst h;exact aZ8 _
  | succ i =>
   have:=ih (i:=i) (by simpa using h)
   show (x::a::ls.eraseIdx i).Perm (a::ls)
   exact(List.Perm.swap a x _).trans (this.cons a)
theorem tP{rs:List (List Nat)}{M:Nat}(h:∀ x∈rs,x.length≤M):∀ {us:List (List Nat)},(∀ u∈us,∃ v∈rs,u=v∨u=back v)→us.flatten.length≤us.length * M
 | [],_=>j6 _
 | u::us,hu=>by
  have h1:=tP h (us:=us) fun x hx=>hu x (c8 _ hx)
  obtain⟨v,hv,e⟩:=hu u d8
  have h2:u.length≤M:=by
   have:=h v hv
   rcases e with rfl | rfl
   ·exact this
   ·rw[bY];exact this
  rw[aQY,b9,j1,aJA]
  omega
theorem Ds{n:Int}{rs:List (List Nat)}(h1:1≤n)(h4:n≤4)(h:∀ x∈rs,OfN n x){us:List (List Nat)}(hu:∀ u∈us,∃ v∈rs,u=v∨u=back v):OfN n us.flatten:=fun c hc=>by
 obtain⟨u,hm,hc⟩:=List.mem_flatten.mp hc
 obtain⟨v,hv,e⟩:=hu u hm
 rcases e with rfl | rfl
 ·exact h _ hv c hc
 ·exact(h v hv).back h1 h4 c hc
theorem lF(rs:List (List Nat))(x:List Nat):bI rs++[.str (S x)]=bI (rs++[x]):=by unfold bI;rw[d9];rfl
theorem vQ:∀ fs:List (List Nat),(fs.map fun x=>((x.length:Nat):Int)).sum=(((fs.map List.length).sum:Nat):Int)
 | []=>rfl
 | x::fs=>by
  rw[d3,p8,vQ fs,d3,p8]
  omega
theorem IsWebV.same{H H':Hp}{r:Addr}{W:List (List (Option Nat))}(h:IsWebV H r W)(s:Same H H'):IsWebV H' r W:=by
 obtain⟨qs,a,b,c⟩:=h
 exact⟨qs,s _ _ a,b,fun i q row h1 h2=>s _ _ (c i q row h1 h2)⟩
theorem IsWebV.kp{H H':Hp}{fl sc r:Addr}{W:List (List (Option Nat))}(h:IsWebV H r W)(f:IsFl H fl sc)(k:Kp fl H H'):IsWebV H' r W:=by
 obtain⟨qs,a,b,c⟩:=h
 exact⟨qs,yB f k a,b,fun i q row h1 h2=>yB f k (c i q row h1 h2)⟩
theorem sQ{K:b0}{H:Hp}{a b:Addr}{W:List (List (Option Nat))}(h:IsWebV H a W)(g:IsWebV H b W)(hl:W.length≤900)(hr:∀ row∈W,row.length≤900):Lq K H 2 (.ref a) (.ref b):=by
 obtain⟨qs,e1,l1,r1⟩:=h
 obtain⟨us,e2,l2,r2⟩:=g
 refine .tup (SqT.of e1) (SqT.of e2) (by rw[b7,b7,l1,l2]) (by rw[b7,l1];exact hl) fun i x y hx hy=>?_
 rw[c5] at hx hy
 obtain⟨q,hq,rfl⟩:=i8.mp hx
 obtain⟨u,hu,rfl⟩:=i8.mp hy
 obtain⟨row,hrow⟩:∃ row,W[i]?=some row:=⟨_,a9 (by rw[← l1];exact(a8.mp hq).1)⟩
 refine .tup (SqT.of (r1 i q row hq hrow)) (SqT.of (r2 i u row hu hrow)) rfl (by rw[b7];exact hr row (b6 hrow)) fun j x y hx hy=>?_
 rw[hx] at hy
 cases hy
 rw[c5] at hx
 obtain⟨o,_,rfl⟩:=i8.mp hx
 refine .flat ?_
 cases o <;> rfl
end Lw
namespace Lw
open PySem PySem.Spec PyProof.Rows L2 Ma
def gN(i:Nat):Stmt:=PySem.Challenge.pw_newletters_k14_webs_told.main.body.getD i (.Pass ⟨0,0,0,0⟩)
abbrev HM(x:Str)(st:Stmt)(kV dc pm:Value)(an:Option Addr)(cd ct:Value):FuncData:=PySem.W.fnOf x x (eB st) (dS st) (aH st) .none kV dc pm an cd ct
theorem Jx{K:b0}{mg:Str→Option Value}{x:Str}{st:Stmt}{ps:List Str}{f:Addr}{oc:Value}{od an:Option Addr}{osl:Array (Option Value)}{kV doc pm cdv ct:Value}(l:K.lookup f=some ⟨oc,od,.func (HM x st kV doc pm an cdv ct),osl⟩)
  (c:PySem.W.codeIn K cdv x=true) (k:PySem.W.keepIn K (.ref f)=true) (m:mg x=some (.ref f)) (h:∀ (kV doc pm:Value) (an:Option Addr) (cdv ct:Value) (us:List Value),us.length=ps.length→bindArgs (HM x st kV doc pm an cdv ct) ⟨us,[]⟩=pure (ps.zip us)):Df K mg x st ps f (HM x st kV doc pm an cdv ct) :=
 ⟨lW l c k,(lW l c k).binds h,m⟩
abbrev B4:Stmt:=gN 0
theorem E9:FnScope ["k"] ["k"] (aH B4):=gM (by decide +kernel)
abbrev Fg:Stmt:=gN 4
theorem Gr:FnScope ["n"] ["n"] (aH Fg):=gM (by decide +kernel)
abbrev FN:Stmt:=gN 5
theorem GK:FnScope ["n"] ["n"] (aH FN):=gM (by decide +kernel)
abbrev FH:Stmt:=gN 6
theorem HP:FnScope ["letter"] ["letter"] (aH FH):=gM (by decide +kernel)
abbrev FR:Stmt:=gN 8
theorem sc_z7:FnScope ["text","kept","letter"] ["text"] (aH FR):=gM (by decide +kernel)
abbrev CW:Stmt:=gN 9
theorem Hf:FnScope ["word"] ["word"] (aH CW):=gM (by decide +kernel)
abbrev Bc:Stmt:=gN 10
theorem ET:FnScope ["one","other"] ["one","other"] (aH Bc):=gM (by decide +kernel)
abbrev Gb:Stmt:=kB (gN 12) 0
theorem Gi:FnScope ["self"] ["self"] (aH Gb):=gM (by decide +kernel)
abbrev EA:Stmt:=kB (gN 12) 1
theorem sc_zr:FnScope ["self","place","told","above"] ["self","place","told"] (aH EA):=gM (by decide +kernel)
abbrev EY:Stmt:=kB (gN 12) 2
theorem GO:FnScope ["self","place"] ["self","place"] (aH EY):=gM (by decide +kernel)
abbrev Et:Stmt:=kB (gN 12) 3
theorem sc_zo:FnScope ["self","head","letter","way"] ["self","head","letter"] (aH Et):=gM (by decide +kernel)
abbrev EG:Stmt:=kB (gN 12) 4
theorem sc_ze:FnScope ["self","place"] ["self"] (aH EG):=gM (by decide +kernel)
abbrev EF:Stmt:=kB (gN 12) 5
theorem sc_zm:FnScope ["self","place","letter","goal","told","known"] ["self","place","letter","goal","told"] (aH EF):=gM (by decide +kernel)
abbrev FQ:Stmt:=kB (gN 12) 6
theorem sc_zj:FnScope ["self","word","told","here","number","letter","is_last","goal","part"] ["self","word","told"] (aH FQ):=gM (by decide +kernel)
abbrev FG:Stmt:=kB (gN 12) 7
theorem sc_zd:FnScope ["self","head","above","turn","letter","way"] ["self","head","above","turn"] (aH FG):=gM (by decide +kernel)
abbrev Fr:Stmt:=kB (gN 12) 8
theorem sc_zw:FnScope ["self","pair","one","other"] ["self"] (aH Fr):=gM (by decide +kernel)
abbrev E6:Stmt:=kB (gN 12) 9
theorem G0:FnScope ["self","letter"] ["self","letter"] (aH E6):=gM (by decide +kernel)
abbrev E5:Stmt:=gN 13
theorem sc_zb:FnScope ["n","weave","heads","numbers","done","letter","goal"] ["n","weave"] (aH E5):=gM (by decide +kernel)
abbrev Bo:Stmt:=gN 14
theorem sc_zz:FnScope ["n","weave","numbers","head","goals"] ["n","weave","numbers","head"] (aH Bo):=gM (by decide +kernel)
abbrev vZ:Stmt:=gN 15
theorem sc_zd1:FnScope ["n","words","weave","word","numbers"] ["n","words"] (aH vZ):=gM (by decide +kernel)
abbrev Fa:Stmt:=gN 17
theorem HH:FnScope ["_law_script"] ["_law_script"] (aH Fa):=gM (by decide +kernel)
abbrev EX:Stmt:=gN 18
theorem sc_z1:FnScope ["_law_flow_here","_law_many","_law_cell","_law_digit"] ["_law_flow_here","_law_many"] (aH EX):=gM (by decide +kernel)
abbrev Az:Stmt:=gN 19
theorem El:FnScope ["_law_found","_law_due"] ["_law_found","_law_due"] (aH Az):=gM (by decide +kernel)
abbrev E7:Stmt:=gN 20
theorem Hm:FnScope ["_law_n"] ["_law_n"] (aH E7):=gM (by decide +kernel)
abbrev EH:Stmt:=gN 21
theorem HR:FnScope ["_law_letter"] ["_law_letter"] (aH EH):=gM (by decide +kernel)
abbrev Aa:Stmt:=gN 22
theorem E4:FnScope ["_law_word_here"] ["_law_word_here"] (aH Aa):=gM (by decide +kernel)
abbrev DF:Stmt:=gN 23
theorem HZ:FnScope ["_law_word_here"] ["_law_word_here"] (aH DF):=gM (by decide +kernel)
abbrev Ev:Stmt:=gN 24
theorem sc_z9:FnScope ["_law_text","_law_found","_law_letter"] ["_law_text"] (aH Ev):=gM (by decide +kernel)
abbrev Dg:Stmt:=gN 25
theorem sc_z3:FnScope ["_law_flow_here","_law_n","_law_most","_law_found","_law_letters_here","_law_k","_law_some"] ["_law_flow_here","_law_n","_law_most"] (aH Dg):=gM (by decide +kernel)
abbrev F6:Stmt:=gN 26
theorem sc_zy:FnScope ["_law_retelling","_law_word_here","_law_found","_law_letter","_law_told"] ["_law_retelling","_law_word_here"] (aH F6):=gM (by decide +kernel)
abbrev DO:Stmt:=gN 27
theorem HD:FnScope ["_law_one","_law_other"] ["_law_one","_law_other"] (aH DO):=gM (by decide +kernel)
abbrev Ga:Stmt:=gN 28
theorem Gp:FnScope ["_law_n"] ["_law_n"] (aH Ga):=gM (by decide +kernel)
abbrev FK:Stmt:=gN 29
theorem sc_za:FnScope ["_law_flow_here","_law_n","_law_letter","_law_side","_law_other"] ["_law_flow_here","_law_n"] (aH FK):=gM (by decide +kernel)
abbrev FJ:Stmt:=gN 30
theorem sc_zg:FnScope ["_law_n","_law_change","_law_letter","_law_side","_law_found","_law_other","_law_told"] ["_law_n","_law_change"] (aH FJ):=gM (by decide +kernel)
abbrev DP:Stmt:=gN 31
theorem sc_zh:FnScope ["_law_change","_law_letter","_law_side","_law_other"] ["_law_change"] (aH DP):=gM (by decide +kernel)
abbrev DL:Stmt:=gN 32
theorem sc_zq:FnScope ["_law_flow_here","_law_n","_law_steps","_law_most","_law_found","_law_back_here","_law_k","_law_change","_law_further","_law_further_back"] ["_law_flow_here","_law_n","_law_steps","_law_most"] (aH DL):=gM (by decide +kernel)
abbrev Gd:Stmt:=gN 33
theorem sc_zk:FnScope ["_law_ways","_law_goes","_law_here","_law_letter","_law_there","_law_whence","_law_place"] ["_law_ways"] (aH Gd):=gM (by decide +kernel)
abbrev rY:Stmt:=gN 34
theorem sc_zb1:FnScope ["_law_n","_law_some","_law_ways","_law_many","_law_word_here","_law_here","_law_k","_law_letter","_law_there","_law_two","_law_goes","_law_order","_law_at","_law_found","_law_row"] ["_law_n","_law_some"] (aH rY):=gM (by decide +kernel)
abbrev Fu:Stmt:=gN 35
theorem sc_zf:FnScope ["_law_flow_here","_law_some","_law_many","_law_text","_law_k","_law_one"] ["_law_flow_here","_law_some","_law_many"] (aH Fu):=gM (by decide +kernel)
abbrev Ac:Stmt:=gN 36
theorem sc_zi:FnScope ["_law_flow_here","_law_n","_law_most","_law_letters_here","_law_base","_law_found","_law_k","_law_g"] ["_law_flow_here","_law_n","_law_most","_law_letters_here"] (aH Ac):=gM (by decide +kernel)
abbrev EQ:Stmt:=gN 37
theorem sc_zt:FnScope ["_law_flow_here","_law_things","_law_left","_law_found"] ["_law_flow_here","_law_things"] (aH EQ):=gM (by decide +kernel)
abbrev vY:Stmt:=gN 38
theorem sc_law:FnScope ["_law_script","_law_flow_here","_law_n","_law_some","_law_due","_law_handed","_law_other","_law_mixed"] ["_law_script"] (aH vY):=gM (by decide +kernel)
structure Txt(P:Program)(w:World)(K:b0)(mg:Str→Option Value)(JH:Addr)(JI:Addr)(JJ:Addr):Prop where
 m_Weave:mg "Weave"=some (.ref JJ)
 o_Weave:Own K JJ
 n_Weave_heads:NoAttr K JJ "heads"
 n_Weave_turns:NoAttr K JJ "turns"
 n_Weave_ways:NoAttr K JJ "ways"
 n_Weave_alike:NoAttr K JJ "alike"
 b_all:mg "all"=none
 b_bool:mg "bool"=none
 b_enumerate:mg "enumerate"=none
 b_int:mg "int"=none
 b_isinstance:mg "isinstance"=none
 b_len:mg "len"=none
 b_list:mg "list"=none
 b_max:mg "max"=none
 b_min:mg "min"=none
 b_range:mg "range"=none
 b_reversed:mg "reversed"=none
 b_sorted:mg "sorted"=none
 b_sum:mg "sum"=none
 b_tuple:mg "tuple"=none
 m_CONTRARIES:mg "CONTRARIES"=some (.ref JH)
 t_CONTRARIES:∀ h,K.In h→StrTab P w h JH Cy
 m_LETTERS:mg "LETTERS"=some (.ref JI)
 t_LETTERS:∀ H,SqT K H JI letV
section
variable {P:Program}{w:World}{K:b0}{mg:Str→Option Value}{base:Heap}{JH:Addr}{JI:Addr}{JJ:Addr}
theorem GG{f:Addr}{fd:FuncData}(D:Df K mg "_law_flow" Fa ["_law_script"] f fd)(T:Txt P w K mg JH JI JJ):Cl P w K mg base "_law_flow" ["_law_script"] 1 (A_ K):=by
 refine D.cl (D.F.ok HH (fun vs H Q E h=>?_) (fun cdv A outer s H vs Q E hr h=>?_))
 ·obtain⟨a,ns,rfl,_⟩:=h
  rfl
 ·obtain⟨a,ns,rfl,hs,hl,k⟩:=h
  refine⟨_,(aF (aT (dB (aA (aW (fQ (K:=K) rfl) (by rfl) T.b_list boot_list (aA (pv 0) aB)) (aA aG (aA aG (aA aG (aA aG aB)))))))),?_⟩
  refine⟨_,rfl,a,_,rfl,.inl hs,fun l hl0=>⟨aK (by simp),fun fl hf=>?_⟩⟩
  have ne:l≠fl:=(aI (aC (H:=H) (a:=l) (o:=HO.lst (ns.map V.int))) hf)
  have hH:H fl=none:=by rw[aE ne.symm] at hf;exact hf
  refine k fl l _ hH ((Same.new hl0).upd' hf) ⟨ns,0,0,1,0,aC,?_,hl,by decide,by decide,by decide⟩
  rw[aE ne,aC]
theorem Gm{f:Addr}{fd:FuncData}(D:Df K mg "_law_pick" EX ["_law_flow_here","_law_many"] f fd)(T:Txt P w K mg JH JI JJ):Cl P w K mg base "_law_pick" ["_law_flow_here","_law_many"] 1 iW:=by
 refine D.cl (D.F.ok sc_z1 (fun vs H Q E h=>?_) (fun cdv A outer s H vs Q E hr h=>?_))
 ·obtain⟨fl,sc,m,rfl,_⟩:=h
  rfl
 ·obtain⟨fl,sc,m,rfl,hf,h0,hm,k⟩:=h
  obtain⟨ns,i,a,b,c,h1,h2,hl,hi,ha,hb⟩:=id hf
  have hne:sc≠fl:=bS h2 h1 (by intro z;cases ns with | nil=>cases z | cons n ns=>cases z)
  refine⟨_,(iL (dH (pw_and (aR eR (aV (aO (K:=K) rfl) (pv 0) aG (fun _ _=>rfl)) aG (aQ _)) (pw_and1 (aR yJ (aV (aO (K:=K) rfl) (pv 0) aG (fun _ _=>rfl)) (aL (bB (K:=K) rfl) (by rfl) T.b_len j2 (aA (aV (aO (K:=K) rfl) (pv 0) aG (fun _ _=>rfl)) aB)) (aQ _)))).pt (aD (aM (i:=2) sc_z1.nd rfl (Or.inl rfl) (aV (aO (K:=K) rfl) (aV (aO (K:=K) rfl) (pv 0) aG (fun _ _=>rfl)) (aV (aO (K:=K) rfl) (pv 0) aG (fun _ _=>rfl)) (fun _ _=>rfl)))
   (aD (fJ (bE eP (aV (aO (K:=K) rfl) (pv 0) aG (fun _ _=>rfl)) aG) (gL (pv 0) aG dY))
   (aF (dH (aR Gq (pv 2) (bE EV aG aG) (aQ _)) (aF (fJ (pv 2) (gL (pv 0) aG dY))) (aF (fJ (bE kL (bE eP (bE eP (bE iD (aV (aO (K:=K) rfl) (pv 0) aG (fun _ _=>rfl)) aG) (bE kL (pv 2) aG)) aG) aG) (gL (pv 0) aG dY))))))) bU)
   (aD (dH (aR mV (aV (aO (K:=K) rfl) (pv 0) aG (fun _ _=>rfl)) aG (aQ _)) (aD (aM (i:=3) sc_z1.nd rfl (Or.inl rfl) (bE kL (aV (aO (K:=K) rfl) (pv 0) aG (fun _ _=>rfl)) (pv 1)))
   (aD (fJ (bE sR (aV (aO (K:=K) rfl) (pv 0) aG (fun _ _=>rfl)) (pv 1)) (gL (pv 0) aG dY))
   (aF (aT (pv 3))))) bU)
   (aD (fJ (bE eP (aV (aO (K:=K) rfl) (pv 0) aG (fun _ _=>rfl)) aG) (gL (pv 0) aG dY))
   (aD (fJ (bE kL (bE eP (bE eP (bE iD (aV (aO (K:=K) rfl) (pv 0) aG (fun _ _=>rfl)) aG) aG) (aV (aO (K:=K) rfl) (pv 0) aG (fun _ _=>rfl))) aG) (gL (pv 0) aG dY))
   (aF (aT (bE kL (bE sR (bE kL (bE iD (bE eP (bE kL (aV (aO (K:=K) rfl) (pv 0) aG (fun _ _=>rfl)) aG) aG) (bE eP (bE sR (aV (aO (K:=K) rfl) (pv 0) aG (fun _ _=>rfl)) aG) aG)) aG) aG) (pv 1)))))))),?_⟩
  refine⟨fun σ H1=>(∃ v,σ=[some (.ref fl),some (.int m),v,none])∧IsFl H1 fl sc∧Kp fl H H1,?_,?_⟩
  ·refine⟨_,rfl,fl,_,2,_,rfl,rfl,SqL.of h1,rfl,rfl,_,rfl,eK (fun e=>?_) (fun _=>fV ⟨⟨none,rfl⟩,hf,Kp.refl _ _⟩)⟩
   refine⟨_,rfl,fl,_,1,_,rfl,rfl,SqL.of h1,rfl,_,rfl,fl,_,0,_,rfl,rfl,SqL.of h1,rfl,sc,_,rfl,.inl (SqL.of h2),_,_,rfl,rfl,_,rfl,eK (fun e2=>?_) (fun _=>⟨⟨none,rfl⟩,hf,Kp.refl _ _⟩)⟩
   have hlt:i<((ns.map V.int).length:Int):=of_decide_eq_true e2
   rw[b7] at hlt
   have hil:i.toNat<ns.length:=by omega
   have hat:wJ (ns.map V.int) i=some (.int ns[i.toNat]):=by
    have q:(ns.map V.int)[i.toNat]?=some (.int ns[i.toNat]):=by rw[c5,a9 hil];rfl
    have q2:=cX q
    rwa [aXd hi] at q2
   refine⟨_,rfl,fl,_,0,_,rfl,rfl,SqL.of h1,rfl,_,rfl,fl,_,1,_,rfl,rfl,SqL.of h1,rfl,sc,_,i,_,rfl,rfl,SqL.of h2,hat,?_⟩
   refine⟨_,rfl,fl,_,1,_,rfl,rfl,SqL.of h1,rfl,_,_,rfl,rfl,_,rfl,fl,_,1,1,rfl,rfl,h1,rfl,?_⟩
   refine⟨_,rfl,_,_,rfl,rfl,⟨by decide,by decide,by decide⟩,_,_,rfl,rfl,_,rfl,eK (fun e3=>?_) (fun _=>?_)⟩
   ·have hc:(10:Int) ^ (18:Int).toNat≤ns[i.toNat]:=of_decide_eq_true e3
    have hp:(0:Int)≤10 ^ (18:Int).toNat:=by decide
    refine⟨_,rfl,_,rfl,fl,_,2,2,rfl,rfl,aC,rfl,⟨_,rfl⟩,⟨ns,i+1,ns[i.toNat],b,c,aC,?_,hl,by omega,by omega,hb⟩,((Kp.refl fl H).self).self⟩
    rw[aE hne,aE hne];exact h2
   ·refine⟨_,rfl,fl,_,3,_,rfl,rfl,SqL.of aC,rfl,_,_,rfl,rfl,.inr ⟨by decide,by decide⟩,_,rfl,_,_,rfl,rfl,(by show (0:Int)<1000003;decide),_,_,rfl,rfl,_,_,rfl,rfl,_,_,rfl,rfl,(by show (0:Int)<2147483647;decide),_,rfl,fl,_,3,3,rfl,rfl,aC,rfl,⟨_,rfl⟩,⟨ns,i+1,a,_,c,aC,?_,hl,by omega,ha,aQT _ (by decide)⟩,((Kp.refl fl H).self).self⟩
    rw[aE hne,aE hne];exact h2
  ·rintro _ H1 ⟨⟨v,rfl⟩,⟨ns,i,a,b,c,h1,h2,hl,hi,ha,hb⟩,kp⟩
   have hne:sc≠fl:=bS h2 h1 (by intro z;cases ns with | nil=>cases z | cons n ns=>cases z)
   refine⟨_,rfl,fl,_,2,_,rfl,rfl,SqL.of h1,rfl,_,_,rfl,rfl,_,rfl,eK (fun e=>?_) (fun _=>?_)⟩
   ·refine⟨_,rfl,fl,_,2,_,rfl,rfl,SqL.of h1,rfl,_,rfl,_,_,rfl,rfl,h0,?_⟩
    refine⟨_,rfl,fl,_,2,_,rfl,rfl,SqL.of h1,rfl,_,rfl,_,_,rfl,rfl,⟨h0,hm⟩,_,rfl,fl,_,2,2,rfl,rfl,h1,rfl,?_⟩
    refine⟨_,rfl,k _ _ (aQT _ (by omega)) (aQW _ h0) ⟨ns,i,a / m,b,c,aC,?_,hl,hi,Int.ediv_nonneg ha (by omega),hb⟩ kp.self⟩
    rw[aE hne];exact h2
   ·refine⟨_,rfl,fl,_,4,_,rfl,rfl,SqL.of h1,rfl,_,_,rfl,rfl,_,rfl,fl,_,4,4,rfl,rfl,h1,rfl,?_⟩
    refine⟨_,rfl,fl,_,3,_,rfl,rfl,SqL.of aC,rfl,_,_,rfl,rfl,.inr ⟨by decide,by decide⟩,_,_,rfl,rfl,_,rfl,fl,_,4,_,rfl,rfl,SqL.of aC,rfl,_,_,rfl,rfl,_,_,rfl,rfl,(by show (0:Int)<2147483647;decide),_,rfl,fl,_,3,3,rfl,rfl,aC,rfl,?_⟩
    have hb3:∀ x:Int,0≤x % 2147483647∧x % 2147483647<2147483647:=fun x=>⟨aQT _ (by decide),aQW _ (by decide)⟩
    refine⟨_,rfl,fl,_,3,_,rfl,rfl,SqL.of aC,rfl,_,_,rfl,rfl,(by show (0:Int)<65521;decide),_,_,rfl,rfl,_,rfl,fl,_,3,_,rfl,rfl,SqL.of aC,rfl,_,_,rfl,rfl,⟨by decide,by decide⟩,_,_,rfl,rfl,_,_,rfl,rfl,.inl ⟨?_,?_⟩,_,_,rfl,rfl,(by show (0:Int)<1000003;decide),_,_,rfl,rfl,⟨by decide,by decide⟩,_,rfl,_,_,rfl,rfl,h0,?_⟩
    ·have:=aQT ((b * 48271+12820163+(c+1)) % 2147483647) (show (65521:Int)≠0 by decide);omega
    ·have:=aQW ((b * 48271+12820163+(c+1)) % 2147483647) (show (0:Int)<65521 by decide);omega
    ·refine k _ _ (aQT _ (by omega)) (aQW _ h0) ⟨ns,i,a,_,c+1,aC,?_,hl,hi,ha,(hb3 _).1⟩ kp.self.self
     rw[aE hne,aE hne];exact h2
theorem G_{f:Addr}{fd:FuncData}(D:Df K mg "_law_contrary" EH ["_law_letter"] f fd)(T:Txt P w K mg JH JI JJ):Cl P w K mg base "_law_contrary" ["_law_letter"] 1 iX:=by
 refine D.cl (D.F.ok HR (fun vs H Q E h=>?_) (fun cdv A outer s H vs Q E hr h=>?_))
 ·obtain⟨c,rfl,_⟩:=h
  rfl
 ·obtain⟨c,rfl,hc,k⟩:=h
  refine⟨_,(aD (dH (gI (dZ (K:=K) rfl j3 PySem.F.slot_str_islower PySem.F.type_str_islower xY (pv 0))) (aF (aT (dZ (K:=K) rfl j3 aQ1 aQ2 oK (pv 0)))) bU)
   (aF (aT (dZ (K:=K) rfl j3 aQG aQH lK (pv 0))))),?_⟩
  refine⟨_,rfl,rfl,_,rfl,rfl,_,rfl,?_⟩
  dsimp only
  rw[Ax hc]
  refine eK (fun e=>?_) (fun e=>?_)
  ·refine⟨_,rfl,rfl,_,rfl,rfl,?_,?_⟩
   ·rw[jR hc e];exact tI _
   ·rw[jR hc e];exact k H (Same.refl H)
  ·have e':bW c=false:=by simpa using e
   refine⟨_,rfl,rfl,_,rfl,rfl,?_,?_⟩
   ·rw[yR hc e'];exact tI _
   ·rw[yR hc e'];exact k H (Same.refl H)
theorem GQ{f:Addr}{fd:FuncData}(D:Df K mg "_law_letters" E7 ["_law_n"] f fd)(T:Txt P w K mg JH JI JJ):Cl P w K mg base "_law_letters" ["_law_n"] 1 jQ:=by
 refine D.cl (D.F.ok Hm (fun vs H Q E h=>?_) (fun cdv A outer s H vs Q E hr h=>?_))
 ·obtain⟨n,rfl,_⟩:=h
  rfl
 ·obtain⟨n,rfl,h1,h4,k⟩:=h
  refine⟨_,(aF (aT (aW (sC rfl) (by rfl) T.b_list boot_list (aA (jF tE cU jT (iN (bE iD aG (pv 0)))) aB)))),?_⟩
  have e:Txt.slice (Str.ofString "aAbBcCdD") none (some (2 * n))=S (aJ n):=by
   rw[show Str.ofString "aAbBcCdD"=S lets by decide +kernel,lI lets (by omega) (by show (2 * n)≤(8:Int);omega)]
   rfl
  refine⟨_,rfl,_,_,rfl,rfl,.inl ⟨by decide,by decide⟩,_,rfl,_,rfl,by decide +kernel,aJ n,by rw[e],?_,fun l hl=>k l _ hl (Same.new hl) aC⟩
  rw[jU h1 h4];omega
theorem GC{f:Addr}{fd:FuncData}(D:Df K mg "_law_laid" Ev ["_law_text"] f fd)(T:Txt P w K mg JH JI JJ)(c_zs:Cl P w K mg base "_law_contrary" ["_law_letter"] 1 iX):Cl P w K mg base "_law_laid" ["_law_text"] 2 rG:=by
 refine D.cl (D.F.ok sc_z9 (fun vs H Q E h=>?_) (fun cdv A outer s H vs Q E hr h=>?_))
 ·obtain⟨x,rfl,_⟩:=h
  rfl
 ·obtain⟨x,rfl,hx,hlen,k⟩:=h
  refine⟨_,(aD (aM (i:=1) sc_z9.nd rfl (Or.inl rfl) (dB aB))
   (aD (cV i7 rfl (mM (pv 0)) (aX (i:=2) sc_z9.nd rfl (Or.inl rfl)) (aF (dH (pw_and (aR mV (aL (bB (K:=K) rfl) (by rfl) T.b_len j2 (aA (pv 1) aB)) aG (aQ _)) (pw_and1 (aR eR (aV (aO (K:=K) rfl) (pv 1) (BM wW aG) (fun _ _=>rfl)) (pC c_zs hr (aA (pv 2) aB)) (aQ _)))).pt (aF (bM (dZ (K:=K) rfl i0 y1 y2 B7 (pv 1)))) (aF (bM (cK (K:=K) rfl i0 j4 j5 bR (pv 1) (aA (pv 2) aB)))))))
   (aF (aT (cK (K:=K) rfl j3 aQO aQP (lD (K:=K) rfl) cU (aA (pv 1) aB)))))),?_⟩
  refine⟨aK (by simp),fun l hl=>?_⟩
  refine⟨_,rfl,S x,rfl,nU (w:=x) (fun i σ H1=>(∃ v,σ=[some (.str (S x)),some (.ref l),v])∧Same H H1∧H1 l=some (.lst (bH (gX [] (x.take i)).reverse))) ⟨⟨none,rfl⟩,Same.new hl,aC⟩ ?_ ?_⟩
  ·rintro i c σ H1 hc ⟨⟨v,rfl⟩,s1,e1⟩
   have hi:i<x.length:=(a8.mp hc).1
   have hcL:cR c:=hx c (b6 hc)
   have hn:gX [] (x.take (i+1))=push (gX [] (x.take i)) c:=by rw[bK hc,fU]
   have hsz:(gX [] (x.take i)).length≤60000:=by
    have:=nY (x.take i) []
    rw[i6] at this
    simp at this
    omega
   refine⟨_,rfl,l,_,rfl,.inl (SqL.of e1),_,_,rfl,rfl,_,rfl,eK (fun e=>?_) (fun e=>?_)⟩
   ·have hne:0<(gX [] (x.take i)).length:=by
     have e':=of_decide_eq_true e
     rw[bG,t8] at e'
     omega
    obtain⟨y,r,hk⟩:∃ y r,gX [] (x.take i)=y::r:=by
     cases hq:gX [] (x.take i) with
     | nil=>rw[hq] at hne;simp at hne
     | cons y r=>exact⟨y,r,rfl⟩
    rw[hk] at e1 hn hsz
    have e2:H1 l=some (.lst (bH r.reverse++[.str (S [y])])):=by rw[e1,n9,cQ]
    refine⟨_,rfl,_,rfl,l,_,_,_,rfl,rfl,SqL.of e2,oP _ _,_,rfl,c,rfl,hcL,fun H2 s2=>⟨rfl,_,rfl,eK (fun q=>?_) (fun q=>?_)⟩⟩
    ·rw[fK] at q
     have q':y=aU c:=by simpa using q
     have hp:push (y::r) c=r:=by unfold push;dsimp only;rw[if_pos q']
     rw[hp] at hn
     refine⟨_,rfl,.inl ⟨rfl,_,SqL.of (s2 _ _ e2)⟩,l,_,_,rfl,rfl,s2 _ _ e2,by simp;rfl,⟨_,rfl⟩,(s1.trans s2).upd hl,?_⟩
     rw[aC,hn]
     simp
    ·rw[fK] at q
     have q':¬ y=aU c:=by simpa using q
     have hp:push (y::r) c=c::y::r:=by unfold push;dsimp only;rw[if_neg q']
     rw[hp] at hn
     refine⟨_,rfl,.inl ⟨rfl,_,SqL.of (s2 _ _ e2)⟩,_,rfl,l,_,_,rfl,rfl,s2 _ _ e2,?_,⟨_,rfl⟩,(s1.trans s2).upd hl,?_⟩
     ·rw[b9,bG,t8]
      rw[j1] at hsz
      have h9:r.length+1≤100000:=by omega
      exact j9 h9 (by decide)
     ·rw[aC,hn,n9,n9,cQ,cQ]
   ·have hk:gX [] (x.take i)=[]:=by
     cases hq:gX [] (x.take i) with
     | nil=>rfl
     | cons y r =>
      exfalso
      apply e
      apply decide_eq_true
      rw[bG,t8,hq]
      simp
    rw[hk] at e1 hn
    refine fV ⟨_,rfl,.inl ⟨rfl,_,SqL.of e1⟩,_,rfl,l,_,_,rfl,rfl,e1,?_,⟨_,rfl⟩,s1.upd hl,?_⟩
    ·show (0:Nat)<sizeLine;decide
    ·rw[aC,hn]
     rfl
  ·rintro σ H1 ⟨⟨v,rfl⟩,s1,e1⟩
   rw[i9] at e1
   have e2:SqL K H1 l ((lay x).map (fun c=>S [c]) |>.map V.str):=by
    rw[← nQ];exact SqL.of e1
   refine⟨rfl,_,rfl,_,l,_,rfl,rfl,e2,hZ _ (j0 (gG x) (by omega)),?_⟩
   rw[jN]
   exact k H1 s1
theorem Hz{f:Addr}{fd:FuncData}(D:Df K mg "_law_word" Dg ["_law_flow_here","_law_n","_law_most"] f fd)(T:Txt P w K mg JH JI JJ)(c_z1:Cl P w K mg base "_law_pick" ["_law_flow_here","_law_many"] 1 iW)(c_zv:Cl P w K mg base "_law_letters" ["_law_n"] 1 jQ)(c_zs:Cl P w K mg base "_law_contrary" ["_law_letter"] 1 iX):Cl P w K mg base "_law_word" ["_law_flow_here","_law_n","_law_most"] 2 BK:=by
 refine D.cl (D.F.ok sc_z3 (fun vs H Q E h=>?_) (fun cdv A outer s H vs Q E hr h=>?_))
 ·obtain⟨fl,sc,n,most,rfl,_⟩:=h
  rfl
 ·obtain⟨fl,sc,n,most,rfl,hf,h1,h4,hm,hm2,k⟩:=h
  refine⟨_,(aD (aM (i:=3) sc_z3.nd rfl (Or.inr rfl) cU)
   (aD (aM (i:=4) sc_z3.nd rfl (Or.inl rfl) (pC c_zv hr (aA (pv 1) aB)))
   (aD (cV i7 rfl (eX (by rfl) T.b_range (aA (pC c_z1 hr (aA (pv 0) (aA (bE eP (pv 2) aG) aB))) aB)) (aX (i:=5) sc_z3.nd rfl (Or.inl rfl)) (aD (hJ (i:=6) (sc0:=aH Dg) (N:=["_law_flow_here","_law_n","_law_most","_law_found","_law_letters_here","_law_k","_law_some"]) (ix:=[3]) sc_z3.nd rfl rfl (by decide +kernel) rfl rfl rfl (cG (K:=K) rfl (pv 4)) (fun _ _ _=>vE (pw_or (aR eR (pv 1) cU (aQ _)) (pw_or1 (aR jB (pv 0) (pC c_zs hr (aA (aV FP (pv 1) (BM wW aG) (fun _ _=>rfl)) aB)) (aQ _)))).pt) (fun _ _ _=>(pv 0)))
   (aF (aM (i:=3) sc_z3.nd rfl (Or.inr rfl) (bE dP (pv 3) (aV (aO (K:=K) rfl) (pv 6) (pC c_z1 hr (aA (pv 0) (aA (aL (bB (K:=K) rfl) (by rfl) T.b_len j2 (aA (pv 6) aB)) aB))) (fun _ _=>rfl)))))))
   (aF (aT (pv 3)))))),?_⟩
  refine⟨_,rfl,n,rfl,h1,h4,fun l H1 hl s1 e1=>?_⟩
  have hlf:l≠fl:=hf.ne hl
  refine⟨_,rfl,_,rfl,_,_,rfl,rfl,fl,sc,most+1,rfl,hf.same s1,by omega,by omega,fun d H2 d0 d1 f2 k2=>⟨d,rfl,by omega,by omega,?_⟩⟩
  refine jS (lo:=0) (n:=d.toNat) (fun i σ H3=>∃ (x:List Nat) (v5 v6:Option V),σ=[some (.ref fl),some (.int n),some (.int most),some (.str (S x)),some (.ref l),v5,v6]∧OfN n x∧cP x∧x.length=i∧IsFl H3 fl sc∧Kp fl H H3∧H3 l=some (.lst (bH (aJ n)))) ?_ ?_ ?_
  ·refine⟨[],none,none,?_,fun c hc=>(nomatch hc),trivial,rfl,f2,(s1.kp).trans k2,k2 _ _ e1 hlf⟩
   rw[← qY];rfl
  ·rintro i _ H3 hi ⟨x,v5,v6,rfl,ho,hp,hxl,f3,k3,e3⟩
   have hxd:(x.length:Int)<most+1:=by omega
   refine⟨_,rfl,l,rfl,⟨_,SqL.of e3⟩,fun Dd hD=>eE (xs:=bH (aJ n)) (fun j H4=>Same H3 H4∧H4 Dd=some (.lst (bH (((aJ n).take j).filter (nS x))))) ⟨Same.new hD,aC⟩ (fun j H4 _ p=>SqL.of (p.1 _ _ e3)) ?_ ?_⟩
   ·rintro j y H4 hy ⟨s4,e4⟩
    obtain⟨c,hc,rfl⟩:∃ c,(aJ n)[j]?=some c∧y=.str (S [c]):=by
     unfold bH at hy
     rw[c5] at hy
     cases hq:(aJ n)[j]? with
     | none=>rw[hq] at hy;cases hy
     | some c=>rw[hq] at hy;exact⟨c,rfl,(i3 hy).symm⟩
    have hcL:cR c:=bA (b6 hc)
    have ht:((aJ n).take (j+1)).filter (nS x)=((aJ n).take j).filter (nS x)++(if nS x c then [c] else []):=take_succ_filter (nS x) (aJ n) j c hc
    have hsz:(((aJ n).take j).filter (nS x)).length≤100:=by
     have q1:=aQQ (nS x) ((aJ n).take j)
     have q2:((aJ n).take j).length≤(aJ n).length:=by rw[i6];omega
     rw[jU h1 h4] at q2
     omega
    have app:nS x c=true→∀ H5,Same H4 H5→∃ ys,H5 Dd=some (.lst ys)∧ys.length<sizeLine∧Same H3 (upd H5 Dd (.lst (ys++[.str (S [c])])))∧upd H5 Dd (.lst (ys++[.str (S [c])])) Dd=some (.lst (bH (((aJ n).take (j+1)).filter (nS x)))):=fun ok H5 s5=>by
     refine⟨_,s5 _ _ e4,?_,(s4.trans s5).upd hD,?_⟩
     ·rw[bG];exact aN (by omega)
     ·rw[aC,ht,ok]
      show some (HO.lst _)=some (HO.lst (bH (_++[c])))
      rw[cQ]
    refine⟨_,rfl,rfl,_,rfl,eK (fun e=>?_) (fun e=>?_)⟩
    ·rw[qY,fK] at e
     have e':x=[]:=by simpa using e
     refine gC ⟨_,rfl,app (by rw[e'];rfl) H4 (Same.refl _)⟩
    ·rw[qY,fK] at e
     have e':x≠[]:=by simpa using e
     obtain⟨u,z,rfl⟩:∃ u z,x=u++[z]:=⟨x.dropLast,x.getLast e',(x5 e').symm⟩
     have hz:cR z:=bA (ho z (by simp))
     refine⟨_,rfl,_,rfl,_,rfl,_,_,z,rfl,rfl,by rw[cC];exact aK (by simp at hxd ⊢;omega),by rw[IA];exact oP u z,z,rfl,hz,fun H5 s5=>⟨rfl,_,rfl,?_⟩⟩
     rw[fK]
     have ok:nS (u++[z]) c=!decide ([c]=[aU z]):=by
      unfold nS
      simp
     rw[← ok]
     refine eK (fun q=>⟨_,rfl,app q H5 s5⟩) (fun q=>⟨s4.trans s5,?_⟩)
     have q':nS (u++[z]) c=false:=by simpa using q
     rw[s5 _ _ e4,ht,q']
     simp
   ·rintro H4 ⟨s4,e4⟩
    rw[bG,i9] at e4
    have hpos:=DT (x:=x) h1 h4
    have hsz:((aJ n).filter (nS x)).length≤8:=by
     have q1:=aQQ (nS x) (aJ n)
     rw[jU h1 h4] at q1
     omega
    have hDf:Dd≠fl:=f3.ne hD
    refine⟨_,rfl,_,rfl,_,rfl,_,rfl,Dd,_,rfl,.inl (SqL.of e4),fl,sc,_,rfl,f3.same s4,?_,?_,fun g H5 g0 g1 f5 k5=>?_⟩
    ·rw[bG];omega
    ·rw[bG];omega
    rw[bG] at g1
    have hg:g.toNat<((aJ n).filter (nS x)).length:=by omega
    have hmem:=aXG hg
    have hat:wJ (bH ((aJ n).filter (nS x))) g=some (.str (S [((aJ n).filter (nS x))[g.toNat]])):=kP g0 (uE (a9 hg))
    generalize ((aJ n).filter (nS x))[g.toNat]=c at hat hmem
    obtain⟨hm1,hm2⟩:=z7.mp hmem
    refine⟨Dd,_,g,_,rfl,rfl,SqL.of (k5 _ _ e4 hDf),hat,_,_,rfl,rfl,?_,?_⟩
    ·rw[cC,cC];exact aK (by simp;omega)
    ·rw[jZ]
     refine⟨x++[c],_,_,rfl,?_,Ah (OfN.all ho) (bA hm1) hp hm2,?_,f5,(k3.trans s4.kp).trans k5,k5 _ _ (s4 _ _ e3) hlf⟩
     ·intro c' hc'
      rcases i5.mp hc' with q | q
      ·exact ho c' q
      ·rw[c9.mp q];exact hm1
     ·rw[b9,hxl];rfl
  ·rintro _ H3 ⟨x,v5,v6,rfl,ho,hp,hxl,f3,k3,e3⟩
   exact⟨_,rfl,k x H3 ho hp (by omega) f3 k3⟩
theorem Hc{f:Addr}{fd:FuncData}(D:Df K mg "_law_back" DF ["_law_word_here"] f fd)(T:Txt P w K mg JH JI JJ)(c_zs:Cl P w K mg base "_law_contrary" ["_law_letter"] 1 iX):Cl P w K mg base "_law_back" ["_law_word_here"] 2 oN:=by
 refine D.cl (D.F.ok HZ (fun vs H Q E h=>?_) (fun cdv A outer s H vs Q E hr h=>?_))
 ·obtain⟨x,rfl,_⟩:=h
  rfl
 ·obtain⟨x,rfl,hx,hlen,k⟩:=h
  refine⟨_,(aF (aT (cK (K:=K) rfl j3 aQO aQP (lD (K:=K) rfl) cU (aA (cY (sc0:=aH DF) (N:=["_law_word_here"]) (ix:=[]) (by decide +kernel) rfl rfl rfl (Fq (by rfl) T.b_reversed (aA (pv 0) aB)) (fun _ _ _=>bX) (fun _ _ _=>(pC c_zs hr (aA (pv 0) aB)))) aB)))),?_⟩
  refine⟨rfl,_,rfl,S x,rfl,by rw[cC];exact hlen,fun Dd hD=>?_⟩
  refine pH (w:=x) (fun i H1=>Same H H1∧H1 Dd=some (.lst (bH ((x.reverse.take i).map aU)))) ⟨Same.new hD,aC⟩ ?_ ?_
  ·rintro i c H1 hc ⟨s1,e1⟩
   have hcL:cR c:=hx c (aQR.mp (b6 hc))
   have hi:i<x.length:=by have:=(a8.mp hc).1;simpa using this
   refine⟨_,rfl,c,rfl,hcL,fun H2 s2=>⟨_,s2 _ _ e1,?_,(s1.trans s2).upd hD,?_⟩⟩
   ·rw[bG,b7,i6];exact aN (by omega)
   ·rw[aC,bK hc,d9,← cQ];rfl
  ·rintro H1 ⟨s1,e1⟩
   have eb:(x.reverse.take x.length).map aU=back x:=by
    rw[p0 (by simp)]
    unfold back
    rw[aXH]
   rw[eb] at e1
   have e2:SqL K H1 Dd (((back x).map fun c=>S [c]).map V.str):=by rw[← nQ];exact SqL.of e1
   refine⟨_,Dd,_,rfl,rfl,e2,hZ _ (by rw[bY];omega),?_⟩
   rw[jN]
   exact k H1 s1
theorem HE{f:Addr}{fd:FuncData}(D:Df K mg "contrary" FH ["letter"] f fd)(T:Txt P w K mg JH JI JJ):Cl P w K mg base "contrary" ["letter"] 1 iX:=by
 refine D.cl (D.F.ok HP (fun vs H Q E h=>?_) (fun cdv A outer s H vs Q E hr h=>?_))
 ·obtain⟨c,rfl,_⟩:=h
  rfl
 ·obtain⟨c,rfl,hc,k⟩:=h
  refine⟨_,(aF (aT (aV (FW T.t_CONTRARIES) (nI (v:=.ref JH) (by rfl) T.m_CONTRARIES rfl) (pv 0) (fun _ _=>rfl)))),?_⟩
  exact⟨_,rfl,rfl,_,rfl,.inl ⟨_,uR hc,k H (Same.refl H)⟩⟩
theorem Gz{f:Addr}{fd:FuncData}(D:Df K mg "laid_out" FR ["text"] f fd)(T:Txt P w K mg JH JI JJ)(c_z4:Cl P w K mg base "contrary" ["letter"] 1 iX):Cl P w K mg base "laid_out" ["text"] 2 rG:=by
 refine D.cl (D.F.ok sc_z7 (fun vs H Q E h=>?_) (fun cdv A outer s H vs Q E hr h=>?_))
 ·obtain⟨x,rfl,_⟩:=h
  rfl
 ·obtain⟨x,rfl,hx,hlen,k⟩:=h
  refine⟨_,(aD (aM (i:=1) sc_z7.nd rfl (Or.inl rfl) (dB aB))
   (aD (cV i7 rfl (mM (pv 0)) (aX (i:=2) sc_z7.nd rfl (Or.inl rfl)) (aF (dH (pw_and (aR mV (aL (bB (K:=K) rfl) (by rfl) T.b_len j2 (aA (pv 1) aB)) aG (aQ _)) (pw_and1 (aR eR (aV (aO (K:=K) rfl) (pv 1) (BM wW aG) (fun _ _=>rfl)) (pC c_z4 hr (aA (pv 2) aB)) (aQ _)))).pt (aF (bM (dZ (K:=K) rfl i0 y1 y2 B7 (pv 1)))) (aF (bM (cK (K:=K) rfl i0 j4 j5 bR (pv 1) (aA (pv 2) aB)))))))
   (aF (aT (cK (K:=K) rfl j3 aQO aQP (lD (K:=K) rfl) cU (aA (pv 1) aB)))))),?_⟩
  refine⟨aK (by simp),fun l hl=>?_⟩
  refine⟨_,rfl,S x,rfl,nU (w:=x) (fun i σ H1=>(∃ v,σ=[some (.str (S x)),some (.ref l),v])∧Same H H1∧H1 l=some (.lst (bH (gX [] (x.take i)).reverse))) ⟨⟨none,rfl⟩,Same.new hl,aC⟩ ?_ ?_⟩
  ·rintro i c σ H1 hc ⟨⟨v,rfl⟩,s1,e1⟩
   have hi:i<x.length:=(a8.mp hc).1
   have hcL:cR c:=hx c (b6 hc)
   have hn:gX [] (x.take (i+1))=push (gX [] (x.take i)) c:=by rw[bK hc,fU]
   have hsz:(gX [] (x.take i)).length≤60000:=by
    have:=nY (x.take i) []
    rw[i6] at this
    simp at this
    omega
   refine⟨_,rfl,l,_,rfl,.inl (SqL.of e1),_,_,rfl,rfl,_,rfl,eK (fun e=>?_) (fun e=>?_)⟩
   ·have hne:0<(gX [] (x.take i)).length:=by
     have e':=of_decide_eq_true e
     rw[bG,t8] at e'
     omega
    obtain⟨y,r,hk⟩:∃ y r,gX [] (x.take i)=y::r:=by
     cases hq:gX [] (x.take i) with
     | nil=>rw[hq] at hne;simp at hne
     | cons y r=>exact⟨y,r,rfl⟩
    rw[hk] at e1 hn hsz
    have e2:H1 l=some (.lst (bH r.reverse++[.str (S [y])])):=by rw[e1,n9,cQ]
    refine⟨_,rfl,_,rfl,l,_,_,_,rfl,rfl,SqL.of e2,oP _ _,_,rfl,c,rfl,hcL,fun H2 s2=>⟨rfl,_,rfl,eK (fun q=>?_) (fun q=>?_)⟩⟩
    ·rw[fK] at q
     have q':y=aU c:=by simpa using q
     have hp:push (y::r) c=r:=by unfold push;dsimp only;rw[if_pos q']
     rw[hp] at hn
     refine⟨_,rfl,.inl ⟨rfl,_,SqL.of (s2 _ _ e2)⟩,l,_,_,rfl,rfl,s2 _ _ e2,by simp;rfl,⟨_,rfl⟩,(s1.trans s2).upd hl,?_⟩
     rw[aC,hn]
     simp
    ·rw[fK] at q
     have q':¬ y=aU c:=by simpa using q
     have hp:push (y::r) c=c::y::r:=by unfold push;dsimp only;rw[if_neg q']
     rw[hp] at hn
     refine⟨_,rfl,.inl ⟨rfl,_,SqL.of (s2 _ _ e2)⟩,_,rfl,l,_,_,rfl,rfl,s2 _ _ e2,?_,⟨_,rfl⟩,(s1.trans s2).upd hl,?_⟩
     ·rw[b9,bG,t8]
      rw[j1] at hsz
      have h9:r.length+1≤100000:=by omega
      exact j9 h9 (by decide)
     ·rw[aC,hn,n9,n9,cQ,cQ]
   ·have hk:gX [] (x.take i)=[]:=by
     cases hq:gX [] (x.take i) with
     | nil=>rfl
     | cons y r =>
      exfalso
      apply e
      apply decide_eq_true
      rw[bG,t8,hq]
      simp
    rw[hk] at e1 hn
    refine fV ⟨_,rfl,.inl ⟨rfl,_,SqL.of e1⟩,_,rfl,l,_,_,rfl,rfl,e1,?_,⟨_,rfl⟩,s1.upd hl,?_⟩
    ·show (0:Nat)<sizeLine;decide
    ·rw[aC,hn]
     rfl
  ·rintro σ H1 ⟨⟨v,rfl⟩,s1,e1⟩
   rw[i9] at e1
   have e2:SqL K H1 l ((lay x).map (fun c=>S [c]) |>.map V.str):=by
    rw[← nQ];exact SqL.of e1
   refine⟨rfl,_,rfl,_,l,_,rfl,rfl,e2,hZ _ (j0 (gG x) (by omega)),?_⟩
   rw[jN]
   exact k H1 s1
theorem GU{f:Addr}{fd:FuncData}(D:Df K mg "turned_back" CW ["word"] f fd)(T:Txt P w K mg JH JI JJ)(c_z4:Cl P w K mg base "contrary" ["letter"] 1 iX):Cl P w K mg base "turned_back" ["word"] 2 lL:=by
 refine D.cl (D.F.ok Hf (fun vs H Q E h=>?_) (fun cdv A outer s H vs Q E hr h=>?_))
 ·obtain⟨x,rfl,_⟩:=h
  rfl
 ·obtain⟨x,rfl,hx,hlen,k⟩:=h
  refine⟨_,(aF (aT (cK (K:=K) rfl j3 aQO aQP (lD (K:=K) rfl) cU (aA (cY (sc0:=aH CW) (N:=["word"]) (ix:=[]) (by decide +kernel) rfl rfl rfl (CV (by rfl) T.b_reversed (aA (pv 0) aB)) (fun _ _ _=>bX) (fun _ _ _=>(pC c_z4 hr (aA (pv 0) aB)))) aB)))),?_⟩
  refine⟨rfl,_,rfl,S x,rfl,by rw[cC];exact hlen,fun Dd hD=>?_⟩
  refine pH (w:=x) (fun i H1=>Same H H1∧H1 Dd=some (.lst (bH ((x.reverse.take i).map aU)))) ⟨Same.new hD,aC⟩ ?_ ?_
  ·rintro i c H1 hc ⟨s1,e1⟩
   have hcL:cR c:=hx c (aQR.mp (b6 hc))
   have hi:i<x.length:=by have:=(a8.mp hc).1;simpa using this
   refine⟨_,rfl,c,rfl,hcL,fun H2 s2=>⟨_,s2 _ _ e1,?_,(s1.trans s2).upd hD,?_⟩⟩
   ·rw[bG,b7,i6];exact j9 (show _≤60000 by omega) (by decide)
   ·rw[aC,bK hc,d9,← cQ];rfl
  ·rintro H1 ⟨s1,e1⟩
   have eb:(x.reverse.take x.length).map aU=back x:=by
    rw[p0 (by simp)]
    unfold back
    rw[aXH]
   rw[eb] at e1
   have e2:SqL K H1 Dd (((back x).map fun c=>S [c]).map V.str):=by rw[← nQ];exact SqL.of e1
   refine⟨_,Dd,_,rfl,rfl,e2,hZ _ (by rw[bY];omega),?_⟩
   rw[jN]
   exact k H1 s1
theorem Fk{f:Addr}{fd:FuncData}(D:Df K mg "joined" Bc ["one","other"] f fd)(T:Txt P w K mg JH JI JJ)(c_z7:Cl P w K mg base "laid_out" ["text"] 2 rG):Cl P w K mg base "joined" ["one","other"] 3 lB:=by
 refine D.cl (D.F.ok ET (fun vs H Q E h=>?_) (fun cdv A outer s H vs Q E hr h=>?_))
 ·obtain⟨u,x,rfl,_⟩:=h
  rfl
 ·obtain⟨u,x,rfl,hu,hx,hlen,k⟩:=h
  refine⟨_,(aF (aT (pC c_z7 hr (aA (bE dP (pv 0) (pv 1)) aB)))),?_⟩
  refine⟨_,rfl,_,rfl,_,_,rfl,rfl,by rw[cC,cC];exact aK (by omega),u++x,by rw[jZ];rfl,AllL.app.mpr ⟨hu,hx⟩,by rw[b9];omega,k⟩
theorem GE{f:Addr}{fd:FuncData}(D:Df K mg "letters_of" Fg ["n"] f fd)(T:Txt P w K mg JH JI JJ):Cl P w K mg base "letters_of" ["n"] 1 (BP K):=by
 refine D.cl (D.F.ok Gr (fun vs H Q E h=>?_) (fun cdv A outer s H vs Q E hr h=>?_))
 ·obtain⟨n,rfl,_⟩:=h
  rfl
 ·obtain⟨n,rfl,h1,h4,k⟩:=h
  refine⟨_,(aF (aT (jF (Dn (K:=K) rfl) (nI (v:=.ref JI) (by rfl) T.m_LETTERS rfl) jT (iN (bE iD aG (pv 0)))))),?_⟩
  refine⟨_,rfl,_,_,rfl,rfl,.inl ⟨by decide,by decide⟩,_,rfl,JI,letV,2 * n,rfl,T.t_LETTERS _,rfl,?_,?_,fun _ p hp=>?_,fun e=>?_⟩
  ·show some (2 * ((n:Nat):Int))=_;congr 1
  ·rw[vG];omega
  ·exact k p _ (Same.new hp) (by rw[← rO h1 h4];exact SqT.of aC)
  ·refine k _ _ (Same.refl H) ?_
   rw[← rO h1 h4,p0 (by omega)]
   exact T.t_LETTERS _
theorem GL{f:Addr}{fd:FuncData}(D:Df K mg "first_letters" FN ["n"] f fd)(T:Txt P w K mg JH JI JJ):Cl P w K mg base "first_letters" ["n"] 1 nH:=by
 refine D.cl (D.F.ok GK (fun vs H Q E h=>?_) (fun cdv A outer s H vs Q E hr h=>?_))
 ·obtain⟨n,rfl,_⟩:=h
  rfl
 ·obtain⟨n,rfl,h1,h4,k⟩:=h
  refine⟨_,(aF (aT (AG (Cr (K:=K) rfl) (nI (v:=.ref JI) (by rfl) T.m_LETTERS rfl) jT (iN (bE iD aG (pv 0))) (iN aG)))),?_⟩
  refine⟨_,rfl,_,_,rfl,rfl,.inl ⟨by decide,by decide⟩,_,rfl,_,rfl,JI,letV,2 * n,rfl,T.t_LETTERS _,rfl,?_,rfl,?_,fun p hp=>?_⟩
  ·show some (2 * ((n:Nat):Int))=_;congr 1
  ·rw[vG];omega
  ·rw[Ao h1 h4]
   exact k p _ hp (Same.new hp) aC
theorem Ff{f:Addr}{fd:FuncData}(D:Df K mg "_wall" B4 ["k"] f fd)(T:Txt P w K mg JH JI JJ):Cl P w K mg base "_wall" ["k"] 1 Gw:=by
 refine D.cl (D.F.ok E9 (fun vs H Q E h=>?_) (fun cdv A outer s H vs Q E hr h=>?_))
 ·exact h.elim
 ·exact h.elim
theorem HN{f:Addr}{fd:FuncData}(D:DfM K JJ "round_told" "Weave.round_told" E6 ["self","letter"] f fd)(T:Txt P w K mg JH JI JJ):nD P w K mg base JJ "round_told" ["self","letter"] 1 Gw:=by
 refine D.cl (D.F.ok G0 (fun vs H Q E h=>?_) (fun cdv A outer s H vs Q E hr h=>?_))
 ·exact h.elim
 ·exact h.elim
theorem HJ{f:Addr}{fd:FuncData}(D:DfM K JJ "__init__" "Weave.__init__" Gb ["self"] f fd)(T:Txt P w K mg JH JI JJ):nD P w K mg base JJ "__init__" ["self"] 1 (uT JJ):=by
 refine D.cl (D.F.ok Gi (fun vs H Q E h=>?_) (fun cdv A outer s H vs Q E hr h=>?_))
 ·obtain⟨p,dx,rfl,_⟩:=h
  rfl
 ·obtain⟨p,dx,rfl,hp,k⟩:=h
  refine⟨_,(aD (nR (K:=K) rfl (pv 0) (dB (aA aG aB)) rfl)
   (aD (nR (K:=K) rfl (pv 0) (dB (aA cU aB)) rfl)
   (aD (nR (K:=K) rfl (pv 0) (dB (aA tW aB)) rfl)
   (aF (nR (K:=K) rfl (pv 0) (dB aB) rfl))))),?_⟩
  refine⟨by decide,fun q1 h1=>?_⟩
  have F1:=nK (HO.lst [.int 0]) (.ins JJ dx (fF "heads" (.ref q1) [])) hp h1
  refine⟨_,rfl,p,JJ,dx,[],rfl,hV _ hp h1,T.o_Weave.cl,T.n_Weave_heads,(by show 0<1000;decide),?_⟩
  refine⟨by decide,fun q2 h2=>?_⟩
  have F2:=nK (HO.lst [.str (S [])]) (.ins JJ dx (fF "turns" (.ref q2) (fF "heads" (.ref q1) []))) F1.1 h2
  refine⟨_,rfl,p,JJ,dx,_,rfl,hV _ F1.1 h2,T.o_Weave.cl,T.n_Weave_turns,(by show 1<1000;decide),?_⟩
  intro d hd
  have hpd:=hV (.dK []) F2.1 hd
  refine⟨(by show 1≤sizeLine;decide),fun q3 h3=>?_⟩
  have F3:=nK (HO.lst [.ref d]) (.ins JJ dx (fF "ways" (.ref q3) (fF "turns" (.ref q2) (fF "heads" (.ref q1) [])))) hpd h3
  refine⟨_,rfl,p,JJ,dx,_,rfl,hV _ hpd h3,T.o_Weave.cl,T.n_Weave_ways,(by show 2<1000;decide),?_⟩
  refine⟨by decide,fun q4 h4=>?_⟩
  have F4:=nK (HO.lst []) (.ins JJ dx (wf q1 q2 q3 q4)) F3.1 h4
  refine⟨_,rfl,p,JJ,dx,_,rfl,hV _ F3.1 h4,T.o_Weave.cl,T.n_Weave_alike,(by show 3<1000;decide),?_⟩
  have n1:q1≠p:=(aI hp h1).symm
  have n2:q2≠p:=(aI F1.1 h2).symm
  have n3:d≠p:=(aI F2.1 hd).symm
  have n4:q3≠p:=(aI hpd h3).symm
  have m1:∀ {x:Addr},x≠p→(∀ o,H x=some o→False)→H x=none:=fun {x} _ z=>by
   cases e:H x with
   | none=>rfl
   | some o=>exact(z o e).elim
  have z1:H q1=none:=h1
  have s1:∀ b o,H b=some o→b≠p→_:=fun b o e hb=>F1.2.2 b o e hb
  have s2:∀ b o,H b=some o→b≠p→_:=fun b o e hb=>F2.2.2 b o (s1 b o e hb) hb
  have s3:∀ b o,H b=some o→b≠p→_:=fun b o e hb=>hV (.dK []) (s2 b o e hb) hd
  have s4:∀ b o,H b=some o→b≠p→_:=fun b o e hb=>F3.2.2 b o (s3 b o e hb) hb
  have kp:∀ b o,H b=some o→b≠p→_:=fun b o e hb=>F4.2.2 b o (s4 b o e hb) hb
  have e1:=F4.2.2 _ _ (F3.2.2 _ _ (hV (.dK []) (F2.2.2 _ _ F1.2.1 n1) hd) n1) n1
  have e2:=F4.2.2 _ _ (F3.2.2 _ _ (hV (.dK []) F2.2.1 hd) n2) n2
  have e3:=F4.2.2 _ _ F3.2.1 n4
  have ed:=F4.2.2 _ _ (F3.2.2 _ _ aC n3) n3
  refine k [q1,q2,q3,q4,d] _ (fun x hx=>?_) ⟨dx,q1,q2,q3,q4,[d],[],rfl,⟨?_,F4.1,e1,e2,e3,F4.2.1,rfl,fun i d' es h1' h2'=>?_,rfl,fun j a' e h1' h2'=>(by simp at h1')⟩⟩ kp
  ·simp only [c4,l6,or_false] at hx
   rcases hx with rfl | rfl | rfl | rfl | rfl
   ·exact h1
   ·exact m1 n2 fun o e=>by have:=h2.symm.trans (s1 _ o e n2);cases this
   ·exact m1 n4 fun o e=>by have:=h3.symm.trans (s3 _ o e n4);cases this
   ·have n5:x≠p:=(aI F3.1 h4).symm
    exact m1 n5 fun o e=>by have:=h4.symm.trans (s4 _ o e n5);cases this
   ·exact m1 n3 fun o e=>by have:=hd.symm.trans (s2 _ o e n3);cases this
  ·have v1:(HO.lst [V.int 0])≠.lst [.str (S [])]:=by intro z;cases z
   have v2:(HO.lst [V.int 0])≠.lst [.ref d]:=by intro z;cases z
   have v3:(HO.lst [V.int 0])≠.lst []:=by intro z;cases z
   have v4:(HO.lst [V.str (S [])])≠.lst [.ref d]:=by intro z;cases z
   have v5:(HO.lst [V.str (S [])])≠.lst []:=by intro z;cases z
   have v6:(HO.lst [V.ref d])≠.lst []:=by intro z;cases z
   have w1:=bS e1 e2 v1
   have w2:=bS e1 e3 v2
   have w3:=bS e1 F4.2.1 v3
   have w4:=bS e1 ed (by intro z;cases z)
   have w5:=bS e2 e3 v4
   have w6:=bS e2 F4.2.1 v5
   have w7:=bS e2 ed (by intro z;cases z)
   have w8:=bS e3 F4.2.1 v6
   have w9:=bS e3 ed (by intro z;cases z)
   have w10:=bS F4.2.1 ed (by intro z;cases z)
   simp[w1,w2,w3,w4,w5,w6,w7,w8,w9,w10]
  ·cases i with
   | zero =>
    have q1':d=d':=by simpa using h1'
    have q2':([]:List tK)=es:=by simpa [Hb] using h2'
    subst q1' q2'
    exact⟨[],ed,.nil⟩
   | succ i=>simp at h1'
theorem GY{f:Addr}{fd:FuncData}(D:DfM K JJ "end_of" "Weave.end_of" EA ["self","place","told"] f fd)(T:Txt P w K mg JH JI JJ)(c_zc1:Cl P w K mg base "joined" ["one","other"] 3 lB):nD P w K mg base JJ "end_of" ["self","place","told"] 4 (yA JJ):=by
 refine D.cl (D.F.ok sc_zr (fun vs H Q E h=>?_) (fun cdv A outer s H vs Q E hr h=>?_))
 ·obtain⟨_,_,_,_,_,p,M,Z,i,x,rfl,_⟩:=h
  rfl
 ·obtain⟨hf,φ,ρ,rk,L,p,M,Z,i,x,rfl,hW,I,hL,hi,hx,hxp,hxl,k⟩:=h
  refine⟨_,(aD (fW i7 (aR jB (aV (aO (K:=K) rfl) (cB (K:=K) rfl (pv 0) rfl) (pv 1) (fun _ _=>rfl)) (pv 1) (aQ _)) (aD (aM (i:=3) sc_zr.nd rfl (Or.inl rfl) (aV (aO (K:=K) rfl) (cB (K:=K) rfl (pv 0) rfl) (pv 1) (fun _ _=>rfl)))
   (aD (fJ (pC c_zc1 hr (aA (aV (aO (K:=K) rfl) (cB (K:=K) rfl (pv 0) rfl) (pv 1) (fun _ _=>rfl)) (aA (aV (aO (K:=K) rfl) (cB (K:=K) rfl (pv 0) rfl) (pv 3) (fun _ _=>rfl)) aB))) (gL (cB (K:=K) rfl (pv 0) rfl) (pv 1) dY))
   (aD (fJ (aV (aO (K:=K) rfl) (cB (K:=K) rfl (pv 0) rfl) (pv 3) (fun _ _=>rfl)) (gL (cB (K:=K) rfl (pv 0) rfl) (pv 1) dY))
   (aD (aM (i:=2) sc_zr.nd rfl (Or.inl rfl) (pC c_zc1 hr (aA (pv 2) (aA (aV (aO (K:=K) rfl) (cB (K:=K) rfl (pv 0) rfl) (pv 1) (fun _ _=>rfl)) aB))))
   (aF (aM (i:=1) sc_zr.nd rfl (Or.inl rfl) (aV (aO (K:=K) rfl) (cB (K:=K) rfl (pv 0) rfl) (pv 1) (fun _ _=>rfl)))))))))
   (aF (aT (cF (aA (pv 1) (aA (pv 2) aB)))))),?_⟩
  refine⟨fun m σ H'=>∃ (j:Nat) (Z':WvS) (y:List Nat) (v3:Option V),m=rk j∧σ=[some (.ref p),some (.int (j:Nat)),some (.str (S y)),v3]∧Kept JJ hf φ ρ rk L p M H H' Z Z'∧j<Z.hs.length∧ρ j=ρ i∧AllL y∧y=lay (x++(back (φ i)++φ j)),⟨rk i,i,Z,x,none,rfl,rfl,⟨hW,I,rfl,rfl,rfl,FrW.refl _ _⟩,hi,rfl,hx,?_⟩,?_⟩
  ·rw[← eW x _ hx (AllL.app.mpr ⟨aS (I.fa i).1,(I.fa i).1⟩),jC (I.fa i).1,m6,hxp]
  rintro m _ H1 ⟨j,Z1,y,v3,rfl,rfl,K1,hj,hρ,hy,hye⟩
  obtain⟨dx,hd,tn,wy,al,ds,as,hM,w1⟩:=id K1.at'
  have I1:=K1.wi
  have hj1:j<Z1.hs.length:=by rw[K1.ln];exact hj
  obtain⟨a,ha⟩:∃ a,Z1.hs[j]?=some a:=⟨_,a9 hj1⟩
  obtain⟨a1,a2,a3,a4⟩:=I1.hd j a ha
  refine⟨_,rfl,p,JJ,dx,_,_,rfl,w1.ob,T.o_Weave.cl,T.n_Weave_heads,fE _ _ _ _,_,rfl,hd,_,_,_,rfl,rfl,SqL.of w1.hh,cX (iH ha),_,rfl,rfl,_,rfl,?_⟩
  by_cases hja:a=j
  ·subst hja
   rw[show decide (V.int ((a:Nat):Int)=V.int ((a:Nat):Int))=true from decide_eq_true rfl]
   refine fV ?_
   have hr:ρ i=a:=by rw[← hρ];exact a4 rfl
   refine⟨_,rfl,_,rfl,(by show 2≤sizeLine;decide),fun t ht=>?_⟩
   have s2:=Same.new (o:=HO.tup [.int ((a:Nat):Int),.str (S y)]) ht
   refine k t _ Z1 ⟨K1.at'.same s2,I1,K1.ws,K1.al,K1.ln,fun b o e n=>s2 _ _ (K1.fr b o e n)⟩ ?_
   rw[aC,hr,← hye]
  ·rw[show decide (V.int ((a:Nat):Int)=V.int ((j:Nat):Int))=false from decide_eq_false (fun z=>hja (by have:=V.int.inj z;omega))]
   refine gC ?_
   refine⟨fun σ' H'=>∃ (j':Nat) (Z':WvS) (y':List Nat) (v3:Option V),rk j' < rk j∧σ'=[some (.ref p),some (.int (j':Nat)),some (.str (S y')),v3]∧Kept JJ hf φ ρ rk L p M H H' Z Z'∧j' < Z.hs.length∧ρ j'=ρ i∧AllL y'∧y'=lay (x++(back (φ i)++φ j')),fun σ' H' ⟨j',Z',y',v3,q0,q1⟩=>⟨rk j',q0,j',Z',y',v3,rfl,q1⟩,?_⟩
   have ha1:a<Z1.hs.length:=a1
   obtain⟨b,hb⟩:∃ b,Z1.hs[a]?=some b:=⟨_,a9 ha1⟩
   obtain⟨t,ht⟩:∃ t,Z1.ts[j]?=some t:=⟨_,a9 (by rw[I1.lt];exact hj1)⟩
   obtain⟨u,hu⟩:∃ u,Z1.ts[a]?=some u:=⟨_,a9 (by rw[I1.lt];exact ha1)⟩
   obtain⟨I2,et,hrb,hρb⟩:=I1.comp ha hja hb ht hu
   obtain⟨tA,tl⟩:AllL t∧t.length≤2 * L:=by rw[I1.tn j a t ha ht];exact hX I1 j a
   obtain⟨uA,ul⟩:AllL u∧u.length≤2 * L:=by rw[I1.tn a b u hb hu];exact hX I1 a b
   refine⟨_,rfl,p,JJ,dx,_,_,rfl,w1.ob,T.o_Weave.cl,T.n_Weave_heads,fE _ _ _ _,_,rfl,hd,_,_,_,rfl,rfl,SqL.of w1.hh,cX (iH ha),?_⟩
   refine⟨_,rfl,p,JJ,dx,_,_,rfl,w1.ob,T.o_Weave.cl,T.n_Weave_turns,gW _ _ _ _,_,rfl,tn,_,_,_,rfl,rfl,SqL.of w1.ht,cX (kQ ht),?_⟩
   refine⟨_,rfl,p,JJ,dx,_,_,rfl,w1.ob,T.o_Weave.cl,T.n_Weave_turns,gW _ _ _ _,_,rfl,tn,_,_,_,rfl,rfl,SqL.of w1.ht,cX (kQ hu),?_⟩
   refine⟨t,u,rfl,tA,uA,by omega,fun H2 s2=>?_⟩
   have w2:=w1.same s2
   refine⟨_,rfl,p,JJ,dx,_,_,rfl,w2.ob,T.o_Weave.cl,T.n_Weave_turns,gW _ _ _ _,_,rfl,tn,_,_,j,rfl,rfl,w2.ht,tD (by omega) (by rw[aP,I1.lt];omega),?_⟩
   rw[yS]
   have w3:=w2.upTn (Z1.ts.set j (lay (t++u)))
   have f3:FrW M H2 (upd H2 tn (.lst (bI (Z1.ts.set j (lay (t++u)))))):=by rw[hM];exact WvC.put1 (by simp)
   generalize upd H2 tn (.lst (bI (Z1.ts.set j (lay (t++u)))))=H3 at w3 f3
   refine⟨_,rfl,p,JJ,dx,_,_,rfl,w3.ob,T.o_Weave.cl,T.n_Weave_heads,fE _ _ _ _,_,rfl,hd,_,_,_,rfl,rfl,SqL.of w3.hh,cX (iH hb),?_⟩
   refine⟨_,rfl,p,JJ,dx,_,_,rfl,w3.ob,T.o_Weave.cl,T.n_Weave_heads,fE _ _ _ _,_,rfl,hd,_,_,j,rfl,rfl,w3.hh,tD (by omega) (by rw[dI];show ((j:Nat):Int)<((Z1.hs.length:Nat):Int);omega),?_⟩
   rw[vH]
   have w4:=w3.upHd (Z1.hs.set j b)
   have f4:FrW M H3 (upd H3 hd (.lst (cJ (Z1.hs.set j b)))):=by rw[hM];exact WvC.put1 (by simp)
   show mZ _ _ _ _ (upd H3 hd (.lst (cJ (Z1.hs.set j b))))
   generalize upd H3 hd (.lst (cJ (Z1.hs.set j b)))=H4 at w4 f4
   have hjt:(Z1.ts.set j (lay (t++u)))[j]?=some (lay (t++u)):=t9 (by rw[I1.lt];exact hj1)
   have hjh:(Z1.hs.set j b)[j]?=some b:=t9 hj1
   refine⟨_,rfl,_,rfl,p,JJ,dx,_,_,rfl,w4.ob,T.o_Weave.cl,T.n_Weave_turns,gW _ _ _ _,_,rfl,tn,_,_,_,rfl,rfl,SqL.of w4.ht,cX (kQ hjt),?_⟩
   have yl:y.length≤5 * L:=by
    rw[hye]
    have:=gG (x++(back (φ i)++φ j))
    rw[b9,b9,bY] at this
    have:=(I.fa i).2
    have:=(I.fa j).2
    omega
   obtain⟨vA,vl⟩:AllL (lay (t++u))∧(lay (t++u)).length≤2 * L:=by rw[et];exact hX I1 j b
   refine⟨y,lay (t++u),rfl,hy,vA,by omega,fun H5 s5=>?_⟩
   have w5:=w4.same s5
   refine⟨_,rfl,p,JJ,dx,_,_,rfl,w5.ob,T.o_Weave.cl,T.n_Weave_heads,fE _ _ _ _,_,rfl,hd,_,_,_,rfl,rfl,SqL.of w5.hh,cX (iH hjh),?_⟩
   have f5:FrW M H H5:=fun b o e n=>s5 _ _ (f4 _ _ (f3 _ _ (s2 _ _ (K1.fr b o e n)) n) n)
   refine⟨b,_,lay (y++lay (t++u)),_,hrb,rfl,⟨⟨dx,hd,tn,wy,al,ds,as,hM,w5⟩,I2,K1.ws,K1.al,by show (Z1.hs.set j b).length=_;rw[k0];exact K1.ln,f5⟩,by rw[← K1.ln];exact(I1.hd a b hb).1,hρb.trans hρ,iJ (AllL.app.mpr ⟨hy,vA⟩),?_⟩
   rw[et,hye]
   have:=IR (a:=x++back (φ i)) (b:=φ j) (c:=φ b) (AllL.app.mpr ⟨hx,aS (I.fa i).1⟩) (I.fa j).1 (I.fa b).1
   simp only [k7] at this
   exact this
theorem Hy{f:Addr}{fd:FuncData}(D:DfM K JJ "head_of" "Weave.head_of" EY ["self","place"] f fd)(T:Txt P w K mg JH JI JJ)(c_zr:nD P w K mg base JJ "end_of" ["self","place","told"] 4 (yA JJ)):nD P w K mg base JJ "head_of" ["self","place"] 5 (sE JJ):=by
 obtain⟨f_zr,fd_zr,G_zr,m_zr,b_zr⟩:=c_zr
 refine D.cl (D.F.ok GO (fun vs H Q E h=>?_) (fun cdv A outer s H vs Q E hr h=>?_))
 ·obtain⟨_,_,_,_,_,p,M,Z,i,rfl,_⟩:=h
  rfl
 ·obtain⟨hf,φ,ρ,rk,L,p,M,Z,i,rfl,hW,I,hL,hi,k⟩:=h
  refine⟨_,(aF (aT (aV (cH (K:=K) rfl) (dU (pv 0) T.o_Weave.cl m_zr G_zr (hr.mono (by decide)) b_zr .nil eF (aA (pv 1) (aA cU aB))) aG (fun _ _=>rfl)))),?_⟩
  obtain⟨dx,hd,tn,wy,al,ds,as,hM,w1⟩:=id hW
  refine⟨_,rfl,p,dx,_,rfl,w1.ob,gD _ _ _ _ (by decide +kernel) (by decide +kernel) (by decide +kernel) (by decide +kernel),_,rfl,hf,φ,ρ,rk,L,p,M,Z,i,[],rfl,hW,I,hL,hi,AllL.nil,rfl,by simp,fun t H1 Z1 K1 et=>?_⟩
  exact⟨t,_,0,.int (ρ i:Nat),rfl,rfl,SqT.of et,rfl,k H1 Z1 K1⟩
theorem Ib{f:Addr}{fd:FuncData}(D:DfM K JJ "goal_of" "Weave.goal_of" Et ["self","head","letter"] f fd)(T:Txt P w K mg JH JI JJ)(c_zp:nD P w K mg base JJ "head_of" ["self","place"] 5 (sE JJ)):nD P w K mg base JJ "goal_of" ["self","head","letter"] 6 (tL JJ):=by
 obtain⟨f_zp,fd_zp,G_zp,m_zp,b_zp⟩:=c_zp
 refine D.cl (D.F.ok sc_zo (fun vs H Q E h=>?_) (fun cdv A outer s H vs Q E hr h=>?_))
 ·obtain⟨_,_,_,_,_,p,M,Z,i,c,es,rfl,_⟩:=h
  rfl
 ·obtain⟨hf,φ,ρ,rk,L,p,M,Z,i,c,es,rfl,hW,I,hL,hes,k⟩:=h
  refine⟨_,(aD (aM (i:=3) sc_zo.nd rfl (Or.inl rfl) (Br (j9 (m7 (by decide:1≤64) _) hr.units) (aV (aO (K:=K) rfl) (cB (K:=K) rfl (pv 0) rfl) (pv 1) (fun _ _=>rfl)) (pv 2) ⟨rfl,rfl,rfl,rfl⟩))
   (aF (aT (fZ (aR xH (pv 3) gJ (aQ _)) gJ (dU (pv 0) T.o_Weave.cl m_zp G_zp (hr.mono (by decide)) b_zp .nil eF (aA (aV (cH (K:=K) rfl) (pv 3) aG (fun _ _=>rfl)) aB)))))),?_⟩
  obtain⟨dx,hd,tn,wy,al,ds,as,hM,w1⟩:=id hW
  obtain⟨d,hd'⟩:∃ d,ds[i]?=some d:=⟨_,a9 (by rw[w1.ld];exact(a8.mp hes).1)⟩
  obtain⟨kvs,a6,hk⟩:=w1.dc i d es hd' hes
  refine⟨_,rfl,p,JJ,dx,_,_,rfl,w1.ob,T.o_Weave.cl,T.n_Weave_ways,nJ _ _ _ _,_,rfl,wy,_,_,.ref d,rfl,rfl,SqL.of w1.hw,cX (by rw[c5,hd'];rfl),d,rfl,.inl ⟨kvs,.inl a6⟩,_,rfl,_,DGet.k (k:=.inr (S [c])) a6,?_⟩
  have hv:=hk.val (c:=c)
  refine⟨_,rfl,rfl,_,rfl,?_⟩
  cases e:cT es c with
  | none =>
   rw[e] at hv
   have hv:cO kvs (Sum.inr (S [c]))=none:=hv
   rw[hv]
   show Q .non H
   have:=k H Z ⟨hW,I,rfl,rfl,rfl,FrW.refl _ _⟩
   rw[e] at this
   exact this
  | some r =>
   rw[e] at hv
   obtain⟨t,hv,ht⟩:=(show ∃ t,cO kvs (Sum.inr (S [c]))=some (V.ref t)∧H t=some (HO.tup [V.int (r.1:Nat),V.str (S r.2)]) from hv)
   rw[hv]
   rw[e] at k
   have hg:=((I.wy i es hes).2 _ (dJ e)).2.1
   refine⟨_,rfl,p,dx,_,rfl,w1.ob,gD _ _ _ _ (by decide +kernel) (by decide +kernel) (by decide +kernel) (by decide +kernel),_,rfl,t,_,0,.int (r.1:Nat),rfl,rfl,SqT.of ht,rfl,hf,φ,ρ,rk,L,p,M,Z,r.1,rfl,hW,I,hL,hg,fun H1 Z1 K1=>k H1 Z1 K1⟩
theorem Hq{f:Addr}{fd:FuncData}(D:DfM K JJ "new_place" "Weave.new_place" EG ["self"] f fd)(T:Txt P w K mg JH JI JJ):nD P w K mg base JJ "new_place" ["self"] 1 (BC JJ):=by
 refine D.cl (D.F.ok sc_ze (fun vs H Q E h=>?_) (fun cdv A outer s H vs Q E hr h=>?_))
 ·obtain⟨p,M,Z,rfl,_⟩:=h
  rfl
 ·obtain⟨p,M,Z,rfl,hW,l1,l2,l3,k⟩:=h
  refine⟨_,(aD (aM (i:=1) sc_ze.nd rfl (Or.inl rfl) (aL (bB (K:=K) rfl) (by rfl) T.b_len j2 (aA (cB (K:=K) rfl (pv 0) rfl) aB)))
   (aD (bM (cK (K:=K) rfl i0 j4 j5 bR (cB (K:=K) rfl (pv 0) rfl) (aA (pv 1) aB)))
   (aD (bM (cK (K:=K) rfl i0 j4 j5 bR (cB (K:=K) rfl (pv 0) rfl) (aA cU aB)))
   (aD (bM (cK (K:=K) rfl i0 j4 j5 bR (cB (K:=K) rfl (pv 0) rfl) (aA tW aB)))
   (aF (aT (pv 1))))))),?_⟩
  obtain⟨dx,hd,tn,wy,al,ds,as,hM,w1⟩:=id hW
  refine⟨_,rfl,p,JJ,dx,_,_,rfl,w1.ob,T.o_Weave.cl,T.n_Weave_heads,fE _ _ _ _,hd,_,rfl,.inl (SqL.of w1.hh),?_⟩
  have hlen:(V.int (((cJ Z.hs).length:Nat):Int))=V.int ((Z.hs.length:Nat):Int):=by rw[dI]
  rw[hlen]
  refine⟨_,rfl,p,JJ,dx,_,_,rfl,w1.ob,T.o_Weave.cl,T.n_Weave_heads,fE _ _ _ _,.inl ⟨rfl,_,SqL.of w1.hh⟩,_,rfl,hd,_,_,rfl,rfl,w1.hh,by rw[dI];exact aN (by omega),?_⟩
  rw[pJ]
  have w2:=w1.upHd (Z.hs++[Z.hs.length])
  have f2:FrW M H (upd H hd (.lst (cJ (Z.hs++[Z.hs.length])))):=by rw[hM];exact WvC.put1 (by simp)
  show mZ _ _ _ _ (upd H hd (.lst (cJ (Z.hs++[Z.hs.length]))))
  generalize upd H hd (.lst (cJ (Z.hs++[Z.hs.length])))=H2 at w2 f2
  refine⟨_,rfl,p,JJ,dx,_,_,rfl,w2.ob,T.o_Weave.cl,T.n_Weave_turns,gW _ _ _ _,.inl ⟨rfl,_,SqL.of w2.ht⟩,tn,_,_,rfl,rfl,w2.ht,by rw[aP];exact aN (by show Z.ts.length≤_;omega),?_⟩
  have et:bI Z.ts++[.str (Str.ofString "")]=bI (Z.ts++[[]]):=by unfold bI;rw[d9];rfl
  show mZ _ _ _ _ (upd H2 tn (.lst (bI Z.ts++[.str (Str.ofString "")])))
  rw[et]
  have w3:=w2.upTn (Z.ts++[[]])
  have f3:FrW M H2 (upd H2 tn (.lst (bI (Z.ts++[[]])))):=by rw[hM];exact WvC.put1 (by simp)
  generalize upd H2 tn (.lst (bI (Z.ts++[[]])))=H3 at w3 f3
  refine⟨_,rfl,p,JJ,dx,_,_,rfl,w3.ob,T.o_Weave.cl,T.n_Weave_ways,nJ _ _ _ _,.inl ⟨rfl,_,SqL.of w3.hw⟩,fun d hd0=>?_⟩
  have hw3:upd H3 d (.dK []) wy=some (.lst (ds.map V.ref)):=hV _ w3.hw hd0
  refine⟨wy,_,_,rfl,rfl,hw3,by rw[b7,w3.ld];exact aN (by show Z.ws.length≤_;omega),?_⟩
  have w4:=w3.upNew hd0
  have ed:ds.map V.ref++[V.ref d]=(ds++[d]).map V.ref:=by rw[d9];rfl
  refine⟨_,rfl,?_⟩
  show Q _ (upd (upd H3 d (.dK [])) wy (.lst (ds.map V.ref++[V.ref d])))
  rw[ed]
  have hdH:H d=none:=by
   cases e:H d with
   | none=>rfl
   | some o =>
    by_cases q:d∈M
    ·exfalso
     have:d∈hd::tn::wy::al::ds:=by rw[← hM];exact q
     rcases c4.mp this with rfl | this
     ·rw[w3.hh] at hd0;cases hd0
     rcases c4.mp this with rfl | this
     ·rw[w3.ht] at hd0;cases hd0
     rcases c4.mp this with rfl | this
     ·rw[w3.hw] at hd0;cases hd0
     rcases c4.mp this with rfl | this
     ·rw[w3.ha] at hd0;cases hd0
     ·obtain⟨i,hi⟩:=l8 this
      obtain⟨es,hes⟩:∃ es,Z.ws[i]?=some es:=⟨_,a9 (by rw[← w1.ld];exact(a8.mp hi).1)⟩
      obtain⟨kvs,z,_⟩:=w3.dc i d es hi hes
      rw[z] at hd0;cases hd0
    ·rw[f3 _ _ (f2 _ _ e q) q] at hd0;cases hd0
  refine k d _ ⟨dx,hd,tn,wy,al,ds++[d],as,by rw[hM];rfl,w4⟩ hdH fun b o e n=>?_
  have n1:b≠wy:=fun z=>n (by rw[z,hM];simp)
  rw[aE n1,aE (aI (f3 _ _ (f2 _ _ e n) n) hd0)]
  exact f3 _ _ (f2 _ _ e n) n
theorem HS{f:Addr}{fd:FuncData}(D:DfM K JJ "lay_way" "Weave.lay_way" EF ["self","place","letter","goal","told"] f fd)(T:Txt P w K mg JH JI JJ)(c_zu:Cl P w K mg base "turned_back" ["word"] 2 lL)(c_zc1:Cl P w K mg base "joined" ["one","other"] 3 lB):nD P w K mg base JJ "lay_way" ["self","place","letter","goal","told"] 4 (xX JJ):=by
 refine D.cl (D.F.ok sc_zm (fun vs H Q E h=>?_) (fun cdv A outer s H vs Q E hr h=>?_))
 ·obtain⟨_,_,_,_,_,p,M,Z,i,c,g,t,es,rfl,_⟩:=h
  rfl
 ·obtain⟨hf,φ,ρ,rk,L,p,M,Z,i,c,g,t,es,rfl,hW,I,hL,hes,hc,hg,ht,hal,k⟩:=h
  refine⟨_,(aD (aM (i:=5) sc_zm.nd rfl (Or.inl rfl) (Bb (aV (aO (K:=K) rfl) (cB (K:=K) rfl (pv 0) rfl) (pv 1) (fun _ _=>rfl)) (pv 2) (cF (aA (pv 3) (aA (pv 4) aB))) ⟨rfl,rfl,rfl,rfl⟩))
   (aF (dH (aR (Dc (K:=K) rfl hr.units0) (pv 5) (cF (aA (pv 3) (aA (pv 4) aB))) (aQ _)) (aF (bM (cK (K:=K) rfl i0 j4 j5 bR (cB (K:=K) rfl (pv 0) rfl) (aA (cF (aA (pv 3) (aA (pC c_zc1 hr (aA (pC c_zu hr (aA (pv 4) aB)) (aA (aV (cH (K:=K) rfl) (pv 5) aG (fun _ _=>rfl)) aB))) (aA (aV (cH (K:=K) rfl) (pv 5) aG (fun _ _=>rfl)) aB)))) aB)))) bU))),?_⟩
  obtain⟨dx,hd,tn,wy,al,ds,as,hM,w1⟩:=id hW
  obtain⟨d,hd'⟩:∃ d,ds[i]?=some d:=⟨_,a9 (by rw[w1.ld];exact(a8.mp hes).1)⟩
  obtain⟨kvs,a6,hk⟩:=w1.dc i d es hd' hes
  have el:es.length≤8:=sD (I.wy i es hes).1 fun e he=>((I.wy i es hes).2 e he).1
  have kl:kvs.length≤8:=by rw[z5 hk];exact el
  refine⟨_,rfl,p,JJ,dx,_,_,rfl,w1.ob,T.o_Weave.cl,T.n_Weave_ways,nJ _ _ _ _,_,rfl,wy,_,_,.ref d,rfl,rfl,SqL.of w1.hw,cX (by rw[c5,hd'];rfl),d,rfl,.inl ⟨kvs,.inl a6⟩,_,rfl,_,rfl,_,rfl,(by show 2≤sizeLine;decide),fun q hq=>?_⟩
  have s1:=Same.new (o:=HO.tup [.int ((g:Nat):Int),.str (S t)]) hq
  have e1:upd H q (.tup [.int ((g:Nat):Int),.str (S t)]) q=some (.tup [.int ((g:Nat):Int),.str (S t)]):=aC
  generalize upd H q (.tup [.int ((g:Nat):Int),.str (S t)])=H1 at s1 e1
  have w2:=w1.same s1
  have hk1:DcIs H1 kvs es:=hk.mono fun t xs z=>s1 _ _ z
  have hv:=hk1.val (c:=c)
  refine⟨kvs,.inr (S [c]),s1 _ _ a6,(by rw[sizeLine_eq];omega),rfl,?_,?_⟩
  ·intro v e
   cases ew:cT es c with
   | none =>
    rw[ew] at hv
    rw[show cO kvs (Sum.inr (S [c]))=none from hv] at e
    cases e
   | some r =>
    rw[ew] at hv
    obtain⟨q2,hv2,ht2⟩:=(show ∃ t,cO kvs (Sum.inr (S [c]))=some (V.ref t)∧H1 t=some (HO.tup [V.int (r.1:Nat),V.str (S r.2)]) from hv)
    rw[hv2] at e
    cases e
    have hr:=(I.wy i es hes).2 _ (dJ ew)
    refine⟨_,rfl,_,rfl,_,rfl,(by show 2≤sizeLine;decide),fun q3 hq3=>?_⟩
    have s3:=Same.new (o:=HO.tup [.int ((g:Nat):Int),.str (S t)]) hq3
    have e3:upd H1 q3 (.tup [.int ((g:Nat):Int),.str (S t)]) q3=some (.tup [.int ((g:Nat):Int),.str (S t)]):=aC
    generalize upd H1 q3 (.tup [.int ((g:Nat):Int),.str (S t)])=H3 at s3 e3
    refine⟨q2,q3,_,_,rfl,rfl,.inr ⟨SqT.of (s3 _ _ ht2),SqT.of e3⟩,rfl,rfl,_,rfl,?_⟩
    have w3:=w2.same s3
    have s13:=s1.trans s3
    show (if (!fR [.int ((r.1:Nat):Int),.str (S r.2)] [.int ((g:Nat):Int),.str (S t)])=true then _ else _)
    rw[uD]
    by_cases hsame:(r.1,r.2)=(g,t)
    ·rw[decide_eq_true hsame]
     refine fV ?_
     have hl:aZ Z i c g t es=Z:=by unfold aZ;rw[ew];exact if_pos hsame
     have:=k H3 (by rw[hl];exact(hW.same s1).same s3) (FrW.ofSame s13)
     exact this
    ·rw[decide_eq_false hsame]
     refine gC ?_
     obtain⟨tA,tl⟩:AllL t∧t.length≤3 * L:=by rw[ht];exact nZ I hc i g
     obtain⟨rA,rl⟩:AllL r.2∧r.2.length≤3 * L:=by rw[show r.2=_ from hr.2.2];exact nZ I hc i r.1
     refine⟨_,rfl,p,JJ,dx,_,_,rfl,w3.ob,T.o_Weave.cl,T.n_Weave_alike,oJ _ _ _ _,.inl ⟨rfl,_,SqL.of w3.ha⟩,_,rfl,_,rfl,t,rfl,tA,by omega,fun H4 s4=>?_⟩
     have ht4:=s4 _ _ (s3 _ _ ht2)
     refine⟨_,rfl,q2,_,1,.str (S r.2),rfl,rfl,SqT.of ht4,rfl,back t,r.2,rfl,aS tA,rA,by rw[bY];omega,fun H5 s5=>?_⟩
     refine⟨_,rfl,q2,_,0,.int (r.1:Nat),rfl,rfl,SqT.of (s5 _ _ ht4),rfl,(by show 3≤sizeLine;decide),fun q4 hq4=>?_⟩
     have s6:=Same.new (o:=HO.tup [.int ((g:Nat):Int),.str (S (lay (back t++r.2))),.int ((r.1:Nat):Int)]) hq4
     have e6:upd H5 q4 (.tup [.int ((g:Nat):Int),.str (S (lay (back t++r.2))),.int ((r.1:Nat):Int)]) q4=some (.tup [.int ((g:Nat):Int),.str (S (lay (back t++r.2))),.int ((r.1:Nat):Int)]):=aC
     generalize upd H5 q4 (.tup [.int ((g:Nat):Int),.str (S (lay (back t++r.2))),.int ((r.1:Nat):Int)])=H6 at s6 e6
     have w6:=((w3.same s4).same s5).same s6
     refine⟨al,_,_,rfl,rfl,w6.ha,by rw[b7,w6.la];exact j9 hal (by decide),?_⟩
     have w7:=w6.upAl (as++[q4]) (Z.al++[(g,lay (back t++r.2),r.1)]) (by rw[b9,b9,w6.la];rfl) (fun j b e h1 h2=>by
      rcases dQ h2 with ⟨z,h2⟩ | ⟨z,rfl⟩
      ·rw[l5 (by rw[w6.la];exact z)] at h1
       exact w6.at' j b e h1 h2
      ·rcases dQ h1 with ⟨z',_⟩ | ⟨_,rfl⟩
       ·rw[w6.la] at z';omega
       ·exact e6)
     have ea:as.map V.ref++[V.ref q4]=(as++[q4]).map V.ref:=by rw[d9];rfl
     show Em _ _ (upd H6 al (.lst (as.map V.ref++[V.ref q4])))
     rw[ea]
     have hl:aZ Z i c g t es={ Z with al:=Z.al++[(g,lay (back t++r.2),r.1)] }:=by unfold aZ;rw[ew];exact if_neg hsame
     refine k _ (by rw[hl];exact⟨dx,hd,tn,wy,al,ds,as++[q4],hM,w7⟩) fun b o e n=>?_
     rw[aE (fun z=>n (by rw[z,hM];simp))]
     exact s6 _ _ (s5 _ _ (s4 _ _ (s13 _ _ e)))
  ·intro e
   cases ew:cT es c with
   | some r =>
    rw[ew] at hv
    obtain⟨q2,hv2,ht2⟩:=(show ∃ t,cO kvs (Sum.inr (S [c]))=some (V.ref t)∧H1 t=some (HO.tup [V.int (r.1:Nat),V.str (S r.2)]) from hv)
    rw[hv2] at e
    cases e
   | none =>
    have w3:=w2.upDc hd' (dF kvs (.inr (S [c])) (.ref q)) (es++[(c,g,t)]) (hk1.put ew e1)
    have f3:FrW M H1 (upd H1 d (.dK (dF kvs (.inr (S [c])) (.ref q)))):=by rw[hM];exact WvC.put1 (by simp[b6 hd'])
    have e2:upd H1 d (.dK (dF kvs (.inr (S [c])) (.ref q))) q=some (.tup [.int ((g:Nat):Int),.str (S t)]):=by rw[aE (bS e1 (s1 _ _ a6) (by intro z;cases z))];exact e1
    generalize upd H1 d (.dK (dF kvs (.inr (S [c])) (.ref q)))=H2 at w3 f3 e2
    refine⟨_,rfl,_,rfl,_,rfl,(by show 2≤sizeLine;decide),fun q3 hq3=>?_⟩
    have s3:=Same.new (o:=HO.tup [.int ((g:Nat):Int),.str (S t)]) hq3
    have e3:upd H2 q3 (.tup [.int ((g:Nat):Int),.str (S t)]) q3=some (.tup [.int ((g:Nat):Int),.str (S t)]):=aC
    generalize upd H2 q3 (.tup [.int ((g:Nat):Int),.str (S t)])=H3 at s3 e3
    refine⟨q,q3,_,_,rfl,rfl,.inr ⟨SqT.of (s3 _ _ e2),SqT.of e3⟩,rfl,rfl,_,rfl,?_⟩
    show (if (!fR [.int ((g:Nat):Int),.str (S t)] [.int ((g:Nat):Int),.str (S t)])=true then _ else _)
    rw[uD,decide_eq_true rfl]
    refine fV ?_
    have hl:aZ Z i c g t es={ Z with ws:=Z.ws.set i (es++[(c,g,t)]) }:=by unfold aZ;rw[ew]
    refine k H3 (by rw[hl];exact⟨dx,hd,tn,wy,al,ds,as,hM,w3.same s3⟩) fun b o e n=>s3 _ _ (f3 _ _ (s1 _ _ e) n)
theorem GW{f:Addr}{fd:FuncData}(D:DfM K JJ "put_under" "Weave.put_under" FG ["self","head","above","turn"] f fd)(T:Txt P w K mg JH JI JJ)(c_zu:Cl P w K mg base "turned_back" ["word"] 2 lL)(c_zc1:Cl P w K mg base "joined" ["one","other"] 3 lB)(c_zm:nD P w K mg base JJ "lay_way" ["self","place","letter","goal","told"] 4 (xX JJ)):nD P w K mg base JJ "put_under" ["self","head","above","turn"] 5 (Cb JJ):=by
 obtain⟨f_zm,fd_zm,G_zm,m_zm,b_zm⟩:=c_zm
 refine D.cl (D.F.ok sc_zd (fun vs H Q E h=>?_) (fun cdv A outer s H vs Q E hr h=>?_))
 ·obtain⟨_,_,_,_,_,_,_,p,M,Z,hd,ab,t,es,rfl,_⟩:=h
  rfl
 ·obtain⟨hf,φ,ρ,rk,ρ1,rk1,L,p,M,Z,ho,ab,t,es,rfl,hW,I,I1,hL,hes,hho,hab,hne,ht,hal,k⟩:=h
  refine⟨_,(aD (fJ (pv 2) (gL (cB (K:=K) rfl (pv 0) rfl) (pv 1) dY))
   (aD (fJ (pv 3) (gL (cB (K:=K) rfl (pv 0) rfl) (pv 1) dY))
   (aF (cV i7 rfl (cG (K:=K) rfl (aW (xW rfl) (by rfl) T.b_list boot_list (aA (AA (aV (aO (K:=K) rfl) (cB (K:=K) rfl (pv 0) rfl) (pv 1) (fun _ _=>rfl))) aB))) (jD (K:=K) rfl rfl (bZ (aX (i:=4) sc_zd.nd rfl (Or.inl rfl)) (bZ (aX (i:=5) sc_zd.nd rfl (Or.inl rfl)) gE))) (aF (bM (dU (pv 0) T.o_Weave.cl m_zm G_zm (hr.mono (by decide)) b_zm .nil eF (aA (pv 2) (aA (pv 4) (aA (aV (cH (K:=K) rfl) (pv 5) aG (fun _ _=>rfl)) (aA (pC c_zc1 hr (aA (pC c_zu hr (aA (pv 3) aB)) (aA (aV (cH (K:=K) rfl) (pv 5) aG (fun _ _=>rfl)) aB))) aB))))))))))),?_⟩
  obtain⟨dx,hd,tn,wy,al,ds,as,hM,w1⟩:=id hW
  obtain⟨tA,tl⟩:AllL t∧t.length≤2 * L:=by rw[ht];exact hX I ho ab
  have el:es.length≤8:=sD (I.wy ho es hes).1 fun e he=>((I.wy ho es hes).2 e he).1
  refine⟨_,rfl,_,rfl,p,JJ,dx,_,_,rfl,w1.ob,T.o_Weave.cl,T.n_Weave_heads,fE _ _ _ _,_,rfl,hd,_,_,ho,rfl,rfl,w1.hh,tD (by omega) (by rw[dI];omega),?_⟩
  rw[vH]
  have w2:=w1.upHd (Z.hs.set ho ab)
  have f2:FrW M H (upd H hd (.lst (cJ (Z.hs.set ho ab)))):=by rw[hM];exact WvC.put1 (by simp)
  show mZ _ _ _ _ (upd H hd (.lst (cJ (Z.hs.set ho ab))))
  generalize upd H hd (.lst (cJ (Z.hs.set ho ab)))=H2 at w2 f2
  refine⟨_,rfl,_,rfl,p,JJ,dx,_,_,rfl,w2.ob,T.o_Weave.cl,T.n_Weave_turns,gW _ _ _ _,_,rfl,tn,_,_,ho,rfl,rfl,w2.ht,tD (by omega) (by rw[aP];show ((ho:Nat):Int)<((Z.ts.length:Nat):Int);rw[I.lt];omega),?_⟩
  rw[yS]
  have w3:=w2.upTn (Z.ts.set ho t)
  have f3:FrW M H2 (upd H2 tn (.lst (bI (Z.ts.set ho t)))):=by rw[hM];exact WvC.put1 (by simp)
  dsimp only
  generalize upd H2 tn (.lst (bI (Z.ts.set ho t)))=H3 at w3 f3
  have w3:WvC JJ H3 p dx hd tn wy al ds as (dE Z ho ab t):=w3
  have f13:FrW M H H3:=fun b o e n=>f3 _ _ (f2 _ _ e n) n
  obtain⟨d,hd'⟩:∃ d,ds[ho]?=some d:=⟨_,a9 (by rw[w1.ld];exact(a8.mp hes).1)⟩
  obtain⟨kvs,a6,hk⟩:=w3.dc ho d es hd' hes
  refine⟨_,rfl,p,JJ,dx,_,_,rfl,w3.ob,T.o_Weave.cl,T.n_Weave_ways,nJ _ _ _ _,_,rfl,wy,_,_,.ref d,rfl,rfl,SqL.of w3.hw,cX (by rw[c5,hd'];rfl),d,kvs,rfl,a6,fun v hv=>?_⟩
  have s4:=Same.new (o:=HO.ext fun h=>h.IsItemsView v d) hv
  refine⟨v,d,kvs,rfl,aC,s4 _ _ a6,fun l ps H5 hl s5 e5 hlen hat=>?_⟩
  have s35:=s4.trans s5
  have w5:=w3.same s35
  have hlM:l ∉ M:=fun z=>by
   rw[hM] at z
   have no:∀ {o:HO},H3 l=some o→False:=fun q=>by rw[s4 _ _ q] at hl;cases hl
   rcases c4.mp z with rfl | z
   ·exact no w3.hh
   rcases c4.mp z with rfl | z
   ·exact no w3.ht
   rcases c4.mp z with rfl | z
   ·exact no w3.hw
   rcases c4.mp z with rfl | z
   ·exact no w3.ha
   ·obtain⟨i,hi⟩:=l8 z
    obtain⟨es',hes'⟩:∃ es,Z.ws[i]?=some es:=⟨_,a9 (by rw[← w1.ld];exact(a8.mp hi).1)⟩
    obtain⟨kvs',q,_⟩:=w3.dc i l es' hi hes'
    exact no q
  refine⟨l,rfl,⟨_,SqL.of e5⟩,eM (K:=K) (a:=l) (xs:=ps.map V.ref) (fun i σ H6=>∃ v4 v5:Option V,σ=[some (.ref p),some (.int (ho:Nat)),some (.int (ab:Nat)),some (.str (S t)),v4,v5]∧Wat JJ H6 p M (underW ab t (dE Z ho ab t) (es.take i))∧FrW M H5 H6) ⟨none,none,rfl,⟨dx,hd,tn,wy,al,ds,as,hM,w5⟩,FrW.refl _ _⟩ (fun i σ H6 _ ⟨_,_,_,_,f⟩=>SqL.of (f _ _ e5 hlM)) ?_ ?_⟩
  ·rintro i x _ H6 hx ⟨v4,v5,rfl,W6,f6⟩
   rw[c5] at hx
   obtain⟨q,hq,rfl⟩:=i8.mp hx
   have hi:i<es.length:=by
    have:=(a8.mp hq).1
    rw[hlen,z5 hk] at this
    exact this
   obtain⟨e,he⟩:∃ e,es[i]?=some e:=⟨_,a9 hi⟩
   obtain⟨kv,hkv,ek,wt,ew,ewt⟩:=lS hk he
   have hem:=b6 he
   obtain⟨c1,c2,c3⟩:=(I.wy ho es hes).2 e hem
   have ea:=hat i q kv hq hkv
   rw[ek,ew] at ea
   have ea:H5 q=some (.tup [.str (S [e.1]),.ref wt]):=ea
   have qM:∀ {b:Addr} {xs:List V},H5 b=some (.tup xs)→b ∉ M:=fun {b xs} z=>by rw[hM];exact w5.out z (by intro xs z;cases z) (by intro kvs z;cases z)
   have ea6:=f6 _ _ ea (qM ea)
   have ewt5:=s35 _ _ ewt
   have ewt6:=f6 _ _ ewt5 (qM ewt5)
   refine⟨q,_,rfl,.inr (SqT.of ea6),rfl,_,_,rfl,_,_,rfl,rfl,?_⟩
   obtain⟨dx',hd6,tn6,wy6,al6,ds6,as6,hM6,w6⟩:=id W6
   have hes':∀ x∈es.take i,cR x.1∧x.2.1<(dE Z ho ab t).hs.length∧x.2.2=lay (back (φ ho)++(hf x.1++φ x.2.1)):=fun x hx=>by
    obtain⟨z1,z2,z3⟩:=(I.wy ho es hes).2 x (o6 hx)
    refine⟨z1,?_,z3⟩
    show x.2.1<(Z.hs.set ho ab).length
    rw[k0];exact z2
   have lu:(dE Z ho ab t).hs.length=Z.hs.length:=by show (Z.hs.set ho ab).length=_;rw[k0]
   obtain⟨I6,h6⟩:=rK ht I1 (by rw[lu];exact hab) hes'
   obtain⟨ea',hea'⟩:∃ ea,(underW ab t (dE Z ho ab t) (es.take i)).ws[ab]?=some ea:=⟨_,a9 (by rw[I6.lw,h6,lu];exact hab)⟩
   have hgd:(underW ab t (dE Z ho ab t) (es.take i)).ws.getD ab []=ea':=by rw[c6,hea'];rfl
   obtain⟨eA,e3l⟩:AllL e.2.2∧e.2.2.length≤3 * L:=by rw[c3];exact nZ I c1 ho e.2.1
   have hal6:=kJ (ab:=ab) (t:=t) (es:=es.take i) (T:=dE Z ho ab t)
   have htl:(es.take i).length≤8:=by rw[i6];omega
   have hal7:(dE Z ho ab t).al.length=Z.al.length:=rfl
   refine⟨_,rfl,p,dx',_,rfl,w6.ob,gD _ _ _ _ (by decide +kernel) (by decide +kernel) (by decide +kernel) (by decide +kernel),_,rfl,_,rfl,_,rfl,wt,_,0,.int (e.2.1:Nat),rfl,rfl,SqT.of ewt6,rfl,_,rfl,t,rfl,tA,by omega,fun H7 s7=>?_⟩
   refine⟨_,rfl,wt,_,1,.str (S e.2.2),rfl,rfl,SqT.of (s7 _ _ ewt6),rfl,back t,e.2.2,rfl,aS tA,eA,by rw[bY];omega,fun H8 s8=>?_⟩
   refine⟨hf,φ,ρ1,rk1,L,p,M,_,ab,e.1,e.2.1,lay (back t++e.2.2),ea',rfl,(W6.same s7).same s8,I6,hL,hea',c1,by rw[h6,lu];exact c2,?_,by omega,fun H9 W9 f9=>?_⟩
   ·rw[ht,c3]
    exact IZ (I.fa ho).1 (I.fa ab).1 (I.fa e.2.1).1 (I.ha e.1 c1).1
   ·have tk:es.take (i+1)=es.take i++[e]:=by rw[m4,he];rfl
    refine⟨_,_,rfl,?_,fun b o z n=>f9 _ _ (s8 _ _ (s7 _ _ (f6 b o z n))) n⟩
    rw[tk,vX,hgd]
    exact W9
  ·rintro _ H6 ⟨v4,v5,rfl,W6,f6⟩
   rw[b7,hlen,z5 hk,i9] at W6
   exact k H6 W6 fun b o z n=>f6 _ _ (s35 _ _ (f13 b o z n)) n
theorem GV{f:Addr}{fd:FuncData}(D:DfM K JJ "fold" "Weave.fold" Fr ["self"] f fd)(T:Txt P w K mg JH JI JJ)(c_zu:Cl P w K mg base "turned_back" ["word"] 2 lL)(c_zc1:Cl P w K mg base "joined" ["one","other"] 3 lB)(c_zr:nD P w K mg base JJ "end_of" ["self","place","told"] 4 (yA JJ))(c_zd:nD P w K mg base JJ "put_under" ["self","head","above","turn"] 5 (Cb JJ)):nD P w K mg base JJ "fold" ["self"] 6 (zH JJ):=by
 obtain⟨f_zr,fd_zr,G_zr,m_zr,b_zr⟩:=c_zr
 obtain⟨f_zd,fd_zd,G_zd,m_zd,b_zd⟩:=c_zd
 refine D.cl (D.F.ok sc_zw (fun vs H Q E h=>?_) (fun cdv A outer s H vs Q E hr h=>?_))
 ·obtain⟨_,_,_,_,p,M,Z,E',rfl,_⟩:=h
  rfl
 ·obtain⟨hf,φ,rk,L,p,M,Z,E',rfl,hW,I,X,LI0,hL,hN,hal,k⟩:=h
  refine⟨_,(aF (fW i7 (aR mV (aL (bB (K:=K) rfl) (by rfl) T.b_len j2 (aA (cB (K:=K) rfl (pv 0) rfl) aB)) aG (aQ _)) (aD (aM (i:=1) sc_zw.nd rfl (Or.inl rfl) (cK (K:=K) rfl i0 y1 y2 oG (cB (K:=K) rfl (pv 0) rfl) (aA aG aB)))
   (aD (aM (i:=2) sc_zw.nd rfl (Or.inl rfl) (dU (pv 0) T.o_Weave.cl m_zr G_zr (hr.mono (by decide)) b_zr .nil eF (aA (aV (cH (K:=K) rfl) (pv 1) aG (fun _ _=>rfl)) (aA cU aB))))
   (aD (aM (i:=3) sc_zw.nd rfl (Or.inl rfl) (dU (pv 0) T.o_Weave.cl m_zr G_zr (hr.mono (by decide)) b_zr .nil eF (aA (aV (cH (K:=K) rfl) (pv 1) aG (fun _ _=>rfl)) (aA (aV (cH (K:=K) rfl) (pv 1) aG (fun _ _=>rfl)) aB))))
   (aF (dH (aR jB (aV (cH (K:=K) rfl) (pv 2) aG (fun _ _=>rfl)) (aV (cH (K:=K) rfl) (pv 3) aG (fun _ _=>rfl)) (aQ _)) (aF (bM (dU (pv 0) T.o_Weave.cl m_zd G_zd (hr.mono (by decide)) b_zd .nil eF (aA (aV (cH (K:=K) rfl) (pv 2) aG (fun _ _=>rfl)) (aA (aV (cH (K:=K) rfl) (pv 3) aG (fun _ _=>rfl)) (aA (pC c_zc1 hr (aA (pC c_zu hr (aA (aV (cH (K:=K) rfl) (pv 2) aG (fun _ _=>rfl)) aB)) (aA (aV (cH (K:=K) rfl) (pv 3) aG (fun _ _=>rfl)) aB))) aB)))))) bU))))))),?_⟩
  refine⟨fun m σ H'=>∃ (ρ rk':Nat→Nat) (Z':WvS) (v1 v2 v3:Option V),m=9 * wT ρ Z.hs.length+Z'.al.length∧m≤18100∧σ=[some (.ref p),v1,v2,v3]∧Wat JJ H' p M Z'∧WI hf φ ρ rk' L Z'∧EI E' ρ Z'∧LI E' ρ Z'∧(∀ x,ρ (ρ x)=ρ x)∧Z'.hs.length=Z.hs.length∧FrW M H H',⟨_,(fun x=>x),rk,Z,none,none,none,rfl,?_,rfl,hW,I,X,LI0,(fun _=>rfl),rfl,FrW.refl _ _⟩,?_⟩
  ·have:=FB (ρ:=fun x=>x) Z.hs.length
   omega
  rintro m _ H1 ⟨ρ,rk1,Z1,v1,v2,v3,hm,hm2,rfl,W1,I1,X1,LI1,hid,hl1,f1⟩
  obtain⟨dx,hd,tn,wy,al,ds,as,hM,w1⟩:=id W1
  refine⟨_,rfl,p,JJ,dx,_,_,rfl,w1.ob,T.o_Weave.cl,T.n_Weave_alike,oJ _ _ _ _,al,_,rfl,.inl (SqL.of w1.ha),_,_,rfl,rfl,_,rfl,?_⟩
  cases hal1:Z1.al with
  | nil =>
   have has:as=[]:=m9.mp (by rw[w1.la,hal1];rfl)
   subst has
   refine fV ?_
   exact k ρ rk1 H1 Z1 W1 I1 X1 LI1 hal1 hid hl1 f1
  | cons pr rest =>
   obtain⟨a,tt,b⟩:=pr
   obtain⟨q0,as',rfl⟩:∃ q0 as',as=q0::as':=by
    cases as with
    | nil=>have:=w1.la;rw[hal1] at this;simp at this
    | cons q0 as'=>exact⟨q0,as',rfl⟩
   refine eK (fun _=>?_) (fun z=>absurd (decide_eq_true (show (0:Int)<(((q0::as').map V.ref).length:Nat) by rw[b7,j1];omega)) z)
   have hq0:H1 q0=some (.tup [.int (a:Nat),.str (S tt),.int (b:Nat)]):=w1.at' 0 q0 (a,tt,b) rfl (by rw[hal1];rfl)
   obtain⟨p1,p2,p3⟩:=I1.al (a,tt,b) (by rw[hal1];exact d8)
   have p1:a<Z1.hs.length:=p1
   have p2:b<Z1.hs.length:=p2
   have p3:tt=lay (back (φ a)++φ b):=p3
   obtain⟨tA,tl⟩:AllL tt∧tt.length≤2 * L:=by rw[p3];exact hX I1 a b
   refine⟨fun σ' H'=>∃ (ρ' rk':Nat→Nat) (Z':WvS) (v1 v2 v3:Option V),9 * wT ρ' Z.hs.length+Z'.al.length<m∧σ'=[some (.ref p),v1,v2,v3]∧Wat JJ H' p M Z'∧WI hf φ ρ' rk' L Z'∧EI E' ρ' Z'∧LI E' ρ' Z'∧(∀ x,ρ' (ρ' x)=ρ' x)∧Z'.hs.length=Z.hs.length∧FrW M H H',fun σ' H' ⟨ρ',rk',Z',v1,v2,v3,q0,q1⟩=>⟨_,q0,ρ',rk',Z',v1,v2,v3,rfl,by omega,q1⟩,?_⟩
   refine⟨_,rfl,p,JJ,dx,_,_,rfl,w1.ob,T.o_Weave.cl,T.n_Weave_alike,oJ _ _ _ _,.inl ⟨rfl,_,SqL.of w1.ha⟩,al,_,0,0,.ref q0,rfl,rfl,w1.ha,by decide,by decide,aQI (by decide) (by rw[b7,j1];omega),rfl,?_⟩
   have w2:=w1.upAl as' rest (by have:=w1.la;rw[hal1] at this;simpa using this) (fun j x e h1 h2=>w1.at' (j+1) x e h1 (by rw[hal1];exact h2))
   have f2:FrW M H1 (upd H1 al (.lst (as'.map V.ref))):=by rw[hM];exact WvC.put1 (by simp)
   show mZ _ _ _ _ (upd H1 al (.lst (as'.map V.ref)))
   generalize upd H1 al (.lst (as'.map V.ref))=H2 at w2 f2
   have q0M:q0 ∉ M:=by rw[hM];exact w1.out hq0 (by intro xs z;cases z) (by intro kvs z;cases z)
   have hq2:=f2 _ _ hq0 q0M
   have I2:WI hf φ ρ rk1 L { Z1 with al:=rest }:=I1.alDrop fun e he=>by rw[hal1];exact c8 _ he
   have W2:Wat JJ H2 p M { Z1 with al:=rest }:=⟨dx,hd,tn,wy,al,ds,as',hM,w2⟩
   refine⟨_,rfl,p,dx,_,rfl,w2.ob,gD _ _ _ _ (by decide +kernel) (by decide +kernel) (by decide +kernel) (by decide +kernel),_,rfl,q0,_,0,.int (a:Nat),rfl,rfl,SqT.of hq2,rfl,hf,φ,ρ,rk1,L,p,M,_,a,[],rfl,W2,I2,hL,p1,AllL.nil,rfl,by simp,fun t1 H3 Z3 K3 e3=>?_⟩
   have e3:H3 t1=some (.tup [.int (ρ a:Nat),.str (S (lay (back (φ a)++φ (ρ a))))]):=e3
   obtain⟨dx3,hd3,tn3,wy3,al3,ds3,as3,hM3,w3⟩:=id K3.at'
   have hq3:=K3.fr _ _ hq2 q0M
   refine⟨_,rfl,p,dx3,_,rfl,w3.ob,gD _ _ _ _ (by decide +kernel) (by decide +kernel) (by decide +kernel) (by decide +kernel),_,rfl,q0,_,2,.int (b:Nat),rfl,rfl,SqT.of hq3,rfl,_,rfl,q0,_,1,.str (S tt),rfl,rfl,SqT.of hq3,rfl,hf,φ,ρ,rk1,L,p,M,_,b,tt,rfl,K3.at',K3.wi,hL,by rw[K3.ln];exact p2,tA,by rw[p3,D4],by omega,fun t2 H4 Z4 K4 e4=>?_⟩
   have et:lay (tt++(back (φ b)++φ (ρ b)))=lay (back (φ a)++φ (ρ b)):=by
    rw[p3,fT _ _ (AllL.app.mpr ⟨aS (I1.fa a).1,(I1.fa b).1⟩),k7]
    exact fY (aS (I1.fa a).1) (I1.fa b).1 (I1.fa (ρ b)).1
   rw[et] at e4
   have t1M:t1 ∉ M:=by rw[hM3];exact w3.out e3 (by intro xs z;cases z) (by intro kvs z;cases z)
   have e34:=K4.fr _ _ e3 t1M
   have hln:Z4.hs.length=Z1.hs.length:=K4.ln.trans K3.ln
   have hws:Z4.ws=Z1.ws:=K4.ws.trans K3.ws
   have hal4:Z4.al=rest:=K4.al.trans K3.al
   have X4:EI E' ρ { Z4 with al:=(a,tt,b)::Z4.al }:=X1.move hws (by rw[hal1];show (a,tt,b)::Z4.al=_;rw[hal4]) hln
   have rab:Rel E' a b:=LI1.al a tt b (by rw[hal1];exact d8)
   have LI4:LI E' ρ Z4:=LI1.move fun e he=>by rw[hal4] at he;rw[hal1];exact c8 _ he
   have of4:OfE E' Z4:=fun i fs hi e he=>(X1.ofE LI1) i fs (by rw[← hws];exact hi) e he
   have f14:FrW M H H4:=fun x o e n=>K4.fr _ _ (K3.fr _ _ (f2 _ _ (f1 x o e n) n) n) n
   have hrl:m=9 * wT ρ Z.hs.length+(rest.length+1):=by rw[hm,hal1,j1]
   refine⟨_,rfl,t1,_,0,.int (ρ a:Nat),rfl,rfl,SqT.of e34,rfl,_,rfl,t2,_,0,.int (ρ b:Nat),rfl,rfl,SqT.of e4,rfl,rfl,_,rfl,?_⟩
   by_cases hab:ρ a=ρ b
   ·rw[show decide (V.int ((ρ a:Nat):Int)=V.int ((ρ b:Nat):Int))=true from decide_eq_true (by rw[hab])]
    refine fV ?_
    exact⟨ρ,rk1,Z4,_,_,_,by rw[hal4];omega,rfl,K4.at',K4.wi,X4.pop hab,LI4,hid,hln.trans hl1,f14⟩
   ·rw[show decide (V.int ((ρ a:Nat):Int)=V.int ((ρ b:Nat):Int))=false from decide_eq_false (fun z=>hab (by have:=V.int.inj z;omega))]
    refine gC ?_
    obtain⟨dx4,hd4,tn4,wy4,al4,ds4,as4,hM4,w4⟩:=id K4.at'
    obtain⟨oA,ol⟩:=hX I1 a (ρ a)
    obtain⟨oB,ol2⟩:=hX I1 a (ρ b)
    refine⟨_,rfl,p,dx4,_,rfl,w4.ob,gD _ _ _ _ (by decide +kernel) (by decide +kernel) (by decide +kernel) (by decide +kernel),_,rfl,t1,_,0,.int (ρ a:Nat),rfl,rfl,SqT.of e34,rfl,_,rfl,t2,_,0,.int (ρ b:Nat),rfl,rfl,SqT.of e4,rfl,_,rfl,t1,_,1,.str (S (lay (back (φ a)++φ (ρ a)))),rfl,rfl,SqT.of e34,rfl,_,rfl,oA,by omega,fun H5 s5=>?_⟩
    refine⟨_,rfl,t2,_,1,.str (S (lay (back (φ a)++φ (ρ b)))),rfl,rfl,SqT.of (s5 _ _ e4),rfl,_,_,rfl,aS oA,oB,by rw[bY];omega,fun H6 s6=>?_⟩
    have ht:lay (back (lay (back (φ a)++φ (ρ a)))++lay (back (φ a)++φ (ρ b)))=lay (back (φ (ρ a))++φ (ρ b)):=by
     rw[Jl (I1.fa a).1 (I1.fa (ρ a)).1]
     exact Jm (I1.fa (ρ a)).1 (I1.fa a).1 (I1.fa (ρ b)).1
    rw[ht]
    have I4:=K4.wi
    obtain⟨ra1,ra2⟩:=I4.rt a (by rw[hln];exact p1)
    obtain⟨rb1,rb2⟩:=I4.rt b (by rw[hln];exact p2)
    obtain⟨es,hes⟩:∃ es,Z4.ws[ρ a]?=some es:=⟨_,a9 (by rw[I4.lw];exact ra1)⟩
    obtain⟨o1,o2,o3⟩:=Fd I4 X4 (by rw[hln];exact p1) (by rw[hln];exact p2) rfl rfl hab rfl hes
    have hel:es.length≤8:=sD (I4.wy _ es hes).1 fun e he=>((I4.wy _ es hes).2 e he).1
    refine⟨hf,φ,ρ,rk1,_,_,L,p,M,Z4,ρ a,ρ b,_,es,rfl,(K4.at'.same s5).same s6,I4,I4.under ra2 rb2 hab rfl,hL,hes,ra1,rb1,hab,rfl,by rw[hal4];omega,fun H7 W7 f7=>?_⟩
    have rb3:ρ (ρ b)=ρ b:=hid b
    have lu:=LI4.under rab rfl rfl (lay (back (φ (ρ a))++φ (ρ b)))
    have rhd:Rel E' (ρ a) (ρ b):=((LI4.ro a).symm.trans rab).trans (LI4.ro b)
    have liu:=LI.underW (t:=lay (back (φ (ρ a))++φ (ρ b))) (es:=es) lu (fun i fs hi e he=>of4 i fs hi e he) (fun e he=>by
     obtain⟨u,v,z1,z2,z3⟩:=of4 _ es hes e he
     exact⟨u,v,z1,z2.trans rhd,z3⟩) (by show ρ b<Z4.ws.length;rw[I4.lw];exact rb1)
    have hcnt:=AU (N:=Z.hs.length) (hd:=ρ a) (ab:=ρ b) (by rw[← hl1,← hln];exact ra1) (hid a) rb3 hab
    have hul:=kJ (ab:=ρ b) (t:=lay (back (φ (ρ a))++φ (ρ b))) (es:=es) (T:=dE Z4 (ρ a) (ρ b) (lay (back (φ (ρ a))++φ (ρ b))))
    have hul2:(dE Z4 (ρ a) (ρ b) (lay (back (φ (ρ a))++φ (ρ b)))).al.length=rest.length:=by show Z4.al.length=_;rw[hal4]
    refine⟨ρU ρ (ρ a) (ρ b),_,_,_,_,_,by omega,rfl,W7,o1,o2,liu,At hid rb3 hab,?_,fun x o e n=>f7 _ _ (s6 _ _ (s5 _ _ (f14 x o e n))) n⟩
    rw[o3,k0]
    exact hln.trans hl1
theorem Ht{f:Addr}{fd:FuncData}(D:DfM K JJ "lay_word" "Weave.lay_word" FQ ["self","word","told"] f fd)(T:Txt P w K mg JH JI JJ)(c_z4:Cl P w K mg base "contrary" ["letter"] 1 iX)(c_zu:Cl P w K mg base "turned_back" ["word"] 2 lL)(c_ze:nD P w K mg base JJ "new_place" ["self"] 1 (BC JJ))(c_zm:nD P w K mg base JJ "lay_way" ["self","place","letter","goal","told"] 4 (xX JJ)):nD P w K mg base JJ "lay_word" ["self","word","told"] 5 (zX JJ):=by
 obtain⟨f_ze,fd_ze,G_ze,m_ze,b_ze⟩:=c_ze
 obtain⟨f_zm,fd_zm,G_zm,m_zm,b_zm⟩:=c_zm
 refine D.cl (D.F.ok sc_zj (fun vs H Q E h=>?_) (fun cdv A outer s H vs Q E hr h=>?_))
 ·obtain⟨_,_,_,_,p,M,Z,E',wd,t,rfl,_⟩:=h
  rfl
 ·obtain⟨hf,φ,rk,L,p,M,Z,E',wd,t,rfl,hW,I,X,LI0,hsy,hL,hφ,h0,hN,hal,hwA,hcon,htold,hlen,k⟩:=h
  refine⟨_,(aD (aM (i:=3) sc_zj.nd rfl (Or.inl rfl) aG)
   (aF (cV i7 rfl (yM (by rfl) T.b_enumerate (aA (pv 1) aB)) (jD (K:=K) rfl rfl (bZ (aX (i:=4) sc_zj.nd rfl (Or.inl rfl)) (bZ (aX (i:=5) sc_zj.nd rfl (Or.inl rfl)) gE))) (aD (aM (i:=6) sc_zj.nd rfl (Or.inl rfl) (dD eR (pv 4) (bE CG (aL eU (by rfl) T.b_len j2 (aA (pv 1) aB)) aG) (aQ _)))
   (iL (aM (i:=7) sc_zj.nd rfl (Or.inl rfl) (fZ (gI (pv 6)) aG (oU (pv 0) T.o_Weave.cl m_ze G_ze (hr.mono (by decide)) b_ze .nil eF)))
   (iL (aM (i:=8) sc_zj.nd rfl (Or.inl rfl) (fZ (gI (pv 6)) (pv 2) cU))
   (aD (bM (dU (pv 0) T.o_Weave.cl m_zm G_zm (hr.mono (by decide)) b_zm .nil eF (aA (pv 3) (aA (pv 5) (aA (pv 7) (aA (pv 8) aB))))))
   (aD (bM (dU (pv 0) T.o_Weave.cl m_zm G_zm (hr.mono (by decide)) b_zm .nil eF (aA (pv 7) (aA (pC c_z4 hr (aA (pv 5) aB)) (aA (pv 3) (aA (pC c_zu hr (aA (pv 8) aB)) aB))))))
   (aF (aM (i:=3) sc_zj.nd rfl (Or.inl rfl) (pv 7))))))))))),?_⟩
  refine⟨_,rfl,S wd,rfl,vN (w:=wd) (fun i σ H2=>∃ (v4 v5 v6 v7 v8:Option V) (hr:Nat) (M2:List Addr) (Z2:WvS) (φ2:Nat→List Nat) (E2:Nat→Nat→Nat→Prop),σ=[some (.ref p),some (.str (S wd)),some (.str (S t)),some (.int (hr:Nat)),v4,v5,v6,v7,v8]∧Wat JJ H2 p M2 Z2∧MU H M M2∧FrW M H H2∧WI hf φ2 (fun x=>x) rk L Z2∧EI E2 (fun x=>x) Z2∧LI E2 (fun x=>x) Z2∧Hi E2∧(∀ p c q,E2 p c q↔E' p c q∨FlE Z.hs.length wd i p c q)∧φ2 0=[]∧Fw E2 (fun x=>x) 0 (wd.take i) hr∧hr<Z2.hs.length∧hr=bF Z.hs.length wd.length i∧Z2.hs.length=Z.hs.length+min i (wd.length - 1)∧Z2.al.length≤Z.al.length+2 * i∧(i<wd.length→φ2 hr=lay (back (Hw hf (wd.take i))))∧(i=wd.length→hr=0)) ?_ ?_ ?_⟩
  ·exact⟨_,_,_,_,_,0,M,Z,φ,E',rfl,hW,MU.refl _ _,FrW.refl _ _,I,X,LI0,hsy,fun p c q=>⟨.inl,fun z=>z.elim id fun ⟨j,hj,_⟩=>absurd hj (aQg _)⟩,hφ,rfl,h0,by unfold bF;rw[if_pos (.inl rfl)],by rw[Nat.zero_min];rfl,b5 _,fun _=>hφ,fun _=>rfl⟩
  ·rintro i c q _ H2 hc hq2 ⟨v4,v5,v6,v7,v8,hr,M2,Z2,φ2,E2,rfl,W2,u2,f2,I2,X2,LI2,sy2,mo2,φ20,fw2,hrl,hrp,ln2,al2,hφr,_⟩
   have hi:i<wd.length:=(a8.mp hc).1
   have hcL:cR c:=hwA c (b6 hc)
   have tk:wd.take (i+1)=wd.take i++[c]:=bK hc
   have huA:AllL (Hw hf (wd.take i)):=yD (fun c hc=>(I.ha c hc).1) fun x hx=>hwA x (o6 hx)
   have hcA:=(I.ha c hcL).1
   have hφr:=hφr hi
   have s3:=Same.new (o:=HO.tup [.int ((i:Nat):Int),.str (S [c])]) hq2
   refine⟨q,_,rfl,.inr (SqT.of aC),rfl,_,_,rfl,_,_,rfl,rfl,?_⟩
   generalize upd H2 q (.tup [.int ((i:Nat):Int),.str (S [c])])=H3 at s3
   refine⟨_,rfl,_,rfl,S wd,rfl,aK (by rw[cC];omega),_,_,rfl,rfl,rfl,?_⟩
   have W3:=W2.same s3
   have f3:FrW M H H3:=fun b o e n=>s3 _ _ (f2 b o e n)
   have hb:decide (V.int ((i:Nat):Int)=V.int ((((S wd).length:Nat):Int) - 1))=decide (i+1=wd.length):=by
    rw[cC]
    refine decide_eq_decide.mpr ⟨fun z=>by have:=V.int.inj z;omega,fun z=>by congr 1;omega⟩
   dsimp only
   rw[hb]
   generalize hlast:decide (i+1=wd.length)=lastb
   refine⟨fun σ H'=>∃ (v8:Option V) (g:Nat) (M4:List Addr) (Z4:WvS) (φ4:Nat→List Nat),σ=[some (.ref p),some (.str (S wd)),some (.str (S t)),some (.int (hr:Nat)),some (.int ((i:Nat):Int)),some (.str (S [c])),some (.bl lastb),some (.int (g:Nat)),v8]∧Wat JJ H' p M4 Z4∧MU H M M4∧FrW M H H'∧WI hf φ4 (fun x=>x) rk L Z4∧EI E2 (fun x=>x) Z4∧LI E2 (fun x=>x) Z4∧φ4 0=[]∧hr<Z4.hs.length∧g<Z4.hs.length∧g=bF Z.hs.length wd.length (i+1)∧Z4.hs.length=Z.hs.length+min (i+1) (wd.length - 1)∧Z4.al.length≤Z.al.length+2 * i∧φ4 hr=lay (back (Hw hf (wd.take i)))∧(lastb=true→g=0)∧(lastb=false→φ4 g=lay (back (Hw hf (wd.take (i+1))))),?_,?_⟩
   ·refine⟨_,rfl,_,rfl,?_⟩
    cases lastb with
    | true=>exact gC ⟨_,0,M2,Z2,φ2,rfl,W3,u2,f3,I2,X2,LI2,φ20,hrl,by omega,by have hl:i+1=wd.length:=of_decide_eq_true hlast;unfold bF;rw[if_pos (.inr hl)],by have hl:i+1=wd.length:=of_decide_eq_true hlast;omega,al2,hφr,fun _=>rfl,fun z=>by cases z⟩
    | false =>
     refine fV ?_
     obtain⟨dx,hd,tn,wy,al,ds,as,hM,w3⟩:=id W3
     refine⟨_,rfl,p,dx,_,rfl,w3.ob,gD _ _ _ _ (by decide +kernel) (by decide +kernel) (by decide +kernel) (by decide +kernel),p,M2,Z2,rfl,W3,by omega,by rw[I2.lt];omega,by rw[I2.lw];omega,fun d H4 W4 hd4 f4=>?_⟩
     have hold:∀ {x:Nat},x<Z2.hs.length→φN φ2 Z2.hs.length (lay (back (Hw hf (wd.take (i+1))))) x=φ2 x:=fun {x} hx=>by unfold φN;rw[if_neg (by omega)]
     have hA1:AllL (Hw hf (wd.take (i+1))):=yD (fun c hc=>(I.ha c hc).1) fun x hx=>hwA x (o6 hx)
     have ln4:(Bh Z2).hs.length=Z2.hs.length+1:=by show (Z2.hs++[Z2.hs.length]).length=_;rw[b9];rfl
     refine⟨_,Z2.hs.length,M2++[d],Bh Z2,_,rfl,W4,fun x hx=>?_,?_,I2.new (iJ (aS hA1)) (hlen (i+1) (by omega)),X2.new I2.lw,⟨LI2.ro,LI2.al⟩,?_,by omega,by omega,(by have hl:¬ i+1=wd.length:=of_decide_eq_false hlast;unfold bF;rw[if_neg (by omega)];omega),(by have hl:¬ i+1=wd.length:=of_decide_eq_false hlast;omega),al2,?_,fun z=>(by cases z),fun _=>?_⟩
     ·rcases i5.mp hx with z | z
      ·exact u2 x z
      ·rw[c9.mp z]
       by_cases hdM:d∈M
       ·exact .inl hdM
       ·refine .inr ?_
        cases e:H d with
        | none=>rfl
        | some o=>rw[f3 d o e hdM] at hd4;cases hd4
     ·exact FrW.trans f3 u2 f4
     ·rw[hold (by omega)];exact φ20
     ·rw[hold hrl];exact hφr
     ·unfold φN;rw[if_pos rfl]
   rintro _ H4 ⟨v8',g,M4,Z4,φ4,rfl,W4,u4,f4,I4,X4,LI4,φ40,hr4,hg4,hgp,l42,al4,hφ4,hg0,hgn⟩
   refine⟨fun σ H'=>∃ (pt:List Nat),σ=[some (.ref p),some (.str (S wd)),some (.str (S t)),some (.int (hr:Nat)),some (.int ((i:Nat):Int)),some (.str (S [c])),some (.bl lastb),some (.int (g:Nat)),some (.str (S pt))]∧H'=H4∧pt=lay (back (φ4 hr)++(hf c++φ4 g)),?_,?_⟩
   ·refine⟨_,rfl,_,rfl,?_⟩
    cases lastb with
    | true =>
     have hl:i+1=wd.length:=of_decide_eq_true hlast
     refine gC ⟨_,rfl,t,rfl,rfl,?_⟩
     rw[htold (by intro z;rw[z] at hi;simp at hi),hφ4,hg0 rfl,φ40,Ab huA hcA,← tk,hl,i9]
    | false =>
     refine fV ⟨[],rfl,rfl,?_⟩
     rw[hφ4,hgn rfl,tk,Cv huA hcA]
   rintro _ _ ⟨pt,rfl,rfl,hpt⟩
   obtain⟨pA,pl⟩:AllL pt∧pt.length≤3 * L:=by rw[hpt];exact nZ I4 hcL hr g
   obtain⟨es,hes⟩:∃ es,Z4.ws[hr]?=some es:=⟨_,a9 (by rw[I4.lw];exact hr4)⟩
   obtain⟨dx,hd,tn,wy,al,ds,as,hM,w4⟩:=id W4
   refine⟨_,rfl,p,dx,_,rfl,w4.ob,gD _ _ _ _ (by decide +kernel) (by decide +kernel) (by decide +kernel) (by decide +kernel),_,rfl,_,rfl,_,rfl,_,rfl,hf,φ4,(fun x=>x),rk,L,p,M4,Z4,hr,c,g,pt,es,rfl,W4,I4,hL,hes,hcL,hg4,hpt,by omega,fun H5 W5 f5=>?_⟩
   have I5:=I4.lay hes hcL hg4 hpt
   have X5:=X4.lay' (t:=pt) (c:=c) hes rfl hr4 hg4
   obtain⟨h5,_⟩:=gR (S:=Z4) hr c g pt es
   have la5:=kM (S:=Z4) (i:=hr) (c:=c) (g:=g) (t:=pt) (es:=es)
   have m5:∀ p' c' q',E2 p' c' q'→(E2 p' c' q'∨(p'=hr∧c'=c∧q'=g)):=fun _ _ _ z=>.inl z
   have LI5:=(LI4.mono m5).lay' (t:=pt) ((X4.ofE LI4).mono m5) hes (.inr ⟨rfl,rfl,rfl⟩)
   generalize aZ Z4 hr c g pt es=Z5 at W5 I5 X5 LI5 h5 la5
   obtain⟨es',hes'⟩:∃ es,Z5.ws[g]?=some es:=⟨_,a9 (by rw[I5.lw,h5];exact hg4)⟩
   obtain⟨dx5,hd5,tn5,wy5,al5,ds5,as5,hM5,w5⟩:=id W5
   refine⟨_,rfl,p,dx5,_,rfl,w5.ob,gD _ _ _ _ (by decide +kernel) (by decide +kernel) (by decide +kernel) (by decide +kernel),_,rfl,_,rfl,c,rfl,hcL,fun H6 s6=>?_⟩
   refine⟨_,rfl,_,rfl,pt,rfl,pA,by omega,fun H7 s7=>?_⟩
   have hbp:back pt=lay (back (φ4 g)++(hf (aU c)++φ4 hr)):=by
    rw[hpt,hcon c hcL]
    exact Jg (I4.fa hr).1 (I4.fa g).1 hcA
   refine⟨hf,φ4,(fun x=>x),rk,L,p,M4,Z5,g,aU c,hr,back pt,es',rfl,(W5.same s6).same s7,I5,hL,hes',dM hcL,by rw[h5];exact hr4,hbp,by omega,fun H8 W8 f8=>?_⟩
   have I8:=I5.lay hes' (dM hcL) (by rw[h5];exact hr4) hbp
   have X8:=X5.lay' (t:=back pt) (c:=aU c) hes' rfl (by rw[h5];exact hg4) (by rw[h5];exact hr4)
   obtain⟨h8,_⟩:=gR (S:=Z5) g (aU c) hr (back pt) es'
   have la8:=kM (S:=Z5) (i:=g) (c:=aU c) (g:=hr) (t:=back pt) (es:=es')
   have m8:∀ p' c' q',(E2 p' c' q'∨(p'=hr∧c'=c∧q'=g))→((E2 p' c' q'∨(p'=hr∧c'=c∧q'=g))∨(p'=g∧c'=aU c∧q'=hr)):=fun _ _ _ z=>.inl z
   have LI8:=(LI5.mono m8).lay' (t:=back pt) ((X5.ofE LI5).mono m8) hes' (.inr ⟨rfl,rfl,rfl⟩)
   generalize aZ Z5 g (aU c) hr (back pt) es'=Z8 at W8 I8 X8 LI8 h8 la8
   have ff:FrW M H H8:=fun b o e n=>by
    have nM:b ∉ M4:=fun z=>(u4 b z).elim n fun q=>by rw[e] at q;cases q
    exact f8 _ _ (s7 _ _ (s6 _ _ (f5 _ _ (f4 b o e n) nM))) nM
   refine⟨_,rfl,_,_,_,_,_,g,M4,Z8,φ4,_,rfl,W8,u4,ff,I8,X8,LI8,?_,?_,φ40,?_,by rw[h8,h5];exact hg4,hgp,by rw[h8,h5];exact l42,by omega,fun hlt=>?_,fun hl=>?_⟩
   ·rintro p' c' q' ((z | ⟨rfl,rfl,rfl⟩) | ⟨rfl,rfl,rfl⟩)
    ·obtain⟨a,b⟩:=sy2 _ _ _ z
     exact⟨a,.inl (.inl b)⟩
    ·exact⟨hcL,.inr ⟨rfl,rfl,rfl⟩⟩
    ·exact⟨dM hcL,.inl (.inr ⟨rfl,bV hcL,rfl⟩)⟩
   ·intro p' c' q'
    rw[FlE.succ hc,mo2,← hrp,← hgp]
    constructor
    ·rintro((z | z) | z)
     ·exact z.elim .inl fun z=>.inr (.inl z)
     ·exact .inr (.inr (.inl ⟨z.2.1,z.1,z.2.2⟩))
     ·exact .inr (.inr (.inr ⟨z.2.1,z.1,z.2.2⟩))
    ·rintro(z | z | z | z)
     ·exact .inl (.inl (.inl z))
     ·exact .inl (.inl (.inr z))
     ·exact .inl (.inr ⟨z.2.1,z.1,z.2.2⟩)
     ·exact .inr ⟨z.2.1,z.1,z.2.2⟩
   ·rw[tk]
    exact(fw2.mono fun p c q z=>.inl (.inl z)).app ⟨hr,g,rfl,.inl (.inr ⟨rfl,rfl,rfl⟩),rfl⟩
   ·have:lastb=false:=by rw[← hlast];exact decide_eq_false (by omega)
    exact hgn this
   ·have:lastb=true:=by rw[← hlast];exact decide_eq_true hl
    exact hg0 this
  ·rintro σ H2 ⟨v4,v5,v6,v7,v8,hr,M2,Z2,φ2,E2,rfl,W2,u2,f2,I2,X2,LI2,sy2,mo2,φ20,fw2,hrl,hrp,ln2,al2,_,hr0⟩
   have hr0:=hr0 rfl
   subst hr0
   rw[i9] at fw2
   exact k M2 H2 Z2 φ2 E2 W2 u2 f2 I2 X2 LI2 sy2 mo2 φ20 fw2 (by rw[ln2,Nat.min_eq_right (by omega)]) al2
theorem Gu{f:Addr}{fd:FuncData}(D:Df K mg "numbers_of_heads" E5 ["n","weave"] f fd)(T:Txt P w K mg JH JI JJ)(c_zx:Cl P w K mg base "letters_of" ["n"] 1 (BP K))(c_zp:nD P w K mg base JJ "head_of" ["self","place"] 5 (sE JJ))(c_zo:nD P w K mg base JJ "goal_of" ["self","head","letter"] 6 (tL JJ)):Cl P w K mg base "numbers_of_heads" ["n","weave"] 7 (yZ JJ):=by
 obtain⟨f_zp,fd_zp,G_zp,m_zp,b_zp⟩:=c_zp
 obtain⟨f_zo,fd_zo,G_zo,m_zo,b_zo⟩:=c_zo
 refine D.cl (D.F.ok sc_zb (fun vs H Q E h=>?_) (fun cdv A outer s H vs Q E hr h=>?_))
 ·obtain⟨_,_,_,_,_,n,p,M,Z,rfl,_⟩:=h
  rfl
 ·obtain⟨hf,φ,ρ,rk,L,n,p,M,Z,rfl,h1,h4,hW,I,hL,h0,hN,k⟩:=h
  refine⟨_,(aD (aM (i:=2) sc_zb.nd rfl (Or.inl rfl) (dB (aA (dU (pv 1) T.o_Weave.cl m_zp G_zp (hr.mono (by decide)) b_zp .nil eF (aA aG aB)) aB)))
   (aD (aM (i:=3) sc_zb.nd rfl (Or.inl rfl) (DN (Bf (aV (aO (K:=K) rfl) (pv 2) aG (fun _ _=>rfl)) aG CY) rfl rfl (by simp) (by decide)))
   (aD (aM (i:=4) sc_zb.nd rfl (Or.inl rfl) aG)
   (aD (fW i7 (aR yJ (pv 4) (aL (bB (K:=K) rfl) (by rfl) T.b_len j2 (aA (pv 2) aB)) (aQ _)) (aD (cV i7 rfl (jM (K:=K) rfl (pC c_zx hr (aA (pv 0) aB))) (aX (i:=5) sc_zb.nd rfl (Or.inl rfl)) (aD (aM (i:=6) sc_zb.nd rfl (Or.inl rfl) (dU (pv 1) T.o_Weave.cl m_zo G_zo (hr.mono (by decide)) b_zo .nil eF (aA (aV (aO (K:=K) rfl) (pv 2) (pv 4) (fun _ _=>rfl)) (aA (pv 5) aB))))
   (aF (dH (pw_and (aR yT (pv 6) gJ (aQ _)) (pw_and1 (FV (AL (j9 (m7 (by decide:1≤64) _) hr.units) (pv 6) (pv 3)) (by rfl)))).pt (aD (tF (j9 (m7 (by decide:1≤64) _) hr.units) (pv 3) (pv 6) (aL (bB (K:=K) rfl) (by rfl) T.b_len j2 (aA (pv 2) aB)) (by rfl))
   (aF (bM (cK (K:=K) rfl i0 j4 j5 bR (pv 2) (aA (pv 6) aB))))) bU))))
   (aF (FS (i:=4) sc_zb.nd rfl (Or.inl rfl) aG Fb))))
   (aF (aT (pv 3))))))),?_⟩
  obtain⟨dx,hd,tn,wy,al,a1⟩:=hW.self
  refine⟨_,rfl,p,dx,_,rfl,a1,gD _ _ _ _ (by decide +kernel) (by decide +kernel) (by decide +kernel) (by decide +kernel),hf,φ,ρ,rk,L,p,M,Z,0,rfl,hW,I,hL,h0,fun H1 Z1 K1=>?_⟩
  refine⟨(by show 1≤sizeLine;decide),fun hs hh=>?_⟩
  have hhM:hs ∉ M:=K1.at'.new hh
  have hhH:=K1.free hhM hh
  have K2:=K1.same (Same.new (o:=HO.lst [.int ((ρ 0:Nat):Int)]) hh)
  have e2:upd H1 hs (.lst [.int ((ρ 0:Nat):Int)]) hs=some (.lst (cJ [ρ 0])):=aC
  generalize upd H1 hs (.lst [.int ((ρ 0:Nat):Int)])=H2 at K2 e2
  intro q hq
  have hqM:q ∉ M:=K2.at'.new hq
  have hqH:=K2.free hqM hq
  have s3:=Same.new (o:=HO.dK []) hq
  refine⟨_,rfl,hs,_,0,.int ((ρ 0:Nat):Int),rfl,rfl,SqL.of (s3 _ _ e2),rfl,?_⟩
  refine⟨aC,[(.inl ((ρ 0:Nat):Int),.int 0)],rfl,(by show 1≤15;decide),?_⟩
  have s4:Same H2 (upd (upd H2 q (.dK [])) q (.dK [(.inl ((ρ 0:Nat):Int),.int 0)])):=fun b o e=>by
   have n:b≠q:=aI e hq
   rw[aE n,aE n];exact e
  have e4:upd (upd H2 q (.dK [])) q (.dK [(.inl ((ρ 0:Nat):Int),.int 0)]) q=some (.dK (eJ [ρ 0])):=aC
  show mZ _ _ _ _ (upd (upd H2 q (.dK [])) q (.dK [(.inl ((ρ 0:Nat):Int),.int 0)]))
  have K3:=K2.same s4
  have e3:=s4 _ _ e2
  generalize upd (upd H2 q (.dK [])) q (.dK [(.inl ((ρ 0:Nat):Int),.int 0)])=H3 at e4 K3 e3
  have hr0:ρ 0<Z.hs.length:=(I.rt 0 h0).1
  refine⟨fun m0 σ H'=>∃ (v5 v6:Option V) (dn:Nat) (Z':WvS) (ord:List Nat),m0+dn=1000∧σ=[some (.int (n:Nat)),some (.ref p),some (.ref hs),some (.ref q),some (.int (dn:Nat)),v5,v6]∧Kept JJ hf φ ρ rk L p M H H' Z Z'∧H' hs=some (.lst (cJ ord))∧H' q=some (.dK (eJ ord))∧OrdOk Z.hs.length ord∧cM (fL ρ Z) (aJ (n:Nat)) 1000 0 [ρ 0]=cM (fL ρ Z) (aJ (n:Nat)) m0 dn ord,⟨1000,none,none,0,Z1,[ρ 0],rfl,rfl,K3,e3,e4,⟨by simp,fun x hx=>by rw[c9.mp hx];exact hr0⟩,rfl⟩,?_⟩
  rintro m0 _ H4 ⟨v5,v6,dn,Z4,ord,hmd,rfl,K4,e34,e44,ok,hup⟩
  have hol:=ok.len
  refine⟨_,rfl,_,rfl,hs,_,rfl,.inl (SqL.of e34),_,_,rfl,rfl,_,rfl,?_⟩
  refine eK (fun z=>?_) (fun z=>?_)
  rotate_left
  ·have hge:ord.length≤dn:=by
    have:¬ ((dn:Nat):Int)<(((cJ ord).length:Nat):Int):=fun y=>z (decide_eq_true y)
    rw[dI] at this
    omega
   rw[mG _ _ _ _ _ hge] at hup
   refine⟨_,rfl,k q H4 Z4 K4 hqH ?_ ?_ ?_⟩
   ·rw[hup];exact e44
   ·rw[hup];omega
   ·rw[hup];exact ok.2
  ·have hlt:dn<ord.length:=by
    have:((dn:Nat):Int)<(((cJ ord).length:Nat):Int):=of_decide_eq_true z
    rw[dI] at this
    omega
   obtain⟨s,hs'⟩:∃ s,ord[dn]?=some s:=⟨_,a9 hlt⟩
   have hsl:s<Z.hs.length:=ok.2 s (b6 hs')
   obtain⟨m1,rfl⟩:∃ m1,m0=m1+1:=⟨m0 - 1,by omega⟩
   rw[kN _ _ _ _ _ hs'] at hup
   refine⟨fun σ' H'=>∃ (v5 v6:Option V) (Z':WvS) (ord':List Nat),σ'=[some (.int (n:Nat)),some (.ref p),some (.ref hs),some (.ref q),some (.int ((dn+1:Nat):Int)),v5,v6]∧Kept JJ hf φ ρ rk L p M H H' Z Z'∧H' hs=some (.lst (cJ ord'))∧H' q=some (.dK (eJ ord'))∧OrdOk Z.hs.length ord'∧cM (fL ρ Z) (aJ (n:Nat)) 1000 0 [ρ 0]=cM (fL ρ Z) (aJ (n:Nat)) m1 (dn+1) ord',fun σ' H' ⟨v5,v6,Z',ord',e,s⟩=>⟨m1,by omega,v5,v6,dn+1,Z',ord',by omega,e,s⟩,?_⟩
   refine⟨_,rfl,n,rfl,h1,h4,fun t H5 s7 ht=>⟨t,rfl,⟨_,ht⟩,?_⟩⟩
   refine zY (K:=K) (a:=t) (xs:=bH (aJ (n:Nat))) (fun i σ H'=>∃ (v5 v6:Option V) (Z':WvS),σ=[some (.int (n:Nat)),some (.ref p),some (.ref hs),some (.ref q),some (.int ((dn:Nat):Int)),v5,v6]∧Kept JJ hf φ ρ rk L p M H H' Z Z'∧H' hs=some (.lst (cJ (cE (fL ρ Z s) ((aJ (n:Nat)).take i) ord)))∧H' q=some (.dK (eJ (cE (fL ρ Z s) ((aJ (n:Nat)).take i) ord)))∧OrdOk Z.hs.length (cE (fL ρ Z s) ((aJ (n:Nat)).take i) ord)∧SqT K H' t (bH (aJ (n:Nat)))) ⟨_,_,Z4,rfl,K4.same s7,s7 _ _ e34,s7 _ _ e44,ok,ht⟩ ?_ ?_ ?_
   ·rintro i σ H' _ ⟨_,_,_,_,_,_,_,_,s8⟩
    exact s8
   ·rintro i x _ H6 hx ⟨v5,v6,Z6,rfl,K6,e36,e46,ok6,ht6⟩
    obtain⟨c,hc,rfl⟩:∃ c,(aJ (n:Nat))[i]?=some c∧x=.str (S [c]):=by
     unfold bH at hx
     rw[c5] at hx
     cases e:(aJ (n:Nat))[i]? with
     | none=>rw[e] at hx;cases hx
     | some c=>rw[e] at hx;cases hx;exact⟨c,rfl,rfl⟩
    have tk:(aJ (n:Nat)).take (i+1)=(aJ (n:Nat)).take i++[c]:=bK hc
    rw[tk,pO]
    obtain⟨r,hr⟩:=eI (fL ρ Z s) ((aJ (n:Nat)).take i) ord
    have hat:(cE (fL ρ Z s) ((aJ (n:Nat)).take i) ord)[dn]?=some s:=by rw[hr,l5 hlt];exact hs'
    generalize cE (fL ρ Z s) ((aJ (n:Nat)).take i) ord=oi at e36 e46 ok6 hat
    have hoi:=ok6.len
    obtain⟨es,hes⟩:∃ es,Z6.ws[s]?=some es:=⟨_,a9 (by rw[K6.wi.lw,K6.ln];exact hsl)⟩
    have hdl:fL ρ Z s c=(cT es c).map fun r=>ρ r.1:=by
     unfold fL
     rw[c6,← K6.ws,hes]
     rfl
    obtain⟨dx6,hd6,tn6,wy6,al6,a6⟩:=K6.at'.self
    refine⟨_,rfl,p,dx6,_,rfl,a6,gD _ _ _ _ (by decide +kernel) (by decide +kernel) (by decide +kernel) (by decide +kernel),_,rfl,_,rfl,hs,_,_,.int ((s:Nat):Int),rfl,rfl,SqL.of e36,cX (iH hat),_,rfl,hf,φ,ρ,rk,L,p,M,Z6,s,c,es,rfl,K6.at',K6.wi,hL,hes,fun H7 Z7 K7=>?_⟩
    have e37:=K7.fr _ _ e36 hhM
    have e47:=K7.fr _ _ e46 hqM
    have K67:=K6.trans K7
    have htM:SqT K H7 t (bH (aJ (n:Nat))):=Fm K6.at' K7.fr ht6
    rw[hdl]
    cases ew:cT es c with
    | none =>
     refine⟨_,rfl,rfl,_,rfl,?_⟩
     show ∃ (v5 v6:Option V) (Z':WvS),_
     exact⟨_,_,Z7,rfl,K67,e37,e47,ok6,htM⟩
    | some rr =>
     have hgl:ρ rr.1<Z.hs.length:=by
      have:=((K6.wi.wy s es hes).2 _ (dJ ew)).2.1
      have:=(K6.wi.rt rr.1 this).1
      rw[K6.ln] at this
      exact this
     show _
     dsimp only [y0]
     generalize ρ rr.1=g at hgl
     refine⟨_,rfl,rfl,_,rfl,?_⟩
     refine(show tB (zG (C5 6) (C5 3)) _ H7 _ from ?_)
     refine⟨_,rfl,_,rfl,q,_,rfl,DGet.k (k:=.inl ((g:Nat):Int)) e47,_,rfl,?_⟩
     rw[sP]
     by_cases hin:g∈oi
     ·rw[if_pos hin,if_pos hin]
      show ∃ (v5 v6:Option V) (Z':WvS),_
      exact⟨_,_,Z7,rfl,K67,e37,e47,ok6,htM⟩
     ·rw[if_neg hin,if_neg hin]
      have hl1000:oi.length<sizeLine:=aN (by omega)
      refine⟨_,rfl,hs,_,rfl,.inl (SqL.of e37),_,rfl,_,rfl,q,_,rfl,DPut.k (k:=.inl ((g:Nat):Int)) e47 (by rw[vS];exact hl1000),?_⟩
      have hnl:V.int (((cJ oi).length:Nat):Int)=V.int ((oi.length:Nat):Int):=by rw[dI]
      rw[hnl,B6 hin]
      have K8:=K67.setD (o:=HO.dK (eJ (oi++[g]))) hqM hqH e47
      have e48:upd H7 q (.dK (eJ (oi++[g]))) q=some (.dK (eJ (oi++[g]))):=aC
      have nqh:hs≠q:=bS e37 e47 (by intro z;cases z)
      have e38:upd H7 q (.dK (eJ (oi++[g]))) hs=some (.lst (cJ oi)):=by rw[aE nqh];exact e37
      have ht8:SqT K (upd H7 q (.dK (eJ (oi++[g])))) t (bH (aJ (n:Nat))):=by
       rcases htM with (z | ⟨o,z⟩) | z
       ·exact .inl (.inl (by rw[aE (bS z e47 (by intro y;cases y))];exact z))
       ·exact .inl (.inr ⟨o,by rw[aE (bS z e47 (by intro y;cases y))];exact z⟩)
       ·exact .inr z
      generalize upd H7 q (.dK (eJ (oi++[g])))=H8 at K8 e48 e38 ht8
      refine⟨_,rfl,.inl ⟨rfl,_,SqL.of e38⟩,_,rfl,hs,_,_,rfl,rfl,e38,by rw[dI];exact hl1000,?_⟩
      refine⟨_,_,Z7,rfl,K8.set hhM hhH e38,?_,?_,ok6.snoc hgl hin,Ft e38 ht8⟩
      ·rw[aC,pJ]
      ·rw[aE nqh.symm];exact e48
   ·rintro σ H6 ⟨v5,v6,Z6,rfl,K6,e36,e46,ok6,_⟩
    rw[bG,i9] at e36 e46 ok6
    exact⟨_,rfl,_,_,rfl,rfl,v5,v6,Z6,_,rfl,K6,e36,e46,ok6,hup⟩
theorem Hg{f:Addr}{fd:FuncData}(D:Df K mg "place_told" Bo ["n","weave","numbers","head"] f fd)(T:Txt P w K mg JH JI JJ)(c_zn:Cl P w K mg base "first_letters" ["n"] 1 nH)(c_zo:nD P w K mg base JJ "goal_of" ["self","head","letter"] 6 (tL JJ)):Cl P w K mg base "place_told" ["n","weave","numbers","head"] 7 (wH JJ):=by
 obtain⟨f_zo,fd_zo,G_zo,m_zo,b_zo⟩:=c_zo
 refine D.cl (D.F.ok sc_zz (fun vs H Q E h=>?_) (fun cdv A outer s H vs Q E hr h=>?_))
 ·obtain⟨_,_,_,_,_,n,p,M,Z,t,s,ord,rfl,_⟩:=h
  rfl
 ·obtain⟨hf,φ,ρ,rk,L,n,p,M,Z,t,s,ord,rfl,h1,h4,hW,I,hL,hsl,hN,hmem,k⟩:=h
  refine⟨_,(aD (hJ (i:=4) (sc0:=aH Bo) (N:=["n","weave","numbers","head","goals"]) (ix:=[1,3]) sc_zz.nd rfl rfl (by decide +kernel) rfl rfl rfl (jM (K:=K) rfl (pC c_zn hr (aA (pv 0) aB))) (fun _ _ _=>bX) (fun _ _ _=>(dU (pv 1) T.o_Weave.cl m_zo G_zo (hr.mono (by decide)) b_zo .nil eF (aA (pv 2) (aA (pv 0) aB)))))
   (aF (aT (aW (cD (K:=K) rfl) (by rfl) T.b_tuple boot_tuple (aA (cY (sc0:=aH Bo) (N:=["n","weave","numbers","head","goals"]) (ix:=[2]) (by decide +kernel) rfl rfl rfl (cG (K:=K) rfl (pv 4)) (fun _ _ _=>bX) (fun _ _ _=>(fZ (aR xH (pv 0) gJ (aQ _)) gJ (sT (j9 (m7 (by decide:1≤64) _) hr.units) (pv 1) (pv 0) (fun _ _=>rfl))))) aB))))),?_⟩
  obtain⟨on,hN⟩:=hN
  have htM:t ∉ M:=hW.out hN (by intro xs z;cases z) (by intro kvs z;cases z)
  have ll:(cW n).length=n:=(tN h1 h4).len
  have lln:(cN n).length=n:=gY h4
  refine⟨_,rfl,n,rfl,h1,h4,fun tl H1 htl s1 etl=>⟨tl,rfl,⟨_,SqT.of etl⟩,fun Dd hD=>?_⟩⟩
  have K1:Kept JJ hf φ ρ rk L p M H H1 Z Z:=(Kept.refl hW I).same s1
  have hDM:Dd ∉ M:=K1.at'.new hD
  have hDH:=K1.free hDM hD
  have tlM:tl ∉ M:=K1.at'.out etl (by intro xs z;cases z) (by intro kvs z;cases z)
  refine iA (xs:=bI (cW n)) (fun i H2=>∃ Z2,Kept JJ hf φ ρ rk L p M H H2 Z Z2∧H2 tl=some (.tup (bI (cW n)))∧H2 Dd=some (.lst (((cN n).take i).map fun c=>nW (fL ρ Z s c)))) ⟨Z,K1.same (Same.new hD),by rw[aE (aI etl hD)];exact etl,aC⟩ (fun i H2 _ ⟨_,_,h,_⟩=>SqT.of h) ?_ ?_
  ·rintro i v H2 hv ⟨Z2,K2,e2t,e2⟩
   obtain⟨rfl,hi⟩:=DW h4 hv
   have hci:=Bt hv
   obtain⟨es,hes⟩:∃ es,Z2.ws[s]?=some es:=⟨_,a9 (by rw[K2.wi.lw,K2.ln];exact hsl)⟩
   have hdl:fL ρ Z s (97+i)=(cT es (97+i)).map fun r=>ρ r.1:=by
    unfold fL
    rw[c6,← K2.ws,hes]
    rfl
   obtain⟨dx2,hd2,tn2,wy2,al2,a2⟩:=K2.at'.self
   refine⟨_,rfl,p,dx2,_,rfl,a2,gD _ _ _ _ (by decide +kernel) (by decide +kernel) (by decide +kernel) (by decide +kernel),_,rfl,_,rfl,hf,φ,ρ,rk,L,p,M,Z2,s,97+i,es,rfl,K2.at',K2.wi,hL,hes,fun H3 Z3 K3=>?_⟩
   have e3:=K3.fr _ _ e2 hDM
   have fin:∀ y,y=nW (fL ρ Z s (97+i))→∃ ys,H3 Dd=some (.lst ys)∧ys.length<sizeLine∧∃ Z2,Kept JJ hf φ ρ rk L p M H (upd H3 Dd (.lst (ys++[y]))) Z Z2∧upd H3 Dd (.lst (ys++[y])) tl=some (.tup (bI (cW n)))∧upd H3 Dd (.lst (ys++[y])) Dd=some (.lst (((cN n).take (i+1)).map fun c=>nW (fL ρ Z s c))):=fun y hy=>by
    refine⟨_,e3,?_,Z3,(K2.trans K3).set hDM hDH e3,?_,?_⟩
    ·rw[b7,i6];exact aN (by omega)
    ·rw[aE (bS (K3.fr _ _ e2t tlM) e3 (by intro z;cases z))];exact K3.fr _ _ e2t tlM
    ·rw[aC,m4,hci,d9,hy];rfl
   cases ew:cT es (97+i) with
   | none=>exact fin _ (by rw[hdl,ew];rfl)
   | some r=>exact fin _ (by rw[hdl,ew];rfl)
  ·rintro H2 ⟨Z2,K2,e2t,e2⟩
   rw[aP,ll,p0 (by omega)] at e2
   refine⟨_,rfl,Dd,rfl,⟨_,SqL.of e2⟩,fun Ee hE=>?_⟩
   have hEM:Ee ∉ M:=K2.at'.new hE
   have hN2:=K2.fr _ _ hN htM
   refine eE (xs:=(cN n).map fun c=>nW (fL ρ Z s c)) (fun i H3=>Same H2 H3∧H3 Ee=some (.lst ((fH (fL ρ Z) ((cN n).take i) ord s).map nW))) ⟨Same.new hE,aC⟩ (fun i H3 _ h=>SqL.of (h.1 _ _ e2)) ?_ ?_
   ·rintro i v H3 hv ⟨s3,e3⟩
    rw[c5] at hv
    obtain⟨c,hc,rfl⟩:=i8.mp hv
    have hi:i<n:=by have:=(a8.mp hc).1;omega
    have hcm:=jL h1 h4 (b6 hc)
    have fin:∀ y,y=nW ((fL ρ Z s c).map fun g=>ord.idxOf g)→(HO.lst ((fH (fL ρ Z) ((cN n).take i) ord s).map nW++[y]))=HO.lst ((fH (fL ρ Z) ((cN n).take (i+1)) ord s).map nW):=fun y hy=>by
     rw[bK hc,hy]
     unfold fH
     rw[d9,d9]
     rfl
    have sm:((fH (fL ρ Z) ((cN n).take i) ord s).map nW).length<sizeLine:=by
     unfold fH
     rw[b7,b7,i6];exact aN (by omega)
    cases ed:fL ρ Z s c with
    | none =>
     refine⟨_,rfl,rfl,_,rfl,?_⟩
     refine⟨_,e3,sm,s3.upd hE,?_⟩
     rw[aC,fin _ (by rw[ed];rfl)]
    | some g =>
     refine⟨_,rfl,rfl,_,rfl,?_⟩
     have hg:DGet H3 t (.int ((g:Nat):Int)) (some (.int (ord.idxOf g:Nat))):=by
      have:=DGet.fk (k:=.inl ((g:Nat):Int)) (s3 _ _ hN2)
      rw[sP,if_pos (hmem c hcm g ed)] at this
      exact this
     refine⟨_,rfl,_,rfl,t,.int (ord.idxOf g:Nat),rfl,hg,?_⟩
     refine⟨_,e3,sm,s3.upd hE,?_⟩
     rw[aC,fin _ (by rw[ed];rfl)]
   ·rintro H3 ⟨s3,e3⟩
    rw[b7,i9] at e3
    refine⟨Ee,_,rfl,.inl ⟨SqL.of e3,fun q hq=>?_⟩⟩
    have K3:=(K2.same s3).same (Same.new (o:=HO.tup ((fH (fL ρ Z) (cN n) ord s).map nW)) hq)
    exact k q _ Z2 K3 ((K2.same s3).free ((K2.same s3).at'.new hq) hq) aC
theorem Fi{f:Addr}{fd:FuncData}(D:Df K mg "web_of" vZ ["n","words"] f fd)(T:Txt P w K mg JH JI JJ)(c_zl:nD P w K mg base JJ "__init__" ["self"] 1 (uT JJ))(c_zj:nD P w K mg base JJ "lay_word" ["self","word","told"] 5 (zX JJ))(c_zw:nD P w K mg base JJ "fold" ["self"] 6 (zH JJ))(c_zb:Cl P w K mg base "numbers_of_heads" ["n","weave"] 7 (yZ JJ))(c_zz:Cl P w K mg base "place_told" ["n","weave","numbers","head"] 7 (wH JJ)):Cl P w K mg base "web_of" ["n","words"] 8 (CJ K):=by
 obtain⟨f_zl,fd_zl,G_zl,m_zl,b_zl⟩:=c_zl
 obtain⟨f_zj,fd_zj,G_zj,m_zj,b_zj⟩:=c_zj
 obtain⟨f_zw,fd_zw,G_zw,m_zw,b_zw⟩:=c_zw
 refine D.cl (D.F.ok sc_zd1 (fun vs H Q E h=>?_) (fun cdv A outer s H vs Q E hr h=>?_))
 ·obtain⟨n,a,rs,rfl,_⟩:=h
  rfl
 ·obtain⟨n,a,rs,rfl,h1,h4,ea,hlen,hall,k⟩:=h
  rcases ea with ea | ea
  case' inl=>refine⟨_,(aD (aM (i:=2) sc_zd1.nd rfl (Or.inr rfl) (vW (T.o_Weave.make m_zl) G_zl (hr.mono (by decide)) (by rfl) T.m_Weave b_zl .nil eF))
   (aD (cV i7 rfl (jM (K:=K) rfl (pv 1)) (aX (i:=3) sc_zd1.nd rfl (Or.inl rfl)) (aF (bM (dU (pv 2) T.o_Weave.cl m_zj G_zj (hr.mono (by decide)) b_zj .nil eF (aA (pv 3) (aA cU aB))))))
   (aD (bM (oU (pv 2) T.o_Weave.cl m_zw G_zw (hr.mono (by decide)) b_zw .nil eF))
   (aD (aM (i:=4) sc_zd1.nd rfl (Or.inr rfl) (pC c_zb hr (aA (pv 0) (aA (pv 2) aB))))
   (aF (aT (aW (cD (K:=K) rfl) (by rfl) T.b_tuple boot_tuple (aA (uI (H0:=H) rfl (cY (sc0:=aH vZ) (N:=["n","words","weave","word","numbers"]) (ix:=[0,2,4]) (by decide +kernel) rfl rfl rfl (tX (pv 4)) (fun _ _ _=>bX) (fun _ _ _=>(pC c_zz hr (aA (pv 1) (aA (pv 2) (aA (pv 3) (aA (pv 0) aB)))))))) aB)))))))),?_⟩
  case' inr=>refine⟨_,(aD (aM (i:=2) sc_zd1.nd rfl (Or.inr rfl) (vW (T.o_Weave.make m_zl) G_zl (hr.mono (by decide)) (by rfl) T.m_Weave b_zl .nil eF))
   (aD (cV i7 rfl (cG (K:=K) rfl (pv 1)) (aX (i:=3) sc_zd1.nd rfl (Or.inl rfl)) (aF (bM (dU (pv 2) T.o_Weave.cl m_zj G_zj (hr.mono (by decide)) b_zj .nil eF (aA (pv 3) (aA cU aB))))))
   (aD (bM (oU (pv 2) T.o_Weave.cl m_zw G_zw (hr.mono (by decide)) b_zw .nil eF))
   (aD (aM (i:=4) sc_zd1.nd rfl (Or.inr rfl) (pC c_zb hr (aA (pv 0) (aA (pv 2) aB))))
   (aF (aT (aW (cD (K:=K) rfl) (by rfl) T.b_tuple boot_tuple (aA (uI (H0:=H) rfl (cY (sc0:=aH vZ) (N:=["n","words","weave","word","numbers"]) (ix:=[0,2,4]) (by decide +kernel) rfl rfl rfl (tX (pv 4)) (fun _ _ _=>bX) (fun _ _ _=>(pC c_zz hr (aA (pv 1) (aA (pv 2) (aA (pv 3) (aA (pv 0) aB)))))))) aB)))))))),?_⟩
  all_goals
   intro p dx hp hdx hne
   have hp0:upd (upd H dx (.own p)) p (.ins JJ dx []) p=some (.ins JJ dx []):=aC
   have sN:∀ b o,H b=some o→upd (upd H dx (.own p)) p (.ins JJ dx []) b=some o:=fun b o e=>by rw[aE (aI e hp),aE (aI e hdx)];exact e
   refine⟨p,dx,rfl,hp0,fun M H1 hM1 hW1 kp1=>⟨rfl,?_⟩⟩
   have s1:Same H H1:=fun b o e=>kp1 b o (sN b o e) (aI e hp)
   have fr1:∀ x∈M,H x=none:=fun x hx=>by
    have:=hM1 x hx
    cases e:H x with
    | none=>rfl
    | some o=>rw[sN _ _ e] at this;cases this
   obtain⟨IV,hIV⟩:∃ IV:Nat→L2.St→Hp→Prop,IV=(fun i σ H2=>∃ (v3:Option V) (M2:List Addr) (Z2:WvS) (φ2:Nat→List Nat) (E2:Nat→Nat→Nat→Prop),σ=[some (.int (n:Nat)),some (.ref a),some (.ref p),v3,none]∧Wat JJ H2 p M2 Z2∧(∀ x∈M2,H x=none)∧Same H H2∧WI (fun _=>[]) φ2 (fun x=>x) (fun _=>0) 0 Z2∧EI E2 (fun x=>x) Z2∧LI E2 (fun x=>x) Z2∧Hi E2∧φ2 0=[]∧(∀ p c q,E2 p c q↔bT 1 (rs.take i) p c q)∧0<Z2.hs.length∧Z2.hs.length=Gx 1 (rs.take i)∧Z2.hs.length≤1+i * 80∧Z2.al.length≤i * 160):=⟨_,rfl⟩
   first | refine⟨_,rfl,a,rfl,⟨_,L2.SqT.same s1 ea⟩,zY (K:=K) (a:=a) (xs:=bI rs) IV ?_ ?_ ?_ ?_⟩ | refine⟨_,rfl,a,rfl,⟨_,L2.SqL_same s1 ea⟩,eM (K:=K) (a:=a) (xs:=bI rs) IV ?_ ?_ ?_ ?_⟩
   all_goals subst hIV
   ·exact⟨none,M,Hb,_,_,rfl,hW1,fr1,s1,WI.init (fun c _=>⟨AllL.nil,b5 _⟩),EI.init,⟨fun x=>.refl x,fun x t y z=>by cases z⟩,fun _ _ _ z=>z.elim,rfl,fun p c q=>Iff.rfl,(by decide),rfl,(by decide),(by decide)⟩
   ·rintro i σ H2 _ ⟨_,_,_,_,_,_,_,_,s2,_⟩
    first | exact L2.SqT.same s2 ea | exact L2.SqL_same s2 ea
   ·rintro i v _ H2 hv ⟨v3,M2,Z2,φ2,E2,rfl,W2,fr2,s2,I2,X2,LI2,sy2,φ20,fe2,l0,ln,l1,l2⟩
    obtain⟨x,hx,rfl⟩:=eQ hv
    have hi:i<rs.length:=(a8.mp hx).1
    obtain⟨xA,xl⟩:=hall x (b6 hx)
    have tk:rs.take (i+1)=rs.take i++[x]:=by rw[m4,hx];rfl
    obtain⟨dx2,hd2,tn2,wy2,al2,a2⟩:=W2.self
    have hH:∀ w:List Nat,Hw (fun _=>[]) w=[]:=fun w=>by unfold Hw;simp
    refine⟨_,rfl,p,dx2,_,rfl,a2,gD _ _ _ _ (by decide +kernel) (by decide +kernel) (by decide +kernel) (by decide +kernel),_,rfl,(fun _=>[]),φ2,(fun _=>0),0,p,M2,Z2,E2,x,[],rfl,W2,I2,X2,LI2,sy2,by decide,φ20,l0,by omega,by omega,xA,fun c _=>rfl,fun _=>by rw[hH];rfl,fun j _=>by rw[hH];exact b5 _,fun M3 H3 Z3 φ3 E3 W3 u3 f3 I3 X3 LI3 sy3 mo3 φ30 fw3 m1 m3=>?_⟩
    have s3:Same H H3:=fun b o e=>f3 b o (s2 _ _ e) fun z=>by rw[fr2 b z] at e;cases e
    refine⟨_,M3,Z3,φ3,E3,rfl,W3,fun y hy=>?_,s3,I3,X3,LI3,sy3,φ30,fun p' c' q'=>?_,by omega,?_,by omega,by omega⟩
    ·rcases u3 y hy with z | z
     ·exact fr2 y z
     ·exact s2.free z
    ·rw[tk,pL,mo3,fe2,← ln]
    ·rw[tk,uQ,m1,ln]
   ·rintro _ H2 ⟨v3,M2,Z2,φ2,E2,rfl,W2,fr2,s2,I2,X2,LI2,sy2,φ20,fe2,l0,ln,l1,l2⟩
    rw[aP,i9] at fe2
    rw[aP] at l1 l2
    obtain⟨dx2,hd2,tn2,wy2,al2,a2⟩:=W2.self
    refine⟨_,rfl,p,dx2,_,rfl,a2,gD _ _ _ _ (by decide +kernel) (by decide +kernel) (by decide +kernel) (by decide +kernel),(fun _=>[]),φ2,(fun _=>0),0,p,M2,Z2,E2,rfl,W2,I2,X2,LI2,by decide,by omega,by omega,fun ρ rk3 H3 Z3 W3 I3 X3 LI3 al3 hid3 ln3 f3=>?_⟩
    have aut:=Fn I3 X3 LI3 al3 hid3 fe2 0
    have s3:Same H H3:=fun b o e=>f3 b o (s2 _ _ e) fun z=>by rw[fr2 b z] at e;cases e
    refine⟨_,rfl,_,rfl,(fun _=>[]),φ2,ρ,rk3,0,n,p,M2,Z3,rfl,h1,h4,W3,I3,by decide,by rw[ln3];exact l0,by rw[ln3];omega,fun t H4 Z4 K4 ht et hol hox=>?_⟩
    have hcl:=hU (δ:=fL ρ Z3) (ls:=aJ (n:Nat)) 1000 0 [ρ 0] (fun i s hi=>absurd hi (aQg _)) (by omega)
    have hweb:gZ (fun s c=>if ρ s=s then fL ρ Z3 s c else none) n (ρ 0) 1000=(cM (fL ρ Z3) (aJ (n:Nat)) 1000 0 [ρ 0]).map (fH (fL ρ Z3) (cN n) (cM (fL ρ Z3) (aJ (n:Nat)) 1000 0 [ρ 0])):=(Bw hid3).symm
    generalize cM (fL ρ Z3) (aJ (n:Nat)) 1000 0 [ρ 0]=ord at et hol hox hcl hweb
    have htM:=W3.new ht
    have ht0:H t=none:=s3.free ht
    have sK:∀ {G:Hp} {Zg:WvS},Kept JJ (fun _=>[]) φ2 ρ rk3 0 p M2 H3 G Z3 Zg→Same H G:=fun K b o e=>K.fr b o (s3 _ _ e) fun z=>by rw[fr2 b z] at e;cases e
    refine⟨_,rfl,t,_,rfl,.inl ⟨et,fun o Dd hD=>?_⟩⟩
    have K5:=K4.setD (o:=HO.frz o (.dK (eJ ord))) htM ht et
    have e5:upd H4 t (.frz o (.dK (eJ ord))) t=some (.frz o (.dK (eJ ord))):=aC
    generalize upd H4 t (.frz o (.dK (eJ ord)))=H5 at K5 e5 hD
    have hDM:Dd ∉ M2:=K5.at'.new hD
    have hD3:H3 Dd=none:=K5.free hDM hD
    have htD:t≠Dd:=aI e5 hD
    refine Am (d:=t) (o:=o) (kvs:=eJ ord) (fun i G=>∃ (Zg:WvS) (qs:List Addr),Kept JJ (fun _=>[]) φ2 ρ rk3 0 p M2 H3 G Z3 Zg∧G t=some (.frz o (.dK (eJ ord)))∧qs.length=i∧G Dd=some (.lst (qs.map V.ref))∧∀ (j:Nat) (q:Addr) (s:Nat),qs[j]?=some q→ord[j]?=some s→G q=some (.tup ((fH (fL ρ Z3) (cN n) ord s).map nW))) ⟨Z4,[],K5.same (Same.new hD),by rw[aE htD];exact e5,rfl,aC,fun j q s z=>by simp at z⟩ (fun i G _ ⟨_,_,_,h,_⟩=>h) ?_ ?_
    ·rintro i ky v G hk ⟨Zg,qs,Kg,eg,hql,eD,hqs⟩
     obtain⟨s,hs,rfl⟩:∃ s,ord[i]?=some s∧ky=.inl ((s:Nat):Int):=by
      unfold eJ at hk
      rw[c5] at hk
      obtain⟨gk,hgk,e⟩:=i8.mp hk
      rw[aX6] at hgk
      obtain⟨s,hs,rfl⟩:=i8.mp hgk
      exact⟨s,hs,(aZM e).1.symm⟩
     have hsm:=b6 hs
     have hil:i<ord.length:=(a8.mp hs).1
     refine⟨_,rfl,_,rfl,_,rfl,_,rfl,(fun _=>[]),φ2,ρ,rk3,0,n,p,M2,Zg,t,s,ord,rfl,h1,h4,Kg.at',Kg.wi,by decide,by rw[Kg.ln];exact hox s hsm,⟨o,eg⟩,fun c hc g hg=>hcl s hsm c hc g (by rw[← wB Kg];exact hg),fun q G6 Z6 K6 hq eq=>?_⟩
     rw[wB Kg] at eq
     have eD6:=K6.fr _ _ eD hDM
     have eg6:=K6.fr _ _ eg htM
     refine⟨_,eD6,by rw[b7,hql];exact aN (by omega),Z6,qs++[q],(Kg.trans K6).set hDM hD3 eD6,by rw[aE htD];exact eg6,by rw[b9,hql];rfl,by rw[aC,d9];rfl,fun j q' s' hj hs'=>?_⟩
     rcases dQ hj with ⟨z,hj⟩ | ⟨z,rfl⟩
     ·have e0:=hqs j q' s' hj hs'
      have e6:=K6.fr _ _ e0 (Kg.at'.out e0 (by intro xs z;cases z) (by intro kvs z;cases z))
      rw[aE (bS e6 eD6 (by intro z;cases z))]
      exact e6
     ·rw[z,hql,hs] at hs'
      cases hs'
      rw[aE (bS eq eD6 (by intro z;cases z))]
      exact eq
    ·rintro G ⟨Zg,qs,Kg,eg,hql,eD,hqs⟩
     refine⟨_,.inr ⟨t,o,_,eg,fun o v z=>(by rw[ht0] at z;cases z),rfl⟩,?_⟩
     have s6:Same H (upd G t (.dK (eJ ord))):=(sK Kg).upd ht0
     have eD6:upd G t (.dK (eJ ord)) Dd=some (.lst (qs.map V.ref)):=by rw[aE htD.symm];exact eD
     refine⟨Dd,_,rfl,.inl ⟨SqL.of eD6,fun r hr=>k r _ ρ _ (s6.upd' hr) aut hid3 ⟨qs,aC,?_,fun i q row hq hrow=>?_⟩⟩⟩
     ·rw[hweb,b7,hql,vS]
     ·rw[hweb,c5] at hrow
      obtain⟨s,hs,rfl⟩:=i8.mp hrow
      have e0:=hqs i q s hq hs
      have e6:upd G t (.dK (eJ ord)) q=_:=(aE (bS e0 eg (by intro z;cases z))).trans e0
      rw[aE (aI e6 hr)]
      exact e6
theorem HW{f:Addr}{fd:FuncData}(D:Df K mg "_law_two_places" Gd ["_law_ways"] f fd)(T:Txt P w K mg JH JI JJ):Cl P w K mg base "_law_two_places" ["_law_ways"] 1 (wN K):=by
 refine D.cl (D.F.ok sc_zk (fun vs H Q E h=>?_) (fun cdv A outer s H vs Q E hr h=>?_))
 ·obtain⟨l,vs',ws,rfl,_⟩:=h
  rfl
 ·obtain⟨l,vs',ws,rfl,el,hlen,hvs,hl200,hlow,kd,kc⟩:=h
  refine⟨_,(aD (aM (i:=1) sc_zk.nd rfl (Or.inl rfl) uC)
   (aD (cV i7 rfl (cG (K:=K) rfl (pv 0)) (jD (K:=K) rfl rfl (bZ (aX (i:=2) sc_zk.nd rfl (Or.inl rfl)) (bZ (aX (i:=3) sc_zk.nd rfl (Or.inl rfl)) (bZ (aX (i:=4) sc_zk.nd rfl (Or.inl rfl)) gE)))) (aF (cV i7 rfl (cG (K:=K) rfl (dB (aA (cF (aA (cF (aA (pv 2) (aA (pv 3) aB))) (aA (pv 4) aB))) (aA (cF (aA (cF (aA (pv 4) (aA (dZ (K:=K) rfl j3 aQ1 aQ2 oK (pv 3)) aB))) (aA (pv 2) aB))) aB)))) (jD (K:=K) rfl rfl (bZ (aX (i:=5) sc_zk.nd rfl (Or.inl rfl)) (bZ (aX (i:=6) sc_zk.nd rfl (Or.inl rfl)) gE))) (aF (dH (aR jB (AC (j9 (m7 (by decide:1≤64) _) hr.units) (pv 1) (pv 5) (pv 6) ⟨rfl,rfl,rfl,rfl⟩) (pv 6) (aQ _)) (aF (aT (cF (aA (sT (j9 (m7 (by decide:1≤64) _) hr.units) (pv 1) (pv 5) (fun _ _=>rfl)) (aA (pv 6) aB))))) bU)))))
   (aF (aT gJ)))),?_⟩
  intro d hd
  have s1:=Same.new (o:=HO.dT []) hd
  have ed:upd H d (.dT []) d=some (.dT []):=aC
  generalize upd H d (.dT [])=H1 at s1 ed
  refine⟨_,rfl,l,rfl,⟨_,SqL.of (s1 _ _ el)⟩,eM (K:=K) (a:=l) (xs:=vs') (fun i σ H2=>∃ (v2 v3 v4 v5 v6:Option V) (kvs:List (List cI×V)) (g:Nat→Nat→Option Nat),σ=[some (.ref l),some (.ref d),v2,v3,v4,v5,v6]∧Same H H2∧H2 d=some (.dT kvs)∧TabW kvs g∧kvs.length≤2 * i∧Ip ws g∧∀ e∈ws.take i,g e.1 e.2.1=some e.2.2∧g e.2.2 (aU e.2.1)=some e.1) ⟨none,none,none,none,none,[],_,rfl,s1,ed,TabW.nil,b5 _,fun p c q z=>(by cases z),fun e he=>(by simp at he)⟩ (fun i σ H2 _ ⟨_,_,_,_,_,_,_,_,s2,_⟩=>SqL.of (s2 _ _ el)) ?_ ?_⟩
  ·rintro i v _ H2 hv ⟨v2,v3,v4,v5,v6,kvs,g,rfl,s2,ed2,tb,kl,go,full⟩
   obtain⟨e,he⟩:∃ e,ws[i]?=some e:=⟨_,a9 (by rw[← hlen];exact(a8.mp hv).1)⟩
   obtain⟨t,rfl,et⟩:=hvs i v e hv he
   have hem:=b6 he
   obtain⟨eL,elo⟩:=hlow e hem
   have et2:=s2 _ _ et
   refine⟨t,_,rfl,.inr (SqT.of et2),rfl,_,_,rfl,_,_,rfl,_,_,rfl,rfl,?_⟩
   have hd0:H d=none:=hd
   refine⟨_,rfl,_,rfl,aK (by simp),fun k1 hk1=>?_⟩
   have s3:=Same.new (o:=HO.tup [.int ((e.1:Nat):Int),.str (S [e.2.1])]) hk1
   have e3:upd H2 k1 (.tup [.int ((e.1:Nat):Int),.str (S [e.2.1])]) k1=some (.tup ((fI e.1 e.2.1).map kV)):=aC
   generalize upd H2 k1 (.tup [.int ((e.1:Nat):Int),.str (S [e.2.1])])=H3 at s3 e3
   refine⟨_,rfl,aK (by simp),fun k2 hk2=>?_⟩
   have s4:=Same.new (o:=HO.tup [.ref k1,.int ((e.2.2:Nat):Int)]) hk2
   have e4:upd H3 k2 (.tup [.ref k1,.int ((e.2.2:Nat):Int)]) k2=some (.tup [.ref k1,.int ((e.2.2:Nat):Int)]):=aC
   generalize upd H3 k2 (.tup [.ref k1,.int ((e.2.2:Nat):Int)])=H4 at s4 e4
   refine⟨_,rfl,_,rfl,rfl,S [e.2.1],rfl,rfl,by rw[jR eL elo];exact tI _,?_⟩
   rw[jR eL elo]
   refine⟨aK (by simp),fun k3 hk3=>?_⟩
   have s5:=Same.new (o:=HO.tup [.int ((e.2.2:Nat):Int),.str (S [aU e.2.1])]) hk3
   have e5:upd H4 k3 (.tup [.int ((e.2.2:Nat):Int),.str (S [aU e.2.1])]) k3=some (.tup ((fI e.2.2 (aU e.2.1)).map kV)):=aC
   generalize upd H4 k3 (.tup [.int ((e.2.2:Nat):Int),.str (S [aU e.2.1])])=H5 at s5 e5
   refine⟨_,rfl,aK (by simp),fun k4 hk4=>?_⟩
   have s6:=Same.new (o:=HO.tup [.ref k3,.int ((e.1:Nat):Int)]) hk4
   have e6:upd H5 k4 (.tup [.ref k3,.int ((e.1:Nat):Int)]) k4=some (.tup [.ref k3,.int ((e.1:Nat):Int)]):=aC
   generalize upd H5 k4 (.tup [.ref k3,.int ((e.1:Nat):Int)])=H6 at s6 e6
   refine⟨aK (by simp),fun L hL=>?_⟩
   have s7:=Same.new (o:=HO.lst [.ref k2,.ref k4]) hL
   have e7:upd H6 L (.lst [.ref k2,.ref k4]) L=some (.lst [.ref k2,.ref k4]):=aC
   generalize upd H6 L (.lst [.ref k2,.ref k4])=H7 at s7 e7
   have s27:=(((s3.trans s4).trans s5).trans s6).trans s7
   have d7:=s27 _ _ ed2
   have e37:=(((s4.trans s5).trans s6).trans s7) _ _ e3
   have e47:=((s5.trans s6).trans s7) _ _ e4
   have e57:=(s6.trans s7) _ _ e5
   have e67:=s7 _ _ e6
   have sH7:=s2.trans s27
   have items:∀ (j:Nat) (x:V),[V.ref k2,.ref k4][j]?=some x→∃ (t k:Addr) (a c pl:Nat),x=.ref t∧H7 t=some (.tup [.ref k,.int (pl:Nat)])∧H7 k=some (.tup ((fI a c).map kV))∧jX ws a c pl∧((j=0∧a=e.1∧c=e.2.1∧pl=e.2.2)∨(j=1∧a=e.2.2∧c=aU e.2.1∧pl=e.1)):=fun j x hx=>by
    match j,hx with
    | 0,hx=>cases hx;exact⟨k2,k1,e.1,e.2.1,e.2.2,rfl,e47,e37,.inl hem,.inl ⟨rfl,rfl,rfl,rfl⟩⟩
    | 1,hx=>cases hx;exact⟨k4,k3,e.2.2,aU e.2.1,e.1,rfl,e67,e57,.inr ⟨e.2.1,rfl,hem⟩,.inr ⟨rfl,rfl,rfl,rfl⟩⟩
   refine⟨L,rfl,⟨_,SqL.of e7⟩,eM (K:=K) (a:=L) (xs:=[.ref k2,.ref k4]) (fun j σ G=>∃ (v5 v6:Option V) (kvs:List (List cI×V)) (g:Nat→Nat→Option Nat),σ=[some (.ref l),some (.ref d),some (.int (e.1:Nat)),some (.str (S [e.2.1])),some (.int (e.2.2:Nat)),v5,v6]∧(∀ b o,H7 b=some o→b≠d→G b=some o)∧G d=some (.dT kvs)∧TabW kvs g∧kvs.length≤2 * i+j∧Ip ws g∧(∀ e∈ws.take i,g e.1 e.2.1=some e.2.2∧g e.2.2 (aU e.2.1)=some e.1)∧(1≤j→g e.1 e.2.1=some e.2.2)∧(2≤j→g e.2.2 (aU e.2.1)=some e.1)) ⟨_,_,kvs,g,rfl,fun b o z _=>z,d7,tb,kl,go,full,fun z=>(by omega),fun z=>(by omega)⟩ (fun j σ G _ ⟨_,_,_,_,_,f,_⟩=>SqL.of (f _ _ e7 (bS e7 d7 (by intro z;cases z)))) ?_ ?_⟩
   ·rintro j x _ G hx ⟨v5,v6,kvs,g,rfl,f,dG,tb,kl,go,full,f1,f2⟩
    obtain⟨t,k,a,c,pl,rfl,et',ek,hE,hcase⟩:=items j x hx
    have hj:j<2:=(a8.mp hx).1
    have hi200:i<200:=by have:=(a8.mp he).1;omega
    have etG:=f _ _ et' (bS et' d7 (by intro z;cases z))
    have ekG:=f _ _ ek (bS ek d7 (by intro z;cases z))
    have sHG:Same H G:=fun b o z=>f b o (sH7 b o z) (aI z hd0)
    have tba:=tb a c
    refine⟨t,_,rfl,.inr (SqT.of etG),rfl,_,_,rfl,_,_,rfl,rfl,?_⟩
    refine⟨_,rfl,d,rfl,.inr ⟨kvs,.inl dG⟩,_,rfl,_,rfl,kvs,fI a c,k,dG,aN (by omega),rfl,ekG,fun v hv=>?_,fun hn=>?_⟩
    ·cases eg:g a c with
     | none=>rw[eg] at tba;rw[tba] at hv;cases hv
     | some q =>
      rw[eg] at tba
      rw[tba] at hv
      cases hv
      refine⟨_,rfl,rfl,_,rfl,?_⟩
      by_cases hq:q=pl
      ·subst hq
       rw[decide_eq_true rfl]
       refine fV ⟨_,_,kvs,g,rfl,f,dG,tb,by omega,go,full,fun z=>?_,fun z=>?_⟩
       ·rcases hcase with ⟨rfl,rfl,rfl,rfl⟩ | ⟨rfl,_⟩
        ·exact eg
        ·exact f1 (by omega)
       ·rcases hcase with ⟨rfl,_⟩ | ⟨rfl,rfl,rfl,rfl⟩
        ·omega
        ·exact eg
      ·rw[decide_eq_false (fun z=>hq (by have:=V.int.inj z;omega))]
       have hg:DGet G d (.ref k) (some (.int (q:Nat))):=by
        have:=DGet.t (k:=fI a c) dG ekG
        rw[tba] at this
        exact this
       refine gC ⟨_,rfl,_,rfl,d,.int (q:Nat),rfl,hg,_,rfl,aK (by simp),fun p hp=>?_⟩
       exact kc q pl p _ (sHG.trans (Same.new hp)) hq ⟨a,c,go a c q eg,hE⟩ aC
    ·have eg:g a c=none:=by
      rw[hn] at tba
      cases eg:g a c with
      | none=>rfl
      | some q=>rw[eg] at tba;cases tba
     refine⟨_,rfl,rfl,_,rfl,?_⟩
     rw[decide_eq_true rfl]
     have keep:∀ {x y q:Nat},g x y=some q→(if x=a∧y=c then some pl else g x y)=some q:=fun {x y q} z=>by
      rw[if_neg (fun w=>by rw[w.1,w.2,eg] at z;cases z)]
      exact z
     refine fV ⟨_,_,_,_,rfl,fun b o z n=>by rw[aE n];exact f b o z n,aC,tb.put a c pl,by have:=dC kvs (fI a c) (V.int (pl:Nat));omega,fun x y q z=>?_,fun e' he'=>⟨keep (full e' he').1,keep (full e' he').2⟩,fun z=>?_,fun z=>?_⟩
     ·dsimp only at z
      split at z
      ·rename_i w
       cases z
       rw[w.1,w.2]
       exact hE
      ·exact go x y q z
     ·rcases hcase with ⟨rfl,rfl,rfl,rfl⟩ | ⟨rfl,_⟩
      ·exact if_pos ⟨rfl,rfl⟩
      ·exact keep (f1 (by omega))
     ·rcases hcase with ⟨rfl,_⟩ | ⟨rfl,rfl,rfl,rfl⟩
      ·omega
      ·exact if_pos ⟨rfl,rfl⟩
   ·rintro _ G ⟨v5,v6,kvs,g,rfl,f,dG,tb,kl,go,full,f1,f2⟩
    refine⟨_,_,_,_,_,kvs,g,rfl,fun b o z=>f b o (sH7 b o z) (aI z hd0),dG,tb,by simp at kl;omega,go,fun e' he'=>?_⟩
    rw[m4,he] at he'
    rcases i5.mp he' with z | z
    ·exact full e' z
    ·have:e'=e:=by simpa using z
     subst this
     exact⟨f1 (by simp),f2 (by simp)⟩
  ·rintro _ H2 ⟨v2,v3,v4,v5,v6,kvs,g,rfl,s2,ed2,tb,kl,go,full⟩
   rw[hlen,i9] at full
   refine kd H2 s2 fun p c q q' h1 h2=>?_
   have key:∀ {q},jX ws p c q→g p c=some q:=fun {q} hq=>by
    rcases hq with z | ⟨d',rfl,z⟩
    ·exact(full _ z).1
    ·exact(full _ z).2
   have:=(key h1).symm.trans (key h2)
   exact i3 this
theorem ES{f:Addr}{fd:FuncData}(D:Df K mg "_law_web" rY ["_law_n","_law_some"] f fd)(T:Txt P w K mg JH JI JJ)(c_zv:Cl P w K mg base "_law_letters" ["_law_n"] 1 jQ)(c_zk:Cl P w K mg base "_law_two_places" ["_law_ways"] 1 (wN K)):Cl P w K mg base "_law_web" ["_law_n","_law_some"] 2 (CA K):=by
 refine D.cl (D.F.ok sc_zb1 (fun vs H Q E h=>?_) (fun cdv A outer s H vs Q E hr h=>?_))
 ·obtain⟨n,a,rs,rfl,_⟩:=h
  rfl
 ·obtain⟨n,a,rs,rfl,h1,h4,ea,hl,hw,hs,kq⟩:=h
  refine⟨_,(aD (aM (i:=2) sc_zb1.nd rfl (Or.inl rfl) (dB aB))
   (aD (aM (i:=3) sc_zb1.nd rfl (Or.inl rfl) aG)
   (aD (cV i7 rfl (cG (K:=K) rfl (pv 1)) (aX (i:=4) sc_zb1.nd rfl (Or.inl rfl)) (aD (aM (i:=5) sc_zb1.nd rfl (Or.inr rfl) aG)
   (aF (cV i7 rfl (yM (by rfl) T.b_enumerate (aA (pv 4) aB)) (jD (K:=K) rfl rfl (bZ (aX (i:=6) sc_zb1.nd rfl (Or.inl rfl)) (bZ (aX (i:=7) sc_zb1.nd rfl (Or.inl rfl)) gE))) (aD (aM (i:=8) sc_zb1.nd rfl (Or.inl rfl) (bE iD (pv 3) (aW gS (by rfl) T.b_int boot_int (aA (dD yJ (pv 6) (bE CG (aL eU (by rfl) T.b_len j2 (aA (pv 4) aB)) aG) (aQ _)) aB))))
   (aD (aM (i:=3) sc_zb1.nd rfl (Or.inl rfl) (bE eP (pv 3) aG))
   (aD (bM (cK (K:=K) rfl i0 j4 j5 bR (pv 2) (aA (aV (aO (K:=K) rfl) (dB (aA (cF (aA (pv 5) (aA (pv 7) (aA (pv 8) aB)))) (aA (cF (aA (pv 8) (aA (dZ (K:=K) rfl j3 aQG aQH lK (pv 7)) (aA (pv 5) aB)))) aB))) (aW gS (by rfl) T.b_int boot_int (aA (dZ (K:=K) rfl j3 aXM aXN pR (pv 7)) aB)) (fun _ _=>rfl)) aB)))
   (aF (aM (i:=5) sc_zb1.nd rfl (Or.inr rfl) (pv 8))))))))))
   (aD (aM (i:=9) sc_zb1.nd rfl (Or.inr rfl) (pC c_zk hr (aA (pv 2) aB)))
   (aD (fW i7 (aR yT (pv 9) gJ (aQ _)) (aD (As (i:=2) sc_zb1.nd rfl rfl (sc0:=aH rY) (N:=["_law_n","_law_some","_law_ways","_law_many","_law_word_here","_law_here","_law_k","_law_letter","_law_there","_law_two","_law_goes","_law_order","_law_at","_law_found","_law_row"]) (ix:=[9]) (by decide +kernel) (K:=K) rfl rfl rfl rfl (cG (K:=K) rfl (pv 2)) (fun _ _ _=>bX) (fun _ _ _=>(cF (aA (fZ (aR eR (pv 0) (aL (pW (K:=K) rfl rfl) (by rfl) T.b_max boot_max (aA (pv 3) aB)) (aQ _)) (aL (pU (K:=K) rfl rfl) (by rfl) T.b_min boot_min (aA (pv 3) aB)) (pv 0)) (aA (pv 1) (aA (fZ (aR eR (pv 2) (aL (pW (K:=K) rfl rfl) (by rfl) T.b_max boot_max (aA (pv 3) aB)) (aQ _)) (aL (pU (K:=K) rfl rfl) (by rfl) T.b_min boot_min (aA (pv 3) aB)) (pv 2)) aB))))))
   (aF (aM (i:=9) sc_zb1.nd rfl (Or.inr rfl) (pC c_zk hr (aA (pv 2) aB))))))
   (aD (aM (i:=10) sc_zb1.nd rfl (Or.inr rfl) uC)
   (aD (cV i7 rfl (cG (K:=K) rfl (pv 2)) (jD (K:=K) rfl rfl (bZ (aX (i:=5) sc_zb1.nd rfl (Or.inr rfl)) (bZ (aX (i:=7) sc_zb1.nd rfl (Or.inl rfl)) (bZ (aX (i:=8) sc_zb1.nd rfl (Or.inl rfl)) gE)))) (aD (tF (j9 (m7 (by decide:1≤64) _) hr.units) (pv 10) (cF (aA (pv 5) (aA (pv 7) aB))) (pv 8) (by rfl))
   (aF (tF (j9 (m7 (by decide:1≤64) _) hr.units) (pv 10) (cF (aA (pv 8) (aA (dZ (K:=K) rfl j3 aQ1 aQ2 oK (pv 7)) aB))) (pv 5) (by rfl)))))
   (aD (aM (i:=11) sc_zb1.nd rfl (Or.inr rfl) (dB (aA aG aB)))
   (aD (aM (i:=12) sc_zb1.nd rfl (Or.inl rfl) aG)
   (aD (fW i7 (aR yJ (pv 12) (aL (bB (K:=K) rfl) (by rfl) T.b_len j2 (aA (pv 11) aB)) (aQ _)) (aD (cV i7 rfl (cG (K:=K) rfl (pC c_zv hr (aA (pv 0) aB))) (aX (i:=7) sc_zb1.nd rfl (Or.inl rfl)) (aF (dH (aR (Au (K:=K) rfl) (uJ (j9 (m7 (by decide:1≤64) _) hr.units) (pv 10) (cF (aA (aV (aO (K:=K) rfl) (pv 11) (pv 12) (fun _ _=>rfl)) (aA (pv 7) aB))) aG ⟨rfl,rfl,rfl,rfl⟩) (pv 11) (by rfl)) (aF (bM (cK (K:=K) rfl i0 j4 j5 bR (pv 11) (aA (sT (j9 (m7 (by decide:1≤64) _) hr.units) (pv 10) (cF (aA (aV (aO (K:=K) rfl) (pv 11) (pv 12) (fun _ _=>rfl)) (aA (pv 7) aB))) (fun _ _=>rfl)) aB)))) bU)))
   (aF (aM (i:=12) sc_zb1.nd rfl (Or.inl rfl) (bE eP (pv 12) aG)))))
   (aD (aM (i:=13) sc_zb1.nd rfl (Or.inl rfl) (dB aB))
   (aD (cV i7 rfl (cG (K:=K) rfl (pv 11)) (aX (i:=5) sc_zb1.nd rfl (Or.inr rfl)) (aD (hJ (i:=14) (sc0:=aH rY) (N:=["_law_n","_law_some","_law_ways","_law_many","_law_word_here","_law_here","_law_k","_law_letter","_law_there","_law_two","_law_goes","_law_order","_law_at","_law_found","_law_row"]) (ix:=[5,10]) sc_zb1.nd rfl rfl (by decide +kernel) rfl rfl rfl (mM (jF tE cU jT (iN (pv 0)))) (fun _ _ _=>bX) (fun _ _ _=>(uJ (j9 (m7 (by decide:1≤64) _) hr.units) (pv 2) (cF (aA (pv 1) (aA (pv 0) aB))) gJ ⟨rfl,rfl,rfl,rfl⟩)))
   (aF (bM (cK (K:=K) rfl i0 j4 j5 bR (pv 13) (aA (aW (cD (K:=K) rfl) (by rfl) T.b_tuple boot_tuple (aA (cY (sc0:=aH rY) (N:=["_law_n","_law_some","_law_ways","_law_many","_law_word_here","_law_here","_law_k","_law_letter","_law_there","_law_two","_law_goes","_law_order","_law_at","_law_found","_law_row"]) (ix:=[11]) (by decide +kernel) rfl rfl rfl (cG (K:=K) rfl (pv 14)) (fun _ _ _=>bX) (fun _ _ _=>(fZ (aR xH (pv 0) gJ (aQ _)) gJ (cK (K:=K) rfl i0 aXT PySem.F.type_list_index (xV (K:=K) rfl) (pv 1) (aA (pv 0) aB))))) aB)) aB))))))
   (aF (aT (aW (cD (K:=K) rfl) (by rfl) T.b_tuple boot_tuple (aA (pv 13) aB)))))))))))))))),?_⟩
  refine⟨aK (by simp),fun l hl0=>?_⟩
  have s1:=Same.new (o:=HO.lst []) hl0
  have el:upd H l (.lst []) l=some (.lst []):=aC
  generalize upd H l (.lst [])=H1 at s1 el
  refine⟨_,rfl,a,rfl,⟨_,L2.SqL_same s1 ea⟩,eM (K:=K) (a:=a) (xs:=bI rs) (fun i σ H2=>∃ (v4 v5 v6 v7 v8:Option V),σ=[some (.int (n:Nat)),some (.ref a),some (.ref l),some (.int (jJ 1 (rs.take i):Nat)),v4,v5,v6,v7,v8,none,none,none,none,none,none]∧Same H H2∧WyL H2 l (eT 1 (rs.take i))) ⟨none,none,none,none,none,rfl,s1,[],el,rfl,fun i v e z=>by simp at z⟩ (fun i σ H2 _ ⟨_,_,_,_,_,_,s2,_⟩=>L2.SqL_same s2 ea) ?_ ?_⟩
  ·rintro i v _ H2 hv ⟨v4,v5,v6,v7,v8,rfl,s2,hW⟩
   obtain⟨x,hx,rfl⟩:=eQ hv
   have hxA:=hw x (b6 hx)
   have tk:rs.take (i+1)=rs.take i++[x]:=by rw[m4,hx];rfl
   rw[tk,pX,rZ]
   have hsum:((rs.take i).map List.length).sum+x.length≤100:=by
    have:((rs.take (i+1)).map List.length).sum≤(rs.map List.length).sum:=by
     conv=>rhs;rw[← aX3 (i+1) rs,d9,aXW]
     omega
    rw[tk,d9,aXW,d3,p8,aQU,List.sum_nil] at this
    omega
   have hwl:(eT 1 (rs.take i)).length+x.length≤100:=by rw[mK];exact hsum
   have hB:jJ 1 (rs.take i)+x.length≤101:=by rw[lN];omega
   generalize hBe:jJ 1 (rs.take i)=B at hB
   generalize eT 1 (rs.take i)=ws0 at hW hwl
   refine⟨_,rfl,S x,rfl,vN (w:=x) (fun k σ H3=>∃ (v6 v7 v8:Option V),σ=[some (.int (n:Nat)),some (.ref a),some (.ref l),some (.int ((B+k:Nat):Int)),some (.str (S x)),some (.int (bF B x.length k:Nat)),v6,v7,v8,none,none,none,none,none,none]∧Same H H3∧WyL H3 l (ws0++(qA B x).take k)) ?_ ?_ ?_⟩
   ·exact⟨v6,v7,v8,by unfold bF;rw[if_pos (.inl rfl)];rfl,s2,by rw[List.take_zero,m6];exact hW⟩
   ·rintro k c q _ H3 hc hq ⟨v6,v7,v8,rfl,s3,hW3⟩
    have hcL:=hxA c (b6 hc)
    have hk:k<x.length:=(a8.mp hc).1
    have s4:=Same.new (o:=HO.tup [.int ((k:Nat):Int),.str (S [c])]) hq
    refine⟨q,_,rfl,.inr (SqT.of aC),rfl,_,_,rfl,_,_,rfl,rfl,?_⟩
    generalize upd H3 q (.tup [.int ((k:Nat):Int),.str (S [c])])=H4 at s4
    obtain⟨ws,e4l,hlen4,hitems⟩:=hW3.same s4
    have hwl4:ws.length<sizeLine:=by rw[hlen4,b9,i6,nO];exact aN (by omega)
    have hth:V.int (((B+k:Nat):Int) * (if decide ((k:Int)<(((S x).length:Nat):Int) - 1)=true then 1 else 0))=V.int ((bF B x.length (k+1):Nat):Int):=by
     rw[cC]
     congr 1
     unfold bF
     by_cases z:k+1=x.length
     ·rw[if_neg (by simp;omega),if_pos (.inr z)];simp
     ·rw[if_pos (by simp;omega),if_neg (by omega)];simp
    refine⟨_,rfl,_,rfl,_,rfl,S x,rfl,aK (by rw[cC];omega),_,_,rfl,rfl,_,_,rfl,rfl,.inr ⟨_,rfl,?_⟩⟩
    refine⟨_,_,rfl,rfl,.inl ⟨by omega,by omega⟩,?_⟩
    dsimp only
    rw[hth]
    refine⟨_,rfl,_,_,rfl,rfl,?_⟩
    refine⟨_,rfl,.inl ⟨rfl,_,SqL.of e4l⟩,_,rfl,_,rfl,_,rfl,aK (by simp),fun k1 hk1=>?_⟩
    have s5:=Same.new (o:=HO.tup [.int ((bF B x.length k:Nat):Int),.str (S [c]),.int ((bF B x.length (k+1):Nat):Int)]) hk1
    have e5:upd H4 k1 (.tup [.int ((bF B x.length k:Nat):Int),.str (S [c]),.int ((bF B x.length (k+1):Nat):Int)]) k1=some (.tup [.int ((bF B x.length k:Nat):Int),.str (S [c]),.int ((bF B x.length (k+1):Nat):Int)]):=aC
    generalize upd H4 k1 (.tup [.int ((bF B x.length k:Nat):Int),.str (S [c]),.int ((bF B x.length (k+1):Nat):Int)])=H5 at s5 e5
    have hc1:AllL [c]:=fun d hd=>by rw[c9.mp hd];exact hcL
    refine⟨_,rfl,_,rfl,rfl,S [c],rfl,rfl,mD [c] hc1 (by simp),?_⟩
    rw[gU hc1]
    refine⟨_,rfl,aK (by simp),fun k2 hk2=>?_⟩
    have s6:=Same.new (o:=HO.tup [.int ((bF B x.length (k+1):Nat):Int),.str (S [lo c]),.int ((bF B x.length k:Nat):Int)]) hk2
    have e6:upd H5 k2 (.tup [.int ((bF B x.length (k+1):Nat):Int),.str (S [lo c]),.int ((bF B x.length k:Nat):Int)]) k2=some (.tup [.int ((bF B x.length (k+1):Nat):Int),.str (S [lo c]),.int ((bF B x.length k:Nat):Int)]):=aC
    generalize hH6:upd H5 k2 (.tup [.int ((bF B x.length (k+1):Nat):Int),.str (S [lo c]),.int ((bF B x.length k:Nat):Int)])=H6 at s6 e6
    refine⟨aK (by simp),fun L hL=>?_⟩
    have hL6:H6 L=none:=by rw[← hH6];exact hL
    have s7:=Same.new (o:=HO.lst [.ref k1,.ref k2]) hL6
    have e7:upd H6 L (.lst [.ref k1,.ref k2]) L=some (.lst [.ref k1,.ref k2]):=aC
    rw[show upd (upd H5 k2 (.tup [.int ((bF B x.length (k+1):Nat):Int),.str (S ([c].map lo)),.int ((bF B x.length k:Nat):Int)])) L (.lst [.ref k1,.ref k2])=upd H6 L (.lst [.ref k1,.ref k2]) by rw[← hH6];rfl]
    generalize upd H6 L (.lst [.ref k1,.ref k2])=H7 at s7 e7
    have s47:=(s5.trans s6).trans s7
    have e4l7:=s47 _ _ e4l
    have it7:∀ (i:Nat) (v:V) (e:Wy),ws[i]?=some v→(ws0++(qA B x).take k)[i]?=some e→IsWy H7 v e:=fun i v e z1 z2=>(hitems i v e z1 z2).same s47
    have sH7:=(s3.trans s4).trans s47
    have hcast:V.int (((B+k:Nat):Int)+1)=V.int ((B+(k+1):Nat):Int):=by congr 1
    refine⟨_,rfl,rfl,S [c],rfl,rfl,.inr ⟨_,rfl,?_⟩⟩
    rw[rE hcL]
    have fin:∀ (t:Addr),H7 t=some (.tup [.int ((gA B x.length k c).1:Nat),.str (S [(gA B x.length k c).2.1]),.int ((gA B x.length k c).2.2:Nat)])→WyL (upd H7 l (.lst (ws++[.ref t]))) l (ws0++(qA B x).take (k+1)):=fun t ht=>by
     have:=WyL.snoc e4l7 hlen4 it7 ht
     rw[CM hc,← k7]
     exact this
    cases hlo:bW c with
    | true =>
     have hwy:gA B x.length k c=(bF B x.length k,c,bF B x.length (k+1)):=by unfold gA;rw[if_pos hlo]
     refine⟨L,_,0,.ref k1,rfl,rfl,SqL.of e7,rfl,l,_,_,rfl,rfl,e4l7,hwl4,_,rfl,_,_,_,by rw[← hcast];rfl,sH7.upd hl0,fin k1 ?_⟩
     rw[hwy]
     exact(s6.trans s7) _ _ e5
    | false =>
     have hwy:gA B x.length k c=(bF B x.length (k+1),aU c,bF B x.length k):=by unfold gA;rw[if_neg (by rw[hlo];simp)]
     have hlc:lo c=aU c:=by
      rcases nL hcL with ⟨_,z⟩ | ⟨z,_⟩
      ·rw[hlo] at z;cases z
      ·exact z
     refine⟨L,_,1,.ref k2,rfl,rfl,SqL.of e7,rfl,l,_,_,rfl,rfl,e4l7,hwl4,_,rfl,_,_,_,by rw[← hcast];rfl,sH7.upd hl0,fin k2 ?_⟩
     rw[hwy,← hlc]
     exact s7 _ _ e6
   ·rintro _ H3 ⟨v6,v7,v8,rfl,s3,hW3⟩
    rw[p0 (by rw[nO];exact b5 _)] at hW3
    exact⟨_,_,_,_,_,rfl,s3,hW3⟩
  ·rintro _ H2 ⟨v4,v5,v6,v7,v8,rfl,s2,hW⟩
   rw[aP,i9] at hW
   have nu0:=NuI.init hw hs
   have hwl:(eT 1 rs).length≤100:=by rw[mK];exact hs
   have two:∀ {G:Hp} {l':Addr} {ws:List Wy} {ν:Nat→Nat},Same H G→WyL G l' ws→NuI rs ws ν→ws.length≤100→∀ {R:V→Hp→Prop} {E':_},(∀ (tw:V) (G':Hp),Same H G'→WyL G' l' ws→(tw=.non∧BD ws)∨(∃ (x y:Nat) (p:Addr),tw=.ref p∧G' p=some (.tup [.int (x:Nat),.int (y:Nat)])∧x≠y∧∃ a c,jX ws a c x∧jX ws a c y)→R tw G')→wN K [.ref l'] G R E':=fun {G l' ws ν} sG hG nu hl {R E'} hR=>by
    obtain⟨vs',e1,e2,e3⟩:=id hG
    exact⟨l',vs',ws,rfl,e1,e2,e3,by omega,nu.low,fun G' s' hd=>hR _ G' (sG.trans s') (hG.same s') (.inl ⟨rfl,hd⟩),fun x y p G' s' hne hE ep=>hR _ G' (sG.trans s') (hG.same s') (.inr ⟨x,y,p,rfl,ep,hne,hE⟩)⟩
   refine⟨_,rfl,?_⟩
   dsimp only [wL]
   refine two s2 hW nu0 hwl fun tw H3 s3 hW3 htw=>?_
   refine⟨fun m σ G=>∃ (l':Addr) (ws:List Wy) (ν:Nat→Nat) (tw:V),σ=[some (.int (n:Nat)),some (.ref a),some (.ref l'),some (.int (jJ 1 (rs.take (bI rs).length):Nat)),v4,v5,v6,v7,v8,some tw,none,none,none,none,none]∧Same H G∧WyL G l' ws∧NuI rs ws ν∧m=mF ws∧ws.length≤100∧((tw=.non∧BD ws)∨(∃ (x y:Nat) (p:Addr),tw=.ref p∧G p=some (.tup [.int (x:Nat),.int (y:Nat)])∧x≠y∧∃ a c,jX ws a c x∧jX ws a c y)),⟨_,l,eT 1 rs,_,tw,rfl,s3,hW3,nu0,rfl,hwl,htw⟩,?_⟩
   rintro m _ G ⟨l',ws,ν,tw,rfl,sG,hG,nu,rfl,hwl',htw⟩
   rcases htw with ⟨rfl,hdet⟩ | ⟨x,y,p,rfl,ep,hne,hE⟩
   ·refine⟨_,rfl,rfl,_,rfl,?_⟩
    refine fV ?_
    intro d hd
    have sd:=Same.new (o:=HO.dT []) hd
    have ed:upd G d (.dT []) d=some (.dT []):=aC
    have hd0:H d=none:=sG.free hd
    have hG1:=hG.same sd
    have sG1:=sG.trans sd
    generalize upd G d (.dT [])=G1 at sd ed hG1 sG1
    obtain⟨vs',e1,e2,e3⟩:=id hG1
    generalize jJ 1 (rs.take (bI rs).length)=many
    refine⟨_,rfl,l',rfl,⟨_,SqL.of e1⟩,eM (K:=K) (a:=l') (xs:=vs') (fun i σ G2=>∃ (v5 v7 v8:Option V) (kvs:List (List cI×V)) (g:Nat→Nat→Option Nat),σ=[some (.int (n:Nat)),some (.ref a),some (.ref l'),some (.int (many:Nat)),v4,v5,v6,v7,v8,some .non,some (.ref d),none,none,none,none]∧Same H G2∧(∀ b o,G1 b=some o→b≠d→G2 b=some o)∧G2 d=some (.dT kvs)∧TabW kvs g∧kvs.length≤2 * i∧Ip ws g∧∀ e∈ws.take i,g e.1 e.2.1=some e.2.2∧g e.2.2 (aU e.2.1)=some e.1) ⟨v5,v7,v8,[],_,rfl,sG1,fun b o z _=>z,ed,TabW.nil,b5 _,fun p c q z=>(by cases z),fun e he=>(by simp at he)⟩ (fun i σ G2 _ ⟨_,_,_,_,_,_,_,f,_⟩=>SqL.of (f _ _ e1 (bS e1 ed (by intro z;cases z)))) ?_ ?_⟩
    ·rintro i v _ G2 hv ⟨v5,v7,v8,kvs,g,rfl,sH2,f2,dG,tb,kl,go,full⟩
     obtain⟨e,he⟩:∃ e,ws[i]?=some e:=⟨_,a9 (by rw[← e2];exact(a8.mp hv).1)⟩
     have hem:=b6 he
     have hi100:i<100:=by have:=(a8.mp he).1;omega
     obtain⟨t,rfl,et⟩:=e3 i v e hv he
     obtain⟨eL,elo⟩:=nu.low e hem
     have et2:=f2 _ _ et (bS et ed (by intro z;cases z))
     refine⟨t,_,rfl,.inr (SqT.of et2),rfl,_,_,rfl,_,_,rfl,_,_,rfl,rfl,?_⟩
     refine⟨_,rfl,_,rfl,_,rfl,_,rfl,aK (by simp),fun k1 hk1=>?_⟩
     have s3:=Same.new (o:=HO.tup [.int ((e.1:Nat):Int),.str (S [e.2.1])]) hk1
     have ek1:upd G2 k1 (.tup [.int ((e.1:Nat):Int),.str (S [e.2.1])]) k1=some (.tup ((fI e.1 e.2.1).map kV)):=aC
     generalize upd G2 k1 (.tup [.int ((e.1:Nat):Int),.str (S [e.2.1])])=G3 at s3 ek1
     refine⟨d,_,rfl,DPut.t (s3 _ _ dG) ek1 (aN (by omega)),?_⟩
     have d4:upd G3 d (.dT (dF kvs (fI e.1 e.2.1) (.int (e.2.2:Nat)))) d=some (.dT (dF kvs (fI e.1 e.2.1) (.int (e.2.2:Nat)))):=aC
     have f4:∀ b o,G1 b=some o→b≠d→upd G3 d (.dT (dF kvs (fI e.1 e.2.1) (.int (e.2.2:Nat)))) b=some o:=fun b o z nb=>by rw[aE nb];exact s3 _ _ (f2 b o z nb)
     have sH4:Same H (upd G3 d (.dT (dF kvs (fI e.1 e.2.1) (.int (e.2.2:Nat))))):=(sH2.trans s3).upd hd0
     generalize upd G3 d (.dT (dF kvs (fI e.1 e.2.1) (.int (e.2.2:Nat))))=G4 at d4 f4 sH4
     refine⟨_,rfl,_,rfl,_,rfl,_,rfl,rfl,S [e.2.1],rfl,rfl,by rw[jR eL elo];exact tI _,?_⟩
     rw[jR eL elo]
     refine⟨aK (by simp),fun k2 hk2=>?_⟩
     have s5:=Same.new (o:=HO.tup [.int ((e.2.2:Nat):Int),.str (S [aU e.2.1])]) hk2
     have ek2:upd G4 k2 (.tup [.int ((e.2.2:Nat):Int),.str (S [aU e.2.1])]) k2=some (.tup ((fI e.2.2 (aU e.2.1)).map kV)):=aC
     generalize upd G4 k2 (.tup [.int ((e.2.2:Nat):Int),.str (S [aU e.2.1])])=G5 at s5 ek2
     have kl4:=dC kvs (fI e.1 e.2.1) (V.int (e.2.2:Nat))
     have kl5:=dC (dF kvs (fI e.1 e.2.1) (V.int (e.2.2:Nat))) (fI e.2.2 (aU e.2.1)) (V.int (e.1:Nat))
     have hE1:jX ws e.1 e.2.1 e.2.2:=.inl hem
     have hE2:jX ws e.2.2 (aU e.2.1) e.1:=.inr ⟨e.2.1,rfl,hem⟩
     refine⟨d,_,rfl,DPut.t (s5 _ _ d4) ek2 (aN (by omega)),_,_,_,_,_,rfl,(sH4.trans s5).upd hd0,fun b o z nb=>by rw[aE nb];exact s5 _ _ (f4 b o z nb),aC,(tb.put e.1 e.2.1 e.2.2).put e.2.2 (aU e.2.1) e.1,by omega,fun x y q z=>?_,fun e' he'=>?_⟩
     ·dsimp only at z
      split at z
      ·rename_i w';cases z;rw[w'.1,w'.2];exact hE2
      ·split at z
       ·rename_i w';cases z;rw[w'.1,w'.2];exact hE1
       ·exact go x y q z
     ·have put:∀ x y q,jX ws x y q→(g x y=some q∨(x=e.1∧y=e.2.1)∨(x=e.2.2∧y=aU e.2.1))→(if x=e.2.2∧y=aU e.2.1 then some e.1 else if x=e.1∧y=e.2.1 then some e.2.2 else g x y)=some q:=fun x y q hq hc=>by
       by_cases z1:x=e.2.2∧y=aU e.2.1
       ·rw[if_pos z1]
        rw[z1.1,z1.2] at hq
        rw[hdet _ _ _ _ hE2 hq]
       ·rw[if_neg z1]
        by_cases z2:x=e.1∧y=e.2.1
        ·rw[if_pos z2]
         rw[z2.1,z2.2] at hq
         rw[hdet _ _ _ _ hE1 hq]
        ·rw[if_neg z2]
         rcases hc with z | z | z
         ·exact z
         ·exact absurd z z2
         ·exact absurd z z1
      have hm':e'∈ws:=o6 he'
      rw[m4,he] at he'
      rcases i5.mp he' with z | z
      ·obtain⟨u1,u2⟩:=full e' z
       exact⟨put _ _ _ (.inl hm') (.inl u1),put _ _ _ (.inr ⟨_,rfl,hm'⟩) (.inl u2)⟩
      ·have:e'=e:=by simpa using z
       subst this
       exact⟨put _ _ _ (.inl hm') (.inr (.inl ⟨rfl,rfl⟩)),put _ _ _ (.inr ⟨_,rfl,hm'⟩) (.inr (.inr ⟨rfl,rfl⟩))⟩
    ·rintro _ G2 ⟨v5,v7,v8,kvs,g,rfl,sH2,_,dG,tb,_,go,full⟩
     rw[e2,i9] at full
     have hgE:∀ p c q,g p c=some q↔jX ws p c q:=fun p c q=>⟨go p c q,fun hq=>by
      rcases hq with z | ⟨d',rfl,z⟩
      ·exact(full _ z).1
      ·exact(full _ z).2⟩
     have aut:=nu.done hdet hgE
     have hod1:(1:Nat)≤sizeLine:=by decide
     refine⟨hod1,fun od hod=>?_⟩
     have hod0:H od=none:=sH2.free hod
     have s3:=Same.new (o:=HO.lst [.int 0]) hod
     have eo:upd G2 od (.lst [.int 0]) od=some (.lst (cJ [0])):=aC
     have dG3:=s3 _ _ dG
     have sH3:=sH2.trans s3
     show mZ _ _ _ _ (upd G2 od (.lst [.int 0]))
     generalize upd G2 od (.lst [.int 0])=G3 at s3 eo dG3 sH3
     refine⟨fun m0 σ G=>∃ (v7:Option V) (at':Nat) (ord:List Nat),m0+at'=1000∧σ=[some (.int (n:Nat)),some (.ref a),some (.ref l'),some (.int (many:Nat)),v4,v5,v6,v7,v8,some .non,some (.ref d),some (.ref od),some (.int (at':Nat)),none,none]∧Same H G∧G d=some (.dT kvs)∧G od=some (.lst (cJ ord))∧OrdOk 201 ord∧0∈ord∧cM g (aJ (n:Nat)) 1000 0 [0]=cM g (aJ (n:Nat)) m0 at' ord,⟨1000,_,0,[0],rfl,rfl,sH3,dG3,eo,⟨by simp,by simp⟩,by simp,rfl⟩,?_⟩
     rintro m0 _ G4 ⟨v7,at',ord,hmd,rfl,sH4,dG4,eo4,ok,z0,hup⟩
     have hol:=ok.len
     refine⟨_,rfl,_,rfl,od,_,rfl,.inl (SqL.of eo4),_,_,rfl,rfl,_,rfl,?_⟩
     refine eK (fun z=>?_) (fun z=>?_)
     rotate_left
     ·have hge:ord.length≤at':=by
       have:¬ ((at':Nat):Int)<(((cJ ord).length:Nat):Int):=fun y=>z (decide_eq_true y)
       rw[dI] at this
       omega
      rw[mG _ _ _ _ _ hge] at hup
      have hcl:∀ s∈ord,∀ c∈aJ (n:Nat),∀ q,g s c=some q→q∈ord:=by
       have:=hU (δ:=g) (ls:=aJ (n:Nat)) 1000 0 [0] (fun i s hi=>absurd hi (aQg _)) (by rw[hup];omega)
       rw[hup] at this;exact this
      have hweb:gZ g n 0 1000=ord.map (fH g (cN n) ord):=by unfold gZ;dsimp only;rw[hup]
      refine⟨aK (by simp),fun fd hfd=>?_⟩
      have hfd0:=sH4.free hfd
      have nfo:od≠fd:=aI eo4 hfd
      have nfd:d≠fd:=aI dG4 hfd
      have s5:=Same.new (o:=HO.lst []) hfd
      refine⟨_,rfl,od,rfl,⟨_,SqL.of (s5 _ _ eo4)⟩,eM (K:=K) (a:=od) (xs:=cJ ord) (fun i σ G=>∃ (v5 v14:Option V) (qs:List Addr),σ=[some (.int (n:Nat)),some (.ref a),some (.ref l'),some (.int (many:Nat)),v4,v5,v6,v7,v8,some .non,some (.ref d),some (.ref od),some (.int (at':Nat)),some (.ref fd),v14]∧Same H G∧G d=some (.dT kvs)∧G od=some (.lst (cJ ord))∧G fd=some (.lst (qs.map V.ref))∧qs.length=i∧∀ (j:Nat) (q:Addr) (s:Nat),qs[j]?=some q→ord[j]?=some s→G q=some (.tup ((fH g (cN n) ord s).map nW))) ⟨_,none,[],rfl,sH4.trans s5,s5 _ _ dG4,s5 _ _ eo4,aC,rfl,fun j q s z=>by simp at z⟩ (fun i σ G _ ⟨_,_,_,_,_,_,h,_⟩=>SqL.of h) ?_ ?_⟩
      ·rintro i v _ G5 hv ⟨v5,v14,qs,rfl,sH5,dG5,eo5,ef5,hql,hqs⟩
       obtain⟨s,hs,rfl⟩:∃ s,ord[i]?=some s∧v=.int (s:Nat):=by
        unfold cJ at hv
        rw[c5] at hv
        obtain⟨s,hs,e⟩:=i8.mp hv
        exact⟨s,hs,e.symm⟩
       have hsm:=b6 hs
       have hil:=(a8.mp hs).1
       refine⟨_,rfl,_,rfl,_,rfl,by decide +kernel,S (cN n),?_,fun Dd hD=>?_⟩
       ·show V.str (Txt.slice (Str.ofString "abcd") none (some ((n:Nat):Int)))=_
        rw[xJ,lI _ (by omega) (by simp;omega)]
        rfl
       refine oZ (w:=cN n) (fun i G6=>Same G5 G6∧G6 Dd=some (.lst (((cN n).take i).map fun c=>nW (g s c)))) ⟨Same.new hD,aC⟩ ?_ ?_
       ·rintro i c G6 hc ⟨s6,e6⟩
        have hi:i<n:=by have:=(a8.mp hc).1;rw[gY h4] at this;exact this
        have dG6:=s6 _ _ dG5
        refine⟨_,rfl,d,rfl,.inr ⟨kvs,.inl dG6⟩,_,rfl,_,rfl,aK (by simp),fun k1 hk1=>?_⟩
        have s7:=Same.new (o:=HO.tup [.int ((s:Nat):Int),.str (S [c])]) hk1
        have e7:upd G6 k1 (.tup [.int ((s:Nat):Int),.str (S [c])]) k1=some (.tup ((fI s c).map kV)):=aC
        refine⟨_,DGet.t (s7 _ _ dG6) e7,_,s7 _ _ e6,?_,(s6.trans s7).upd hD,?_⟩
        ·rw[b7,i6];exact aN (by omega)
        ·have hno:((g s c).map fun (q:Nat)=>V.int q).getD .non=nW (g s c):=by cases g s c <;> rfl
         rw[aC,bK hc,d9,tb s c,hno]
         rfl
       ·rintro G6 ⟨s6,e6⟩
        rw[i9] at e6
        have ef6:=s6 _ _ ef5
        have eo6:=s6 _ _ eo5
        refine⟨_,rfl,.inl ⟨rfl,_,SqL.of ef6⟩,_,rfl,Dd,rfl,⟨_,SqL.of e6⟩,fun Ee hE=>?_⟩
        refine eE (xs:=(cN n).map fun c=>nW (g s c)) (fun i G7=>Same G6 G7∧G7 Ee=some (.lst ((fH g ((cN n).take i) ord s).map nW))) ⟨Same.new hE,aC⟩ (fun i G7 _ h=>SqL.of (h.1 _ _ e6)) ?_ ?_
        ·rintro i v G7 hv ⟨s7,e7⟩
         rw[c5] at hv
         obtain⟨c,hc,rfl⟩:=i8.mp hv
         have hi:i<n:=by have:=(a8.mp hc).1;rw[gY h4] at this;exact this
         have fin:∀ y,y=nW ((g s c).map fun q=>ord.idxOf q)→∃ zs,G7 Ee=some (.lst zs)∧zs.length<sizeLine∧Same G6 (upd G7 Ee (.lst (zs++[y])))∧upd G7 Ee (.lst (zs++[y])) Ee=some (.lst ((fH g ((cN n).take (i+1)) ord s).map nW)):=fun y hy=>by
          refine⟨_,e7,?_,s7.upd hE,?_⟩
          ·unfold fH
           rw[b7,b7,i6];exact aN (by omega)
          ·rw[aC,bK hc,hy]
           unfold fH
           rw[d9,d9]
           rfl
         cases ed:g s c with
         | none =>
          refine⟨_,rfl,rfl,_,rfl,?_⟩
          exact fin _ (by rw[ed];rfl)
         | some q =>
          obtain⟨ia,ib⟩:=CB (hcl s hsm c (jL h1 h4 (b6 hc)) q ed)
          have hix:=(a8.mp ia).1
          refine⟨_,rfl,rfl,_,rfl,?_⟩
          refine⟨_,rfl,.inl ⟨rfl,_,SqL.of (s7 _ _ eo6)⟩,_,rfl,od,ord.map (fun x=>((x:Nat):Int)),((q:Nat):Int),ord.idxOf q,rfl,rfl,by rw[← C3];exact SqL.of (s7 _ _ eo6),by rw[c5,ia];rfl,fun m hm=>?_,by omega,?_⟩
          ·rw[c5]
           intro e
           obtain⟨y,hy,e⟩:=i8.mp e
           exact ib m hm (by rw[hy];congr 1;omega)
          ·exact fin _ (by rw[ed];rfl)
        ·rintro G7 ⟨s7,e7⟩
         rw[b7,i9] at e7
         refine⟨Ee,_,rfl,.inl ⟨SqL.of e7,fun q hq=>?_⟩⟩
         have s8:=Same.new (o:=HO.tup ((fH g (cN n) ord s).map nW)) hq
         have e8:upd G7 q (.tup ((fH g (cN n) ord s).map nW)) q=some (.tup ((fH g (cN n) ord s).map nW)):=aC
         generalize upd G7 q (.tup ((fH g (cN n) ord s).map nW))=G8 at s8 e8
         have s58:=(s6.trans s7).trans s8
         have ef8:=s58 _ _ ef5
         refine⟨fd,_,_,rfl,rfl,ef8,by rw[b7,hql];exact aN (by omega),_,_,qs++[q],rfl,(sH5.trans s58).upd hfd0,by rw[aE nfd];exact s58 _ _ dG5,by rw[aE nfo];exact s58 _ _ eo5,by rw[aC,d9];rfl,by rw[b9,hql];rfl,fun j q' s' hj hs'=>?_⟩
         rcases dQ hj with ⟨z,hj⟩ | ⟨z,rfl⟩
         ·have e0:=s58 _ _ (hqs j q' s' hj hs')
          rw[aE (bS e0 ef8 (by intro z;cases z))]
          exact e0
         ·rw[z,hql,hs] at hs'
          cases hs'
          rw[aE (bS e8 ef8 (by intro z;cases z))]
          exact e8
      ·rintro _ G5 ⟨v5,v14,qs,rfl,sH5,dG5,eo5,ef5,hql,hqs⟩
       rw[dI] at hql
       refine⟨_,rfl,fd,_,rfl,.inl ⟨SqL.of ef5,fun r hr=>?_⟩⟩
       have hn0:ν (pZ rs 0)=0:=by rw[(sU rs).1,nu.z]
       refine kq r _ _ g (sH5.upd' hr) aut ?_ ?_
       ·show IsWebV _ r (gZ g n (ν (pZ rs 0)) 1000)
        rw[hn0,hweb]
        refine⟨qs,aC,by rw[b7];exact hql,fun i q row hq hrow=>?_⟩
        rw[c5] at hrow
        obtain⟨s,hs,rfl⟩:=i8.mp hrow
        have e0:=hqs i q s hq hs
        rw[aE (aI e0 hr)]
        exact e0
       ·show (gZ g n (ν (pZ rs 0)) 1000).length≤900
        rw[hn0,hweb,b7]
        omega
     ·have hlt:at' < ord.length:=by
       have:((at':Nat):Int)<(((cJ ord).length:Nat):Int):=of_decide_eq_true z
       rw[dI] at this
       omega
      obtain⟨s,hs⟩:∃ s,ord[at']?=some s:=⟨_,a9 hlt⟩
      obtain⟨m1,rfl⟩:∃ m1,m0=m1+1:=⟨m0 - 1,by omega⟩
      rw[kN _ _ _ _ _ hs] at hup
      refine⟨fun σ' G=>∃ (v7:Option V) (ord':List Nat),σ'=[some (.int (n:Nat)),some (.ref a),some (.ref l'),some (.int (many:Nat)),v4,v5,v6,v7,v8,some .non,some (.ref d),some (.ref od),some (.int ((at' + 1:Nat):Int)),none,none]∧Same H G∧G d=some (.dT kvs)∧G od=some (.lst (cJ ord'))∧OrdOk 201 ord'∧0∈ord'∧cM g (aJ (n:Nat)) 1000 0 [0]=cM g (aJ (n:Nat)) m1 (at' + 1) ord',fun σ' G ⟨v7,ord',e,x⟩=>⟨m1,by omega,v7,at' + 1,ord',by omega,e,x⟩,?_⟩
      refine⟨_,rfl,(n:Nat),rfl,by omega,by omega,fun t G5 ht s5 et=>⟨t,rfl,⟨_,SqL.of et⟩,?_⟩⟩
      have sH5:=sH4.trans s5
      have nto:t≠od:=(aI eo4 ht).symm
      refine eM (K:=K) (a:=t) (xs:=bH (aJ (n:Nat))) (fun i σ G=>∃ (v7:Option V),σ=[some (.int (n:Nat)),some (.ref a),some (.ref l'),some (.int (many:Nat)),v4,v5,v6,v7,v8,some .non,some (.ref d),some (.ref od),some (.int ((at':Nat):Int)),none,none]∧Same H G∧G d=some (.dT kvs)∧G t=some (.lst (bH (aJ (n:Nat))))∧G od=some (.lst (cJ (cE (g s) ((aJ (n:Nat)).take i) ord)))∧OrdOk 201 (cE (g s) ((aJ (n:Nat)).take i) ord)) ⟨_,rfl,sH5,s5 _ _ dG4,et,s5 _ _ eo4,ok⟩ (fun i σ G _ ⟨_,_,_,_,h,_⟩=>SqL.of h) ?_ ?_
      ·rintro i x _ G6 hx ⟨v7,rfl,sH6,dG6,et6,eo6,ok6⟩
       obtain⟨c,hc,rfl⟩:∃ c,(aJ (n:Nat))[i]?=some c∧x=.str (S [c]):=by
        unfold bH at hx
        rw[c5] at hx
        cases e:(aJ (n:Nat))[i]? with
        | none=>rw[e] at hx;cases hx
        | some c=>rw[e] at hx;cases hx;exact⟨c,rfl,rfl⟩
       have tk:(aJ (n:Nat)).take (i+1)=(aJ (n:Nat)).take i++[c]:=bK hc
       rw[tk,pO]
       obtain⟨r,hr⟩:=eI (g s) ((aJ (n:Nat)).take i) ord
       have hat:(cE (g s) ((aJ (n:Nat)).take i) ord)[at']?=some s:=by rw[hr,l5 hlt];exact hs
       have z0':0∈cE (g s) ((aJ (n:Nat)).take i) ord:=by rw[hr];exact l7 _ z0
       generalize cE (g s) ((aJ (n:Nat)).take i) ord=oi at eo6 ok6 hat z0'
       have hoi:=ok6.len
       refine⟨_,rfl,d,rfl,.inr ⟨kvs,.inl dG6⟩,_,rfl,_,rfl,od,_,_,.int ((s:Nat):Int),rfl,rfl,SqL.of eo6,cX (iH hat),_,rfl,aK (by simp),fun k1 hk1=>?_⟩
       have s7:=Same.new (o:=HO.tup [.int ((s:Nat):Int),.str (S [c])]) hk1
       have e7:upd G6 k1 (.tup [.int ((s:Nat):Int),.str (S [c])]) k1=some (.tup ((fI s c).map kV)):=aC
       have sH7:=sH6.trans s7
       have dG7:=s7 _ _ dG6
       have et7:=s7 _ _ et6
       have eo7:=s7 _ _ eo6
       generalize upd G6 k1 (.tup [.int ((s:Nat):Int),.str (S [c])])=G7 at s7 e7 sH7 dG7 et7 eo7
       refine⟨_,DGet.t dG7 e7,_,rfl,?_⟩
       rw[tb s c]
       cases eg:g s c with
       | none =>
        refine⟨od,_,rfl,.inl (SqL.of eo7),rfl,wE _,_,rfl,?_⟩
        have hin:Bk (.int ((0:Nat):Int)) (cJ oi)=true:=by rw[wS];exact decide_eq_true z0'
        refine Ef (by rw[show (Option.map (fun (q:Nat)=>V.int q) none).getD (.int 0)=V.int ((0:Nat):Int) from rfl,hin];rfl) ?_
        exact⟨_,rfl,sH7,dG7,et7,eo7,ok6⟩
       | some q =>
        have hq:q<201:=by have:=nu.edb (go s c q eg);omega
        refine⟨od,_,rfl,.inl (SqL.of eo7),rfl,wE _,_,rfl,?_⟩
        by_cases hin:q∈oi
        ·have hin':Bk (.int ((q:Nat):Int)) (cJ oi)=true:=by rw[wS];exact decide_eq_true hin
         refine Ef (by rw[show (Option.map (fun (q:Nat)=>V.int q) (some q)).getD (.int 0)=V.int ((q:Nat):Int) from rfl,hin'];rfl) ?_
         dsimp only
         rw[if_pos hin]
         exact⟨_,rfl,sH7,dG7,et7,eo7,ok6⟩
        ·have hin':Bk (.int ((q:Nat):Int)) (cJ oi)=false:=by rw[wS];exact decide_eq_false hin
         refine GX (by rw[show (Option.map (fun (q:Nat)=>V.int q) (some q)).getD (.int 0)=V.int ((q:Nat):Int) from rfl,hin'];rfl) ?_
         dsimp only
         rw[if_neg hin]
         refine⟨_,rfl,.inl ⟨rfl,_,SqL.of eo7⟩,_,rfl,_,rfl,_,rfl,od,_,_,.int ((s:Nat):Int),rfl,rfl,SqL.of eo7,cX (iH hat),_,rfl,aK (by simp),fun k2 hk2=>?_⟩
         have s8:=Same.new (o:=HO.tup [.int ((s:Nat):Int),.str (S [c])]) hk2
         have e8:upd G7 k2 (.tup [.int ((s:Nat):Int),.str (S [c])]) k2=some (.tup ((fI s c).map kV)):=aC
         have sH8:=sH7.trans s8
         have dG8:=s8 _ _ dG7
         have et8:=s8 _ _ et7
         have eo8:=s8 _ _ eo7
         generalize upd G7 k2 (.tup [.int ((s:Nat):Int),.str (S [c])])=G8 at s8 e8 sH8 dG8 et8 eo8
         have hg:DGet G8 d (.ref k2) (some (.int (q:Nat))):=by
          have:=DGet.t (k:=fI s c) dG8 e8
          rw[tb s c,eg] at this
          exact this
         refine⟨d,.int (q:Nat),rfl,hg,od,_,_,rfl,rfl,eo8,by rw[dI];exact aN (by omega),?_⟩
         refine⟨_,rfl,sH8.upd hod0,by rw[aE (bS dG8 eo8 (by intro z;cases z))];exact dG8,by rw[aE nto];exact et8,by rw[aC,pJ],ok6.snoc hq hin⟩
      ·rintro _ G6 ⟨v7,rfl,sH6,dG6,et6,eo6,ok6⟩
       rw[bG,i9] at eo6 ok6
       obtain⟨r,hr⟩:=eI (g s) (aJ (n:Nat)) ord
       exact⟨_,rfl,_,_,rfl,rfl,v7,_,rfl,sH6,dG6,eo6,ok6,by rw[hr];exact l7 _ z0,hup⟩
   ·refine⟨_,rfl,rfl,_,rfl,?_⟩
    obtain⟨nu',hlt⟩:=nu.step hE hne
    refine gC ⟨fun σ G=>∃ (l':Addr) (ws':List Wy) (ν:Nat→Nat) (tw:V),σ=[some (.int (n:Nat)),some (.ref a),some (.ref l'),some (.int (jJ 1 (rs.take (bI rs).length):Nat)),v4,v5,v6,v7,v8,some tw,none,none,none,none,none]∧Same H G∧WyL G l' ws'∧NuI rs ws' ν∧mF ws' < mF ws∧ws'.length≤100∧((tw=.non∧BD ws')∨(∃ (x y:Nat) (p:Addr),tw=.ref p∧G p=some (.tup [.int (x:Nat),.int (y:Nat)])∧x≠y∧∃ a c,jX ws' a c x∧jX ws' a c y)),fun σ' G' ⟨l',ws',ν',tw',e,s,h,u,z,w,t⟩=>⟨mF ws',z,l',ws',ν',tw',e,s,h,u,rfl,w,t⟩,?_⟩
    obtain⟨vs',e1,e2,e3⟩:=id hG
    refine⟨_,rfl,l',rfl,⟨_,SqL.of e1⟩,fun D hD=>?_⟩
    have hmx:max ((x:Nat):Int) ((y:Nat):Int)=((max x y:Nat):Int):=by omega
    have hmn:min ((x:Nat):Int) ((y:Nat):Int)=((min x y:Nat):Int):=by omega
    have hD0:H D=none:=sG.free hD
    refine xN (a:=l') (xs:=vs') (fun i G1=>Same H G1∧Same G G1∧WyL G1 D ((ws.take i).map (dW (min x y) (max x y)))) ⟨sG.upd' hD,Same.new hD,[],aC,rfl,fun i v e z=>by simp at z⟩ (fun i G1 _ h=>SqL.of (h.2.1 _ _ e1)) ?_ ?_
    ·rintro i v G1 hv ⟨sH1,sG1,hW1⟩
     obtain⟨e,he⟩:∃ e,ws[i]?=some e:=⟨_,a9 (by rw[← e2];exact(a8.mp hv).1)⟩
     obtain⟨t,rfl,et⟩:=(e3 i v e hv he).same sG1
     have ep1:=sG1 _ _ ep
     refine⟨t,_,_,_,rfl,SqT.of et,?_⟩
     refine⟨_,rfl,_,rfl,p,(x:Nat),(y:Nat),rfl,SqT.of ep1,?_⟩
     have fin:∀ (u w:Int) (q:Addr),u=((dW (min x y) (max x y) e).1:Nat)→w=((dW (min x y) (max x y) e).2.2:Nat)→G1 q=none→∃ zs,upd G1 q (.tup [.int u,.str (S [e.2.1]),.int w]) D=some (.lst zs)∧zs.length<sizeLine∧Same H (upd (upd G1 q (.tup [.int u,.str (S [e.2.1]),.int w])) D (.lst (zs++[.ref q])))∧Same G (upd (upd G1 q (.tup [.int u,.str (S [e.2.1]),.int w])) D (.lst (zs++[.ref q])))∧WyL (upd (upd G1 q (.tup [.int u,.str (S [e.2.1]),.int w])) D (.lst (zs++[.ref q]))) D ((ws.take (i+1)).map (dW (min x y) (max x y))):=fun u w q hu hw' hq=>by
      subst hu hw'
      have sq:=Same.new (o:=HO.tup [.int ((dW (min x y) (max x y) e).1:Nat),.str (S [e.2.1]),.int ((dW (min x y) (max x y) e).2.2:Nat)]) hq
      obtain⟨us,g1,g2,g3⟩:=hW1.same sq
      have g5:=(sH1.trans sq)
      have g6:=(sG1.trans sq)
      have g4:upd G1 q (.tup [.int ((dW (min x y) (max x y) e).1:Nat),.str (S [e.2.1]),.int ((dW (min x y) (max x y) e).2.2:Nat)]) q=some (.tup [.int ((dW (min x y) (max x y) e).1:Nat),.str (S [(dW (min x y) (max x y) e).2.1]),.int ((dW (min x y) (max x y) e).2.2:Nat)]):=aC
      refine⟨us,g1,?_,g5.upd hD0,g6.upd hD,?_⟩
      ·rw[g2,b7,i6];exact aN (by omega)
      ·have:=WyL.snoc g1 g2 g3 g4
       rw[m4,he,d9]
       exact this
     refine⟨rfl,_,rfl,?_⟩
     rw[hmx]
     by_cases z1:e.1=max x y
     ·rw[decide_eq_true (congrArg (fun k:Nat=>V.int (k:Int)) z1)]
      refine gC ⟨_,rfl,p,(x:Nat),(y:Nat),rfl,SqT.of ep1,?_⟩
      rw[hmn]
      refine⟨_,rfl,_,rfl,_,rfl,p,(x:Nat),(y:Nat),rfl,SqT.of ep1,?_⟩
      refine⟨rfl,_,rfl,?_⟩
      rw[hmx]
      by_cases z2:e.2.2=max x y
      ·rw[decide_eq_true (congrArg (fun k:Nat=>V.int (k:Int)) z2)]
       refine gC ⟨_,rfl,p,(x:Nat),(y:Nat),rfl,SqT.of ep1,?_⟩
       rw[hmn]
       exact⟨aK (by simp),fun q hq=>fin _ _ q (by unfold dW;dsimp only;rw[if_pos z1]) (by unfold dW;dsimp only;rw[if_pos z2]) hq⟩
      ·rw[decide_eq_false (fun z=>z2 (by have:=V.int.inj z;omega))]
       exact fV ⟨_,rfl,aK (by simp),fun q hq=>fin _ _ q (by unfold dW;dsimp only;rw[if_pos z1]) (by unfold dW;dsimp only;rw[if_neg z2]) hq⟩
     ·rw[decide_eq_false (fun z=>z1 (by have:=V.int.inj z;omega))]
      refine fV ⟨_,rfl,?_⟩
      refine⟨_,rfl,_,rfl,_,rfl,p,(x:Nat),(y:Nat),rfl,SqT.of ep1,?_⟩
      refine⟨rfl,_,rfl,?_⟩
      rw[hmx]
      by_cases z2:e.2.2=max x y
      ·rw[decide_eq_true (congrArg (fun k:Nat=>V.int (k:Int)) z2)]
       refine gC ⟨_,rfl,p,(x:Nat),(y:Nat),rfl,SqT.of ep1,?_⟩
       rw[hmn]
       exact⟨aK (by simp),fun q hq=>fin _ _ q (by unfold dW;dsimp only;rw[if_neg z1]) (by unfold dW;dsimp only;rw[if_pos z2]) hq⟩
      ·rw[decide_eq_false (fun z=>z2 (by have:=V.int.inj z;omega))]
       exact fV ⟨_,rfl,aK (by simp),fun q hq=>fin _ _ q (by unfold dW;dsimp only;rw[if_neg z1]) (by unfold dW;dsimp only;rw[if_neg z2]) hq⟩
    ·rintro G1 ⟨sH1,sG1,hW1⟩
     rw[e2,i9] at hW1
     refine⟨_,rfl,?_⟩
     dsimp only [wL]
     exact two sH1 hW1 nu' (by rw[b7];exact hwl') fun tw' G2 s2' hW2 htw'=>⟨D,_,_,tw',rfl,s2',hW2,nu',hlt,by rw[b7];exact hwl',htw'⟩
theorem HL{f:Addr}{fd:FuncData}(D:Df K mg "_law_alike" Az ["_law_found","_law_due"] f fd)(T:Txt P w K mg JH JI JJ):Cl P w K mg base "_law_alike" ["_law_found","_law_due"] 1 (Do K 0):=by
 refine D.cl (D.F.ok El (fun vs H Q E h=>?_) (fun cdv A outer s H vs Q E hr h=>?_))
 ·obtain⟨x,y,rfl,_⟩:=h
  rfl
 ·obtain⟨x,y,rfl,hk,k⟩:=h
  cases hk with
  | flat hfl =>
   refine⟨_,(aD (dH (gI (aL (bD (K:=K) rfl) (by rfl) T.b_isinstance boot_isinstance (aA (pv 1) (aA (cF (aA (dL (by rfl) T.b_list boot_list) (aA (dL (by rfl) T.b_tuple boot_tuple) aB))) aB)))) rF bU)
   (aF (aT (kI (dD eR (aL (bD (K:=K) rfl) (by rfl) T.b_isinstance boot_isinstance (aA (pv 0) (aA (dL (by rfl) T.b_bool boot_bool) aB))) (aL (bD (K:=K) rfl) (by rfl) T.b_isinstance boot_isinstance (aA (pv 1) (aA (dL (by rfl) T.b_bool boot_bool) aB))) (aQ _)) (kE (dD eR (pv 0) (pv 1) (aQ _))))))),?_⟩
   obtain⟨t,ty,t1,t2⟩:=nC K H hfl
   refine⟨_,rfl,aK (by simp),fun p hp=>?_⟩
   have s1:Same H (upd H p (.tup [.ty "list",.ty "tuple"])):=Same.new hp
   have e1:upd H p (.tup [.ty "list",.ty "tuple"]) p=some (.tup [.ty "list",.ty "tuple"]):=aC
   generalize upd H p (.tup [.ty "list",.ty "tuple"])=H1 at s1 e1
   obtain⟨t',ty',t1',t2'⟩:=nC K H1 hfl
   refine⟨x,t',ty',.inr ⟨"list","tuple",p,rfl,e1,by decide,by decide,_,rfl,?_⟩⟩
   rw[t1',t2']
   refine fV ?_
   refine⟨_,rfl,x,t',ty',.inl ⟨"bool",rfl,by decide,_,rfl,x,t',ty',.inl ⟨"bool",rfl,by decide,rfl,_,rfl,?_⟩⟩⟩
   rw[decide_eq_true rfl]
   refine gC ⟨_,rfl,_,rfl,?_,?_⟩
   ·cases x <;> first | rfl | exact absurd (show false=true from hfl) g7
   ·rw[decide_eq_true rfl];exact k H1 s1
theorem nN{f:Addr}{fd:FuncData}(D:Df K mg "_law_alike" Az ["_law_found","_law_due"] f fd){j d:Nat}(T:Txt P w K mg JH JI JJ)(c_z0:Cl P w K mg base "_law_alike" ["_law_found","_law_due"] j (Do K d)):Cl P w K mg base "_law_alike" ["_law_found","_law_due"] (j+1) (Do K (d+1)):=by
 refine D.cl (D.F.ok El (fun vs H Q E h=>?_) (fun cdv A outer s H vs Q E hr h=>?_))
 ·obtain⟨x,y,rfl,_⟩:=h
  rfl
 ·obtain⟨x,y,rfl,hk,k⟩:=h
  cases hk with
  | flat hfl =>
   refine⟨_,(aD (dH (gI (aL (bD (K:=K) rfl) (by rfl) T.b_isinstance boot_isinstance (aA (pv 1) (aA (cF (aA (dL (by rfl) T.b_list boot_list) (aA (dL (by rfl) T.b_tuple boot_tuple) aB))) aB)))) rF bU)
   (aF (aT (kI (dD eR (aL (bD (K:=K) rfl) (by rfl) T.b_isinstance boot_isinstance (aA (pv 0) (aA (dL (by rfl) T.b_bool boot_bool) aB))) (aL (bD (K:=K) rfl) (by rfl) T.b_isinstance boot_isinstance (aA (pv 1) (aA (dL (by rfl) T.b_bool boot_bool) aB))) (aQ _)) (kE (dD eR (pv 0) (pv 1) (aQ _))))))),?_⟩
   obtain⟨t,ty,t1,t2⟩:=nC K H hfl
   refine⟨_,rfl,aK (by simp),fun p hp=>?_⟩
   have s1:Same H (upd H p (.tup [.ty "list",.ty "tuple"])):=Same.new hp
   have e1:upd H p (.tup [.ty "list",.ty "tuple"]) p=some (.tup [.ty "list",.ty "tuple"]):=aC
   generalize upd H p (.tup [.ty "list",.ty "tuple"])=H1 at s1 e1
   obtain⟨t',ty',t1',t2'⟩:=nC K H1 hfl
   refine⟨x,t',ty',.inr ⟨"list","tuple",p,rfl,e1,by decide,by decide,_,rfl,?_⟩⟩
   rw[t1',t2']
   refine fV ?_
   refine⟨_,rfl,x,t',ty',.inl ⟨"bool",rfl,by decide,_,rfl,x,t',ty',.inl ⟨"bool",rfl,by decide,rfl,_,rfl,?_⟩⟩⟩
   rw[decide_eq_true rfl]
   refine gC ⟨_,rfl,_,rfl,?_,?_⟩
   ·cases x <;> first | rfl | exact absurd (show false=true from hfl) g7
   ·rw[decide_eq_true rfl];exact k H1 s1
  | @tup _ a b xs ys h1 h2 hl hm hall =>
   refine⟨_,(aD (dH (gI (aL (bD (K:=K) rfl) (by rfl) T.b_isinstance boot_isinstance (aA (pv 1) (aA (cF (aA (dL (by rfl) T.b_list boot_list) (aA (dL (by rfl) T.b_tuple boot_tuple) aB))) aB)))) (aD (dH (pw_or (aR jB (aL (bD (K:=K) rfl) (by rfl) T.b_isinstance boot_isinstance (aA (pv 0) (aA (dL (by rfl) T.b_list boot_list) aB))) (aL (bD (K:=K) rfl) (by rfl) T.b_isinstance boot_isinstance (aA (pv 1) (aA (dL (by rfl) T.b_list boot_list) aB))) (aQ _)) (pw_or1 (aR jB (aL (bD (K:=K) rfl) (by rfl) T.b_isinstance boot_isinstance (aA (pv 0) (aA (dL (by rfl) T.b_tuple boot_tuple) aB))) (aL (bD (K:=K) rfl) (by rfl) T.b_isinstance boot_isinstance (aA (pv 1) (aA (dL (by rfl) T.b_tuple boot_tuple) aB))) (aQ _)))).pt (aF (aT yO)) bU)
   (aF (aT (kI (dD eR (aL (bB (K:=K) rfl) (by rfl) T.b_len j2 (aA (pv 0) aB)) (aL (bB (K:=K) rfl) (by rfl) T.b_len j2 (aA (pv 1) aB)) (aQ _)) (kE (aL (qO (K:=K) rfl rfl) (by rfl) T.b_all boot_all (aA (cY (sc0:=aH Az) (N:=["_law_found","_law_due"]) (ix:=[0,1]) (by decide +kernel) rfl rfl rfl (eX (by rfl) T.b_range (aA (aL (bB (K:=K) rfl) (by rfl) T.b_len j2 (aA (pv 1) aB)) aB)) (fun _ _ _=>bX) (fun _ _ _=>(pC c_z0 hr (aA (aV (cH (K:=K) rfl) (pv 1) (pv 0) (fun _ _=>rfl)) (aA (aV (cH (K:=K) rfl) (pv 2) (pv 0) (fun _ _=>rfl)) aB))))) aB))))))) bU)
   (aF (aT (kI (dD eR (aL (bD (K:=K) rfl) (by rfl) T.b_isinstance boot_isinstance (aA (pv 0) (aA (dL (by rfl) T.b_bool boot_bool) aB))) (aL (bD (K:=K) rfl) (by rfl) T.b_isinstance boot_isinstance (aA (pv 1) (aA (dL (by rfl) T.b_bool boot_bool) aB))) (aQ _)) (kE (dD (yQ (K:=K) rfl hr.units0) (pv 0) (pv 1) (aQ _))))))),?_⟩
   refine⟨_,rfl,aK (by simp),fun p hp=>?_⟩
   have s1:Same H (upd H p (.tup [.ty "list",.ty "tuple"])):=Same.new hp
   have e1:upd H p (.tup [.ty "list",.ty "tuple"]) p=some (.tup [.ty "list",.ty "tuple"]):=aC
   have ha1:=L2.SqT.same s1 h1
   have hb1:=L2.SqT.same s1 h2
   generalize upd H p (.tup [.ty "list",.ty "tuple"])=H1 at s1 e1 ha1 hb1
   refine⟨.ref b,"tuple",.tup hb1,.inr ⟨"list","tuple",p,rfl,e1,by decide,by decide,_,rfl,eK (fun _=>?_) (fun e=>absurd (by decide) e)⟩⟩
   refine⟨_,rfl,.ref a,"tuple",.tup ha1,.inl ⟨"list",rfl,by decide,_,rfl,.ref b,"tuple",.tup hb1,.inl ⟨"list",rfl,by decide,rfl,_,rfl,eK (fun e=>absurd e (by decide)) (fun _=>?_)⟩⟩⟩
   refine⟨_,rfl,.ref a,"tuple",.tup ha1,.inl ⟨"tuple",rfl,by decide,_,rfl,.ref b,"tuple",.tup hb1,.inl ⟨"tuple",rfl,by decide,rfl,_,rfl,eK (fun e=>absurd e (by decide)) (fun _=>?_)⟩⟩⟩
   refine⟨_,rfl,a,_,rfl,.inr ha1,_,rfl,b,_,rfl,.inr hb1,rfl,_,rfl,?_⟩
   rw[hl,decide_eq_true rfl]
   refine gC ?_
   refine⟨_,rfl,b,_,rfl,.inr hb1,(ys.length:Nat),rfl,by omega,by omega,fun Dd hD=>?_⟩
   refine kD (lo:=0) (n:=((ys.length:Nat):Int).toNat) (fun i H2=>Same H1 H2∧H2 Dd=some (.lst ((List.replicate i true).map V.bl))) ⟨Same.new hD,aC⟩ ?_ ?_
   ·rintro i H2 hi ⟨s2,e2⟩
    have hi':i<ys.length:=by omega
    obtain⟨x,hx⟩:∃ x,xs[i]?=some x:=⟨_,a9 (by omega)⟩
    obtain⟨y,hy⟩:∃ y,ys[i]?=some y:=⟨_,a9 hi'⟩
    refine⟨_,rfl,_,rfl,a,xs,_,x,rfl,rfl,L2.SqT.same s2 ha1,kP (by omega) (by rw[show ((0:Int)+(i:Nat)).toNat=i by omega];exact hx),_,rfl,_,rfl,b,ys,_,y,rfl,rfl,L2.SqT.same s2 hb1,kP (by omega) (by rw[show ((0:Int)+(i:Nat)).toNat=i by omega];exact hy),x,y,rfl,(hall i x y hx hy).same (s1.trans s2),fun H3 s3=>⟨_,s3 _ _ e2,?_,(s2.trans s3).upd hD,?_⟩⟩
    ·rw[b7,aQ6];exact aN (by omega)
    ·rw[aC,aX7,d9];rfl
   ·rintro H2 ⟨s2,e2⟩
    refine⟨Dd,_,rfl,SqL.of e2,?_⟩
    rw[show (List.replicate ((ys.length:Nat):Int).toNat true).all id=true by rw[p9];intro b hb;exact(aXw.mp hb).2]
    exact k H2 (s1.trans s2)
  | @lst _ a b xs ys h1 h2 hl hm hall =>
   refine⟨_,(aD (dH (gI (aL (bD (K:=K) rfl) (by rfl) T.b_isinstance boot_isinstance (aA (pv 1) (aA (cF (aA (dL (by rfl) T.b_list boot_list) (aA (dL (by rfl) T.b_tuple boot_tuple) aB))) aB)))) (aD (dH (pw_or (aR jB (aL (bD (K:=K) rfl) (by rfl) T.b_isinstance boot_isinstance (aA (pv 0) (aA (dL (by rfl) T.b_list boot_list) aB))) (aL (bD (K:=K) rfl) (by rfl) T.b_isinstance boot_isinstance (aA (pv 1) (aA (dL (by rfl) T.b_list boot_list) aB))) (aQ _)) (pw_or1 (aR jB (aL (bD (K:=K) rfl) (by rfl) T.b_isinstance boot_isinstance (aA (pv 0) (aA (dL (by rfl) T.b_tuple boot_tuple) aB))) (aL (bD (K:=K) rfl) (by rfl) T.b_isinstance boot_isinstance (aA (pv 1) (aA (dL (by rfl) T.b_tuple boot_tuple) aB))) (aQ _)))).pt (aF (aT yO)) bU)
   (aF (aT (kI (dD eR (aL (bB (K:=K) rfl) (by rfl) T.b_len j2 (aA (pv 0) aB)) (aL (bB (K:=K) rfl) (by rfl) T.b_len j2 (aA (pv 1) aB)) (aQ _)) (kE (aL (qO (K:=K) rfl rfl) (by rfl) T.b_all boot_all (aA (cY (sc0:=aH Az) (N:=["_law_found","_law_due"]) (ix:=[0,1]) (by decide +kernel) rfl rfl rfl (eX (by rfl) T.b_range (aA (aL (bB (K:=K) rfl) (by rfl) T.b_len j2 (aA (pv 1) aB)) aB)) (fun _ _ _=>bX) (fun _ _ _=>(pC c_z0 hr (aA (aV (aO (K:=K) rfl) (pv 1) (pv 0) (fun _ _=>rfl)) (aA (aV (aO (K:=K) rfl) (pv 2) (pv 0) (fun _ _=>rfl)) aB))))) aB))))))) bU)
   (aF (aT (kI (dD eR (aL (bD (K:=K) rfl) (by rfl) T.b_isinstance boot_isinstance (aA (pv 0) (aA (dL (by rfl) T.b_bool boot_bool) aB))) (aL (bD (K:=K) rfl) (by rfl) T.b_isinstance boot_isinstance (aA (pv 1) (aA (dL (by rfl) T.b_bool boot_bool) aB))) (aQ _)) (kE (dD (yQ (K:=K) rfl hr.units0) (pv 0) (pv 1) (aQ _))))))),?_⟩
   refine⟨_,rfl,aK (by simp),fun p hp=>?_⟩
   have s1:Same H (upd H p (.tup [.ty "list",.ty "tuple"])):=Same.new hp
   have e1:upd H p (.tup [.ty "list",.ty "tuple"]) p=some (.tup [.ty "list",.ty "tuple"]):=aC
   have ha1:=s1 _ _ h1
   have hb1:=s1 _ _ h2
   generalize upd H p (.tup [.ty "list",.ty "tuple"])=H1 at s1 e1 ha1 hb1
   refine⟨.ref b,"list",.lst (SqL.of hb1),.inr ⟨"list","tuple",p,rfl,e1,by decide,by decide,_,rfl,eK (fun _=>?_) (fun e=>absurd (by decide) e)⟩⟩
   refine⟨_,rfl,.ref a,"list",.lst (SqL.of ha1),.inl ⟨"list",rfl,by decide,_,rfl,.ref b,"list",.lst (SqL.of hb1),.inl ⟨"list",rfl,by decide,rfl,_,rfl,eK (fun e=>absurd e (by decide)) (fun _=>?_)⟩⟩⟩
   refine⟨_,rfl,.ref a,"list",.lst (SqL.of ha1),.inl ⟨"tuple",rfl,by decide,_,rfl,.ref b,"list",.lst (SqL.of hb1),.inl ⟨"tuple",rfl,by decide,rfl,_,rfl,eK (fun e=>absurd e (by decide)) (fun _=>?_)⟩⟩⟩
   refine⟨_,rfl,a,_,rfl,.inl (SqL.of ha1),_,rfl,b,_,rfl,.inl (SqL.of hb1),rfl,_,rfl,?_⟩
   rw[hl,decide_eq_true rfl]
   refine gC ?_
   refine⟨_,rfl,b,_,rfl,.inl (SqL.of hb1),(ys.length:Nat),rfl,by omega,by omega,fun Dd hD=>?_⟩
   refine kD (lo:=0) (n:=((ys.length:Nat):Int).toNat) (fun i H2=>Same H1 H2∧H2 Dd=some (.lst ((List.replicate i true).map V.bl))) ⟨Same.new hD,aC⟩ ?_ ?_
   ·rintro i H2 hi ⟨s2,e2⟩
    have hi':i<ys.length:=by omega
    obtain⟨x,hx⟩:∃ x,xs[i]?=some x:=⟨_,a9 (by omega)⟩
    obtain⟨y,hy⟩:∃ y,ys[i]?=some y:=⟨_,a9 hi'⟩
    refine⟨_,rfl,_,rfl,a,xs,_,x,rfl,rfl,SqL.of (s2 _ _ ha1),kP (by omega) (by rw[show ((0:Int)+(i:Nat)).toNat=i by omega];exact hx),_,rfl,_,rfl,b,ys,_,y,rfl,rfl,SqL.of (s2 _ _ hb1),kP (by omega) (by rw[show ((0:Int)+(i:Nat)).toNat=i by omega];exact hy),x,y,rfl,(hall i x y hx hy).same (s1.trans s2),fun H3 s3=>⟨_,s3 _ _ e2,?_,(s2.trans s3).upd hD,?_⟩⟩
    ·rw[b7,aQ6];exact aN (by omega)
    ·rw[aC,aX7,d9];rfl
   ·rintro H2 ⟨s2,e2⟩
    refine⟨Dd,_,rfl,SqL.of e2,?_⟩
    rw[show (List.replicate ((ys.length:Nat):Int).toNat true).all id=true by rw[p9];intro b hb;exact(aXw.mp hb).2]
    exact k H2 (s1.trans s2)
theorem GN{f:Addr}{fd:FuncData}(D:Df K mg "_law_retold" F6 ["_law_retelling","_law_word_here"] f fd)(T:Txt P w K mg JH JI JJ)(c_z8:Cl P w K mg base "_law_back" ["_law_word_here"] 2 oN)(c_z9:Cl P w K mg base "_law_laid" ["_law_text"] 2 rG):Cl P w K mg base "_law_retold" ["_law_retelling","_law_word_here"] 3 (vM K):=by
 refine D.cl (D.F.ok sc_zy (fun vs H Q E h=>?_) (fun cdv A outer s H vs Q E hr h=>?_))
 ·obtain⟨a,rs,n,M,x,rfl,_⟩:=h
  rfl
 ·obtain⟨a,rs,n,M,x,rfl,hq,hr0,h1,h4,hM,hox,hxl,hxm,k⟩:=h
  refine⟨_,(aD (aM (i:=2) sc_zy.nd rfl (Or.inl rfl) cU)
   (aD (cV i7 rfl (mM (pv 1)) (aX (i:=3) sc_zy.nd rfl (Or.inl rfl)) (aD (aM (i:=4) sc_zy.nd rfl (Or.inl rfl) (aV (cH (K:=K) rfl) (pv 0) (cK (K:=K) rfl j3 aX0 aX1 (uZ rfl) cU (aA (dZ (K:=K) rfl j3 aQG aQH lK (pv 3)) aB)) (fun _ _=>rfl)))
   (iL (dH (gI (dZ (K:=K) rfl j3 aXM aXN pR (pv 3))) (aF (aM (i:=4) sc_zy.nd rfl (Or.inl rfl) (pC c_z8 hr (aA (pv 4) aB)))) bU)
   (aF (aM (i:=2) sc_zy.nd rfl (Or.inl rfl) (bE dP (pv 2) (pv 4)))))))
   (aF (aT (pC c_z9 hr (aA (pv 2) aB)))))),?_⟩
  refine⟨_,rfl,S x,rfl,nU (w:=x) (fun i σ H1=>∃ v3 v4:Option V,σ=[some (.ref a),some (.str (S x)),some (.str (S (dO rs (x.take i)))),v3,v4]∧Same H H1) ⟨none,none,by rw[qY];rfl,Same.refl H⟩ ?_ ?_⟩
  ·rintro i c σ H1 hc ⟨v3,v4,rfl,s1⟩
   have hi:i<x.length:=(a8.mp hc).1
   have hcn:=hox c (b6 hc)
   have hcL:cR c:=bA hcn
   have hc1:AllL [c]:=fun d hd=>by rw[c9.mp hd];exact hcL
   have tl:=pI hr0 (x.take i)
   have tm:(x.take i).length * M≤x.length * M:=aQf _ (by rw[i6];omega)
   have htk:dO rs (x.take (i+1))=dO rs (x.take i)++fC rs c:=by rw[bK hc,iU,dR,vR,m6]
   have hll:=uB hr0 c
   obtain⟨r,hr9⟩:∃ r,rs[lo c - 97]?=some r:=⟨_,a9 (Hs hcn hr0.len h1 h4)⟩
   have hra:=hr0.all r (b6 hr9)
   have hrl:=hr0.le r (b6 hr9)
   refine⟨_,rfl,rfl,_,rfl,rfl,S [c],rfl,rfl,mD [c] hc1 (by simp),_,_,rfl,rfl,?_,a,bI rs,_,.str (S r),rfl,rfl,L2.SqT.same s1 hq,?_,?_⟩
   ·rw[gU hc1];exact(zR hcL).1
   ·rw[gU hc1]
    show wJ (bI rs) (Txt.find (Str.ofString "abcd") (S [lo c]))=some (.str (S r))
    rw[(zR hcL).2]
    exact cX (kQ hr9)
   refine⟨fun σ H2=>σ=[some (.ref a),some (.str (S x)),some (.str (S (dO rs (x.take i)))),some (.str (S [c])),some (.str (S (fC rs c)))]∧Same H H2,?_,?_⟩
   ·refine⟨_,rfl,rfl,_,rfl,rfl,_,rfl,?_⟩
    rw[rE hcL]
    have ht:fC rs c=if bW c=true then r else back r:=by
     unfold fC lo at *
     unfold bW
     by_cases q:96<c
     ·rw[if_pos q] at hr9
      rw[if_pos (decide_eq_true q),if_pos (decide_eq_true q),c6,hr9];rfl
     ·rw[if_neg q] at hr9
      rw[if_neg (by simpa using q),if_neg (by simpa using q),c6,show c - 65=c+32 - 97 by omega,hr9];rfl
    cases hlow:bW c with
    | true =>
     rw[hlow,if_pos rfl] at ht
     rw[ht]
     exact fV ⟨rfl,s1⟩
    | false =>
     rw[hlow,if_neg (by decide)] at ht
     rw[ht]
     exact gC ⟨_,rfl,r,rfl,hra,by omega,fun H2 s2=>⟨rfl,s1.trans s2⟩⟩
   rintro _ H2 ⟨rfl,s2⟩
   refine⟨_,rfl,_,rfl,_,_,rfl,rfl,by rw[cC,cC];exact aK (by omega),some (.str (S [c])),some (.str (S (fC rs c))),?_,s2⟩
   rw[htk,jZ]
   rfl
  ·rintro _ H1 ⟨v3,v4,rfl,s1⟩
   rw[i9]
   have tl:=pI hr0 x
   exact⟨_,rfl,dO rs x,rfl,fX hr0 x,by omega,fun H2 s2=>k H2 (s1.trans s2)⟩
theorem GF{f:Addr}{fd:FuncData}(D:Df K mg "_law_then" DO ["_law_one","_law_other"] f fd)(T:Txt P w K mg JH JI JJ)(c_zy:Cl P w K mg base "_law_retold" ["_law_retelling","_law_word_here"] 3 (vM K)):Cl P w K mg base "_law_then" ["_law_one","_law_other"] 4 (BI K):=by
 refine D.cl (D.F.ok HD (fun vs H Q E h=>?_) (fun cdv A outer s H vs Q E hr h=>?_))
 ·obtain⟨a,b,f,s,n,M,L,rfl,_⟩:=h
  rfl
 ·obtain⟨a,b,f0,s0,n,M,L,rfl,ha,hb,hf0,hs0,hfo,h1,h4,hM,hL,hML,k⟩:=h
  refine⟨_,(aF (aT (aW (cD (K:=K) rfl) (by rfl) T.b_tuple boot_tuple (aA (cY (sc0:=aH DO) (N:=["_law_one","_law_other"]) (ix:=[1]) (by decide +kernel) rfl rfl rfl (jM (K:=K) rfl (pv 0)) (fun _ _ _=>bX) (fun _ _ _=>(pC c_zy hr (aA (pv 1) (aA (pv 0) aB))))) aB)))),?_⟩
  refine⟨_,rfl,a,rfl,⟨_,ha⟩,fun Dd hD=>iA (xs:=bI f0) (fun i H1=>Same H H1∧H1 Dd=some (.lst (bI ((f0.take i).map (fN s0))))) ⟨Same.new hD,aC⟩ (fun i H1 _ h=>L2.SqT.same h.1 ha) ?_ ?_⟩
  ·rintro i v H1 hv ⟨s1,e1⟩
   obtain⟨x,hx,rfl⟩:=eQ hv
   have hxm:=b6 hx
   have hi:i<f0.length:=(a8.mp hx).1
   have hxl:=hf0.le x hxm
   refine⟨_,rfl,_,rfl,b,s0,n,L,x,rfl,L2.SqT.same s1 hb,hs0,h1,h4,hL,hfo x hxm,by omega,j0 (aQf _ hxl) (j0 hML (by decide)),fun H2 s2=>⟨_,s2 _ _ e1,?_,(s1.trans s2).upd hD,?_⟩⟩
   ·have:=hf0.len
    rw[aP,b7,i6];exact aN (by omega)
   ·rw[aC,m4,hx,d9]
    unfold bI
    rw[d9]
    rfl
  ·rintro H1 ⟨s1,e1⟩
   rw[aP,i9] at e1
   refine⟨Dd,_,rfl,.inl ⟨SqL.of e1,fun q hq=>k q _ (s1.free hq) (s1.upd' hq) aC⟩⟩
theorem HF{f:Addr}{fd:FuncData}(D:Df K mg "_law_same" Ga ["_law_n"] f fd)(T:Txt P w K mg JH JI JJ):Cl P w K mg base "_law_same" ["_law_n"] 1 nH:=by
 refine D.cl (D.F.ok Gp (fun vs H Q E h=>?_) (fun cdv A outer s H vs Q E hr h=>?_))
 ·obtain⟨n,rfl,_⟩:=h
  rfl
 ·obtain⟨n,rfl,h1,h4,k⟩:=h
  refine⟨_,(aF (aT (aW (qC rfl) (by rfl) T.b_tuple boot_tuple (aA (jF tE cU jT (iN (pv 0))) aB)))),?_⟩
  refine⟨_,rfl,_,rfl,_,rfl,by decide +kernel,cN n,?_,?_,fun l hl=>?_⟩
  ·show [V.str (Txt.slice (Str.ofString "abcd") none (some ((n:Nat):Int)))]=_
   rw[xJ,lI _ (by omega) (by simp;omega)]
   rfl
  ·unfold cN;rw[i6];simp;omega
  ·refine k l _ hl (Same.new hl) ?_
   rw[aC,DE]
   rfl
theorem GJ{f:Addr}{fd:FuncData}(D:Df K mg "_law_drawn_change" FK ["_law_flow_here","_law_n"] f fd)(T:Txt P w K mg JH JI JJ)(c_z1:Cl P w K mg base "_law_pick" ["_law_flow_here","_law_many"] 1 iW)(c_zv:Cl P w K mg base "_law_letters" ["_law_n"] 1 jQ)(c_zs:Cl P w K mg base "_law_contrary" ["_law_letter"] 1 iX):Cl P w K mg base "_law_drawn_change" ["_law_flow_here","_law_n"] 2 uH:=by
 refine D.cl (D.F.ok sc_za (fun vs H Q E h=>?_) (fun cdv A outer s H vs Q E hr h=>?_))
 ·obtain⟨fl,sc,n,rfl,_⟩:=h
  rfl
 ·obtain⟨fl,sc,n,rfl,hf,h1,h4,k⟩:=h
  refine⟨_,(aD (aM (i:=2) sc_za.nd rfl (Or.inl rfl) (aV (aO (K:=K) rfl) (pC c_zv hr (aA (pv 1) aB)) (pC c_z1 hr (aA (pv 0) (aA (bE iD aG (pv 1)) aB))) (fun _ _=>rfl)))
   (aD (aM (i:=3) sc_za.nd rfl (Or.inl rfl) (dB aB))
   (aD (cV i7 rfl (cG (K:=K) rfl (pC c_zv hr (aA (pv 1) aB))) (aX (i:=4) sc_za.nd rfl (Or.inl rfl)) (aF (dH (pw_or (aR eR (pv 4) (pv 2) (aQ _)) (pw_or1 (pw_and (aR jB (pv 4) (pC c_zs hr (aA (pv 2) aB)) (aQ _)) (pw_and1 (aR eR (pC c_z1 hr (aA (pv 0) (aA aG aB))) aG (aQ _)))).pt)).pt (aF (bM (cK (K:=K) rfl i0 j4 j5 bR (pv 3) (aA (pv 4) aB)))) bU)))
   (aF (aT (cF (aA (pv 2) (aA (aW (cD (K:=K) rfl) (by rfl) T.b_tuple boot_tuple (aA (pv 3) aB)) aB)))))))),?_⟩
  have i1:(1:Int)≤(n:Nat):=by omega
  have i4:((n:Nat):Int)≤4:=by omega
  refine⟨_,rfl,(n:Nat),rfl,i1,i4,fun l H1 hl s1 e1=>?_⟩
  refine⟨_,rfl,_,rfl,_,_,rfl,rfl,.inl ⟨by decide,by decide⟩,fl,sc,_,rfl,hf.same s1,by omega,by omega,fun d H2 d0 d1 f2 k2=>?_⟩
  have hln:=jU i1 i4
  obtain⟨c,hc⟩:∃ c,(aJ (n:Nat))[d.toNat]?=some c:=⟨_,a9 (show d.toNat<(aJ (n:Nat)).length by omega)⟩
  have hcm:c∈aJ (n:Nat):=b6 hc
  have hcL:=bA hcm
  refine⟨l,_,_,.str (S [c]),rfl,rfl,SqL.of (k2 _ _ e1 (hf.ne hl)),kP d0 (uE hc),aK (by simp),fun sd hsd=>?_⟩
  have hsf:sd≠fl:=f2.ne hsd
  have hss:sd≠sc:=f2.ne2 hsd
  have k02:Kp fl H H2:=s1.kp.trans k2
  have hsd0:H sd=none:=k02.free hsd hsf
  refine⟨_,rfl,(n:Nat),rfl,i1,i4,fun l2 H3 hl2 s3 e3=>⟨l2,rfl,⟨_,SqL.of e3⟩,?_⟩⟩
  have hl2s:sd≠l2:=aI (aC (H:=H2) (a:=sd) (o:=HO.lst [])) hl2
  have hl2f:l2≠fl:=(f2.upd hsd).ne hl2
  refine eM (K:=K) (a:=l2) (xs:=bH (aJ (n:Nat))) (fun i σ H4=>∃ (v4:Option V) (w:List Nat),σ=[some (.ref fl),some (.int (n:Nat)),some (.str (S [c])),some (.ref sd),v4]∧IsFl H4 fl sc∧Kp fl H H4∧H4 l2=some (.lst (bH (aJ (n:Nat))))∧H4 sd=some (.lst (bH w))∧(∀ d∈w,d∈aJ (n:Nat)∧d≠aU c)∧w.length≤i∧(c∈(aJ (n:Nat)).take i→c∈w)∧w.Sublist ((aJ (n:Nat)).take i)) ?_ ?_ ?_ ?_
  ·exact⟨none,[],rfl,(f2.upd hsd).same s3,(k02.upd hsd0).trans s3.kp,e3,s3 _ _ aC,fun d hd=>(nomatch hd),b5 _,(fun h=>by simp at h),aZI []⟩
  ·rintro i _ H4 _ ⟨v4,w,rfl,f4,k4,e4,_⟩
   exact SqL.of e4
  ·rintro i v _ H4 hv ⟨v4,w,rfl,f4,k4,e4,es,hw,hwl,hin,hsub⟩
   obtain⟨o,ho,rfl⟩:∃ o,(aJ (n:Nat))[i]?=some o∧v=.str (S [o]):=by
    unfold bH at hv
    rw[c5] at hv
    cases hq:(aJ (n:Nat))[i]? with
    | none=>rw[hq] at hv;cases hv
    | some o=>rw[hq] at hv;exact⟨o,rfl,(i3 hv).symm⟩
   have hom:=b6 ho
   have hi:i<8:=by have:=(a8.mp ho).1;omega
   have tk:c∈(aJ (n:Nat)).take (i+1)→c∈(aJ (n:Nat)).take i∨c=o:=fun h=>by
    rw[bK ho] at h
    rcases i5.mp h with q | q
    ·exact .inl q
    ·exact .inr (c9.mp q)
   have app:o≠aU c→∀ H5,IsFl H5 fl sc→Kp fl H H5→H5 l2=some (.lst (bH (aJ (n:Nat))))→H5 sd=some (.lst (bH w))→∃ (v4:Option V) (w':List Nat),[some (V.ref fl),some (.int (n:Nat)),some (.str (S [c])),some (.ref sd),some (.str (S [o]))]=[some (.ref fl),some (.int (n:Nat)),some (.str (S [c])),some (.ref sd),v4]∧IsFl (upd H5 sd (.lst (bH w++[.str (S [o])]))) fl sc∧Kp fl H (upd H5 sd (.lst (bH w++[.str (S [o])])))∧upd H5 sd (.lst (bH w++[.str (S [o])])) l2=some (.lst (bH (aJ (n:Nat))))∧upd H5 sd (.lst (bH w++[.str (S [o])])) sd=some (.lst (bH w'))∧(∀ d∈w',d∈aJ (n:Nat)∧d≠aU c)∧w'.length≤i+1∧(c∈(aJ (n:Nat)).take (i+1)→c∈w')∧w'.Sublist ((aJ (n:Nat)).take (i+1)):=fun hoc H5 f5 k5 e5 es5=>by
    refine⟨_,w++[o],rfl,f5.set hsf hss,k5.upd hsd0,by rw[aE hl2s.symm];exact e5,by rw[aC,cQ],fun d hd=>?_,by rw[b9,aQM];omega,fun h=>?_,(by rw[bK ho];exact hsub.append (aZI _))⟩
    ·rcases i5.mp hd with q | q
     ·exact hw d q
     ·rw[c9.mp q];exact⟨hom,hoc⟩
    ·rcases tk h with q | q
     ·exact l7 _ (hin q)
     ·rw[q];simp
   refine⟨_,rfl,_,rfl,rfl,_,rfl,eK (fun z=>gC ⟨_,rfl,.inl ⟨rfl,_,SqL.of es⟩,_,rfl,sd,_,_,rfl,rfl,es,by rw[bG];exact aN (by omega),app (by rw[fK] at z;have z':o=c:=(by simpa using z);rw[z'];exact(Cs hcL).symm) H4 f4 k4 e4 es⟩) (fun z=>?_)⟩
   have hsub2:w.Sublist ((aJ (n:Nat)).take (i+1)):=by rw[bK ho];exact hsub.trans (List.sublist_append_left _ _)
   have zc:¬ c=o:=fun e=>z (by rw[fK,e];simp)
   have nin:c∈(aJ (n:Nat)).take (i+1)→c∈w:=fun h=>by
    rcases tk h with q | q
    ·exact hin q
    ·exact absurd q zc
   refine⟨_,rfl,_,rfl,c,rfl,hcL,fun H5 s5=>⟨rfl,_,rfl,eK (fun y=>?_) (fun y=>fV ?_)⟩⟩
   ·refine⟨_,rfl,fl,sc,2,rfl,f4.same s5,by decide,by decide,fun e H6 e0 e1 f6 k6=>⟨rfl,_,rfl,eK (fun x=>?_) (fun x=>?_)⟩⟩
    ·have es6:=k6 _ _ (s5 _ _ es) hsf
     exact⟨_,rfl,.inl ⟨rfl,_,SqL.of es6⟩,_,rfl,sd,_,_,rfl,rfl,es6,by rw[bG];exact aN (by omega),app (fun e=>by rw[fK,e] at y;simp at y) H6 f6 ((k4.trans s5.kp).trans k6) (k6 _ _ (s5 _ _ e4) hl2f) es6⟩
    ·exact⟨_,w,rfl,f6,(k4.trans s5.kp).trans k6,k6 _ _ (s5 _ _ e4) hl2f,k6 _ _ (s5 _ _ es) hsf,hw,by omega,nin,hsub2⟩
   ·exact⟨_,w,rfl,f4.same s5,k4.trans s5.kp,s5 _ _ e4,s5 _ _ es,hw,by omega,nin,hsub2⟩
  ·rintro _ H4 ⟨v4,w,rfl,f4,k4,e4,es,hw,hwl,hin,hsub⟩
   rw[bG,i9] at hin hsub
   rw[bG,hln] at hwl
   refine⟨_,rfl,_,rfl,sd,_,rfl,.inl ⟨SqL.of es,fun q hq=>⟨aK (by simp),fun p hp=>?_⟩⟩⟩
   have hqf:q≠fl:=f4.ne hq
   have hpf:p≠fl:=(f4.upd hq).ne hp
   have hq0:H q=none:=k4.free hq hqf
   have hp0:H p=none:=(k4.upd hq0).free hp hpf
   have hpq:q≠p:=aI (aC (H:=H4) (a:=q) (o:=HO.tup (bH w))) hp
   exact k p c w _ hp0 ⟨hcm,fun d hd=>(hw d hd).1,(Bq h1 h4).sublist hsub,hin hcm,fun z=>(hw _ z).2 rfl⟩ (by omega) ⟨q,aC,by rw[aE hpq];exact aC⟩ ((f4.upd hq).upd hp) ((k4.upd hq0).upd hp0)
theorem GB{f:Addr}{fd:FuncData}(D:Df K mg "_law_change_told" FJ ["_law_n","_law_change"] f fd)(T:Txt P w K mg JH JI JJ)(c_zs:Cl P w K mg base "_law_contrary" ["_law_letter"] 1 iX):Cl P w K mg base "_law_change_told" ["_law_n","_law_change"] 2 tS:=by
 refine D.cl (D.F.ok sc_zg (fun vs H Q E h=>?_) (fun cdv A outer s H vs Q E hr h=>?_))
 ·obtain⟨n,p,c,sd,rfl,_⟩:=h
  rfl
 ·obtain⟨n,p,c,sd,rfl,h1,h4,⟨q,ep,eq⟩,hc,hsd,k⟩:=h
  refine⟨_,(aD (fJ (pv 1) (jD (K:=K) rfl rfl (bZ (aX (i:=2) sc_zg.nd rfl (Or.inl rfl)) (bZ (aX (i:=3) sc_zg.nd rfl (Or.inl rfl)) gE))))
   (aD (aM (i:=4) sc_zg.nd rfl (Or.inl rfl) (dB aB))
   (aD (cV i7 rfl (mM (jF tE cU jT (iN (pv 0)))) (aX (i:=5) sc_zg.nd rfl (Or.inl rfl)) (aD (aM (i:=6) sc_zg.nd rfl (Or.inl rfl) (pv 5))
   (iL (dH (aR jB (pv 5) (dZ (K:=K) rfl j3 aQG aQH lK (pv 2)) (aQ _)) (aD (aM (i:=6) sc_zg.nd rfl (Or.inl rfl) (bE dP (pv 5) (bE oT (pv 2) (aW gS (by rfl) T.b_int boot_int (aA (dD (Cu (K:=K) rfl) (pv 5) (pv 3) (by rfl)) aB)))))
   (aF (aM (i:=6) sc_zg.nd rfl (Or.inl rfl) (bE dP (bE oT (pC c_zs hr (aA (pv 2) aB)) (aW gS (by rfl) T.b_int boot_int (aA (dD (Cu (K:=K) rfl) (pC c_zs hr (aA (pv 5) aB)) (pv 3) (by rfl)) aB))) (pv 6))))) bU)
   (aF (bM (cK (K:=K) rfl i0 j4 j5 bR (pv 4) (aA (pv 6) aB)))))))
   (aF (aT (aW (cD (K:=K) rfl) (by rfl) T.b_tuple boot_tuple (aA (pv 4) aB))))))),?_⟩
  refine⟨_,rfl,p,_,rfl,.inr (SqT.of ep),rfl,_,_,rfl,_,_,rfl,rfl,?_⟩
  refine⟨aK (by simp),fun l hl=>?_⟩
  refine⟨_,rfl,_,rfl,_,rfl,by decide +kernel,S (cN n),?_,?_⟩
  ·show V.str (Txt.slice (Str.ofString "abcd") none (some ((n:Nat):Int)))=_
   rw[xJ,lI _ (by omega) (by simp;omega)]
   rfl
  refine nU (w:=cN n) (fun i σ H1=>∃ v5 v6:Option V,σ=[some (.int (n:Nat)),some (.ref p),some (.str (S [c])),some (.ref q),some (.ref l),v5,v6]∧Same H H1∧H1 l=some (.lst (bI (((cN n).take i).map (rJ c sd))))) ⟨none,none,rfl,Same.new hl,aC⟩ ?_ ?_
  ·rintro i d σ H1 hd ⟨v5,v6,rfl,s1,e1⟩
   have hm:=b6 hd
   have hdL:=yN hm
   have hdl:=zF hm
   have hi:i<4:=by have:=(a8.mp hd).1;rw[gY h4] at this;omega
   have hc1:=iC hc
   refine⟨_,rfl,?_⟩
   refine⟨fun σ H2=>σ=[some (.int (n:Nat)),some (.ref p),some (.str (S [c])),some (.ref q),some (.ref l),some (.str (S [d])),some (.str (S (rJ c sd d)))]∧Same H1 H2,?_,?_⟩
   ·refine⟨_,rfl,_,rfl,rfl,S [c],rfl,rfl,mD [c] hc1 (by simp),?_⟩
    rw[gU hc1]
    refine⟨rfl,_,rfl,?_⟩
    show if (!decide (V.str (S [d])=V.str (S [lo c])))=true then _ else _
    rw[FT]
    by_cases hlo:d=lo c
    ·rw[decide_eq_true hlo]
     have e:rJ c sd d=[d]:=by unfold rJ;rw[if_pos hlo]
     rw[e]
     exact fV ⟨rfl,Same.refl _⟩
    ·rw[decide_eq_false hlo]
     refine gC ⟨_,rfl,_,rfl,_,rfl,_,rfl,q,bH sd,rfl,.inr (SqT.of (s1 _ _ eq)),rfl,qX sd,.inr ⟨_,rfl,?_⟩⟩
     refine⟨S [c],(if Bk (.str (S [d])) (bH sd)=true then 1 else 0),rfl,rfl,yP _ _,?_⟩
     rw[Ej,CI]
     have hu1:(if decide (d∈sd)=true then [c] else []).length≤1:=by split <;> simp
     have hu2:(if decide (d∈sd)=true then [c] else [])=(if d∈sd then [c] else []):=by simp only [decide_eq_true_iff]
     generalize (if decide (d∈sd)=true then [c] else [])=u at hu1 hu2
     refine⟨_,_,rfl,rfl,by rw[cC,cC];exact aK (by simp;omega),?_⟩
     rw[jZ]
     refine⟨_,rfl,c,rfl,hc,fun H2 s2=>⟨_,rfl,d,rfl,hdL,fun H3 s3=>⟨_,rfl,q,bH sd,rfl,.inr (SqT.of (s3 _ _ (s2 _ _ (s1 _ _ eq)))),rfl,qX sd,.inr ⟨_,rfl,S [aU c],(if Bk (.str (S [aU d])) (bH sd)=true then 1 else 0),rfl,rfl,yP _ _,?_⟩⟩⟩⟩
     rw[Ej,CI]
     have hv1:(if decide (aU d∈sd)=true then [aU c] else []).length≤1:=by split <;> simp
     have hv2:(if decide (aU d∈sd)=true then [aU c] else [])=(if aU d∈sd then [aU c] else []):=by simp only [decide_eq_true_iff]
     generalize (if decide (aU d∈sd)=true then [aU c] else [])=v at hv1 hv2
     refine⟨_,rfl,_,_,rfl,rfl,by rw[cC,cC,b9];exact aK (by simp;omega),?_,s2.trans s3⟩
     rw[jZ,← k7,hu2,hv2]
     have e:rJ c sd d=(if aU d∈sd then [aU c] else [])++[d]++(if d∈sd then [c] else []):=by unfold rJ;rw[if_neg hlo]
     rw[e]
     rfl
   rintro _ H2 ⟨rfl,s2⟩
   have e2:=s2 _ _ e1
   refine⟨_,rfl,.inl ⟨rfl,_,SqL.of e2⟩,_,rfl,l,_,_,rfl,rfl,e2,?_,_,_,rfl,(s1.trans s2).upd hl,?_⟩
   ·rw[aP,b7,i6];exact aN (by omega)
   ·rw[aC,bK hd,d9]
    unfold bI
    rw[d9]
    rfl
  ·rintro _ H1 ⟨v5,v6,rfl,s1,e1⟩
   rw[i9] at e1
   exact⟨_,rfl,l,_,rfl,.inl ⟨SqL.of e1,fun t ht=>k t _ (s1.free ht) (s1.upd' ht) aC⟩⟩
theorem Fx{f:Addr}{fd:FuncData}(D:Df K mg "_law_key" Aa ["_law_word_here"] f fd)(T:Txt P w K mg JH JI JJ):Cl P w K mg base "_law_key" ["_law_word_here"] 1 Cq:=by
 refine D.cl (D.F.ok E4 (fun vs H Q E h=>?_) (fun cdv A outer s H vs Q E hr h=>?_))
 ·obtain⟨x,rfl,_⟩:=h
  rfl
 ·obtain⟨x,rfl,hx,hlen,k⟩:=h
  refine⟨_,(aF (aT (cF (aA (aL eU (by rfl) T.b_len j2 (aA (pv 0) aB)) (aA (cY (sc0:=aH Aa) (N:=["_law_word_here"]) (ix:=[]) (by decide +kernel) rfl rfl rfl (mM (pv 0)) (fun _ _ _=>bX) (fun _ _ _=>(cK (K:=K) rfl j3 aX0 aX1 (uZ rfl) cU (aA (pv 0) aB)))) aB))))),?_⟩
  refine⟨_,rfl,_,rfl,by rw[cC];exact aK (by omega),_,rfl,S x,rfl,fun Dd hD=>oZ (w:=x) (fun i H1=>Same H H1∧H1 Dd=some (.lst ((rks (x.take i)).map V.int))) ⟨Same.new hD,aC⟩ ?_ ?_⟩
  ·rintro i c H1 hc ⟨s1,e1⟩
   have hi:i<x.length:=(a8.mp hc).1
   have hcL:=hx c (b6 hc)
   refine⟨rfl,_,rfl,_,_,rfl,rfl,(Eg hcL).1,?_⟩
   rw[(Eg hcL).2]
   refine⟨_,e1,?_,s1.upd hD,?_⟩
   ·rw[b7,nV,i6];exact aN (by omega)
   ·rw[aC,bK hc];unfold rks;rw[d9,d9];rfl
  ·rintro H1 ⟨s1,e1⟩
   rw[i9] at e1
   refine⟨aK (by simp),fun p hp=>?_⟩
   rw[cC]
   exact k p Dd _ (s1.free hp) hD (s1.upd' hp) aC (by rw[aE (aI e1 hp)];exact e1)
theorem GI{f:Addr}{fd:FuncData}(D:Df K mg "_law_change_back" DP ["_law_change"] f fd)(T:Txt P w K mg JH JI JJ)(c_zs:Cl P w K mg base "_law_contrary" ["_law_letter"] 1 iX)(c_za1:Cl P w K mg base "_law_key" ["_law_word_here"] 1 Cq):Cl P w K mg base "_law_change_back" ["_law_change"] 4 Bn:=by
 obtain⟨f_za1,fd_za1,G_za1,m_za1,k_za1,b_za1⟩:=c_za1
 refine D.cl (D.F.ok sc_zh (fun vs H Q E h=>?_) (fun cdv A outer s H vs Q E hr h=>?_))
 ·obtain⟨n,p,c,sd,rfl,_⟩:=h
  rfl
 ·obtain⟨n,p,c,sd,rfl,h1,h4,⟨q,ep,eq⟩,g,hl8,k⟩:=h
  refine⟨_,(aD (fJ (pv 0) (jD (K:=K) rfl rfl (bZ (aX (i:=1) sc_zh.nd rfl (Or.inr rfl)) (bZ (aX (i:=2) sc_zh.nd rfl (Or.inl rfl)) gE))))
   (aD (aM (i:=3) sc_zh.nd rfl (Or.inl rfl) (bE EM (cY (sc0:=aH DP) (N:=["_law_change","_law_letter","_law_side","_law_other"]) (ix:=[1]) (by decide +kernel) rfl rfl rfl (jM (K:=K) rfl (pv 2)) (fun _ _ _=>vE (aR jB (pv 0) (pv 1) (aQ _))) (fun _ _ _=>(pv 0))) (dB (aA (pC c_zs hr (aA (pv 1) aB)) aB))))
   (aF (aT (cF (aA (pC c_zs hr (aA (pv 1) aB)) (aA (aW (cD (K:=K) rfl) (by rfl) T.b_tuple boot_tuple (aA (Bz (K:=K) rfl G_za1 (hr.mono (by decide)) b_za1 (by rfl) T.b_sorted (by rfl) m_za1 (aA (pv 3) aB)) aB)) aB))))))),?_⟩
  have hcL:=bA g.let'
  refine⟨_,rfl,p,_,rfl,.inr (SqT.of ep),rfl,_,_,rfl,_,_,rfl,rfl,?_⟩
  refine⟨_,rfl,q,rfl,⟨_,SqT.of eq⟩,fun Dd hD=>iA (xs:=bH sd) (fun i H2=>Same H H2∧H2 Dd=some (.lst (bH ((sd.take i).filter fun d=>decide (d≠c))))) ⟨Same.new hD,aC⟩ (fun i H2 _ h=>SqT.of (h.1 _ _ eq)) ?_ ?_⟩
  ·rintro i v H2 hv ⟨s2,eD⟩
   obtain⟨d,hd,rfl⟩:=Dx hv
   have hi:i<sd.length:=(a8.mp hd).1
   refine⟨_,rfl,_,rfl,rfl,_,rfl,?_⟩
   rw[fK]
   refine eK (fun z=>?_) (fun z=>?_)
   ·have z':d≠c:=by simpa using z
    refine⟨_,rfl,_,eD,?_,s2.upd hD,?_⟩
    ·rw[bG]
     have:=aQQ (fun d=>decide (d≠c)) (sd.take i)
     rw[i6] at this
     exact aN (by omega)
    ·rw[aC,bK hd,aXx,aXS (by simpa using z'),aZ4,cQ]
   ·have z':d=c:=by simpa using z
    refine⟨s2,?_⟩
    rw[bK hd,aXx,aXR (by simpa using z'),aZ4,m6]
    exact eD
  ·rintro H2 ⟨s2,eD⟩
   rw[bG,i9] at eD
   have hfl:(sd.filter fun d=>decide (d≠c)).length≤8:=j0 (aQQ _ _) hl8
   have hfm:∀ d∈(sd.filter fun d=>decide (d≠c))++[aU c],cR d:=fun d hd=>by
    rcases i5.mp hd with z | z
    ·exact bA (g.side d (z7.mp z).1)
    ·rw[c9.mp z];exact dM hcL
   have hss:=fun (ws:List (List Nat)) hp ho=>vP (ws:=ws) h1 h4 g hp ho
   generalize (sd.filter fun d=>decide (d≠c))=F at eD hfl hfm hss
   refine⟨_,rfl,c,rfl,hcL,fun H3 s3=>⟨aK (by simp),fun l hl=>?_⟩⟩
   have eD3:=s3 _ _ eD
   refine⟨Dd,l,_,_,rfl,rfl,by rw[aE (aI eD3 hl)];exact eD3,aC,aK (by rw[bG];simp;omega),fun L hL=>?_⟩
   have s4:Same H3 (upd (upd H3 l (.lst [.str (S [aU c])])) L (.lst (bH F++[.str (S [aU c])]))):=(Same.new hl).upd' hL
   have e4:upd (upd H3 l (.lst [.str (S [aU c])])) L (.lst (bH F++[.str (S [aU c])])) L=some (.lst (bI (mX (F++[aU c])))):=by rw[aC,qL,cQ]
   generalize upd (upd H3 l (.lst [.str (S [aU c])])) L (.lst (bH F++[.str (S [aU c])]))=H4 at s4 e4
   refine⟨_,rfl,c,rfl,hcL,fun H6 s6=>⟨_,rfl,?_⟩⟩
   have e6:=s6 _ _ e4
   obtain⟨l',xs',kz,Pv,el,a0,a1,a2,a3,a4,a5,a6,a7⟩:=CN (K:=K) (Q:=fun v H''=>∃ D ws',v=V.ref D∧H6 D=none∧Same H6 H''∧H'' D=some (.lst (bI ws'))∧ws'.Perm (mX (F++[aU c]))∧ws'.Pairwise BE) (SqL.of e6) (by unfold mX;rw[b7,b9];show F.length+1<64;omega) (fun y hy=>by
    obtain⟨d,hd,rfl⟩:=g9.mp hy
    exact⟨iC (hfm d hd),by simp⟩) (fun D ws' H' a b c d e=>⟨D,ws',rfl,a,b,c,d,e⟩)
   refine⟨l',xs',kz,Pv,el,a0,a1,a2,a3,a4,a5,a6,fun S' ks H5' hP=>?_⟩
   obtain⟨b1,b2,b3,b4⟩:=a7 S' ks H5' hP
   refine⟨b1,b2,b3,fun pp hpp so L2 hL2=>?_⟩
   obtain⟨L',ws,eL,_,s7,e7,hp7,ho7⟩:=b4 pp hpp so L2 hL2
   cases eL
   generalize upd (upd H5' S' (.lst [])) L2 (.lst (pp.toList.map fun i=>xs'.getD i .non))=H7 at s7 e7
   rw[hss ws hp7 ho7,qL] at e7
   have s17:Same H H7:=(((s2.trans s3).trans s4).trans s6).trans s7
   refine⟨L2,_,rfl,.inl ⟨SqL.of e7,fun t ht=>⟨aK (by simp),fun r hr=>k r _ ((s17.upd' ht).upd' hr) ⟨t,aC,?_⟩⟩⟩⟩
   rw[aE (aI (aC (H:=H7) (a:=t) (o:=HO.tup (bH (lQ c sd)))) hr)]
   exact aC
theorem HX{f:Addr}{fd:FuncData}(D:Df K mg "_law_alphabet" DL ["_law_flow_here","_law_n","_law_steps","_law_most"] f fd)(T:Txt P w K mg JH JI JJ)(c_z1:Cl P w K mg base "_law_pick" ["_law_flow_here","_law_many"] 1 iW)(c_z6:Cl P w K mg base "_law_then" ["_law_one","_law_other"] 4 (BI K))(c_z5:Cl P w K mg base "_law_same" ["_law_n"] 1 nH)(c_za:Cl P w K mg base "_law_drawn_change" ["_law_flow_here","_law_n"] 2 uH)(c_zg:Cl P w K mg base "_law_change_told" ["_law_n","_law_change"] 2 tS)(c_zh:Cl P w K mg base "_law_change_back" ["_law_change"] 4 Bn):Cl P w K mg base "_law_alphabet" ["_law_flow_here","_law_n","_law_steps","_law_most"] 5 BN:=by
 refine D.cl (D.F.ok sc_zq (fun vs H Q E h=>?_) (fun cdv A outer s H vs Q E hr h=>?_))
 ·obtain⟨fl,sc,n,mo,st,rfl,_⟩:=h
  rfl
 ·obtain⟨fl,sc,n,mo,st,rfl,f,h1,h4,m1,m8,s0,s9,k⟩:=h
  refine⟨_,(aD (B1 (i:=4) (j:=5) rfl sc_zq.nd rfl rfl (by decide) rfl rfl (aA (pC c_z5 hr (aA (pv 1) aB)) (aA (pC c_z5 hr (aA (pv 1) aB)) aB)) (by rfl))
   (aD (cV i7 rfl (eX (by rfl) T.b_range (aA (pC c_z1 hr (aA (pv 0) (aA (bE eP (pv 2) aG) aB))) aB)) (aX (i:=6) sc_zq.nd rfl (Or.inl rfl)) (aD (aM (i:=7) sc_zq.nd rfl (Or.inl rfl) (pC c_za hr (aA (pv 0) (aA (pv 1) aB))))
   (aD (aM (i:=8) sc_zq.nd rfl (Or.inl rfl) (pC c_z6 hr (aA (pv 4) (aA (pC c_zg hr (aA (pv 1) (aA (pv 7) aB))) aB))))
   (aD (aM (i:=9) sc_zq.nd rfl (Or.inl rfl) (pC c_z6 hr (aA (pC c_zg hr (aA (pv 1) (aA (pC c_zh hr (aA (pv 7) aB)) aB))) (aA (pv 5) aB))))
   (aF (dH (aR HI (aL (Ad (K:=K) rfl rfl) (by rfl) T.b_max boot_max (aA (cY (sc0:=aH DL) (N:=["_law_flow_here","_law_n","_law_steps","_law_most","_law_found","_law_back_here","_law_k","_law_change","_law_further","_law_further_back"]) (ix:=[]) (by decide +kernel) rfl rfl rfl (jM (K:=K) rfl (bE (BT (K:=K) rfl) (pv 8) (pv 9))) (fun _ _ _=>bX) (fun _ _ _=>(aL eU (by rfl) T.b_len j2 (aA (pv 0) aB)))) aB)) (pv 3) (aQ _)) (aF (B1 (i:=4) (j:=5) rfl sc_zq.nd rfl rfl (by decide) rfl rfl (aA (pv 8) (aA (pv 9) aB)) (by rfl))) bU))))))
   (aF (aT (cF (aA (pv 4) (aA (pv 5) aB))))))),?_⟩
  refine⟨_,rfl,n,rfl,h1,h4,fun p1 H1 hp1 s1 e1=>?_⟩
  refine⟨_,rfl,n,rfl,h1,h4,fun p2 H2 hp2 s2 e2=>?_⟩
  have f2:=(f.same s1).same s2
  have e12:=s2 _ _ e1
  have k02:Kp fl H H2:=(s1.trans s2).kp
  refine⟨_,_,rfl,_,rfl,_,rfl,_,_,rfl,rfl,fl,sc,_,rfl,f2,(by show (0:Int)<st+1;omega),(by show st+1<(1073741824:Int);omega),fun d H3 d0 d1 f3 k3=>⟨d,rfl,by omega,by have:d<st+1:=d1;omega,?_⟩⟩
  refine jS (lo:=0) (n:=d.toNat) (fun i σ G=>∃ (a b:Addr) (fd bk:List (List Nat)) (v6 v7 v8 v9:Option V),σ=[some (.ref fl),some (.int (n:Nat)),some (.int st),some (.int (mo:Nat)),some (.ref a),some (.ref b),v6,v7,v8,v9]∧AB G a fd∧AB G b bk∧IvG n fd bk mo mo∧IsFl G fl sc∧Kp fl H G) ?_ ?_ ?_
  ·exact⟨p1,p2,cW n,cW n,none,none,none,none,rfl,yI f2 k3 e12,yI f2 k3 e2,IvG.low h1 h4 mo mo m1 m1,f3,k02.trans k3⟩
  ·rintro i _ G hi ⟨a,b,fd,bk,v6,v7,v8,v9,rfl,ea,eb,iv,fG,kG⟩
   refine⟨_,rfl,_,rfl,fl,sc,n,rfl,fG,h1,h4,fun p c sd G2 hp gd hl8 ic fG2 kG2=>?_⟩
   have hcL:=bA gd.let'
   have hsL:∀ d∈sd,cR d:=fun d hd=>bA (gd.side d hd)
   have ic':=gd.back h1 h4
   obtain⟨r1,r2,r3,r4⟩:=D3 h1 h4 gd
   have ea2:=yI fG kG2 ea
   have eb2:=yI fG kG2 eb
   refine⟨_,rfl,_,rfl,_,rfl,n,p,c,sd,rfl,h1,h4,ic,hcL,hsL,fun t3 G3 ht3 s3 e3=>?_⟩
   refine⟨a,t3,fd,iO n c sd,n,mo,3,rfl,SqT.of (s3 _ _ ea2),SqT.of e3,iv.rt,r1.1,fun x hx=>(iv.ro x hx).1,h1,h4,by omega,by omega,by omega,fun pf G4 hpf s4 e4=>?_⟩
   have s24:=s3.trans s4
   refine⟨_,rfl,_,rfl,n,p,c,sd,rfl,h1,h4,ic.same s24,gd,hl8,fun q5 G5 s5 ic5=>?_⟩
   refine⟨n,q5,aU c,lQ c sd,rfl,h1,h4,ic5,dM hcL,fun d hd=>bA (ic'.side d hd),fun t6 G6 ht6 s6 e6=>?_⟩
   have s26:=(s24.trans s5).trans s6
   refine⟨_,rfl,t6,b,iO n (aU c) (lQ c sd),bk,n,3,mo,rfl,SqT.of e6,SqT.of (s26 _ _ eb2),r2.1,iv.bt,r2.2,h1,h4,by omega,by omega,by omega,fun pb G7 hpb s7 e7=>?_⟩
   have s27:=s26.trans s7
   have s47:=(s5.trans s6).trans s7
   have fG7:=fG2.same s27
   have kG7:Kp fl H G7:=(kG.trans kG2).trans s27.kp
   have iv2:=iv.comp h1 h4 r1 r2 r3 r4
   have e47:=s47 _ _ e4
   have nf:(bO fd (iO n c sd)).length=n:=iv2.rt.len
   have nb:(bO (iO n (aU c) (lQ c sd)) bk).length=n:=iv2.bt.len
   generalize bO fd (iO n c sd)=ff at e47 iv2 nf
   generalize bO (iO n (aU c) (lQ c sd)) bk=fb at e7 iv2 nb
   have lall:∀ x∈ff++fb,x.length≤24:=fun x hx=>by
    rcases i5.mp hx with z | z
    ·have:=iv2.rt.le x z;omega
    ·have:=iv2.bt.le x z;omega
   have nn:∀ {l:List (List Nat)},l.length=n→bI l≠[]:=fun {l} e z=>by
    have:=congrArg List.length z
    rw[aP,e] at this
    simp at this
    omega
   refine⟨_,rfl,_,rfl,pf,pb,_,_,rfl,rfl,SqT.of e47,SqT.of e7,nn nf,aK (by rw[aP,aP];omega),(fun z=>absurd z (nn nb)),fun _ pt hpt=>?_⟩
   have ec:bI ff++bI fb=bI (ff++fb):=by unfold bI;rw[d9]
   rw[ec]
   have s8:=Same.new (o:=HO.tup (bI (ff++fb))) hpt
   have e8:upd G7 pt (.tup (bI (ff++fb))) pt=some (.tup (bI (ff++fb))):=aC
   generalize upd G7 pt (.tup (bI (ff++fb)))=G8 at s8 e8
   refine⟨pt,rfl,⟨_,SqT.of e8⟩,fun Dd hD=>iA (K:=K) (a:=pt) (xs:=bI (ff++fb)) (fun i G9=>Same G8 G9∧G9 Dd=some (.lst ((((ff++fb).take i).map fun x=>((x.length:Nat):Int)).map V.int))) ⟨Same.new hD,aC⟩ (fun i G9 _ h=>SqT.of (h.1 _ _ e8)) ?_ ?_⟩
   ·rintro i v G9 hv ⟨s9,e9⟩
    obtain⟨x,hx,rfl⟩:=eQ hv
    have hxl:=lall x (b6 hx)
    have hil:=(a8.mp hx).1
    refine⟨_,rfl,S x,rfl,aK (by rw[cC];omega),_,e9,?_,s9.upd hD,?_⟩
    ·rw[b7,b7,i6]
     have:(ff++fb).length=n+n:=by rw[b9,nf,nb]
     exact aN (by omega)
    ·rw[aC,m4,hx,d9,d9,cC]
     rfl
   ·rintro G9 ⟨s9,e9⟩
    rw[aP,i9] at e9
    refine⟨Dd,_,rfl,SqL.of e9,by rw[b7,b9,nf];omega,fun mx hmx=>?_⟩
    refine⟨_,rfl,_,_,rfl,rfl,_,rfl,?_⟩
    have s79:=s8.trans s9
    have f9:=fG7.same s79
    have k9:Kp fl H G9:=kG7.trans s79.kp
    refine eK (fun e=>?_) (fun e=>?_)
    ·have e':mx≤((mo:Nat):Int):=of_decide_eq_true e
     obtain⟨x1,x2⟩:=Fy rfl hmx e'
     refine⟨_,rfl,_,rfl,_,_,rfl,pf,pb,ff,fb,_,_,_,_,rfl,s79 _ _ e47,s79 _ _ e7,iv2.le x1 x2,f9,k9⟩
    ·exact⟨a,b,fd,bk,_,_,_,_,rfl,s79 _ _ (s27 _ _ ea2),s79 _ _ (s27 _ _ eb2),iv,f9,k9⟩
  ·rintro _ G ⟨a,b,fd,bk,v6,v7,v8,v9,rfl,ea,eb,iv,fG,kG⟩
   refine⟨_,rfl,_,rfl,aK (by simp),fun t ht=>?_⟩
   have s5:=Same.new (o:=HO.tup [.ref a,.ref b]) ht
   exact k t a b fd bk _ aC (s5 _ _ ea) (s5 _ _ eb) iv (fG.upd ht) (kG.upd (kG.free ht (fG.ne ht)))
theorem Hd{f:Addr}{fd:FuncData}(D:Df K mg "_law_joined_ones" Fu ["_law_flow_here","_law_some","_law_many"] f fd)(T:Txt P w K mg JH JI JJ)(c_z1:Cl P w K mg base "_law_pick" ["_law_flow_here","_law_many"] 1 iW)(c_z8:Cl P w K mg base "_law_back" ["_law_word_here"] 2 oN)(c_z9:Cl P w K mg base "_law_laid" ["_law_text"] 2 rG):Cl P w K mg base "_law_joined_ones" ["_law_flow_here","_law_some","_law_many"] 3 Ei:=by
 refine D.cl (D.F.ok sc_zf (fun vs H Q E h=>?_) (fun cdv A outer s H vs Q E hr h=>?_))
 ·obtain⟨fl,sc,a,rs,n,m,M,rfl,_⟩:=h
  rfl
 ·obtain⟨fl,sc,a,rs,n,m,M,rfl,f,ea,haf,h1,h4,hrl,hrs,hm,hM,k⟩:=h
  refine⟨_,(aD (aM (i:=3) sc_zf.nd rfl (Or.inl rfl) cU)
   (aD (cV i7 rfl (eX (by rfl) T.b_range (aA (bE iD (pv 2) (aW gS (by rfl) T.b_int boot_int (aA (dD mV (aL (bB (K:=K) rfl) (by rfl) T.b_len j2 (aA (pv 1) aB)) aG (aQ _)) aB))) aB)) (aX (i:=4) sc_zf.nd rfl (Or.inl rfl)) (aD (aM (i:=5) sc_zf.nd rfl (Or.inl rfl) (aV (aO (K:=K) rfl) (pv 1) (pC c_z1 hr (aA (pv 0) (aA (aL (bB (K:=K) rfl) (by rfl) T.b_len j2 (aA (pv 1) aB)) aB))) (fun _ _=>rfl)))
   (aF (aM (i:=3) sc_zf.nd rfl (Or.inl rfl) (bE dP (pv 3) (aV (aO (K:=K) rfl) (dB (aA (pv 5) (aA (pC c_z8 hr (aA (pv 5) aB)) aB))) (pC c_z1 hr (aA (pv 0) (aA aG aB))) (fun _ _=>rfl)))))))
   (aF (aT (pC c_z9 hr (aA (pv 3) aB)))))),?_⟩
  obtain⟨b,hb,hb1,hb2⟩:∃ b:Nat,(if decide ((0:Int)<(((bI rs).length:Nat):Int))=true then (1:Int) else 0)=((b:Nat):Int)∧b≤1∧(b=1→0<rs.length):=by
   rw[aP]
   by_cases z:0<rs.length
   ·exact⟨1,by rw[decide_eq_true (by omega)];rfl,by omega,fun _=>z⟩
   ·exact⟨0,by rw[decide_eq_false (by omega)];rfl,by omega,fun z=>by omega⟩
  refine⟨_,rfl,_,rfl,a,_,rfl,.inl (SqL.of ea),_,_,rfl,rfl,.inr ⟨_,rfl,?_⟩⟩
  rw[hb]
  have hmb:((m:Nat):Int) * ((b:Nat):Int)=((m * b:Nat):Int):=by simp
  have hmb5:m * b≤m:=by
   have:b=0∨b=1:=by omega
   rcases this with rfl | rfl <;> omega
  have hx1:∀ x∈rs,x.length≤M:=fun x hx=>(hrs x hx).2
  have hx2:∀ x∈rs,OfN n x:=fun x hx=>(hrs x hx).1
  refine⟨_,_,rfl,rfl,.inl ⟨by omega,by omega⟩,((m * b:Nat):Int),by rw[← hmb],by omega,by omega,?_⟩
  have e0:Str.ofString ""=S ([]:List (List Nat)).flatten:=qY
  refine jS (lo:=0) (n:=(((m * b:Nat):Int)).toNat) (fun i σ G=>∃ (us:List (List Nat)) (v4 v5:Option V),σ=[some (.ref fl),some (.ref a),some (.int (m:Nat)),some (.str (S us.flatten)),v4,v5]∧(∀ u∈us,∃ v∈rs,u=v∨u=back v)∧us.length=i∧IsFl G fl sc∧Kp fl H G) ⟨[],none,none,by rw[← e0];rfl,fun u hu=>by (cases hu),rfl,f,Kp.refl _ _⟩ ?_ ?_
  ·rintro i _ G hi ⟨us,v4,v5,rfl,hus,hul,fG,kG⟩
   have hb':b=1:=by
    have:b=0∨b=1:=by omega
    rcases this with rfl | rfl
    ·simp at hi
    ·rfl
   have hpos:=hb2 hb'
   have hi5:i<5:=by
    have:(((m * b:Nat):Int)).toNat=m * b:=by omega
    omega
   have ul:=tP hx1 hus
   have ul2:us.length * M≤5 * 100:=aQX (by omega) hM
   have eaG:=kG _ _ ea haf
   refine⟨_,rfl,_,rfl,_,rfl,a,_,rfl,.inl (SqL.of eaG),fl,sc,_,rfl,fG,by rw[aP];omega,by rw[aP];omega,fun g G2 g0 g1 f2 k2=>?_⟩
   rw[aP] at g1
   obtain⟨x,hx⟩:∃ x,rs[g.toNat]?=some x:=⟨_,a9 (by omega)⟩
   have hxm:=b6 hx
   obtain⟨xO,xl⟩:=hrs x hxm
   refine⟨a,_,g,.str (S x),rfl,rfl,SqL.of (k2 _ _ eaG haf),kP g0 (kQ hx),?_⟩
   refine⟨_,rfl,_,rfl,_,rfl,x,rfl,xO.all,by omega,fun G3 s3=>⟨aK (by simp),fun q hq=>?_⟩⟩
   have f3:=f2.same s3
   refine⟨_,rfl,fl,sc,2,rfl,f3.upd hq,by decide,by decide,fun e G4 e0 e1 f4 k4=>?_⟩
   obtain⟨y,hy,hyx⟩:∃ y,wJ [V.str (S x),V.str (S (back x))] e=some (.str (S y))∧(y=x∨y=back x):=by
    have:e=0∨e=1:=by omega
    rcases this with rfl | rfl
    ·exact⟨x,rfl,.inl rfl⟩
    ·exact⟨back x,rfl,.inr rfl⟩
   have hyl:y.length≤M:=by
    rcases hyx with rfl | rfl
    ·exact xl
    ·rw[bY];exact xl
   have hqf:q≠fl:=f3.ne hq
   have eq4:=k4 _ _ (aC (H:=G3) (a:=q) (o:=HO.lst [.str (S x),.str (S (back x))])) hqf
   refine⟨q,_,_,_,rfl,rfl,SqL.of eq4,hy,_,_,rfl,rfl,by rw[cC,cC];exact aK (by omega),?_⟩
   rw[jZ]
   have hq2:G2 q=none:=s3.free hq
   refine⟨us++[y],_,_,by rw[List.flatten_append,List.flatten_singleton];rfl,fun u hu=>?_,by rw[b9,hul];rfl,f4,?_⟩
   ·rcases i5.mp hu with z | z
    ·exact hus u z
    ·rw[c9.mp z];exact⟨x,hxm,hyx⟩
   ·exact((kG.trans k2).trans (s3.upd' hq).kp).trans k4
  ·rintro _ G ⟨us,v4,v5,rfl,hus,hul,fG,kG⟩
   have ul:=tP hx1 hus
   have hum:us.length≤m:=by omega
   have ul2:us.length * M≤m * M:=aQX hum (b5 _)
   have ul3:m * M≤5 * 100:=aQX hm hM
   have uO:=Ds (n:=(n:Nat)) (by omega) (by omega) hx2 hus
   have:=gG us.flatten
   exact⟨_,rfl,us.flatten,rfl,uO.all,by omega,fun G2 s2=>k _ G2 uO.lay (fP _) (by omega) ⟨us,hus,rfl⟩ (fG.same s2) (kG.trans s2.kp)⟩
theorem Hv{f:Addr}{fd:FuncData}(D:Df K mg "_law_some_words" Ac ["_law_flow_here","_law_n","_law_most","_law_letters_here"] f fd)(T:Txt P w K mg JH JI JJ)(c_z1:Cl P w K mg base "_law_pick" ["_law_flow_here","_law_many"] 1 iW)(c_z8:Cl P w K mg base "_law_back" ["_law_word_here"] 2 oN)(c_z9:Cl P w K mg base "_law_laid" ["_law_text"] 2 rG)(c_z3:Cl P w K mg base "_law_word" ["_law_flow_here","_law_n","_law_most"] 2 BK)(c_zq:Cl P w K mg base "_law_alphabet" ["_law_flow_here","_law_n","_law_steps","_law_most"] 5 BN)(c_zf:Cl P w K mg base "_law_joined_ones" ["_law_flow_here","_law_some","_law_many"] 3 Ei):Cl P w K mg base "_law_some_words" ["_law_flow_here","_law_n","_law_most","_law_letters_here"] 6 zK:=by
 refine D.cl (D.F.ok sc_zi (fun vs H Q E h=>?_) (fun cdv A outer s H vs Q E hr h=>?_))
 ·obtain⟨fl,sc,n,most,lt,rfl,_⟩:=h
  rfl
 ·obtain⟨fl,sc,n,most,lt,rfl,f,h1,h4,k⟩:=h
  refine⟨_,(aD (hJ (i:=4) (sc0:=aH Ac) (N:=["_law_flow_here","_law_n","_law_most","_law_letters_here","_law_base","_law_found","_law_k","_law_g"]) (ix:=[0,1]) sc_zi.nd rfl rfl (by decide +kernel) rfl rfl rfl (eX (by rfl) T.b_range (aA (pC c_z1 hr (aA (pv 0) (aA aG aB))) aB)) (fun _ _ _=>bX) (fun _ _ _=>(pC c_z3 hr (aA (pv 1) (aA (pv 2) (aA (aV (aO (K:=K) rfl) (dB (aA aG (aA aG (aA aG aB)))) (pC c_z1 hr (aA (pv 1) (aA aG aB))) (fun _ _=>rfl)) aB))))))
   (iL (dH (aR eR (pC c_z1 hr (aA (pv 0) (aA aG aB))) aG (aQ _)) (aF (aM (i:=4) sc_zi.nd rfl (Or.inl rfl) (aW (fQ (K:=K) rfl) (by rfl) T.b_list boot_list (aA (aV (cH (K:=K) rfl) (pC c_zq hr (aA (pv 0) (aA (pv 1) (aA aG (aA aG aB))))) aG (fun _ _=>rfl)) aB)))) bU)
   (aD (aM (i:=5) sc_zi.nd rfl (Or.inl rfl) (aW (fQ (K:=K) rfl) (by rfl) T.b_list boot_list (aA (pv 4) aB)))
   (aD (cV i7 rfl (eX (by rfl) T.b_range (aA (pC c_z1 hr (aA (pv 0) (aA aG aB))) aB)) (aX (i:=6) sc_zi.nd rfl (Or.inl rfl)) (aF (bM (cK (K:=K) rfl i0 j4 j5 bR (pv 5) (aA (pC c_zf hr (aA (pv 0) (aA (pv 4) (aA (bE eP aG (pC c_z1 hr (aA (pv 0) (aA aG aB)))) aB)))) aB)))))
   (iL (dH (aR eR (pC c_z1 hr (aA (pv 0) (aA aG aB))) aG (aQ _)) (aD (aM (i:=7) sc_zi.nd rfl (Or.inr rfl) (pC c_z3 hr (aA (pv 0) (aA (pv 1) (aA aG aB)))))
   (aF (hJ (i:=5) (sc0:=aH Ac) (N:=["_law_flow_here","_law_n","_law_most","_law_letters_here","_law_base","_law_found","_law_k","_law_g"]) (ix:=[7]) sc_zi.nd rfl rfl (by decide +kernel) rfl rfl rfl (cG (K:=K) rfl (pv 5)) (fun _ _ _=>bX) (fun _ _ _=>(pC c_z9 hr (aA (bE dP (bE dP (pv 1) (pv 0)) (pC c_z8 hr (aA (pv 1) aB))) aB)))))) bU)
   (aD (fW i7 (PW.pt (pw_or (aR mV (aL (bB (K:=K) rfl) (by rfl) T.b_len j2 (aA (pv 5) aB)) (pv 2) (aQ _)) (pw_or1 (aR mV (aL (Ak (K:=K) rfl rfl) (by rfl) T.b_sum boot_sum (aA (cY (sc0:=aH Ac) (N:=["_law_flow_here","_law_n","_law_most","_law_letters_here","_law_base","_law_found","_law_k","_law_g"]) (ix:=[]) (by decide +kernel) rfl rfl rfl (cG (K:=K) rfl (pv 5)) (fun _ _ _=>bX) (fun _ _ _=>(aL eU (by rfl) T.b_len j2 (aA (pv 0) aB)))) aB)) (pv 3) (aQ _))))) (aF (bM (cK (K:=K) rfl i0 y1 y2 oG (pv 5) (aA (pC c_z1 hr (aA (pv 0) (aA (aL (bB (K:=K) rfl) (by rfl) T.b_len j2 (aA (pv 5) aB)) aB))) aB)))))
   (aF (aT (pv 5))))))))),?_⟩
  refine⟨_,rfl,fl,sc,4,rfl,f,by decide,by decide,fun d0 H1 d00 d01 f1 k1=>⟨d0,rfl,by omega,by omega,fun D0 hD0=>?_⟩⟩
  have hD0f:D0≠fl:=f1.ne hD0
  have hD0s:D0≠sc:=f1.ne2 hD0
  have hD0H:H D0=none:=k1.free hD0 hD0f
  refine kD (lo:=0) (n:=d0.toNat) (fun i G=>∃ bs,G D0=some (.lst (bI bs))∧bs.length=i∧(∀ x∈bs,OfN n x∧cP x∧x.length≤13)∧IsFl G fl sc∧Kp fl H G) ⟨[],aC,rfl,fun x hx=>by (cases hx),f1.upd hD0,k1.upd hD0H⟩ ?_ ?_
  ·rintro i G hi ⟨bs,eb,hbl,hbs,fG,kG⟩
   refine⟨_,rfl,_,rfl,aK (by simp),fun q hq=>?_⟩
   refine⟨_,rfl,fl,sc,3,rfl,fG.upd hq,by decide,by decide,fun e G2 e0 e1 f2 k2=>?_⟩
   obtain⟨c,hc,hc13⟩:∃ c:Nat,wJ [V.int 4,V.int 7,V.int 13] e=some (.int (c:Nat))∧c≤13:=by
    have:e=0∨e=1∨e=2:=by omega
    rcases this with rfl | rfl | rfl
    ·exact⟨4,rfl,by decide⟩
    ·exact⟨7,rfl,by decide⟩
    ·exact⟨13,rfl,by decide⟩
   have hqf:q≠fl:=fG.ne hq
   have eq2:=k2 _ _ (aC (H:=G) (a:=q) (o:=HO.lst [.int 4,.int 7,.int 13])) hqf
   refine⟨q,_,_,_,rfl,rfl,SqL.of eq2,hc,fl,sc,(n:Nat),(c:Nat),rfl,f2,by omega,by omega,by omega,by omega,fun w G3 wO wP wl f3 k3=>?_⟩
   have kq:Kp fl G G3:=((Same.new hq).kp.trans k2).trans k3
   refine⟨_,kq _ _ eb hD0f,by rw[aP];exact aN (by omega),bs++[w],by rw[aC,lF],by rw[b9,hbl];rfl,fun x hx=>?_,f3.set hD0f hD0s,(kG.trans kq).upd hD0H⟩
   rcases i5.mp hx with z | z
   ·exact hbs x z
   ·rw[c9.mp z];exact⟨wO,wP,by omega⟩
  rintro G ⟨bs,eb,hbl,hbs,fG,kG⟩
  refine⟨fun σ G=>∃ (b:Addr) (bs:List (List Nat)),σ=[some (.ref fl),some (.int (n:Nat)),some (.int (most:Nat)),some (.int (lt:Nat)),some (.ref b),none,none,none]∧G b=some (.lst (bI bs))∧H b=none∧b≠fl∧b≠sc∧bs.length≤4∧(∀ x∈bs,OfN n x∧cP x∧x.length≤13)∧IsFl G fl sc∧Kp fl H G,?_,?_⟩
  ·refine⟨_,rfl,fl,sc,4,rfl,fG,by decide,by decide,fun e G2 e0 e1 f2 k2=>⟨rfl,_,rfl,eK (fun z=>?_) (fun z=>?_)⟩⟩
   ·refine⟨_,rfl,_,rfl,fl,sc,n,5,4,rfl,f2,h1,h4,by decide,by decide,by decide,by decide,fun p a b fw fb G3 ep ea _ iv f3 k3=>⟨p,_,0,.ref a,rfl,rfl,SqT.of ep,rfl,a,_,rfl,.inr (SqT.of ea),fun l hl=>?_⟩⟩
    have hlf:=f3.ne hl
    refine⟨l,fw,rfl,aC,((kG.trans k2).trans k3).free hl hlf,hlf,f3.ne2 hl,by rw[iv.rt.len];exact h4,fun x hx=>?_,f3.upd hl,((kG.trans k2).trans k3).trans (Same.new hl).kp⟩
    obtain⟨xo,xl⟩:=iv.ro x hx
    have:=iv.rt.le x hx
    exact⟨xo,by rw[← xl];exact fP x,by omega⟩
   ·exact⟨D0,bs,rfl,k2 _ _ eb hD0f,hD0H,hD0f,hD0s,by omega,hbs,f2,kG.trans k2⟩
  clear hD0 hD0f hD0s hD0H eb hbl hbs fG kG f1 k1
  rintro _ G1 ⟨b,bs,rfl,eb,hbH,hbf,hbs',hbl,hbs,f1,k1⟩
  refine⟨_,rfl,b,_,rfl,.inl (SqL.of eb),fun l hl=>?_⟩
  have hlf:=f1.ne hl
  have hls:=f1.ne2 hl
  have hlH:=k1.free hl hlf
  have hlb:b≠l:=aI eb hl
  have f2:=f1.upd (o:=HO.lst (bI bs)) hl
  have k2:Kp fl H (upd G1 l (.lst (bI bs))):=k1.trans (Same.new hl).kp
  have el2:upd G1 l (.lst (bI bs)) l=some (.lst (bI bs)):=aC
  have eb2:upd G1 l (.lst (bI bs)) b=some (.lst (bI bs)):=by rw[aE hlb];exact eb
  show mZ _ _ _ _ (upd G1 l (.lst (bI bs)))
  generalize upd G1 l (.lst (bI bs))=G2 at f2 k2 el2 eb2
  refine⟨_,rfl,fl,sc,5,rfl,f2,by decide,by decide,fun d G3 d0 d1 f3 k3=>⟨d,rfl,by omega,by omega,jS (lo:=0) (n:=d.toNat) (fun i σ G=>∃ (v6:Option V) (fs:List (List Nat)),σ=[some (.ref fl),some (.int (n:Nat)),some (.int (most:Nat)),some (.int (lt:Nat)),some (.ref b),some (.ref l),v6,none]∧G b=some (.lst (bI bs))∧G l=some (.lst (bI fs))∧fs.length=bs.length+i∧(∀ x∈fs,OfN n x∧cP x∧x.length≤39)∧IsFl G fl sc∧Kp fl H G) ⟨none,bs,rfl,k3 _ _ eb2 hbf,k3 _ _ el2 hlf,rfl,fun x hx=>(by obtain⟨a,b,c⟩:=hbs x hx;exact⟨a,b,by omega⟩),f3,k2.trans k3⟩ ?_ ?_⟩⟩
  ·rintro i _ G hi ⟨v6,fs,rfl,ebG,elG,hfl,hfs,fG,kG⟩
   refine⟨_,rfl,.inl ⟨rfl,_,SqL.of elG⟩,_,rfl,_,rfl,_,rfl,fl,sc,3,rfl,fG,by decide,by decide,fun e G4 e0 e1 f4 k4=>?_⟩
   obtain⟨m,hm⟩:∃ m:Nat,1+e=(m:Int):=⟨(1+e).toNat,by omega⟩
   refine⟨_,_,rfl,rfl,fl,sc,b,bs,n,m,13,by show [V.ref fl,V.ref b,V.int (1+e)]=_;rw[hm],f4,k4 _ _ ebG hbf,hbf,h1,h4,by omega,fun x hx=>⟨(hbs x hx).1,(hbs x hx).2.2⟩,by omega,by decide,fun w G5 wO wP wl _ f5 k5=>?_⟩
   have k45:=k4.trans k5
   have el5:=k45 _ _ elG hlf
   have wl:w.length≤39:=by
    have:m * 13≤3 * 13:=aQX (by omega) (b5 _)
    omega
   refine⟨l,_,_,rfl,rfl,el5,by rw[aP];exact aN (by omega),_,fs++[w],rfl,by rw[aE hlb];exact k45 _ _ ebG hbf,by rw[aC,lF],by rw[b9,hfl];rfl,fun x hx=>?_,f5.set hlf hls,(kG.trans k45).upd hlH⟩
   rcases i5.mp hx with z | z
   ·exact hfs x z
   ·rw[c9.mp z];exact⟨wO,wP,wl⟩
  clear f1 k1 eb hl f2 k2 el2 eb2 k3 f3
  rintro _ G3 ⟨v6,fs,rfl,ebG,elG,hfl,hfs,fG,kG⟩
  refine⟨fun σ G=>∃ (v7:Option V) (l:Addr) (fs:List (List Nat)),σ=[some (.ref fl),some (.int (n:Nat)),some (.int (most:Nat)),some (.int (lt:Nat)),some (.ref b),some (.ref l),v6,v7]∧G l=some (.lst (bI fs))∧H l=none∧l≠fl∧l≠sc∧fs.length≤8∧(∀ x∈fs,OfN n x∧cP x∧x.length≤45)∧IsFl G fl sc∧Kp fl H G,?_,?_⟩
  ·refine⟨_,rfl,fl,sc,3,rfl,fG,by decide,by decide,fun e G4 e0 e1 f4 k4=>⟨rfl,_,rfl,eK (fun z=>?_) (fun z=>?_)⟩⟩
   ·refine⟨_,rfl,_,rfl,fl,sc,(n:Nat),3,rfl,f4,by omega,by omega,by decide,by decide,fun g G5 gO gP gl f5 k5=>?_⟩
    have el5:=(k4.trans k5) _ _ elG hlf
    have k5:=(kG.trans k4).trans k5
    refine⟨_,rfl,l,rfl,⟨_,SqL.of el5⟩,fun Dd hD=>eE (K:=K) (a:=l) (xs:=bI fs) (fun i G=>∃ gs,Same G5 G∧G Dd=some (.lst (bI gs))∧gs.length=i∧∀ x∈gs,OfN n x∧cP x∧x.length≤45) ⟨[],Same.new hD,aC,rfl,fun x hx=>by (cases hx)⟩ (fun i G _ ⟨_,s,_⟩=>SqL.of (s _ _ el5)) ?_ ?_⟩
    ·rintro i v G hv ⟨gs,sG,eG,hgl,hgs⟩
     obtain⟨x,hx,rfl⟩:=eQ hv
     obtain⟨xO,xP,xl⟩:=hfs x (b6 hx)
     have hil:=(a8.mp hx).1
     refine⟨_,rfl,_,rfl,_,_,rfl,rfl,by rw[cC,cC];exact aK (by omega),?_⟩
     rw[jZ]
     refine⟨_,rfl,g,rfl,gO.all,by omega,fun G6 s6=>?_⟩
     have wO:OfN n (g++x++back g):=(gO.app xO).app (gO.back (by omega) (by omega))
     have wl:(g++x++back g).length≤45:=by rw[b9,b9,bY];omega
     refine⟨_,_,rfl,rfl,by rw[cC,cC,b9,bY];exact aK (by omega),g++x++back g,by rw[jZ];rfl,wO.all,by omega,fun G7 s7=>⟨_,s7 _ _ (s6 _ _ eG),by rw[aP];exact aN (by omega),gs++[lay (g++x++back g)],((sG.trans s6).trans s7).upd hD,by rw[aC,lF],by rw[b9,hgl];rfl,fun y hy=>?_⟩⟩
     rcases i5.mp hy with z | z
     ·exact hgs y z
     ·rw[c9.mp z]
      have:=gG (g++x++back g)
      exact⟨wO.lay,fP _,by omega⟩
    ·rintro G ⟨gs,sG,eG,hgl,hgs⟩
     rw[aP] at hgl
     have hDf:=f5.ne hD
     exact⟨_,Dd,gs,rfl,eG,k5.free hD hDf,hDf,f5.ne2 hD,by omega,hgs,f5.same sG,k5.trans sG.kp⟩
   ·exact⟨_,l,fs,rfl,k4 _ _ elG hlf,hlH,hlf,hls,by omega,fun x hx=>(by obtain⟨a,b,c⟩:=hfs x hx;exact⟨a,b,by omega⟩),f4,kG.trans k4⟩
  clear hlf hls hlH hlb ebG elG hfl hfs fG kG
  clear l
  rintro _ G4 ⟨v7,l,fs,rfl,el,hlH,hlf,hls,hfl,hfs,f4,k4⟩
  refine⟨fun m σ G=>∃ (fs:List (List Nat)),m=fs.length∧σ=[some (.ref fl),some (.int (n:Nat)),some (.int (most:Nat)),some (.int (lt:Nat)),some (.ref b),some (.ref l),v6,v7]∧G l=some (.lst (bI fs))∧fs.length≤8∧(∀ x∈fs,OfN n x∧cP x∧x.length≤45)∧IsFl G fl sc∧Kp fl H G,⟨_,fs,rfl,rfl,el,hfl,hfs,f4,k4⟩,?_⟩
  clear el hfl hfs f4 k4
  rintro m _ G ⟨fs,rfl,rfl,el,hfl,hfs,fG,kG⟩
  refine⟨_,rfl,l,_,rfl,.inl (SqL.of el),_,rfl,_,_,rfl,rfl,_,rfl,?_⟩
  have popd:∀ (g:Int),0≤g→g<(((bI fs).length:Nat):Int)→∃ x,fs[g.toNat]?=some x∧(fs.eraseIdx g.toNat).length<fs.length∧(fs.eraseIdx g.toNat).length≤8∧(∀ x∈fs.eraseIdx g.toNat,OfN n x∧cP x∧x.length≤45)∧seqIndex? g (bI fs).length=some g.toNat:=fun g g0 g1=>by
   rw[aP] at g1
   refine⟨_,a9 (by omega),by rw[aQk,if_pos (by omega)];omega,by rw[aQk,if_pos (by omega)];omega,fun x hx=>hfs x (List.mem_of_mem_eraseIdx hx),?_⟩
   rw[aP]
   exact aQI g0 (by omega)
  refine eK (fun z=>?_) (fun z=>?_)
  case' refine_2 =>
   refine⟨_,rfl,l,rfl,⟨_,SqL.of el⟩,fun Dd hD=>eE (K:=K) (a:=l) (xs:=bI fs) (fun i G'=>Same G G'∧G' Dd=some (.lst (((fs.take i).map fun x=>((x.length:Nat):Int)).map V.int))) ⟨Same.new hD,aC⟩ (fun i G' _ h=>SqL.of (h.1 _ _ el)) ?_ ?_⟩
   ·rintro i v G9 hv ⟨s9,e9⟩
    obtain⟨x,hx,rfl⟩:=eQ hv
    have hxl:=(hfs x (b6 hx)).2.2
    have hil:=(a8.mp hx).1
    refine⟨_,rfl,S x,rfl,aK (by rw[cC];omega),_,e9,?_,s9.upd hD,?_⟩
    ·rw[b7,b7,i6];exact aN (by omega)
    ·rw[aC,m4,hx,d9,d9,cC];rfl
   rintro G9 ⟨s9,e9⟩
   rw[aP,i9] at e9
   refine⟨Dd,_,rfl,SqL.of e9,_,rfl,_,_,rfl,rfl,_,rfl,?_⟩
   rw[vQ]
   have el9:=s9 _ _ el
   have fG9:=fG.same s9
   have kG9:=kG.trans s9.kp
   clear el fG kG
   refine eK (fun z2=>?_) (fun z2=>?_)
   rotate_left
   ·have a1:¬ (((most:Nat):Int)<(((bI fs).length:Nat):Int)):=fun y=>z (decide_eq_true y)
    have a2:¬ (((lt:Nat):Int)<(((fs.map List.length).sum:Nat):Int)):=fun y=>z2 (decide_eq_true y)
    rw[aP] at a1
    exact⟨_,rfl,k l fs G9 hlH el9 ⟨by omega,by omega,fun x hx=>⟨(hfs x hx).1,(hfs x hx).2.1⟩⟩ fG9 kG9⟩
   have hpos:0<fs.length:=by
    have a2:(((lt:Nat):Int)<(((fs.map List.length).sum:Nat):Int)):=of_decide_eq_true z2
    cases fs with
    | nil=>simp at a2;omega
    | cons _ _=>simp
  case' refine_1 =>
   have hpos:0<fs.length:=by
    have a1:(((most:Nat):Int)<(((bI fs).length:Nat):Int)):=of_decide_eq_true z
    rw[aP] at a1
    omega
   have el9:=el
   have fG9:=fG
   have kG9:=kG
  all_goals
   refine⟨fun σ' G'=>∃ (fs':List (List Nat)),fs'.length<fs.length∧σ'=[some (.ref fl),some (.int (n:Nat)),some (.int (most:Nat)),some (.int (lt:Nat)),some (.ref b),some (.ref l),v6,v7]∧G' l=some (.lst (bI fs'))∧fs'.length≤8∧(∀ x∈fs',OfN n x∧cP x∧x.length≤45)∧IsFl G' fl sc∧Kp fl H G',fun σ' G' ⟨fs',h,e⟩=>⟨_,h,fs',rfl,e⟩,?_⟩
   refine⟨_,rfl,.inl ⟨rfl,_,SqL.of el9⟩,_,rfl,_,rfl,l,_,rfl,.inl (SqL.of el9),fl,sc,_,rfl,fG9,by rw[aP];omega,by rw[aP];omega,fun g G2 g0 g1 f2 k2=>?_⟩
   obtain⟨x,hx,p1,p2,p3,p4⟩:=popd g g0 g1
   rw[aP] at g1
   refine⟨l,_,g,g.toNat,.str (S x),rfl,rfl,k2 _ _ el9 hlf,by omega,by omega,p4,kQ hx,?_⟩
   rw[mI]
   exact⟨_,p1,rfl,aC,p2,p3,f2.set hlf hls,(kG9.trans k2).upd hlH⟩
theorem GT{f:Addr}{fd:FuncData}(D:Df K mg "_law_shuffled" EQ ["_law_flow_here","_law_things"] f fd)(T:Txt P w K mg JH JI JJ)(c_z1:Cl P w K mg base "_law_pick" ["_law_flow_here","_law_many"] 1 iW):Cl P w K mg base "_law_shuffled" ["_law_flow_here","_law_things"] 2 zU:=by
 refine D.cl (D.F.ok sc_zt (fun vs H Q E h=>?_) (fun cdv A outer s H vs Q E hr h=>?_))
 ·obtain⟨fl,sc,a,rs,rfl,_⟩:=h
  rfl
 ·obtain⟨fl,sc,a,rs,rfl,f,ea,hl,haf,k⟩:=h
  refine⟨_,(aD (aM (i:=2) sc_zt.nd rfl (Or.inl rfl) (aW (fQ (K:=K) rfl) (by rfl) T.b_list boot_list (aA (pv 1) aB)))
   (aD (aM (i:=3) sc_zt.nd rfl (Or.inl rfl) (dB aB))
   (aD (fW i7 (aR mV (aL (bB (K:=K) rfl) (by rfl) T.b_len j2 (aA (pv 2) aB)) aG (aQ _)) (aF (bM (cK (K:=K) rfl i0 j4 j5 bR (pv 3) (aA (cK (K:=K) rfl i0 y1 y2 oG (pv 2) (aA (pC c_z1 hr (aA (pv 0) (aA (aL (bB (K:=K) rfl) (by rfl) T.b_len j2 (aA (pv 2) aB)) aB))) aB)) aB)))))
   (aF (aT (pv 3)))))),?_⟩
  refine⟨_,rfl,a,_,rfl,.inl (SqL.of ea),fun l hl0=>?_⟩
  have hlf:=f.ne hl0
  have hls:=f.ne2 hl0
  have el:upd H l (.lst (bI rs)) l=some (.lst (bI rs)):=aC
  have f1:=f.upd (o:=HO.lst (bI rs)) hl0
  have k1:Kp fl H (upd H l (.lst (bI rs))):=(Same.new hl0).kp
  show mZ _ _ _ _ (upd H l (.lst (bI rs)))
  generalize upd H l (.lst (bI rs))=H1 at el f1 k1
  refine⟨aK (by simp),fun fd hfd=>?_⟩
  have hff:=f1.ne hfd
  have hfs:=f1.ne2 hfd
  have hfd0:H fd=none:=k1.free hfd hff
  have hlfd:l≠fd:=aI el hfd
  have f2:=f1.upd (o:=HO.lst []) hfd
  have k2:Kp fl H (upd H1 fd (.lst [])):=k1.trans (Same.new hfd).kp
  have ef:upd H1 fd (.lst []) fd=some (.lst (bI [])):=aC
  have el2:upd H1 fd (.lst []) l=some (.lst (bI rs)):=by rw[aE hlfd];exact el
  show mZ _ _ _ _ (upd H1 fd (.lst []))
  generalize upd H1 fd (.lst [])=H2 at f2 k2 ef el2
  refine⟨fun m σ G=>∃ (ls fs:List (List Nat)),m=ls.length∧σ=[some (.ref fl),some (.ref a),some (.ref l),some (.ref fd)]∧G l=some (.lst (bI ls))∧G fd=some (.lst (bI fs))∧(fs++ls).Perm rs∧IsFl G fl sc∧Kp fl H G,⟨_,rs,[],rfl,rfl,el2,ef,aZ8 _,f2,k2⟩,?_⟩
  rintro m _ G ⟨ls,fs,rfl,rfl,elG,efG,hp,fG,kG⟩
  have hpl:=hp.length_eq
  rw[b9] at hpl
  refine⟨_,rfl,l,_,rfl,.inl (SqL.of elG),_,_,rfl,rfl,_,rfl,eK (fun z=>?_) (fun z=>?_)⟩
  ·have hpos:0<ls.length:=by
    have:=of_decide_eq_true z
    rw[aP] at this
    omega
   refine⟨fun σ G'=>∃ (ls' fs:List (List Nat)),ls'.length<ls.length∧σ=[some (.ref fl),some (.ref a),some (.ref l),some (.ref fd)]∧G' l=some (.lst (bI ls'))∧G' fd=some (.lst (bI fs))∧(fs++ls').Perm rs∧IsFl G' fl sc∧Kp fl H G',fun σ' G' ⟨ls',fs',h,e⟩=>⟨_,h,ls',fs',rfl,e⟩,?_⟩
   refine⟨_,rfl,.inl ⟨rfl,_,SqL.of efG⟩,_,rfl,.inl ⟨rfl,_,SqL.of elG⟩,_,rfl,_,rfl,l,_,rfl,.inl (SqL.of elG),fl,sc,_,rfl,fG,by rw[aP];omega,by rw[aP];omega,fun g G2 g0 g1 f2 k2=>?_⟩
   rw[aP] at g1
   obtain⟨x,hx⟩:∃ x,ls[g.toNat]?=some x:=⟨_,a9 (by omega)⟩
   refine⟨l,_,g,g.toNat,.str (S x),rfl,rfl,k2 _ _ elG hlf,by omega,by omega,?_,kQ hx,?_⟩
   ·rw[aP]
    exact aQI g0 (by omega)
   rw[mI]
   refine⟨fd,_,_,rfl,rfl,by rw[aE hlfd.symm];exact k2 _ _ efG hff,by rw[aP];exact aN (by omega),ls.eraseIdx g.toNat,fs++[x],by rw[aQk,if_pos (by omega)];omega,rfl,by rw[aE hlfd,aC],by rw[aC,lF],?_,(f2.set hlf hls).set hff hfs,((kG.trans k2).upd hl0).upd hfd0⟩
   rw[k7]
   exact((uF hx).append_left fs).trans hp
  ·have h0:ls=[]:=by
    have:¬ ((0:Int)<(((bI ls).length:Nat):Int)):=fun y=>z (decide_eq_true y)
    rw[aP] at this
    exact m9.mp (by omega)
   subst h0
   rw[m6] at hp
   exact⟨_,rfl,k fd fs G hfd0 efG hp fG kG⟩
theorem EC{f:Addr}{fd:FuncData}(D:Df K mg "law" vY ["_law_script"] f fd)(T:Txt P w K mg JH JI JJ)(c_zd1:Cl P w K mg base "web_of" ["n","words"] 8 (CJ K))(c_z2:Cl P w K mg base "_law_flow" ["_law_script"] 1 (A_ K))(c_z1:Cl P w K mg base "_law_pick" ["_law_flow_here","_law_many"] 1 iW)(c_z0:Cl P w K mg base "_law_alike" ["_law_found","_law_due"] 3 (Do K 2))(c_z8:Cl P w K mg base "_law_back" ["_law_word_here"] 2 oN)(c_zb1:Cl P w K mg base "_law_web" ["_law_n","_law_some"] 2 (CA K))(c_zi:Cl P w K mg base "_law_some_words" ["_law_flow_here","_law_n","_law_most","_law_letters_here"] 6 zK)(c_zt:Cl P w K mg base "_law_shuffled" ["_law_flow_here","_law_things"] 2 zU):FnOk P w K mg base zO 9 f fd ["_law_script"] (zV K):=by
 refine D.F.ok sc_law (fun vs H Q E h=>?_) (fun cdv A outer s H vs Q E hr h=>?_)
 ·obtain⟨a,ns,rfl,_⟩:=h
  rfl
 ·obtain⟨a,ns,rfl,hs,hl,k⟩:=h
  refine⟨_,(aD (aM (i:=1) sc_law.nd rfl (Or.inr rfl) (pC c_z2 hr (aA (pv 0) aB)))
   (aD (aM (i:=2) sc_law.nd rfl (Or.inl rfl) (bE eP aG (pC c_z1 hr (aA (pv 1) (aA aG aB)))))
   (aD (aM (i:=3) sc_law.nd rfl (Or.inl rfl) (pC c_zi hr (aA (pv 1) (aA (pv 2) (aA aG (aA aG aB))))))
   (aD (aM (i:=4) sc_law.nd rfl (Or.inl rfl) (pC c_zb1 hr (aA (pv 2) (aA (pv 3) aB))))
   (aD (aM (i:=5) sc_law.nd rfl (Or.inl rfl) (aW (fQ (K:=K) rfl) (by rfl) T.b_list boot_list (aA (pv 3) aB)))
   (aD (dH (pw_or (BH (gI (pC c_z0 hr (aA (pC c_zd1 hr (aA (pv 2) (aA (pv 5) aB))) (aA (pv 4) aB))))) (pw_or1 (aR (ER (K:=K) rfl hr.units) (pv 5) (pv 3) (aQ _)))).pt (aF (aT yO)) bU)
   (aD (aM (i:=6) sc_law.nd rfl (Or.inl rfl) (pC c_zi hr (aA (pv 1) (aA (pv 2) (aA aG (aA aG aB))))))
   (aD (dH (BH (gI (pC c_z0 hr (aA (pC c_zd1 hr (aA (pv 2) (aA (aW (cD (K:=K) rfl) (by rfl) T.b_tuple boot_tuple (aA (pv 6) aB)) aB))) (aA (pC c_zb1 hr (aA (pv 2) (aA (pv 6) aB))) aB))))) (aF (aT yO)) bU)
   (aD (hJ (i:=7) (sc0:=aH vY) (N:=["_law_script","_law_flow_here","_law_n","_law_some","_law_due","_law_handed","_law_other","_law_mixed"]) (ix:=[1]) sc_law.nd rfl rfl (by decide +kernel) rfl rfl rfl (cG (K:=K) rfl (pC c_zt hr (aA (pv 1) (aA (pv 3) aB)))) (fun _ _ _=>bX) (fun _ _ _=>(aV (aO (K:=K) rfl) (dB (aA (pv 0) (aA (pC c_z8 hr (aA (pv 0) aB)) aB))) (pC c_z1 hr (aA (pv 1) (aA aG aB))) (fun _ _=>rfl))))
   (aF (aT (kI (pC c_z0 hr (aA (pC c_zd1 hr (aA (pv 2) (aA (aW (cD (K:=K) rfl) (by rfl) T.b_tuple boot_tuple (aA (pv 7) aB)) aB))) (aA (pv 4) aB))) (kE (pC c_z0 hr (aA (pC c_zd1 hr (aA (pv 2) (aA (pv 3) aB))) (aA (pv 4) aB)))))))))))))))),?_⟩
  refine⟨_,rfl,a,ns,rfl,hs,hl,fun fl sc H1 hfl s1 f1=>?_⟩
  refine⟨_,rfl,fl,sc,4,rfl,f1,by decide,by decide,fun d H2 d0 d1 f2 k2=>⟨_,_,rfl,rfl,?_⟩⟩
  obtain⟨n,hn⟩:∃ n:Nat,1+d=(n:Int):=⟨(1+d).toNat,by omega⟩
  have hd:(fun i j:Int=>V.int (i+j)) 1 d=V.int (n:Nat):=by rw[← hn]
  rw[hd]
  have n1:1≤n:=by omega
  have n4:n≤4:=by omega
  have ofa:∀ {m lt:Nat} {rs:List (List Nat)},SmW n m lt rs→lt≤40→∀ x∈rs,AllL x∧x.length≤80:=fun sm hlt x hx=>⟨(sm.ofn x hx).1.all,by have:=sm.one hx;omega⟩
  refine⟨_,rfl,_,rfl,fl,sc,n,6,40,rfl,f2,n1,n4,fun l rs H3 hl3 el sm f3 k3=>?_⟩
  have hlf:l≠fl:=f2.ne hl3
  have sl:=sm.len
  have ss:=sm.sum
  have sa:=ofa sm (by decide)
  clear f2 k2 k3 hl3
  refine⟨_,rfl,_,rfl,n,l,rs,rfl,n1,n4,SqL.of el,by omega,fun x hx=>(sa x hx).1,by omega,fun r H4 ρ δ s4 au w4 wl=>?_⟩
  have el4:=s4 _ _ el
  have wr:∀ row∈gZ δ n (ρ 0) 1000,row.length≤900:=fun row hr=>vL n4 hr
  refine⟨_,rfl,l,_,rfl,.inl (SqL.of el4),fun hd hhd=>?_⟩
  have s5:=Same.new (o:=HO.lst (bI rs)) hhd
  have eh:upd H4 hd (.lst (bI rs)) hd=some (.lst (bI rs)):=aC
  have w5:=w4.same s5
  have el5:=s5 _ _ el4
  have f5:=(f3.same s4).same s5
  show mZ _ _ _ _ (upd H4 hd (.lst (bI rs)))
  generalize upd H4 hd (.lst (bI rs))=H5 at s5 eh w5 el5 f5
  refine⟨_,rfl,_,rfl,n,hd,rs,rfl,n1,n4,.inr (SqL.of eh),by omega,sa,fun r1 H6 ρ1 δ1 s6 au1 id1 w6=>?_⟩
  rw[← nG au1 au id1] at w6
  refine⟨_,rfl,.ref r1,.ref r,rfl,sQ w6 (w5.same s6) wl wr,fun H7 s7=>⟨_,rfl,?_⟩⟩
  have s57:=s6.trans s7
  refine⟨_,rfl,_,rfl,0,hd,l,_,_,by decide,rfl,rfl,.inl ⟨s57 _ _ eh,s57 _ _ el5⟩,rfl,fun i x y hx hy=>?_,_,rfl,fV ?_⟩
  ·rw[hx] at hy
   cases hy
   obtain⟨z,_,rfl⟩:=eQ hx
   exact .flat rfl
  have f7:=f5.same s57
  have w7:=w5.same s57
  have el7:=s57 _ _ el5
  clear s1 f1 f3 s4 w4 el el4 s5 eh w5 el5 f5 s6 w6 s7 s57 au1 id1 hhd
  refine⟨_,rfl,_,rfl,fl,sc,n,3,20,rfl,f7,n1,n4,fun l2 rs2 H8 hl8 el2 sm2 f8 k8=>?_⟩
  have w8:=w7.kp f7 k8
  have el8:=k8 _ _ el7 hlf
  have sl2:=sm2.len
  have ss2:=sm2.sum
  have sa2:=ofa sm2 (by decide)
  refine⟨_,rfl,_,rfl,l2,_,rfl,.inl ⟨SqL.of el2,fun t2 ht2=>?_⟩⟩
  have s9:=Same.new (o:=HO.tup (bI rs2)) ht2
  have e9:upd H8 t2 (.tup (bI rs2)) t2=some (.tup (bI rs2)):=aC
  generalize upd H8 t2 (.tup (bI rs2))=H9 at s9 e9
  refine⟨n,t2,rs2,rfl,n1,n4,.inl (SqT.of e9),by omega,sa2,fun r2 H10 ρ2 δ2 s10 au2 id2 w10=>?_⟩
  have s810:=s9.trans s10
  refine⟨_,rfl,_,rfl,n,l2,rs2,rfl,n1,n4,SqL.of (s810 _ _ el2),by omega,fun x hx=>(sa2 x hx).1,by omega,fun r3 H11 ρ3 δ3 s11 au3 w11 wl3=>?_⟩
  rw[← nG au2 au3 id2] at w10
  refine⟨.ref r2,.ref r3,rfl,sQ (w10.same s11) w11 wl3 (fun row hr=>vL n4 hr),fun H12 s12=>⟨_,rfl,?_⟩⟩
  have s812:=(s810.trans s11).trans s12
  have f12:=f8.same s812
  have w12:=w8.same s812
  have el12:=s812 _ _ el8
  clear el7 w7 f7 k8 w8 el8 sl2 ss2 sa2 sm2 el2 hl8 f8 s9 e9 s10 s11 s12 w10 w11 au2 au3 id2 s810 s812 ht2
  refine⟨_,rfl,_,rfl,fl,sc,l,rs,rfl,f12,el12,by omega,hlf,fun l3 ls H13 hl13 el13 hp f13 k13=>⟨l3,rfl,⟨_,SqL.of el13⟩,fun Dd hD=>?_⟩⟩
  have hl3f:l3≠fl:=f12.ne hl13
  have hDf:=f13.ne hD
  have hDs:=f13.ne2 hD
  have sal:∀ x∈ls,AllL x∧x.length≤80:=fun x hx=>sa x (hp.mem_iff.mp hx)
  have lsl:ls.length≤6:=by have:=hp.length_eq;omega
  refine eE (K:=K) (a:=l3) (xs:=bI ls) (fun i G=>∃ ms,G Dd=some (.lst (bI ms))∧Flp (ls.take i) ms∧IsFl G fl sc∧Kp fl H13 G) ⟨[],aC,.nil,f13.upd hD,(Same.new hD).kp⟩ (fun i G _ ⟨_,_,_,_,kG⟩=>SqL.of (kG _ _ el13 hl3f)) ?_ ?_
  ·rintro i v G hv ⟨ms,eD,hfp,fG,kG⟩
   obtain⟨x,hx,rfl⟩:=eQ hv
   obtain⟨xA,xl⟩:=sal x (b6 hx)
   refine⟨_,rfl,_,rfl,x,rfl,xA,by omega,fun G3 s3=>⟨aK (by simp),fun q hq=>?_⟩⟩
   have f3:=fG.same s3
   refine⟨_,rfl,fl,sc,2,rfl,f3.upd hq,by decide,by decide,fun e G4 e0 e1 f4 k4=>?_⟩
   obtain⟨y,hy,hyx⟩:∃ y,wJ [V.str (S x),V.str (S (back x))] e=some (.str (S y))∧(y=x∨y=back x):=by
    have:e=0∨e=1:=by omega
    rcases this with rfl | rfl
    ·exact⟨x,rfl,.inl rfl⟩
    ·exact⟨back x,rfl,.inr rfl⟩
   have hqf:q≠fl:=f3.ne hq
   have eq4:=k4 _ _ (aC (H:=G3) (a:=q) (o:=HO.lst [.str (S x),.str (S (back x))])) hqf
   have k34:Kp fl G G4:=((s3.upd' hq).kp).trans k4
   have eD4:=k34 _ _ eD hDf
   refine⟨q,_,_,_,rfl,rfl,SqL.of eq4,hy,_,eD4,?_,ms++[y],by rw[aC,lF],?_,f4.set hDf hDs,(kG.trans k34).upd hD⟩
   ·rw[aP,hfp.len,i6];exact aN (by omega)
   ·rw[m4,hx]
    exact hfp.snoc hyx
  ·rintro G ⟨ms,eD,hfp,fG,kG⟩
   rw[aP,i9] at hfp
   have wG:=w12.kp f12 (k13.trans kG)
   have elG:=(k13.trans kG) _ _ el12 hlf
   refine⟨_,rfl,_,rfl,Dd,_,rfl,.inl ⟨SqL.of eD,fun t ht=>?_⟩⟩
   have s14:=Same.new (o:=HO.tup (bI ms)) ht
   have e14:upd G t (.tup (bI ms)) t=some (.tup (bI ms)):=aC
   generalize upd G t (.tup (bI ms))=H14 at s14 e14
   refine⟨n,t,ms,rfl,n1,n4,.inl (SqT.of e14),by rw[hfp.len];omega,hfp.all sal,fun r4 H15 ρ4 δ4 s15 au4 id4 w15=>?_⟩
   rw[← DS hp hfp (fun x hx=>(sa x hx).1) au4 id4 au] at w15
   have s1415:=s14.trans s15
   refine⟨_,rfl,.ref r4,.ref r,rfl,sQ w15 (wG.same s1415) wl wr,fun H16 s16=>⟨_,rfl,gC ?_⟩⟩
   have s1416:=s1415.trans s16
   refine⟨_,rfl,_,rfl,n,l,rs,rfl,n1,n4,.inr (SqL.of (s1416 _ _ elG)),by omega,sa,fun r5 H17 ρ5 δ5 s17 au5 id5 w17=>?_⟩
   rw[← nG au5 au id5] at w17
   exact⟨_,rfl,.ref r5,.ref r,rfl,sQ w17 (wG.same (s1416.trans s17)) wl wr,fun H18 s18=>k H18⟩
end
theorem all_mk{l:PySem.W.OpenLaw}{w:World}{K:b0}{h:Heap}{mg:Str→Option Value}{fa:Addr}(X:K.In h)(G:h.Ns mainGlobals mg)(hfa:mg "law"=some (.ref fa))
  {f_41 JH JI JJ:Addr}
  {od_41 an_41:Option Addr} {sl_41:Array (Option Value)} {oc_41 kV_41 dc_41 pm_41 cd_41 ct_41:Value}
  (d_0:DI K "_wall" B4)
  (d_1:DI K "letters_of" Fg)
  (d_2:DI K "first_letters" FN)
  (d_3:DI K "contrary" FH)
  (d_4:DI K "laid_out" FR)
  (d_5:DI K "turned_back" CW)
  (d_6:DI K "joined" Bc)
  (d_7:DJ K JJ "__init__" "Weave.__init__" Gb)
  (d_8:DJ K JJ "end_of" "Weave.end_of" EA)
  (d_9:DJ K JJ "head_of" "Weave.head_of" EY)
  (d_10:DJ K JJ "goal_of" "Weave.goal_of" Et)
  (d_11:DJ K JJ "new_place" "Weave.new_place" EG)
  (d_12:DJ K JJ "lay_way" "Weave.lay_way" EF)
  (d_13:DJ K JJ "lay_word" "Weave.lay_word" FQ)
  (d_14:DJ K JJ "put_under" "Weave.put_under" FG)
  (d_15:DJ K JJ "fold" "Weave.fold" Fr)
  (d_16:DJ K JJ "round_told" "Weave.round_told" E6)
  (d_17:DI K "numbers_of_heads" E5)
  (d_18:DI K "place_told" Bo)
  (d_19:DI K "web_of" vZ)
  (d_20:DI K "_law_flow" Fa)
  (d_21:DI K "_law_pick" EX)
  (d_22:DI K "_law_alike" Az)
  (d_23:DI K "_law_letters" E7)
  (d_24:DI K "_law_contrary" EH)
  (d_25:DI K "_law_key" Aa)
  (d_26:DI K "_law_back" DF)
  (d_27:DI K "_law_laid" Ev)
  (d_28:DI K "_law_word" Dg)
  (d_29:DI K "_law_retold" F6)
  (d_30:DI K "_law_then" DO)
  (d_31:DI K "_law_same" Ga)
  (d_32:DI K "_law_drawn_change" FK)
  (d_33:DI K "_law_change_told" FJ)
  (d_34:DI K "_law_change_back" DP)
  (d_35:DI K "_law_alphabet" DL)
  (d_36:DI K "_law_two_places" Gd)
  (d_37:DI K "_law_web" rY)
  (d_38:DI K "_law_joined_ones" Fu)
  (d_39:DI K "_law_some_words" Ac)
  (d_40:DI K "_law_shuffled" EQ)
  (na_41:PySem.W.nsIn K mainGlobals "law"=some (some (.ref f_41))) (nl_41:K.lookup f_41=some ⟨oc_41,od_41,.func (HM "law" vY kV_41 dc_41 pm_41 an_41 cd_41 ct_41),sl_41⟩) (nc_41:PySem.W.codeIn K cd_41 "law"=true) (nk_41:PySem.W.keepIn K (.ref f_41)=true)
  (nb_all:PySem.W.nsIn K mainGlobals "all"=some none)
  (nb_bool:PySem.W.nsIn K mainGlobals "bool"=some none)
  (nb_enumerate:PySem.W.nsIn K mainGlobals "enumerate"=some none)
  (nb_int:PySem.W.nsIn K mainGlobals "int"=some none)
  (nb_isinstance:PySem.W.nsIn K mainGlobals "isinstance"=some none)
  (nb_len:PySem.W.nsIn K mainGlobals "len"=some none)
  (nb_list:PySem.W.nsIn K mainGlobals "list"=some none)
  (nb_max:PySem.W.nsIn K mainGlobals "max"=some none)
  (nb_min:PySem.W.nsIn K mainGlobals "min"=some none)
  (nb_range:PySem.W.nsIn K mainGlobals "range"=some none)
  (nb_reversed:PySem.W.nsIn K mainGlobals "reversed"=some none)
  (nb_sorted:PySem.W.nsIn K mainGlobals "sorted"=some none)
  (nb_sum:PySem.W.nsIn K mainGlobals "sum"=some none)
  (nb_tuple:PySem.W.nsIn K mainGlobals "tuple"=some none)
  (oa_Weave:PySem.W.nsIn K mainGlobals "Weave"=some (some (.ref JJ)))
  (ob_Weave:PySem.W.plainGet K JJ Str.empty=true)
  (oe_Weave:PySem.W.hasDictIn K JJ=true)
  (of_Weave:PySem.W.plainOver K JJ=true)
  (og_Weave:PySem.W.findIn K (.ref JJ) "__setattr__"=some (some (.builtin "object.__setattr__")))
  (oh_Weave:PySem.W.makesIn K JJ=true)
  (oi_Weave:PySem.W.keepIn K (.ref JJ)=true)
  (on_Weave_heads:PySem.W.findIn K (.ref JJ) "heads"=some none)
  (on_Weave_turns:PySem.W.findIn K (.ref JJ) "turns"=some none)
  (on_Weave_ways:PySem.W.findIn K (.ref JJ) "ways"=some none)
  (on_Weave_alike:PySem.W.findIn K (.ref JJ) "alike"=some none)
  (nm_CONTRARIES:PySem.W.nsIn K mainGlobals "CONTRARIES"=some (some (.ref JH)))
  (nt_CONTRARIES:KTD.tabLook KTD.flatLooks (fun b=>K.lookup b) JH conTab_rows=true) (nh_CONTRARIES:KTD.hashesOf (fun b=>K.lookup b) JH=conTab_rows.map fun p=>(PySem.strKind l.prog w).hash p.1)
  (nm_LETTERS:PySem.W.nsIn K mainGlobals "LETTERS"=some (some (.ref JI)))
  {i_LETTERS:Array Value} {n_LETTERS:Nat} (nt_LETTERS:K.lookup JI=some ⟨.type "tuple",none,.seq i_LETTERS n_LETTERS,#[]⟩) (nv_LETTERS:Vals letV i_LETTERS.toList)
  : ∃ fd:FuncData,(∀ (s:Shared) (v:Value),BindsTo s fd ⟨[v],[]⟩ [("_law_script",v)])∧∀ base:Heap,K.In base→base.Ns mainGlobals mg→FnOk l.prog w K mg base zO 40 fa fd ["_law_script"] (zV K):=by
 have e:=hfa.symm.trans (z6 X G na_41)
 have e2:f_41=fa:=by cases e;rfl
 subst e2
 have T:Txt l.prog w K mg JH JI JJ:=⟨z6 X G oa_Weave,⟨⟨ob_Weave,oe_Weave,of_Weave,og_Weave⟩,oh_Weave,oi_Weave⟩,on_Weave_heads,on_Weave_turns,on_Weave_ways,on_Weave_alike,l9 X G nb_all,l9 X G nb_bool,l9 X G nb_enumerate,l9 X G nb_int,l9 X G nb_isinstance,l9 X G nb_len,l9 X G nb_list,l9 X G nb_max,l9 X G nb_min,l9 X G nb_range,l9 X G nb_reversed,l9 X G nb_sorted,l9 X G nb_sum,l9 X G nb_tuple,z6 X G nm_CONTRARIES,fun h x=>PySem.W.kt_tab_in l.prog w x nt_CONTRARIES (by decide +kernel) nh_CONTRARIES,z6 X G nm_LETTERS,fun H=>.inr ⟨_,_,_,nt_LETTERS,rfl,rfl,Dw nv_LETTERS (by decide),nv_LETTERS⟩⟩
 obtain⟨_,_,D_0⟩:=kO (ps:=["k"]) d_0 X G fun _ _ _ _ _ _ u h=>match u,h with | [_],_=>rfl
 obtain⟨_,_,D_1⟩:=kO (ps:=["n"]) d_1 X G fun _ _ _ _ _ _ u h=>match u,h with | [_],_=>rfl
 obtain⟨_,_,D_2⟩:=kO (ps:=["n"]) d_2 X G fun _ _ _ _ _ _ u h=>match u,h with | [_],_=>rfl
 obtain⟨_,_,D_3⟩:=kO (ps:=["letter"]) d_3 X G fun _ _ _ _ _ _ u h=>match u,h with | [_],_=>rfl
 obtain⟨_,_,D_4⟩:=kO (ps:=["text"]) d_4 X G fun _ _ _ _ _ _ u h=>match u,h with | [_],_=>rfl
 obtain⟨_,_,D_5⟩:=kO (ps:=["word"]) d_5 X G fun _ _ _ _ _ _ u h=>match u,h with | [_],_=>rfl
 obtain⟨_,_,D_6⟩:=kO (ps:=["one","other"]) d_6 X G fun _ _ _ _ _ _ u h=>match u,h with | [_,_],_=>rfl
 obtain⟨_,_,D_7⟩:=CS (ps:=["self"]) d_7 fun _ _ _ _ _ _ u h=>match u,h with | [_],_=>rfl
 obtain⟨_,_,D_8⟩:=CS (ps:=["self","place","told"]) d_8 fun _ _ _ _ _ _ u h=>match u,h with | [_,_,_],_=>rfl
 obtain⟨_,_,D_9⟩:=CS (ps:=["self","place"]) d_9 fun _ _ _ _ _ _ u h=>match u,h with | [_,_],_=>rfl
 obtain⟨_,_,D_10⟩:=CS (ps:=["self","head","letter"]) d_10 fun _ _ _ _ _ _ u h=>match u,h with | [_,_,_],_=>rfl
 obtain⟨_,_,D_11⟩:=CS (ps:=["self"]) d_11 fun _ _ _ _ _ _ u h=>match u,h with | [_],_=>rfl
 obtain⟨_,_,D_12⟩:=CS (ps:=["self","place","letter","goal","told"]) d_12 fun _ _ _ _ _ _ u h=>match u,h with | [_,_,_,_,_],_=>rfl
 obtain⟨_,_,D_13⟩:=CS (ps:=["self","word","told"]) d_13 fun _ _ _ _ _ _ u h=>match u,h with | [_,_,_],_=>rfl
 obtain⟨_,_,D_14⟩:=CS (ps:=["self","head","above","turn"]) d_14 fun _ _ _ _ _ _ u h=>match u,h with | [_,_,_,_],_=>rfl
 obtain⟨_,_,D_15⟩:=CS (ps:=["self"]) d_15 fun _ _ _ _ _ _ u h=>match u,h with | [_],_=>rfl
 obtain⟨_,_,D_16⟩:=CS (ps:=["self","letter"]) d_16 fun _ _ _ _ _ _ u h=>match u,h with | [_,_],_=>rfl
 obtain⟨_,_,D_17⟩:=kO (ps:=["n","weave"]) d_17 X G fun _ _ _ _ _ _ u h=>match u,h with | [_,_],_=>rfl
 obtain⟨_,_,D_18⟩:=kO (ps:=["n","weave","numbers","head"]) d_18 X G fun _ _ _ _ _ _ u h=>match u,h with | [_,_,_,_],_=>rfl
 obtain⟨_,_,D_19⟩:=kO (ps:=["n","words"]) d_19 X G fun _ _ _ _ _ _ u h=>match u,h with | [_,_],_=>rfl
 obtain⟨_,_,D_20⟩:=kO (ps:=["_law_script"]) d_20 X G fun _ _ _ _ _ _ u h=>match u,h with | [_],_=>rfl
 obtain⟨_,_,D_21⟩:=kO (ps:=["_law_flow_here","_law_many"]) d_21 X G fun _ _ _ _ _ _ u h=>match u,h with | [_,_],_=>rfl
 obtain⟨_,_,D_22⟩:=kO (ps:=["_law_found","_law_due"]) d_22 X G fun _ _ _ _ _ _ u h=>match u,h with | [_,_],_=>rfl
 obtain⟨_,_,D_23⟩:=kO (ps:=["_law_n"]) d_23 X G fun _ _ _ _ _ _ u h=>match u,h with | [_],_=>rfl
 obtain⟨_,_,D_24⟩:=kO (ps:=["_law_letter"]) d_24 X G fun _ _ _ _ _ _ u h=>match u,h with | [_],_=>rfl
 obtain⟨_,_,D_25⟩:=kO (ps:=["_law_word_here"]) d_25 X G fun _ _ _ _ _ _ u h=>match u,h with | [_],_=>rfl
 obtain⟨_,_,D_26⟩:=kO (ps:=["_law_word_here"]) d_26 X G fun _ _ _ _ _ _ u h=>match u,h with | [_],_=>rfl
 obtain⟨_,_,D_27⟩:=kO (ps:=["_law_text"]) d_27 X G fun _ _ _ _ _ _ u h=>match u,h with | [_],_=>rfl
 obtain⟨_,_,D_28⟩:=kO (ps:=["_law_flow_here","_law_n","_law_most"]) d_28 X G fun _ _ _ _ _ _ u h=>match u,h with | [_,_,_],_=>rfl
 obtain⟨_,_,D_29⟩:=kO (ps:=["_law_retelling","_law_word_here"]) d_29 X G fun _ _ _ _ _ _ u h=>match u,h with | [_,_],_=>rfl
 obtain⟨_,_,D_30⟩:=kO (ps:=["_law_one","_law_other"]) d_30 X G fun _ _ _ _ _ _ u h=>match u,h with | [_,_],_=>rfl
 obtain⟨_,_,D_31⟩:=kO (ps:=["_law_n"]) d_31 X G fun _ _ _ _ _ _ u h=>match u,h with | [_],_=>rfl
 obtain⟨_,_,D_32⟩:=kO (ps:=["_law_flow_here","_law_n"]) d_32 X G fun _ _ _ _ _ _ u h=>match u,h with | [_,_],_=>rfl
 obtain⟨_,_,D_33⟩:=kO (ps:=["_law_n","_law_change"]) d_33 X G fun _ _ _ _ _ _ u h=>match u,h with | [_,_],_=>rfl
 obtain⟨_,_,D_34⟩:=kO (ps:=["_law_change"]) d_34 X G fun _ _ _ _ _ _ u h=>match u,h with | [_],_=>rfl
 obtain⟨_,_,D_35⟩:=kO (ps:=["_law_flow_here","_law_n","_law_steps","_law_most"]) d_35 X G fun _ _ _ _ _ _ u h=>match u,h with | [_,_,_,_],_=>rfl
 obtain⟨_,_,D_36⟩:=kO (ps:=["_law_ways"]) d_36 X G fun _ _ _ _ _ _ u h=>match u,h with | [_],_=>rfl
 obtain⟨_,_,D_37⟩:=kO (ps:=["_law_n","_law_some"]) d_37 X G fun _ _ _ _ _ _ u h=>match u,h with | [_,_],_=>rfl
 obtain⟨_,_,D_38⟩:=kO (ps:=["_law_flow_here","_law_some","_law_many"]) d_38 X G fun _ _ _ _ _ _ u h=>match u,h with | [_,_,_],_=>rfl
 obtain⟨_,_,D_39⟩:=kO (ps:=["_law_flow_here","_law_n","_law_most","_law_letters_here"]) d_39 X G fun _ _ _ _ _ _ u h=>match u,h with | [_,_,_,_],_=>rfl
 obtain⟨_,_,D_40⟩:=kO (ps:=["_law_flow_here","_law_things"]) d_40 X G fun _ _ _ _ _ _ u h=>match u,h with | [_,_],_=>rfl
 have D_41:=Jx (ps:=["_law_script"]) nl_41 nc_41 nk_41 (z6 X G na_41) (fun _ _ _ _ _ _ u h=>match u,h with | [_],_=>rfl)
 refine⟨HM "law" vY kV_41 dc_41 pm_41 an_41 cd_41 ct_41,fun s v=>.of_eq rfl,fun base _ _=>?_⟩
 have c_z2:=GG (base:=base) D_20 T
 have c_z1:=Gm (base:=base) D_21 T
 have c_zs:=G_ (base:=base) D_24 T
 have c_zv:=GQ (base:=base) D_23 T
 have c_z9:=GC (base:=base) D_27 T c_zs
 have c_z3:=Hz (base:=base) D_28 T c_z1 c_zv c_zs
 have c_z8:=Hc (base:=base) D_26 T c_zs
 have c_z4:=HE (base:=base) D_3 T
 have c_z7:=Gz (base:=base) D_4 T c_z4
 have c_zu:=GU (base:=base) D_5 T c_z4
 have c_zc1:=Fk (base:=base) D_6 T c_z7
 have c_zx:=GE (base:=base) D_1 T
 have c_zn:=GL (base:=base) D_2 T
 have c_ze1:=Ff (base:=base) D_0 T
 have c_zc:=HN (base:=base) D_16 T
 have c_zl:=HJ (base:=base) D_7 T
 have c_zr:=GY (base:=base) D_8 T c_zc1
 have c_zp:=Hy (base:=base) D_9 T c_zr
 have c_zo:=Ib (base:=base) D_10 T c_zp
 have c_ze:=Hq (base:=base) D_11 T
 have c_zm:=HS (base:=base) D_12 T c_zu c_zc1
 have c_zd:=GW (base:=base) D_14 T c_zu c_zc1 c_zm
 have c_zw:=GV (base:=base) D_15 T c_zu c_zc1 c_zr c_zd
 have c_zj:=Ht (base:=base) D_13 T c_z4 c_zu c_ze c_zm
 have c_zb:=Gu (base:=base) D_17 T c_zx c_zp c_zo
 have c_zz:=Hg (base:=base) D_18 T c_zn c_zo
 have c_zd1:=Fi (base:=base) D_19 T c_zl c_zj c_zw c_zb c_zz
 have c_zk:=HW (base:=base) D_36 T
 have c_zb1:=ES (base:=base) D_37 T c_zv c_zk
 have c_z0:=HL (base:=base) D_22 T
 have c_z0_X:=nN (base:=base) D_22 T c_z0
 have c_z0_Y:=nN (base:=base) D_22 T c_z0_X
 have c_z0_Z:=nN (base:=base) D_22 T c_z0_Y
 have c_z0_W:=nN (base:=base) D_22 T c_z0_Z
 have c_zy:=GN (base:=base) D_29 T c_z8 c_z9
 have c_z6:=GF (base:=base) D_30 T c_zy
 have c_z5:=HF (base:=base) D_31 T
 have c_za:=GJ (base:=base) D_32 T c_z1 c_zv c_zs
 have c_zg:=GB (base:=base) D_33 T c_zs
 have c_za1:=Fx (base:=base) D_25 T
 have c_zh:=GI (base:=base) D_34 T c_zs c_za1
 have c_zq:=HX (base:=base) D_35 T c_z1 c_z6 c_z5 c_za c_zg c_zh
 have c_zf:=Hd (base:=base) D_38 T c_z1 c_z8 c_z9
 have c_zi:=Hv (base:=base) D_39 T c_z1 c_z8 c_z9 c_z3 c_zq c_zf
 have c_zt:=GT (base:=base) D_40 T c_z1
 exact FnOk.mono (k:=40) (EC D_41 T c_zd1 c_z2 c_z1 c_z0_Y c_z8 c_zb1 c_zi c_zt) (by decide)
theorem walk{l:PySem.W.OpenLaw}{q:Program}{loose:List Str}{XP:(Str→Option Value)→Heap→Prop}{YP:World→Heap→Prop}{d:DefRec}{K:Params→b0}(hn:l.most=some 63)(hdf:d.params.defaults=[])
  (hY:∀ (w:World) (h:Heap),YP w h→(K w.params).In h)
  (F:∀ (w:World) (mg:Str→Option Value) (fa:Addr) (h:Heap),(K w.params).In h→h.Ns mainGlobals mg→mg d.name=some (.ref fa) →
   ∃ fd:FuncData,(∀ (s:Shared) (u:Value),BindsTo s fd ⟨[u],[]⟩ [("_law_script",u)])∧∀ base:Heap,(K w.params).In base→base.Ns mainGlobals mg→FnOk l.prog w (K w.params) mg base zO 40 fa fd ["_law_script"] (zV (K w.params))) :
  PySem.W.WalkO q loose XP YP l.row.toRowW d [] (fun f vs=>PySem.call f vs) :=
 L2.walk_of (n:=63) (k:=40) (x:="_law_script") (CX:=fun _=>zO) (sp:=fun w=>zV (K w.params)) hn (by decide) hdf ⟨rfl,by decide,by decide⟩ hY F (fun _ _ a ns hl _ hS=>⟨a,ns,rfl,hS,hl,fun _=>rfl⟩) fun _ _ _ _ _ z=>z
end Lw
def PySem.W.Fast.tw6891548931858172218:Nat:=0
def PySem.W.Fast.tw17674541805226563979:Nat:=0
def PySem.W.Fast.tw5513206499777664287:Nat:=0
def PySem.W.Fast.tw11306675497200792371:Nat:=0
def PySem.W.Fast.tw12427404014735279115:Nat:=0
def PySem.W.Fast.tw4568019077365526319:Nat:=0
def PySem.W.Fast.tw714805334805282549:Nat:=0
def PySem.W.Fast.tw7749216674766473590:Nat:=0
def PySem.W.Fast.tw11478771850249810584:Nat:=0
def PySem.W.Fast.tw320459276925922864:Nat:=0
def PySem.W.Fast.tw11279197222803420164:Nat:=0
def PySem.W.Fast.tw7930258700512089857:Nat:=0
def PySem.W.Fast.tw236591852710020807:Nat:=0
def PySem.W.Fast.tw10768906617848471078:Nat:=0
def PySem.W.Fast.tw6895303848859981021:Nat:=0
def PySem.W.Fast.tw5599820545441886243:Nat:=0
def PySem.W.Fast.tw5203684752768505258:Nat:=0
def PySem.W.Fast.tw1739837675757388306:Nat:=0
def PySem.W.Fast.tw12987670708655436415:Nat:=0
def PySem.W.Fast.tw1645532728351808812:Nat:=0
def PySem.W.Fast.tw13807786423778244646:Nat:=0
def PySem.W.Fast.tw3681371813803893974:Nat:=0
def PySem.W.Fast.tw11117177662376465560:Nat:=0
def PySem.W.Fast.tw10404479960295053515:Nat:=0
def PySem.W.Fast.tw14902811943074120799:Nat:=0
def PySem.W.Fast.tw11592137944239640583:Nat:=0
def PySem.W.Fast.tw10775320864307946833:Nat:=0
def PySem.W.Fast.tw8348489697684788301:Nat:=0
def PySem.W.Fast.tw16583799103723359791:Nat:=0
def PySem.W.Fast.tw9423706413972771025:Nat:=0
def PySem.W.Fast.tw6842448202981702334:Nat:=0
def PySem.W.Fast.tw5603725080568353519:Nat:=0
def PySem.W.Fast.tw4086026102954871344:Nat:=0
def PySem.W.Fast.tw5005056067124423360:Nat:=0
def PySem.W.Fast.tw1067930031973113497:Nat:=0
def PySem.W.Fast.tw331479278686388812:Nat:=0
def PySem.W.Fast.tw13928046525963021425:Nat:=0
def PySem.W.Fast.tw15316492160429583371:Nat:=0
def PySem.W.Fast.tw737517607438988754:Nat:=0
def PySem.W.Fast.tw5292072572495222319:Nat:=0
def PySem.W.Fast.tw12873367251508308165:Nat:=0
def PySem.W.Fast.tw17567416756427063847:Nat:=0
def PySem.W.Fast.tw12872756757411703002:Nat:=0
def PySem.W.Fast.tw11627244372342623838:Nat:=0
def PySem.W.Fast.tw15304455758682679161:Nat:=0
def PySem.W.Fast.tw8827571222925974343:Nat:=0
def PySem.W.Fast.tw17525655153023786933:Nat:=0
def PySem.W.Fast.tw7288446510954587222:Nat:=0
def PySem.W.Fast.tw6497839930383132698:Nat:=0
def PySem.W.Fast.tw5194056702654498910:Nat:=0
def PySem.W.Fast.tw10833814096902161474:Nat:=0
def PySem.W.Fast.tw6642998522366414855:Nat:=0
def PySem.W.Fast.tw5782762008776177699:Nat:=0
def PySem.W.Fast.tw7235138666878794816:Nat:=0
def PySem.W.Fast.tw13733877565183465255:Nat:=0
def PySem.W.Fast.tw9801686799112275660:Nat:=0
def PySem.W.Fast.tw1929353426329735701:Nat:=0
def PySem.W.Fast.tw9194120557360323099:Nat:=0
def PySem.W.Fast.tw14257327085265568296:Nat:=0
def PySem.W.Fast.tw13490062814465093347:Nat:=0
def PySem.W.Fast.tw745457862228903305:Nat:=0
open PySem PySem.W PyProof.Rows
set_option maxRecDepth 100000 in
set_option maxHeartbeats 0 in
theorem PySem.Challenge.cw_newletters_k14_webs_told_holds : PySem.Challenge.rw_newletters_k14_webs_told.Holds := by
 w_on;o_law;k_head;(case hw=>w_witness2)
 k_fill
 refine Lw.walk (l:=PySem.Challenge.rw_newletters_k14_webs_told) rfl rfl (fun w h Y=>aZ6 Y) ?F
 case F =>
  intro w mg fa h KX G hmg
  refine' Lw.all_mk KX G hmg ?d_0 ?d_1 ?d_2 ?d_3 ?d_4 ?d_5 ?d_6 ?d_7 ?d_8 ?d_9 ?d_10 ?d_11 ?d_12 ?d_13 ?d_14 ?d_15 ?d_16 ?d_17 ?d_18 ?d_19 ?d_20 ?d_21 ?d_22 ?d_23 ?d_24 ?d_25 ?d_26 ?d_27 ?d_28 ?d_29 ?d_30 ?d_31 ?d_32 ?d_33 ?d_34 ?d_35 ?d_36 ?d_37 ?d_38 ?d_39 ?d_40 ?na_41 ?nl_41 ?nc_41 ?nk_41 ?nb_all ?nb_bool ?nb_enumerate ?nb_int ?nb_isinstance ?nb_len ?nb_list ?nb_max ?nb_min ?nb_range ?nb_reversed ?nb_sorted ?nb_sum ?nb_tuple ?oa_Weave ?ob_Weave ?oe_Weave ?of_Weave ?og_Weave ?oh_Weave ?oi_Weave ?on_Weave_heads ?on_Weave_turns ?on_Weave_ways ?on_Weave_alike ?nm_CONTRARIES ?nt_CONTRARIES ?nh_CONTRARIES ?nm_LETTERS ?nt_LETTERS ?nv_LETTERS
  (case oa_Weave=>k_is)
  (case d_0 | d_1 | d_2 | d_3 | d_4 | d_5 | d_6 | d_17 | d_18 | d_19 | d_20 | d_21 | d_22 | d_23 | d_24 | d_25 | d_26 | d_27 | d_28 | d_29 | d_30 | d_31 | d_32 | d_33 | d_34 | d_35 | d_36 | d_37 | d_38 | d_39 | d_40=>exact⟨_,_,_,_,_,_,_,_,_,_,by k_is,by k_is,by k_is,by k_is⟩)
  (case d_7 | d_8 | d_9 | d_10 | d_11 | d_12 | d_13 | d_14 | d_15 | d_16=>exact⟨_,_,_,_,_,_,_,_,_,_,by k_is,by k_is,by k_is,by k_is,by k_is⟩)
  (case na_41 | nl_41 | nc_41 | nk_41 | nb_all | nb_bool | nb_enumerate | nb_int | nb_isinstance | nb_len | nb_list | nb_max | nb_min | nb_range | nb_reversed | nb_sorted | nb_sum | nb_tuple | ob_Weave | oe_Weave | of_Weave | og_Weave | oh_Weave | oi_Weave | on_Weave_heads | on_Weave_turns | on_Weave_ways | on_Weave_alike | nm_CONTRARIES | nm_LETTERS | nt_LETTERS=>k_is)
  (case nt_CONTRARIES=>kernel_rfl)
  (case nh_CONTRARIES=>kernel_rfl)
  (case nv_LETTERS=>exact .cons ⟨_,rfl⟩ (.cons ⟨_,rfl⟩ (.cons ⟨_,rfl⟩ (.cons ⟨_,rfl⟩ (.cons ⟨_,rfl⟩ (.cons ⟨_,rfl⟩ (.cons ⟨_,rfl⟩ (.cons ⟨_,rfl⟩ .nil))))))))
