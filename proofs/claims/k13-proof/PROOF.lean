import PyProof.Rows.All
import Wide.All
import OpenK.AllK
import Wide.FinOn
import Lean
import PyProof.EqAt
import PyProof.EqKinds
import PyProof.TupleCall
import KE.KMinKey
import KE.KSortTup
import PyProof.SeqI2
import PySem.Challenge.RW_newletters_k13_texts_of_no_retelling
set_option Elab.async false
set_option maxHeartbeats 4000000
set_option maxRecDepth 100000
set_option linter.all false
namespace L2
open PySem PySem.Spec PyProof.Rows
abbrev Key := Sum Int Str
def keyIs : Key → Value → Bool
  | .inl k, v => Value.isInt k v
  | .inr x, v => Value.isStrOf x v
def keyH (w : World) : Key → Int
  | .inl k => hashInt k
  | .inr x => hashStr w x
theorem keyIs_shape : ∀ {k : Key} {v : Value}, keyIs k v = true → (∃ i t, k = Sum.inl i ∧ v = Value.int i t) ∨ (∃ x t, k = Sum.inr x ∧ v = Value.str x t)
  | .inl i, v, h => by
    obtain ⟨t, e⟩ := Value.isInt_shape (k := i) (v := v) h
    exact .inl ⟨i, t, rfl, e⟩
  | .inr x, v, h => by
    obtain ⟨t, e⟩ := Value.isStrOf_shape (x := x) (v := v) h
    exact .inr ⟨x, t, rfl, e⟩
theorem key_ll (a b : Int) : decide ((Sum.inl a : Key) = Sum.inl b) = (a == b) := by
  by_cases e : a = b
  · subst e; simp
  · have h : ¬ (Sum.inl a : Key) = Sum.inl b := fun q => e (Sum.inl.inj q)
    rw [decide_eq_false h]
    exact (beq_eq_false_iff_ne.mpr e).symm
theorem key_rr (a b : Str) : decide ((Sum.inr a : Key) = Sum.inr b) = decide (a = b) := by
  by_cases e : a = b
  · subst e; simp
  · have h : ¬ (Sum.inr a : Key) = Sum.inr b := fun q => e (Sum.inr.inj q)
    rw [decide_eq_false h, decide_eq_false e]
theorem key_lr (a : Int) (b : Str) : decide ((Sum.inl a : Key) = Sum.inr b) = false := decide_eq_false (fun q => nomatch q)
theorem key_rl (a : Str) (b : Int) : decide ((Sum.inr a : Key) = Sum.inl b) = false := decide_eq_false (fun q => nomatch q)
def mixKind (prog : Program) (w : World) : PySem.KeyKind prog w Key where
  is := keyIs
  hash := keyH w
  inj := fun v a b ha hb => by
    rcases keyIs_shape ha with ⟨i, t, rfl, rfl⟩ | ⟨x, t, rfl, rfl⟩
    · rcases keyIs_shape hb with ⟨j, u, rfl, e⟩ | ⟨y, u, rfl, e⟩
      · injection e with e1 _; rw [e1]
      · exact nomatch e
    · rcases keyIs_shape hb with ⟨j, u, rfl, e⟩ | ⟨y, u, rfl, e⟩
      · exact nomatch e
      · injection e with e1 _; rw [e1]
  byValue := fun k v h => by
    rcases keyIs_shape h with ⟨i, t, rfl, rfl⟩ | ⟨x, t, rfl, rfl⟩ <;> rfl
  pyHash := fun hv h => by
    rcases keyIs_shape hv with ⟨i, t, rfl, rfl⟩ | ⟨x, t, rfl, rfl⟩
    · exact wpAny_pyHash_int h
    · exact wpAny_pyHash_str h
  eqBool := fun hu hv h => by
    rcases keyIs_shape hu with ⟨i, t, rfl, rfl⟩ | ⟨x, t, rfl, rfl⟩
    · rcases keyIs_shape hv with ⟨j, u, rfl, rfl⟩ | ⟨y, u, rfl, rfl⟩
      · rw [key_ll] at h; exact wpAny_eqBool_int h
      · rw [key_lr] at h; exact SeqAt.EqAt.int_str i t y u _ _ _ _ h
    · rcases keyIs_shape hv with ⟨j, u, rfl, rfl⟩ | ⟨y, u, rfl, rfl⟩
      · rw [key_rl] at h; exact SeqAt.EqAt.str_int x t j u _ _ _ _ h
      · rw [key_rr] at h; exact wpAny_eqBool_str h
  «strs» := fun k x t v h => by
    rcases keyIs_shape h with ⟨i, u, rfl, e⟩ | ⟨y, u, rfl, e⟩
    · exact nomatch e
    · injection e with e1 _
      subst e1
      cases v <;> rfl
inductive V where
  | non | bl (b : Bool) | int (i : Int) | str (x : Str) | byt (b : Array UInt8) | flt (b : UInt64) | ref (a : Addr) | ty (n : String)
  deriving DecidableEq
def RelV : V → Value → Prop
  | .non, u => u = Value.none
  | .bl b, u => u = Value.bool b
  | .int i, u => ∃ t, u = Value.int i t
  | .str x, u => ∃ t, u = Value.str x t
  | .byt b, u => ∃ t, u = Value.bytes b t
  | .flt b, u => ∃ t, u = Value.float b t
  | .ref a, u => u = Value.ref a
  | .ty n, u => u = Value.type n
abbrev Vals : List V → List Value → Prop := Paired RelV
theorem Vals.length {xs : List V} {us : List Value} (r : Vals xs us) : xs.length = us.length := Paired.length r
theorem Vals.get : ∀ {xs : List V} {us : List Value} {i : Nat} {x : V}, Vals xs us → xs[i]? = some x → ∃ u, us[i]? = some u ∧ RelV x u
  | _, _, _, _, .nil, e => by simp at e
  | _, _, 0, _, .cons r _, e => by simp at e; subst e; exact ⟨_, rfl, r⟩
  | _, _, i + 1, x, .cons _ t, e => by
    obtain ⟨u, h1, h2⟩ := Vals.get (i := i) (x := x) t (by simpa using e)
    exact ⟨u, by simpa using h1, h2⟩
theorem Vals.set {x : V} {u : Value} (r : RelV x u) : ∀ {xs : List V} {us : List Value} (i : Nat), Vals xs us → Vals (xs.set i x) (us.set i u)
  | _, _, _, .nil => .nil
  | _, _, 0, .cons _ t => .cons r t
  | _, _, i + 1, .cons q t => .cons q (Vals.set r i t)
theorem Vals.append : ∀ {xs ys : List V} {us ws : List Value}, Vals xs us → Vals ys ws → Vals (xs ++ ys) (us ++ ws)
  | _, _, _, _, .nil, s => s
  | _, _, _, _, .cons r t, s => .cons r (Vals.append t s)
theorem Vals.take : ∀ {xs : List V} {us : List Value} (n : Nat), Vals xs us → Vals (xs.take n) (us.take n)
  | _, _, 0, _ => .nil
  | _, _, _ + 1, .nil => .nil
  | _, _, n + 1, .cons r t => .cons r (Vals.take n t)
theorem Vals.drop : ∀ {xs : List V} {us : List Value} (n : Nat), Vals xs us → Vals (xs.drop n) (us.drop n)
  | _, _, 0, r => r
  | _, _, _ + 1, .nil => .nil
  | _, _, n + 1, .cons _ t => Vals.drop n t
def RelO : Option V → Option Value → Prop
  | some v, some u => RelV v u
  | none, none => True
  | _, _ => False
def KV {κ : Type} : List (κ × V) → List (κ × Value) → Prop := Paired fun (p : κ × V) (q : κ × Value) => p.1 = q.1 ∧ RelV p.2 q.2
def kV : Key → V
  | .inl i => .int i
  | .inr x => .str x
inductive HO where
  | lst (xs : List V)
  | tup (xs : List V)
  | dK (kvs : List (Key × V)) | dT (kvs : List (List Key × V))
  | set (S : Int → Bool) (n : Nat)
  | ins (C dx : Addr) (fs : List (Str × V))
  | own (x : Addr)
  | xd (fs : List (Str × V))
  | met (f x : Addr)
  | rng (lo hi : Int)
  | frz (o : Obj) (u : HO)
  | tbl (ps : Array Value)
  | ext (φ : Heap → Prop)
abbrev Hp := Addr → Option HO
def upd (H : Hp) (a : Addr) (o : HO) : Hp := fun b => if b = a then some o else H b
theorem upd_same {H : Hp} {a : Addr} {o : HO} : upd H a o a = some o := by unfold upd; rw [if_pos rfl]
theorem upd_ne {H : Hp} {a b : Addr} {o : HO} (h : b ≠ a) : upd H a o b = H b := by unfold upd; rw [if_neg h]
theorem ne_of {H : Hp} {a b : Addr} {o u : HO} (h : H a = some o) (h' : H b = some u) (d : o ≠ u) : a ≠ b := by
  intro e; subst e; rw [h] at h'; exact d (Option.some.inj h')
theorem ne_of_none {H : Hp} {a b : Addr} {o : HO} (h : H a = some o) (h' : H b = none) : a ≠ b := by
  intro e; subst e; rw [h] at h'; cases h'
section
variable (P : Program) (w : World)
def ObjOk (H : Hp) (h : Heap) (a : Addr) : HO → Prop
  | .lst xs => xs.length ≤ sizeLine ∧ ∃ (its : List Value) (n : Nat), Vals xs its ∧ h.get? a = some { cls := .type "list", data := .seq its.toArray n }
  | .tup xs => xs.length ≤ sizeLine ∧ ∃ its : List Value, Vals xs its ∧ IsTup h a its.toArray
  | .dK kvs => kvs.length ≤ sizeLine ∧ (a == sysModules) = false ∧ ∃ vs, KV kvs vs ∧ h.DictOf (mixKind P w) a vs
  | .dT kvs => kvs.length ≤ sizeLine ∧ (a == sysModules) = false ∧ ∃ xs : List (List Key × Addr × Value),
      Paired (fun (p : List Key × V) (q : List Key × Addr × Value) => p.1 = q.1 ∧ H q.2.1 = some (.tup (p.1.map kV)) ∧ RelV p.2 q.2.2) kvs xs ∧
      ∃ o es ep, h.get? a = some o ∧ o.ExactDict ∧ o.data = .dict es ep ∧ es.toList = xs.map (entryOfKey (tupleKind (mixKind P w))) ∧ (xs.map (·.1)).Nodup
  | .set S n => h.SetOf (intKind P w) a S n
  | .ins C dx fs => H dx = some (.own a) ∧ fs.length ≤ 1000 ∧ dx ≠ a ∧ h.get? a = some (PySem.W.instObj C dx) ∧
      ∃ mA, h.Ns1 dx mA ∧ (∀ f, RelO (fs.lookup f) (mA f)) ∧ PySem.Within mA (fs.map (·.1))
  | .own _ => ∃ o, h.get? a = some o
  | .xd fs => ∃ mA, h.Ns1 a mA ∧ ∀ f, RelO (fs.lookup f) (mA f)
  | .rng lo hi => ∃ t u v, h.get? a = some { cls := .type "range", data := .fields #[.int lo t, .int hi u, .int 1 v] }
  | .frz o u => h.get? a = some o ∧ ObjOk H h a u
  | .tbl ps => h.get? a = some { cls := .none, data := .fields ps }
  | .met f x => h.get? a = some (PySem.W.methodObj (.ref f) (.ref x))
  | .ext φ => φ h ∧ (∃ o, h.get? a = some o) ∧ ∀ h1 h2 : Heap, φ h1 → (∀ o, h1.get? a = some o → h2.get? a = some o) → φ h2
def HOk (H : Hp) (h : Heap) : Prop := ∀ a o, H a = some o → ObjOk P w H h a o
end
section
variable {P : Program} {w : World} {H H' : Hp} {h h' : Heap} {a : Addr} {o : HO}
theorem ObjOk.lt (x : ObjOk P w H h a o) : a < h.objs.size := by
  cases o with
  | lst xs => obtain ⟨_, _, _, _, e⟩ := x; exact Heap.lt_size e
  | tup xs => obtain ⟨_, _, _, p⟩ := x; exact p.lt
  | dK kvs => obtain ⟨_, _, _, _, o, _, _, e, _⟩ := x; exact Heap.lt_size e
  | dT kvs => obtain ⟨_, _, _, _, o, _, _, e, _⟩ := x; exact Heap.lt_size e
  | set S n => obtain ⟨o, _, _, _, e, _⟩ := x; exact Heap.lt_size e
  | ins C dx fs => obtain ⟨_, _, _, e, _⟩ := x; exact Heap.lt_size e
  | own y => obtain ⟨_, e⟩ := x; exact Heap.lt_size e
  | xd fs => obtain ⟨_, ⟨_, _, _, e, _⟩, _⟩ := x; exact Heap.lt_size e
  | rng lo hi => obtain ⟨_, _, _, e⟩ := x; exact Heap.lt_size e
  | frz ob u => obtain ⟨e, _⟩ := x; exact Heap.lt_size e
  | tbl ps => exact Heap.lt_size (show h.get? a = some _ from x)
  | met f y => exact Heap.lt_size (show h.get? a = some _ from x)
  | ext φ => obtain ⟨_, ⟨_, e⟩, _⟩ := x; exact Heap.lt_size e
theorem Paired.mapP {α β : Type} {F G : α → β → Prop} : ∀ {l₁ : List α} {l₂ : List β}, Paired F l₁ l₂ → (∀ a b, F a b → G a b) → Paired G l₁ l₂
  | _, _, .nil, _ => .nil
  | _, _, .cons r t, f => .cons (f _ _ r) (Paired.mapP t f)
theorem ObjOk.stay (x : ObjOk P w H h a o) (k : ∀ b u, (b = a ∨ H b = some (.own a)) → h.get? b = some u → h'.get? b = some u)
    (ho : ∀ b, H b = some (.own a) → H' b = some (.own a)) (ht : ∀ b xs, H b = some (.tup xs) → H' b = some (.tup xs)) : ObjOk P w H' h' a o := by
  induction o with
  | lst xs => obtain ⟨z, its, n, r, e⟩ := x; exact ⟨z, its, n, r, k _ _ (.inl rfl) e⟩
  | tup xs => obtain ⟨z, its, r, ob, e, c⟩ := x; exact ⟨z, its, r, ob, k _ _ (.inl rfl) e, c⟩
  | dK kvs => obtain ⟨z, y, vs, r, ob, es, ep, e, c⟩ := x; exact ⟨z, y, vs, r, ob, es, ep, k _ _ (.inl rfl) e, c⟩
  | dT kvs =>
    obtain ⟨z, y, xs, r, ob, es, ep, e, c⟩ := x
    exact ⟨z, y, xs, Paired.mapP r fun p q z => ⟨z.1, ht _ _ z.2.1, z.2.2⟩, ob, es, ep, k _ _ (.inl rfl) e, c⟩
  | set S n => obtain ⟨ob, es, ep, t, e, c⟩ := x; exact ⟨ob, es, ep, t, k _ _ (.inl rfl) e, c⟩
  | ins C dx fs =>
    obtain ⟨d, z, ne, e, mA, ⟨od, es, ep, e2, c⟩, r⟩ := x
    exact ⟨ho _ d, z, ne, k _ _ (.inl rfl) e, mA, ⟨od, es, ep, k _ _ (.inr d) e2, c⟩, r⟩
  | own y => obtain ⟨ob, e⟩ := x; exact ⟨ob, k _ _ (.inl rfl) e⟩
  | xd fs => obtain ⟨mA, ⟨od, es, ep, e, c⟩, r⟩ := x; exact ⟨mA, ⟨od, es, ep, k _ _ (.inl rfl) e, c⟩, r⟩
  | rng lo hi => obtain ⟨t, u, v, e⟩ := x; exact ⟨t, u, v, k _ _ (.inl rfl) e⟩
  | frz ob u ih => obtain ⟨e, q⟩ := x; exact ⟨k _ _ (.inl rfl) e, ih q⟩
  | tbl ps =>
    have e : h.get? a = some { cls := .none, data := .fields ps } := x
    show h'.get? a = some { cls := .none, data := .fields ps }
    exact k a _ (.inl rfl) e
  | met f y =>
    have e : h.get? a = some (PySem.W.methodObj (.ref f) (.ref y)) := x
    show h'.get? a = some (PySem.W.methodObj (.ref f) (.ref y))
    exact k a _ (.inl rfl) e
  | ext φ => obtain ⟨p, ⟨o, e⟩, st⟩ := x; exact ⟨st _ _ p fun o q => k _ _ (.inl rfl) q, ⟨o, k _ _ (.inl rfl) e⟩, st⟩
theorem HOk.lt (x : HOk P w H h) (e : H a = some o) : a < h.objs.size := (x a o e).lt
theorem HOk.fresh (x : HOk P w H h) (e : h.objs.size ≤ a) : H a = none := by
  cases q : H a with
  | none => rfl
  | some u => exact absurd (Nat.lt_of_lt_of_le (x.lt q) e) (Nat.lt_irrefl _)
theorem HOk.kept (x : HOk P w H h) (k : ∀ b u, h.get? b = some u → h'.get? b = some u) : HOk P w H h' := fun a o e =>
  (x a o e).stay (fun b u _ q => k b u q) (fun _ q => q) fun _ _ q => q
theorem HOk.laid (x : HOk P w H h) (k : ∀ b u, h.get? b = some u → h'.get? b = some u) (hp : h.objs.size ≤ a) (new : ObjOk P w (upd H a o) h' a o) : HOk P w (upd H a o) h' := fun b u e => by
  have hn := x.fresh hp
  by_cases hb : b = a
  · subst hb; rw [upd_same] at e; cases e; exact new
  · rw [upd_ne hb] at e
    exact (x b u e).stay (fun c v _ q => k c v q) (fun c q => by rw [upd_ne (ne_of_none q hn)]; exact q) fun c xs q => by rw [upd_ne (ne_of_none q hn)]; exact q
end
def Rd (H : Hp) (a : Addr) (u : HO) : Prop := H a = some u ∨ ∃ o, H a = some (.frz o u)
theorem Rd.ok {P : Program} {w : World} {H : Hp} {h : Heap} {a : Addr} {u : HO} (r : Rd H a u) (x : HOk P w H h) : ObjOk P w H h a u := by
  rcases r with r | ⟨o, r⟩
  · exact x a u r
  · obtain ⟨_, q⟩ := x a _ r
    exact q
def Mut : Option HO → Prop
  | some (.lst _) => True
  | some (.dK _) => True
  | some (.dT _) => True
  | some (.set _ _) => True
  | some (.ins _ _ _) => True
  | some (.ext _) => True
  | _ => False
section
variable {P : Program} {w : World} {H : Hp} {h h' : Heap} {x e : Addr} {o' : HO}
theorem HOk.write (ok : HOk P w H h) (mu : Mut (H x)) (he : e = x ∨ H e = some (.own x)) (k : ∀ b u, b ≠ e → h.get? b = some u → h'.get? b = some u) (heo : ∃ u, h'.get? e = some u)
    (new : ObjOk P w (upd H x o') h' x o') : HOk P w (upd H x o') h' := fun b u q => by
  have nown : ∀ c y, H c = some (.own y) → c ≠ x := fun c y r z => by subst z; rw [r] at mu; exact mu
  have ntup : ∀ c xs, H c = some (.tup xs) → c ≠ x := fun c xs r z => by subst z; rw [r] at mu; exact mu
  by_cases hb : b = x
  · subst hb; rw [upd_same] at q; cases q; exact new
  · rw [upd_ne hb] at q
    by_cases hbe : b = e
    · have q' : H b = some (.own x) := by
        rcases he with z | z
        · exact absurd (hbe.trans z) hb
        · rw [hbe]; exact z
      rw [q] at q'; cases q'
      obtain ⟨v, hv⟩ := heo
      exact ⟨v, by rw [hbe]; exact hv⟩
    · refine (ok b u q).stay (fun c v hc r => k c v ?_ r) (fun c r => by rw [upd_ne (nown c b r)]; exact r) fun c xs r => by rw [upd_ne (ntup c xs r)]; exact r
      rcases hc with rfl | hc
      · exact hbe
      · rintro rfl
        rcases he with z | z
        · exact nown c b hc z
        · rw [hc] at z; cases z; exact hb rfl
end
structure Un (fs ex : List Addr) (H H' : Hp) (h h' : Heap) : Prop where
  keep : ∀ b o, h.get? b = some o → H b = none → b ∉ fs → b ∉ ex → h'.get? b = some o
  slot : ∀ b o, h.get? b = some o → H b = none → b ∈ fs → b ∉ ex → ∃ sl, h'.get? b = some { o with slots := sl }
  free : ∀ b o, h.get? b = some o → H b = none → b ∉ ex → H' b = none
  there : ∀ b o, h.get? b = some o → b ∉ ex → ∃ o', h'.get? b = some o'
  tups : ∀ b xs, H b = some (.tup xs) → H' b = some (.tup xs)
  frzs : ∀ b o u, H b = some (.frz o u) → H' b = some (.frz o u)
  tbls : ∀ b ps, H b = some (.tbl ps) → ∃ more, H' b = some (.tbl (ps ++ more))
section
variable {fs fs' ex ex' : List Addr} {H H1 H2 : Hp} {h h1 h2 h' : Heap} {a x e : Addr} {o : HO}
theorem Un.any (u : Un fs ex H H1 h h1) {b : Addr} {ob : Obj} (q : h.get? b = some ob) (n : H b = none) (hx : b ∉ ex) : ∃ sl, h1.get? b = some { ob with slots := sl } := by
  by_cases hb : b ∈ fs
  · exact u.slot b ob q n hb hx
  · exact ⟨ob.slots, u.keep b ob q n hb hx⟩
theorem Un.kept (k : ∀ b u, h.get? b = some u → h'.get? b = some u) : Un fs ex H H h h' :=
  ⟨fun b ob q _ _ _ => k b ob q, fun b ob q _ _ _ => ⟨ob.slots, k b ob q⟩, fun _ _ _ n _ => n, fun b ob q _ => ⟨ob, k b ob q⟩, fun _ _ q => q, fun _ _ _ q => q, fun _ ps q => ⟨#[], by rw [q]; simp⟩⟩
theorem Un.refl : Un fs ex H H h h := Un.kept fun _ _ q => q
theorem Un.laid (k : ∀ b u, h.get? b = some u → h'.get? b = some u) (hp : h.objs.size ≤ a) (hn : H a = none) : Un fs ex H (upd H a o) h h' where
  keep := fun b u q _ _ _ => k b u q
  slot := fun b u q _ _ _ => ⟨u.slots, k b u q⟩
  free := fun b u q n _ => by rw [upd_ne (Nat.ne_of_lt (Nat.lt_of_lt_of_le (Heap.lt_size q) hp))]; exact n
  there := fun b u q _ => ⟨u, k b u q⟩
  tups := fun b xs q => by rw [upd_ne (ne_of_none q hn)]; exact q
  frzs := fun b u xs q => by rw [upd_ne (ne_of_none q hn)]; exact q
  tbls := fun b ps q => ⟨#[], by rw [upd_ne (ne_of_none q hn), q]; simp⟩
theorem Un.write (mu : Mut (H x)) (he : e = x ∨ H e = some (.own x)) (k : ∀ b u, b ≠ e → h.get? b = some u → h'.get? b = some u) (heo : ∃ u, h'.get? e = some u) : Un fs ex H (upd H x o) h h' := by
  have hx : ∀ b, H b = none → b ≠ x := fun b n z => by subst z; rw [n] at mu; exact mu
  have hb : ∀ b, H b = none → b ≠ e := fun b n z => by
    subst z
    rcases he with r | r
    · exact hx b n r
    · rw [n] at r; cases r
  have hm : ∀ b u, H b = some u → ¬ Mut (some u) → b ≠ x := fun b u q nm z => by subst z; rw [q] at mu; exact nm mu
  refine ⟨fun b u q n _ _ => k b u (hb b n) q, fun b u q n _ _ => ⟨u.slots, k b u (hb b n) q⟩, fun b u q n _ => by rw [upd_ne (hx b n)]; exact n, fun b u q _ => ?_,
    fun b xs q => by rw [upd_ne (hm b _ q fun z => z)]; exact q, fun b u xs q => by rw [upd_ne (hm b _ q fun z => z)]; exact q, fun b ps q => ⟨#[], by rw [upd_ne (hm b _ q fun z => z), q]; simp⟩⟩
  by_cases hbe : b = e
  · subst hbe; exact heo
  · exact ⟨u, k b u hbe q⟩
end
def trk (h : Heap) (H : Hp) : List Addr := (List.range h.objs.size).filter fun a => (H a).isSome
def hidT (h : Heap) (H : Hp) : Heap := PySem.W.hideAll h (trk h H)
theorem hidT_size (h : Heap) (H : Hp) : (hidT h H).objs.size = h.objs.size := PySem.W.hideAll_size _ _
theorem hidT_get {h : Heap} {H : Hp} {b : Addr} {o : Obj} (e : h.get? b = some o) (n : H b = none) : (hidT h H).get? b = some o :=
  PySem.W.hideAll_get _ e fun hm => by
    have q : (H b).isSome = true := (List.mem_filter.mp hm).2
    rw [n] at q; simp at q
theorem of_hidT {h : Heap} {H : Hp} {b : Addr} {o : Obj} (e : (hidT h H).get? b = some o) : h.get? b = some o ∧ H b = none := by
  have e' : h.get? b = some o := PySem.W.of_hideAll (trk h H) e
  refine ⟨e', ?_⟩
  cases q : H b with
  | none => rfl
  | some x =>
    have hm : b ∈ trk h H := List.mem_filter.mpr ⟨List.mem_range.mpr (Heap.lt_size e'), by simp [q]⟩
    have z : (hidT h H).get? b = none := PySem.W.hideAll_none (trk h H) hm
    rw [z] at e; cases e
structure Mod (K : PySem.W.Frag) (mg : Str → Option Value) (base : Heap) : Prop where
  kin : K.In base
  glob : base.Ns mainGlobals mg
  blt : ∃ mb, base.Ns builtinsNs mb ∧ ∀ x : Str, x ≠ "__name__" → mb x = bootBuiltins x
  nolimit : base.NoLimit
structure Cx where
  prog : Program
  w : World
  K : PySem.W.Frag
  mg : Str → Option Value
  base : Heap
  A : Around
  N : List Str
  s₀ : Shared
  H₀ : Hp
  env : Env
  outer : List Env
  stack : List Env
  ex : List Addr
  fn : Str → Bool
  calm : Bool
  pn : List (Addr × Obj)
  xe : Value → Shared → Prop
def frs (l : List Env) : List Addr := l.filterMap (·.frame)
abbrev Cx.fs (X : Cx) : List Addr := frs X.outer
def Vis (sc : Scope) (x : Str) : Prop := sc.names.lookup x = some .local ∨ sc.names.lookup x = some .cell ∨ sc.names.lookup x = some .free
def Loc (sc : Scope) (x : Str) : Prop := sc.names.lookup x = some .local ∨ sc.names.lookup x = some .cell
def Look (env : Env) (h : Heap) (m : Str → Option Value) (x : Str) (u : Value) : Prop :=
  (env.kindOf x = some .local ∧ m x = some u) ∨ ((env.kindOf x = some .cell ∨ env.kindOf x = some .free) ∧ ∃ c, env.cells.lookup x = some c ∧ h.IsCell c (some u))
structure Cx.Ok (X : Cx) : Prop where
  mod : Mod X.K X.mg X.base
  kind : X.env.scope.kind = .function
  glob : X.env.globals = mainGlobals
  blt : X.env.builtins = builtinsNs
  above : X.s₀.heap.objs.size ≤ X.env.locals
  inj : ∀ x y c, X.env.cells.lookup x = some c → X.env.cells.lookup y = some c → x = y
  has : ∀ x, (X.env.kindOf x = some .cell ∨ X.env.kindOf x = some .free) → ∃ c, X.env.cells.lookup x = some c
  cab : ∀ x c, X.fn x = true → X.env.cells.lookup x = some c → X.s₀.heap.objs.size ≤ c
  hd : X.calm = true → X.A.handled = none
  frames : X.A.frames = some X.stack
  stk : X.stack = X.outer ∨ (X.stack = X.env :: X.outer ∧ X.env.frame = some X.env.locals)
  exf : ∀ b ∈ X.ex, b ≠ X.env.locals ∧ ∀ x c, X.env.cells.lookup x = some c → c ≠ b
  bs : ∀ b o, X.base.get? b = some o → X.s₀.heap.get? b = some o ∧ X.H₀ b = none
  bsz : X.base.objs.size ≤ X.s₀.heap.objs.size
  noex : ∀ b o, X.base.get? b = some o → b ∉ X.ex
  exfs : ∀ b ∈ X.ex, b ∉ X.fs
  funs : X.s₀.heap.FunFrames X.base X.outer
  frf : ∀ b ∈ X.fs, X.H₀ b = none
structure Inv (X : Cx) (pins : List (Addr × Obj)) (σ : List (Option V)) (H : Hp) (s : Shared) : Prop where
  ok : X.Ok
  os : s.os = X.s₀.os
  bare : AllBare s.gens
  base : Un X.fs X.ex X.H₀ H X.s₀.heap s.heap
  loc : ∃ m, s.heap.Ns X.env.locals m ∧ ∀ (i : Nat) (x : Str) (v : V), X.N[i]? = some x → σ[i]? = some (some v) → Vis X.env.scope x → ∃ u, RelV v u ∧ Look X.env s.heap m x u
  cell : ∀ x c, X.env.cells.lookup x = some c → ∃ v, s.heap.IsCell c v
  free : H X.env.locals = none
  freeC : ∀ x c, X.env.cells.lookup x = some c → H c = none
  pin : ∀ p ∈ X.pn ++ pins, s.heap.get? p.1 = some p.2 ∧ H p.1 = none ∧ p.1 ≠ X.env.locals ∧ p.1 ∉ X.fs ∧ ∀ v, p.2.data ≠ .cell v
  hok : HOk X.prog X.w H s.heap
  len : σ.length = X.N.length
section
variable {X : Cx} {pins : List (Addr × Obj)} {σ : List (Option V)} {H H' : Hp} {s : Shared} {h' : Heap}
theorem Cx.Ok.nofr (ok : X.Ok) {b : Addr} {o : Obj} (e : X.base.get? b = some o) : b ∉ X.fs := fun hb => by
  have := (ok.funs.mem hb).1
  rw [e] at this; cases this
theorem Inv.bs (I : Inv X pins σ H s) : ∀ b o, X.base.get? b = some o → s.heap.get? b = some o ∧ H b = none := fun b o e =>
  ⟨I.base.keep b o (I.ok.bs b o e).1 (I.ok.bs b o e).2 (I.ok.nofr e) (I.ok.noex b o e), I.base.free b o (I.ok.bs b o e).1 (I.ok.bs b o e).2 (I.ok.noex b o e)⟩
theorem Inv.bk (I : Inv X pins σ H s) : ∀ b o, X.base.get? b = some o → s.heap.get? b = some o := fun b o e => (I.bs b o e).1
theorem Inv.mod (I : Inv X pins σ H s) : Mod X.K X.mg X.base := I.ok.mod
theorem Inv.kIn (I : Inv X pins σ H s) : X.K.In s.heap := I.ok.mod.kin.keeps I.bk
theorem Inv.lt (I : Inv X pins σ H s) : X.env.locals < s.heap.objs.size := let ⟨_, hn, _⟩ := I.loc; hn.lt
theorem Inv.sz (I : Inv X pins σ H s) : X.s₀.heap.objs.size ≤ s.heap.objs.size := Nat.le_trans I.ok.above (Nat.le_of_lt I.lt)
theorem Inv.nofs (I : Inv X pins σ H s) {a : Addr} (h : s.heap.objs.size ≤ a) : a ∉ X.fs := fun hb => by
  obtain ⟨_, o, ho, _⟩ := I.ok.funs.mem hb
  exact absurd (Nat.lt_of_lt_of_le (Heap.lt_size ho) (Nat.le_trans I.sz h)) (Nat.lt_irrefl _)
theorem Inv.cne (I : Inv X pins σ H s) : ∀ x c, X.env.cells.lookup x = some c → c ≠ X.env.locals := fun x c e z => by
  obtain ⟨v, o, ho, hd⟩ := I.cell x c e
  obtain ⟨m, ⟨o', es, ep, ho', hd', _⟩, _⟩ := I.loc
  rw [z, ho'] at ho; cases ho; rw [hd'] at hd; cases hd
theorem Inv.funs (I : Inv X pins σ H s) : s.heap.FunFrames X.base X.outer := by
  have all : ∀ (l : List Env), (∀ b ∈ frs l, b ∈ X.fs) → X.s₀.heap.FunFrames X.base l → s.heap.FunFrames X.base l := by
    intro l
    induction l with
    | nil => intro _ _; trivial
    | cons env r ih =>
      intro hs hl
      obtain ⟨hk, ⟨L, o, hf, hn, ho, hd⟩, hr⟩ := hl
      have hL : L ∈ X.fs := hs L (by unfold frs; rw [List.filterMap_cons, hf]; exact List.mem_cons_self)
      obtain ⟨sl, e⟩ := I.base.slot L o ho (I.ok.frf L hL) hL fun z => I.ok.exfs L z hL
      exact ⟨hk, ⟨L, _, hf, hn, e, hd⟩, ih (fun b hb => hs b (by unfold frs; rw [List.filterMap_cons, hf]; exact List.mem_cons_of_mem _ hb)) hr⟩
  exact all X.outer (fun _ hb => hb) I.ok.funs
theorem Inv.stack (I : Inv X pins σ H s) : s.heap.FunFrames X.base X.stack := by
  rcases I.ok.stk with e | ⟨e, hf⟩
  · rw [e]; exact I.funs
  · rw [e]
    obtain ⟨m, hn, _⟩ := I.loc
    refine .cons (by rw [I.ok.kind]; decide) hf hn ?_ I.funs
    exact Heap.get?_none_of_le (Nat.le_trans I.ok.bsz I.ok.above)
theorem Inv.stkSub (I : Inv X pins σ H s) : ∀ b ∈ frs X.stack, b ∈ X.env.locals :: X.fs := fun b hb => by
  rcases I.ok.stk with e | ⟨e, hf⟩
  · rw [e] at hb; exact List.mem_cons_of_mem _ hb
  · rw [e] at hb
    unfold frs at hb
    rw [List.filterMap_cons, hf] at hb
    exact hb
theorem Inv.stkFree (I : Inv X pins σ H s) : ∀ b ∈ frs X.stack, H b = none := fun b hb => by
  rcases List.mem_cons.mp (I.stkSub b hb) with e | hb
  · rw [e]; exact I.free
  · obtain ⟨_, o, ho, _⟩ := I.ok.funs.mem hb
    exact I.base.free b o ho (I.ok.frf b hb) fun z => I.ok.exfs b z hb
theorem Inv.step {g' : Array GenState} {t' : Nat} {d' : Drawn} {ch : List Addr} (I : Inv X pins σ H s)
    (hch : ∀ b ∈ ch, (b ∈ X.ex ∨ X.s₀.heap.objs.size ≤ b) ∧ b ≠ X.env.locals ∧ (∀ x c, X.env.cells.lookup x = some c → c ≠ b) ∧ ∀ p ∈ X.pn ++ pins, p.1 ≠ b)
    (keep : ∀ b o, b ≠ X.env.locals → b ∉ X.fs → b ∉ ch → s.heap.get? b = some o → H b = none → h'.get? b = some o)
    (slot : ∀ b o, b ≠ X.env.locals → b ∈ X.fs → b ∉ ch → s.heap.get? b = some o → H b = none → ∃ sl, h'.get? b = some { o with slots := sl }) (free : ∀ b o, b ∉ ch → s.heap.get? b = some o → H b = none → H' b = none)
    (there : ∀ b o, b ∉ ch → s.heap.get? b = some o → ∃ o', h'.get? b = some o')
    (tups : ∀ b xs, H b = some (.tup xs) → H' b = some (.tup xs)) (frzs : ∀ b o u, H b = some (.frz o u) → H' b = some (.frz o u)) (tbls : ∀ b ps, H b = some (.tbl ps) → ∃ more, H' b = some (.tbl (ps ++ more)))
    (ns : ∀ m, s.heap.Ns X.env.locals m → h'.Ns X.env.locals m) (hok : HOk X.prog X.w H' h') (hg : AllBare g') :
    Inv X pins σ H' { s with heap := h', gens := g', drawn := d', toks := t' } := by
  have neL : ∀ b o, X.s₀.heap.get? b = some o → b ≠ X.env.locals := fun b o e => Nat.ne_of_lt (Nat.lt_of_lt_of_le (Heap.lt_size e) I.ok.above)
  have neC : ∀ b o, X.s₀.heap.get? b = some o → b ∉ X.ex → b ∉ ch := fun b o e hx hb => by
    rcases (hch b hb).1 with z | z
    · exact hx z
    · exact absurd (Nat.lt_of_lt_of_le (Heap.lt_size e) z) (Nat.lt_irrefl _)
  have cellK : ∀ x c, X.env.cells.lookup x = some c → ∀ v, s.heap.IsCell c v → h'.IsCell c v := fun x c e v ⟨o, ho, hd⟩ => by
    have nch : c ∉ ch := fun z => (hch c z).2.2.1 x c e rfl
    by_cases hc : c ∈ X.fs
    · obtain ⟨sl, q⟩ := slot c o (I.cne x c e) hc nch ho (I.freeC x c e)
      exact ⟨_, q, hd⟩
    · exact ⟨o, keep c o (I.cne x c e) hc nch ho (I.freeC x c e), hd⟩
  refine ⟨I.ok, I.os, hg, ⟨fun b o e n hb hx => ?_, fun b o e n hb hx => ?_, fun b o e n hx => ?_, fun b o e hx => ?_, fun b xs e => tups b xs (I.base.tups b xs e), fun b o xs e => frzs b o xs (I.base.frzs b o xs e), fun b ps e => ?_⟩, ?_, fun x c e => ?_, ?_, fun x c e => ?_, fun p hp => ?_, hok, I.len⟩
  · exact keep b o (neL b o e) hb (neC b o e hx) (I.base.keep b o e n hb hx) (I.base.free b o e n hx)
  · obtain ⟨sl, e1⟩ := I.base.slot b o e n hb hx
    obtain ⟨sl', e2⟩ := slot b _ (neL b o e) hb (neC b o e hx) e1 (I.base.free b o e n hx)
    exact ⟨sl', e2⟩
  · obtain ⟨o', e1⟩ := I.base.there b o e hx
    exact free b o' (neC b o e hx) e1 (I.base.free b o e n hx)
  · obtain ⟨o', e1⟩ := I.base.there b o e hx
    exact there b o' (neC b o e hx) e1
  · obtain ⟨m1, e1⟩ := I.base.tbls b ps e
    obtain ⟨m2, e2⟩ := tbls b _ e1
    exact ⟨m1 ++ m2, by rw [e2, Array.append_assoc]⟩
  · obtain ⟨m, hn, hl⟩ := I.loc
    refine ⟨m, ns m hn, fun i x v e1 e2 e3 => ?_⟩
    obtain ⟨u, r, l⟩ := hl i x v e1 e2 e3
    refine ⟨u, r, ?_⟩
    rcases l with l | ⟨k, c, e, z⟩
    · exact .inl l
    · exact .inr ⟨k, c, e, cellK x c e _ z⟩
  · obtain ⟨v, z⟩ := I.cell x c e
    exact ⟨v, cellK x c e v z⟩
  · obtain ⟨m, ⟨o, _, _, ho, _⟩, _⟩ := I.loc
    exact free _ o (fun z => (hch _ z).2.1 rfl) ho I.free
  · obtain ⟨v, o, ho, hd⟩ := I.cell x c e
    exact free c o (fun z => (hch c z).2.2.1 x c e rfl) ho (I.freeC x c e)
  · obtain ⟨e, n, ne, nf, d⟩ := I.pin p hp
    have nch : p.1 ∉ ch := fun z => (hch p.1 z).2.2.2 p hp rfl
    exact ⟨keep p.1 p.2 ne nf nch e n, free p.1 p.2 nch e n, ne, nf, d⟩
theorem Inv.un {t' : Nat} (I : Inv X pins σ H s) (u : Un X.fs [] H H' s.heap h') (hok : HOk X.prog X.w H' h') : Inv X pins σ H' { s with heap := h', toks := t' } := by
  obtain ⟨m, ⟨o, es, ep, ho, r⟩, _⟩ := id I.loc
  obtain ⟨sl, hL⟩ := u.any ho I.free (by simp)
  exact I.step (g' := s.gens) (d' := s.drawn) (ch := []) (fun _ z => nomatch z) (fun b o _ hb _ e n => u.keep b o e n hb (by simp)) (fun b o _ hb _ e n => u.slot b o e n hb (by simp)) (fun b o _ e n => u.free b o e n (by simp)) (fun b o _ e => u.there b o e (by simp)) u.tups u.frzs u.tbls (fun m' hm => by
    obtain ⟨o', es', ep', ho', r'⟩ := hm
    rw [ho] at ho'; cases ho'
    exact ⟨_, es', ep', hL, r'⟩) hok I.bare
theorem Inv.call {g' : Array GenState} {t' : Nat} {d' : Drawn} {ch : List Addr} (I : Inv X pins σ H s) (u : Un (frs X.stack) ch H H' s.heap h') (hok : HOk X.prog X.w H' h') (hg : AllBare g')
    (hch : ∀ b ∈ ch, (b ∈ X.ex ∨ X.s₀.heap.objs.size ≤ b) ∧ b ≠ X.env.locals ∧ (∀ x c, X.env.cells.lookup x = some c → c ≠ b) ∧ ∀ p ∈ X.pn ++ pins, p.1 ≠ b) :
    Inv X pins σ H' { s with heap := h', gens := g', drawn := d', toks := t' } := by
  obtain ⟨m, ⟨o, es, ep, ho, r⟩, _⟩ := id I.loc
  obtain ⟨sl, hL⟩ := u.any ho I.free fun z => (hch _ z).2.1 rfl
  exact I.step (ch := ch) hch (fun b o hL hb hc e n => u.keep b o e n (fun z => (List.mem_cons.mp (I.stkSub b z)).elim hL hb) hc) (fun b o _ _ hc e n => u.any e n hc) (fun b o hc e n => u.free b o e n hc) (fun b o hc e => u.there b o e hc) u.tups u.frzs u.tbls (fun m' hm => by
    obtain ⟨o', es', ep', ho', r'⟩ := hm
    rw [ho] at ho'; cases ho'
    exact ⟨_, es', ep', hL, r'⟩) hok hg
theorem Inv.turned {t' : Nat} {it : Addr} (I : Inv X pins σ H s) (k : ∀ b o, b ≠ it → s.heap.get? b = some o → h'.get? b = some o) (hn : H it = none) (hL : it ≠ X.env.locals)
    (h1 : it ∈ X.ex ∨ X.s₀.heap.objs.size ≤ it) (h2 : ∀ x c, X.env.cells.lookup x = some c → c ≠ it) (h3 : ∀ p ∈ X.pn ++ pins, p.1 ≠ it) : Inv X pins σ H { s with heap := h', toks := t' } := by
  have nit : ∀ b u, H b = some u → b ≠ it := fun b u e z => by rw [z, hn] at e; cases e
  refine I.step (g' := s.gens) (d' := s.drawn) (ch := [it]) (fun b hb => ?_) (fun b o _ _ hc e _ => k b o (fun z => hc (by simp [z])) e) (fun b o _ _ hc e _ => ⟨o.slots, k b o (fun z => hc (by simp [z])) e⟩) (fun _ _ _ _ n => n)
    (fun b o hc e => ⟨o, k b o (fun z => hc (by simp [z])) e⟩) (fun _ _ e => e) (fun _ _ _ e => e) (fun b ps e => ⟨#[], by rw [e]; simp⟩) (fun m hm => ?_) (fun b u e => ?_) I.bare
  · have e : b = it := by simpa using hb
    subst e
    exact ⟨h1, hL, h2, h3⟩
  · obtain ⟨o, es, ep, ho, r⟩ := hm
    exact ⟨o, es, ep, k _ o (Ne.symm hL) ho, r⟩
  · refine (I.hok b u e).stay (fun c v hc q => k c v ?_ q) (fun _ q => q) fun _ _ q => q
    rcases hc with z | z
    · rw [z]; exact nit b u e
    · exact nit c _ z
theorem Inv.tok (I : Inv X pins σ H s) (t : Nat) : Inv X pins σ H { s with toks := t } := I.un (h' := s.heap) (t' := t) Un.refl I.hok
theorem Inv.kept {t' : Nat} (I : Inv X pins σ H s) (k : ∀ b u, s.heap.get? b = some u → h'.get? b = some u) : Inv X pins σ H { s with heap := h', toks := t' } := I.un (Un.kept k) (I.hok.kept k)
theorem Inv.laid {a : Addr} {o : HO} {t' : Nat} (I : Inv X pins σ H s) (k : ∀ b u, s.heap.get? b = some u → h'.get? b = some u) (hp : s.heap.objs.size ≤ a) (new : ObjOk X.prog X.w (upd H a o) h' a o) :
    Inv X pins σ (upd H a o) { s with heap := h', toks := t' } := I.un (Un.laid k hp (I.hok.fresh hp)) (I.hok.laid k hp new)
theorem Inv.write {x e : Addr} {o : HO} {t' : Nat} (I : Inv X pins σ H s) (mu : Mut (H x)) (he : e = x ∨ H e = some (.own x)) (k : ∀ b u, b ≠ e → s.heap.get? b = some u → h'.get? b = some u) (heo : ∃ u, h'.get? e = some u)
    (new : ObjOk X.prog X.w (upd H x o) h' x o) : Inv X pins σ (upd H x o) { s with heap := h', toks := t' } := I.un (Un.write mu he k heo) (I.hok.write mu he k heo new)
theorem Inv.pins_of {pins' : List (Addr × Obj)} (I : Inv X pins σ H s) (h : ∀ p ∈ pins', s.heap.get? p.1 = some p.2 ∧ H p.1 = none ∧ p.1 ≠ X.env.locals ∧ p.1 ∉ X.fs ∧ ∀ v, p.2.data ≠ .cell v) : Inv X pins' σ H s :=
  ⟨I.ok, I.os, I.bare, I.base, I.loc, I.cell, I.free, I.freeC, fun p hp => (List.mem_append.mp hp).elim (fun z => I.pin p (List.mem_append_left _ z)) (h p), I.hok, I.len⟩
theorem nodup_ix {N : List Str} (hN : N.Nodup) {i j : Nat} {x : Str} (a : N[i]? = some x) (b : N[j]? = some x) : i = j := by
  obtain ⟨h1, e1⟩ := List.getElem?_eq_some_iff.mp a
  obtain ⟨h2, e2⟩ := List.getElem?_eq_some_iff.mp b
  exact (List.getElem_inj hN).mp (e1.trans e2.symm)
theorem store_ok2 {M : Model} {A : Around} {E : Value → Shared → Prop} {i : Nat} {x : Str} {v : V} {u : Value} {Q : Unit → Shared → Prop} (I : Inv X pins σ H s) (hN : X.N.Nodup) (hi : X.N[i]? = some x) (hx : Loc X.env.scope x) (r : RelV v u)
    (h : ∀ s', Inv X pins (σ.set i (some v)) H s' → (∃ a, Heap.SameBut a s.heap s'.heap ∧ (a = X.env.locals ∨ X.env.cells.lookup x = some a)) → Q () s') (hf : X.fn x = true ∨ X.env.scope.names.lookup x = some .local := by first | exact .inl rfl | exact .inr rfl | assumption) : wpAny M A (storeName X.env x u) Q E s := by
  obtain ⟨m, hn, hl⟩ := id I.loc
  have hcls : (X.env.scope.kind == .class || (X.env.scope.kind == .module && X.env.locals != X.env.globals)) = false := by rw [I.ok.kind]; rfl
  have hiσ : i < σ.length := by rw [I.len]; exact (List.getElem?_eq_some_iff.mp hi).1
  have cne := I.cne
  have tracked : ∀ {a : Addr} {h' : Heap}, (∃ o, s.heap.get? a = some o ∧ H a = none) → Heap.SameBut a s.heap h' → HOk X.prog X.w H h' := fun {a h'} ha hs b ob e => by
    obtain ⟨_, _, hfree⟩ := ha
    refine (I.hok b ob e).stay (fun c w' hc q => (hs.2 c ?_).trans q) (fun _ q => q) fun _ _ q => q
    rintro rfl
    rcases hc with rfl | hc
    · rw [hfree] at e; cases e
    · rw [hfree] at hc; cases hc
  rcases hx with hk | hk
  · refine wpAny_storeName_local hk hn (fun h' hn' hs => ?_) hcls
    obtain ⟨oL, _, _, hoL, _⟩ := id hn
    refine h _ ⟨I.ok, I.os, I.bare, ⟨fun b o e n hb hx => ?_, fun b o e n hb hx => ?_, I.base.free, fun b o e hx => ?_, I.base.tups, I.base.frzs, I.base.tbls⟩, ⟨_, hn', fun j y v' e1 e2 e3 => ?_⟩, fun y c e => ?_, I.free, I.freeC, fun p hp => ?_, tracked ⟨oL, hoL, I.free⟩ hs, by simpa using I.len⟩ ⟨_, hs, .inl rfl⟩
    · exact (hs.2 b (Nat.ne_of_lt (Nat.lt_of_lt_of_le (Heap.lt_size e) I.ok.above))).trans (I.base.keep b o e n hb hx)
    · obtain ⟨sl, e1⟩ := I.base.slot b o e n hb hx
      exact ⟨sl, (hs.2 b (Nat.ne_of_lt (Nat.lt_of_lt_of_le (Heap.lt_size e) I.ok.above))).trans e1⟩
    · obtain ⟨o', e1⟩ := I.base.there b o e hx
      exact ⟨o', (hs.2 b (Nat.ne_of_lt (Nat.lt_of_lt_of_le (Heap.lt_size e) I.ok.above))).trans e1⟩
    · by_cases hj : j = i
      · subst hj
        rw [hi] at e1; cases e1
        rw [List.getElem?_set_self hiσ] at e2
        cases e2
        exact ⟨u, r, .inl ⟨hk, by simp⟩⟩
      · rw [List.getElem?_set_ne (Ne.symm hj)] at e2
        obtain ⟨u', r', q⟩ := hl j y v' e1 e2 e3
        refine ⟨u', r', ?_⟩
        rcases q with ⟨k, e⟩ | ⟨k, c, e, z⟩
        · refine .inl ⟨k, ?_⟩
          have : y ≠ x := fun e => hj (nodup_ix hN e1 (e ▸ hi))
          simp [this, e]
        · exact .inr ⟨k, c, e, z.sameBut hs (cne y c e)⟩
    · obtain ⟨w', z⟩ := I.cell y c e
      exact ⟨w', z.sameBut hs (cne y c e)⟩
    · obtain ⟨e, n, ne, nf, d⟩ := I.pin p hp
      exact ⟨(hs.2 p.1 ne).trans e, n, ne, nf, d⟩
  · have hfn : X.fn x = true := by
      rcases hf with z | z
      · exact z
      · rw [z] at hk; cases hk
    obtain ⟨c, hc⟩ := I.ok.has x (.inl hk)
    obtain ⟨w', z⟩ := I.cell x c hc
    refine wpAny_storeName_cell I.ok.kind hk hc z (fun h' hc' hs => ?_)
    obtain ⟨oc, hoc, hocd⟩ := id z
    refine h { s with heap := h' } ⟨I.ok, I.os, I.bare, ⟨fun b o e n hb hx => ?_, fun b o e n hb hx => ?_, I.base.free, fun b o e hx => ?_, I.base.tups, I.base.frzs, I.base.tbls⟩, ⟨m, hn.sameBut hs (Ne.symm (cne x c hc)), fun j y v' e1 e2 e3 => ?_⟩, fun y c' e => ?_, I.free, I.freeC, fun p hp => ?_, tracked ⟨oc, hoc, I.freeC x c hc⟩ hs, by simpa using I.len⟩ ⟨c, hs, .inr hc⟩
    · exact (hs.2 b (Nat.ne_of_lt (Nat.lt_of_lt_of_le (Heap.lt_size e) (I.ok.cab x c hfn hc)))).trans (I.base.keep b o e n hb hx)
    · obtain ⟨sl, e1⟩ := I.base.slot b o e n hb hx
      exact ⟨sl, (hs.2 b (Nat.ne_of_lt (Nat.lt_of_lt_of_le (Heap.lt_size e) (I.ok.cab x c hfn hc)))).trans e1⟩
    · obtain ⟨o', e1⟩ := I.base.there b o e hx
      exact ⟨o', (hs.2 b (Nat.ne_of_lt (Nat.lt_of_lt_of_le (Heap.lt_size e) (I.ok.cab x c hfn hc)))).trans e1⟩
    · by_cases hj : j = i
      · subst hj
        rw [hi] at e1; cases e1
        rw [List.getElem?_set_self hiσ] at e2
        cases e2
        exact ⟨u, r, .inr ⟨.inl hk, c, hc, hc'⟩⟩
      · rw [List.getElem?_set_ne (Ne.symm hj)] at e2
        obtain ⟨u', r', q⟩ := hl j y v' e1 e2 e3
        refine ⟨u', r', ?_⟩
        rcases q with q | ⟨k, c', e, z'⟩
        · exact .inl q
        · refine .inr ⟨k, c', e, z'.sameBut hs ?_⟩
          rintro rfl
          exact hj (nodup_ix hN e1 (I.ok.inj _ _ _ e hc ▸ hi))
    · by_cases hcc : c' = c
      · subst hcc; exact ⟨_, hc'⟩
      · obtain ⟨w2, z2⟩ := I.cell y c' e
        exact ⟨w2, z2.sameBut hs hcc⟩
    · obtain ⟨e, n, ne, nf, d⟩ := I.pin p hp
      refine ⟨(hs.2 p.1 ?_).trans e, n, ne, nf, d⟩
      intro q
      rw [q, hoc] at e
      have q' : oc = p.2 := Option.some.inj e
      exact d w' (by rw [← q']; exact hocd)
theorem store_ok {M : Model} {A : Around} {E : Value → Shared → Prop} {i : Nat} {x : Str} {v : V} {u : Value} {Q : Unit → Shared → Prop} (I : Inv X pins σ H s) (hN : X.N.Nodup) (hi : X.N[i]? = some x) (hx : Loc X.env.scope x) (r : RelV v u)
    (h : ∀ s', Inv X pins (σ.set i (some v)) H s' → Q () s') (hf : X.fn x = true ∨ X.env.scope.names.lookup x = some .local := by first | exact .inl rfl | exact .inr rfl | assumption) : wpAny M A (storeName X.env x u) Q E s :=
  store_ok2 I hN hi hx r (fun s' I' _ => h s' I') hf
theorem Inv.call' {s' : Shared} {ch : List Addr} (I : Inv X pins σ H s) (ho : s'.os = s.os) (u : Un (frs X.stack) ch H H' s.heap s'.heap) (hok : HOk X.prog X.w H' s'.heap) (hg : AllBare s'.gens)
    (hch : ∀ b ∈ ch, (b ∈ X.ex ∨ X.s₀.heap.objs.size ≤ b) ∧ b ≠ X.env.locals ∧ (∀ x c, X.env.cells.lookup x = some c → c ≠ b) ∧ ∀ p ∈ X.pn ++ pins, p.1 ≠ b) : Inv X pins σ H' s' := by
  obtain ⟨h', g', d', t', o'⟩ := s'
  have e : o' = s.os := ho
  subst e
  exact I.call (g' := g') (t' := t') (d' := d') u hok hg hch
end
abbrev XK := Value → Option Addr → Hp → Prop
abbrev St := List (Option V)
abbrev VK := V → Hp → Prop
abbrev TE := St → Hp → VK → Prop
abbrev TT := St → Hp → (Bool → Hp → Prop) → Prop
abbrev TA := St → Hp → (List V → Hp → Prop) → Prop
structure Ends where
  nx : St → Hp → Prop
  rt : VK
  bk : St → Hp → Prop := fun _ _ => False
  ct : St → Hp → Prop := fun _ _ => False
abbrev TS := Ends → St → Hp → Prop
def EP (X : Cx) (pins : List (Addr × Obj)) (σ : St) (Q : VK) (u : Value) (s' : Shared) : Prop := ∃ v H', Inv X pins σ H' s' ∧ RelV v u ∧ Q v H'
def TP (X : Cx) (pins : List (Addr × Obj)) (σ : St) (Q : Bool → Hp → Prop) (b : Bool) (s' : Shared) : Prop := ∃ H', Inv X pins σ H' s' ∧ Q b H'
def AP (X : Cx) (pins : List (Addr × Obj)) (σ : St) (Q : List V → Hp → Prop) (us : List Value) (s' : Shared) : Prop := ∃ vs H', Inv X pins σ H' s' ∧ Vals vs us ∧ Q vs H'
def SP (X : Cx) (pins : List (Addr × Obj)) (D : Ends) (f : Flow) (s' : Shared) : Prop :=
  match f with
  | .next => ∃ σ' H', Inv X pins σ' H' s' ∧ D.nx σ' H'
  | .brk => ∃ σ' H', Inv X pins σ' H' s' ∧ D.bk σ' H'
  | .cont => ∃ σ' H', Inv X pins σ' H' s' ∧ D.ct σ' H'
  | .ret u => ∃ v σ' H', Inv X pins σ' H' s' ∧ RelV v u ∧ D.rt v H'
def PE (X : Cx) (e : Expr) (t : TE) : Prop :=
  ∀ (pins : List (Addr × Obj)) (s : Shared) (σ : St) (H : Hp) (Q : VK), Inv X pins σ H s → t σ H Q → wpAny (model X.prog X.w) X.A (eval e X.env) (EP X pins σ Q) X.xe s
def PT (X : Cx) (e : Expr) (t : TT) : Prop :=
  ∀ (pins : List (Addr × Obj)) (s : Shared) (σ : St) (H : Hp) (Q : Bool → Hp → Prop), Inv X pins σ H s → t σ H Q → wpAny (model X.prog X.w) X.A (isTrue e X.env (eval e X.env)) (TP X pins σ Q) X.xe s
def PW (X : Cx) (e : Expr) (t : TT) : Prop :=
  ∀ (whole : Sem Value) (pins : List (Addr × Obj)) (s : Shared) (σ : St) (H : Hp) (Q : Bool → Hp → Prop), Inv X pins σ H s → t σ H Q → wpAny (model X.prog X.w) X.A (isTrue e X.env whole) (TP X pins σ Q) X.xe s
theorem PW.pt {X : Cx} {e : Expr} {t : TT} (h : PW X e t) : PT X e t := h _
def PA (X : Cx) (es : List Expr) (t : TA) : Prop :=
  ∀ (pos : Pos) (pins : List (Addr × Obj)) (s : Shared) (σ : St) (H : Hp) (Q : List V → Hp → Prop), Inv X pins σ H s → t σ H Q → wpAny (model X.prog X.w) X.A (spliced (backTo pos (starEach es X.env))) (AP X pins σ Q) X.xe s
def PS (X : Cx) (st : Stmt) (t : TS) : Prop :=
  ∀ (pins : List (Addr × Obj)) (s : Shared) (σ : St) (H : Hp) (D : Ends), Inv X pins σ H s → t D σ H → wpAny (model X.prog X.w) X.A (exec st X.env) (SP X pins D) X.xe s
def PSs (X : Cx) (st : List Stmt) (t : TS) : Prop :=
  ∀ (pins : List (Addr × Obj)) (s : Shared) (σ : St) (H : Hp) (D : Ends), Inv X pins σ H s → t D σ H → wpAny (model X.prog X.w) X.A (execs st X.env) (SP X pins D) X.xe s
theorem thn {α : Type} {t : Sem α} {Q Q' : α → Shared → Prop} {M : Model} {A : Around} {E : Value → Shared → Prop} {s : Shared} (h : wpAny M A t Q E s) (hQ : ∀ a s, Q a s → Q' a s) : wpAny M A t Q' E s := wpAny_mono h hQ fun _ _ x => x
section
variable {X : Cx}
theorem bin {a b : Expr} {ta tb : TE} (ha : PE X a ta) (hb : PE X b tb) {pins : List (Addr × Obj)} {s : Shared} {σ : St} {H : Hp} {R : V → V → Hp → Prop} (I : Inv X pins σ H s) (h : ta σ H fun x H1 => tb σ H1 fun y H2 => R x y H2)
    {α : Type} {Q : α → Shared → Prop} {f : Value → Value → Sem α}
    (hf : ∀ v u s2 x y H2, Inv X pins σ H2 s2 → RelV x v → RelV y u → R x y H2 → wpAny (model X.prog X.w) X.A (f v u) Q X.xe s2) :
    wpAny (model X.prog X.w) X.A (eval a X.env) (fun v s₁ => wpAny (model X.prog X.w) X.A (eval b X.env) (fun u s₂ => wpAny (model X.prog X.w) X.A (f v u) Q X.xe s₂) X.xe s₁) X.xe s := by
  refine thn (ha pins s σ H _ I h) fun v s1 ⟨x, H1, I1, r1, q1⟩ => ?_
  refine thn (hb pins s1 σ H1 _ I1 q1) fun u s2 ⟨y, H2, I2, r2, q2⟩ => ?_
  exact hf v u s2 x y H2 I2 r1 r2 q2
def tVar (i : Nat) : TE := fun σ H Q => ∃ v, σ[i]? = some (some v) ∧ Q v H
def tC (v : V) : TE := fun _ H Q => Q v H
theorem pe_var {i : Nat} {x : Str} {pos : Pos} (hN : X.N[i]? = some x) (hv : Vis X.env.scope x) (hd : (x == ("__debug__" : Str)) = false := by decide) (hcd : (x == ("__classdict__" : Str)) = false := by decide) : PE X (.Name x pos) (tVar i) := by
  intro pins s σ H Q I h
  obtain ⟨v, e, h⟩ := h
  obtain ⟨m, hn, hl⟩ := I.loc
  obtain ⟨u, r, l⟩ := hl i x v hN e hv
  have fin : EP X pins σ Q u s := ⟨v, H, I, r, h⟩
  rcases l with ⟨hk, hm⟩ | ⟨hk, c, hc, hcell⟩
  · exact wpAny_Name (wpAny_loadName_local I.ok.kind hk hn hm fin) hd
  · rcases hk with hk | hk
    · exact wpAny_Name (wpAny_loadName_cell I.ok.kind hk hc hcell fin) hd
    · exact wpAny_Name (wpAny_loadName_free I.ok.kind hk hc hcell fin hcd) hd
theorem pe_int {i j pos} : PE X (.Constant (.int i) j pos) (tC (.int i)) := fun _ _ _ H _ I h => wpAny_Constant_int ⟨.int i, H, I.tok _, ⟨_, rfl⟩, h⟩
theorem pe_bl {b j pos} : PE X (.Constant (.bool b) j pos) (tC (.bl b)) := fun _ _ _ H _ I h => Constant_bool ⟨.bl b, H, I, rfl, h⟩
theorem pe_non {j pos} : PE X (.Constant .none j pos) (tC .non) := fun _ _ _ H _ I h => Constant_none ⟨.non, H, I, rfl, h⟩
theorem pe_str {x j pos} : PE X (.Constant (.str x) j pos) (tC (.str x)) := fun _ _ _ H _ I h => Calls.Constant_str ⟨.str x, H, I.tok _, ⟨_, rfl⟩, h⟩
def Gl (X : Cx) (x : Str) : Prop := X.env.kindOf x = some .globalImplicit
theorem ld_glob {E : Value → Shared → Prop} {pins : List (Addr × Obj)} {s : Shared} {σ : St} {H : Hp} {x : Str} {u : Value} {pos : Pos} {Q : Value → Shared → Prop} (I : Inv X pins σ H s) (hg : Gl X x) (hm : X.mg x = some u) (h : Q u s)
    (hd : (x == ("__debug__" : Str)) = false := by decide) : wpAny (model X.prog X.w) X.A (eval (.Name x pos) X.env) Q E s :=
  Calls.Name_function_global I.ok.kind hg (Calls.loadGlobal_global (by rw [I.ok.glob]; exact I.mod.glob.keeps I.bk) hm h) hd
theorem ld_blt {E : Value → Shared → Prop} {pins : List (Addr × Obj)} {s : Shared} {σ : St} {H : Hp} {x : Str} {u : Value} {pos : Pos} {Q : Value → Shared → Prop} (I : Inv X pins σ H s) (hg : Gl X x) (hm : X.mg x = none) (hv : bootBuiltins x = some u) (h : Q u s)
    (hn : x ≠ "__name__" := by decide) (hd : (x == ("__debug__" : Str)) = false := by decide) : wpAny (model X.prog X.w) X.A (eval (.Name x pos) X.env) Q E s := by
  obtain ⟨mb, h1, h2⟩ := I.mod.blt
  exact Calls.Name_function_global I.ok.kind hg (Calls.loadGlobal_builtin (by rw [I.ok.glob]; exact I.mod.glob.keeps I.bk) hm (by rw [I.ok.blt]; exact h1.keeps I.bk) ((h2 x hn).trans hv) h) hd
theorem pe_glob {x : Str} {v : V} {u : Value} {pos : Pos} (hg : Gl X x) (hm : X.mg x = some u) (r : RelV v u) (hd : (x == ("__debug__" : Str)) = false := by decide) : PE X (.Name x pos) (tC v) :=
  fun _ _ _ H _ I h => ld_glob I hg hm ⟨v, H, I, r, h⟩ hd
theorem pe_bltn {x : Str} {v : V} {u : Value} {pos : Pos} (hg : Gl X x) (hm : X.mg x = none) (hv : bootBuiltins x = some u) (r : RelV v u) (hn : x ≠ "__name__" := by decide) (hd : (x == ("__debug__" : Str)) = false := by decide) : PE X (.Name x pos) (tC v) :=
  fun _ _ _ H _ I h => ld_blt I hg hm hv ⟨v, H, I, r, h⟩ hn hd
variable {a b : Expr} {ta tb : TE} {pos : Pos}
def PC (X : Cx) (op : CmpOp) (a b : Expr) (t : TE) : Prop :=
  ∀ (pins : List (Addr × Obj)) (s : Shared) (σ : St) (H : Hp) (Q : VK), Inv X pins σ H s → t σ H Q →
    wpAny (model X.prog X.w) X.A (eval a X.env) (fun v s₁ => wpAny (model X.prog X.w) X.A (eval b X.env) (fun u s₂ => wpAny (model X.prog X.w) X.A (compareOp op v u) (EP X pins σ Q) X.xe s₂) X.xe s₁) X.xe s
def tB (t : TE) : TT := fun σ H Q => t σ H fun x H1 => ∃ c, x = .bl c ∧ Q c H1
theorem pt_cmp {op : CmpOp} {t : TE} (h : PC X op a b t) (h1 : behindInMarks op b = false := by first | exact nobehind _ (by decide) (by decide) | rfl) : PT X (.Compare a [op] [b] pos) (tB t) := by
  intro pins s σ H Q I hw
  refine wpAny_isTrue_Compare1 (thn (h pins s σ H _ I hw) fun v s1 h1 => thn h1 fun u s2 h2 => thn h2 fun c s3 ⟨x, H1, I1, r1, q1⟩ => ?_) h1
  obtain ⟨d, rfl, q⟩ := q1
  cases r1
  exact wpAny_truthy_bool ⟨H1, I1, q⟩
theorem pt_val {e : Expr} {t : TE} (h : PE X e t) (he : ∀ whole, isTrue e X.env whole = (do let v ← whole; standAt e.pos; holding [v] (truthy v)) := by intro _; rfl) : PT X e (tB t) := by
  intro pins s σ H Q I hw
  refine isTrue_plain (thn (h pins s σ H _ I hw) fun v s1 ⟨x, H1, I1, r1, q1⟩ => ?_) (he _)
  obtain ⟨d, rfl, q⟩ := q1
  cases r1
  exact wpAny_truthy_bool ⟨H1, I1, q⟩
variable {tA tB' : TT} {rest : List Expr}
def tAnd (t u : TT) : TT := fun σ H Q => t σ H fun c H1 => if c = true then u σ H1 Q else Q false H1
def tOr (t u : TT) : TT := fun σ H Q => t σ H fun c H1 => if c = true then Q true H1 else u σ H1 Q
def tNot (t : TT) : TT := fun σ H Q => t σ H fun c H1 => Q (!c) H1
theorem pw_and1 (ha : PT X a tA) : PW X (.BoolOp .And [a] pos) tA := by
  intro wh pins s σ H Q I h
  refine isTrue_and (thn (ha pins s σ H Q I h) fun c s1 e => ?_)
  cases c with
  | true => exact isTrue_and_nil e
  | false => exact e
theorem pw_or1 (ha : PT X a tA) : PW X (.BoolOp .Or [a] pos) tA := by
  intro wh pins s σ H Q I h
  refine isTrue_or (thn (ha pins s σ H Q I h) fun c s1 e => ?_)
  cases c with
  | false => exact isTrue_or_nil e
  | true => exact e
theorem pw_and (ha : PT X a tA) (hb : PW X (.BoolOp .And (b :: rest) pos) tB') : PW X (.BoolOp .And (a :: b :: rest) pos) (tAnd tA tB') := by
  intro wh pins s σ H Q I h
  refine isTrue_and (thn (ha pins s σ H _ I h) fun c s1 ⟨H1, I1, q1⟩ => ?_)
  cases c with
  | true => exact hb wh pins s1 σ H1 Q I1 q1
  | false => exact ⟨H1, I1, q1⟩
theorem pw_or (ha : PT X a tA) (hb : PW X (.BoolOp .Or (b :: rest) pos) tB') : PW X (.BoolOp .Or (a :: b :: rest) pos) (tOr tA tB') := by
  intro wh pins s σ H Q I h
  refine isTrue_or (thn (ha pins s σ H _ I h) fun c s1 ⟨H1, I1, q1⟩ => ?_)
  cases c with
  | true => exact ⟨H1, I1, q1⟩
  | false => exact hb wh pins s1 σ H1 Q I1 q1
theorem pt_not (ha : PT X a tA) : PT X (.UnaryOp .Not a pos) (tNot tA) := by
  intro pins s σ H Q I h
  exact isTrue_not (ha pins s σ H (fun c H1 => Q (!c) H1) I h)
def tAndV (ta tb : TE) : TE := fun σ H Q => ta σ H fun x H1 => ∃ c, x = .bl c ∧ if c = true then tb σ H1 Q else Q (.bl false) H1
theorem pe_one {op} {t : TE} (h : PE X a t) : PE X (.BoolOp op [a] pos) t := fun pins s σ H Q I hw => BoolOp_one (h pins s σ H Q I hw)
theorem pe_and (ha : PE X a ta) (hb : PE X (.BoolOp .And (b :: rest) pos) tb) : PE X (.BoolOp .And (a :: b :: rest) pos) (tAndV ta tb) := by
  intro pins s σ H Q I h
  refine BoolOp_and (thn (ha pins s σ H _ I h) fun v s1 ⟨x, H1, I1, r1, q1⟩ => ?_)
  obtain ⟨c, rfl, q1⟩ := q1
  cases r1
  refine wpAny_truthy_bool ?_
  cases c with
  | true => exact hb pins s1 σ H1 Q I1 q1
  | false => exact ⟨.bl false, H1, I1, rfl, q1⟩
def tIf (t : TT) (ta tb : TE) : TE := fun σ H Q => t σ H fun c H1 => if c = true then ta σ H1 Q else tb σ H1 Q
theorem pe_ifExp {c : Expr} (hc : PT X c tA) (ha : PE X a ta) (hb : PE X b tb) : PE X (.IfExp c a b pos) (tIf tA ta tb) := by
  intro pins s σ H Q I h
  refine wpAny_IfExp (thn (hc pins s σ H _ I h) fun d s1 ⟨H1, I1, q1⟩ => ?_)
  cases d with
  | true => exact ha pins s1 σ H1 Q I1 q1
  | false => exact hb pins s1 σ H1 Q I1 q1
end
def SqL (K : PySem.W.Frag) (H : Hp) (a : Addr) (xs : List V) : Prop :=
  Rd H a (.lst xs) ∨
    ∃ (o : Obj) (its : Array Value) (n : Nat), K.lookup a = some o ∧ o.cls = .type "list" ∧ o.dict = none ∧ o.data = .seq its n ∧ its.size ≤ sizeLine ∧ Vals xs its.toList
def SqT (K : PySem.W.Frag) (H : Hp) (a : Addr) (xs : List V) : Prop :=
  Rd H a (.tup xs) ∨
    ∃ (o : Obj) (its : Array Value) (n : Nat), K.lookup a = some o ∧ o.cls = .type "tuple" ∧ o.data = .seq its n ∧ its.size ≤ sizeLine ∧ Vals xs its.toList
def absV : Value → Option V
  | .none => some .non
  | .bool b => some (.bl b)
  | .int i _ => some (.int i)
  | .str x _ => some (.str x)
  | .bytes b _ => some (.byt b)
  | .float b _ => some (.flt b)
  | .ref a => some (.ref a)
  | .type n => some (.ty n)
  | _ => none
theorem RelV.abs {x : V} {u : Value} (r : RelV x u) : absV u = some x := by
  cases x with
  | non => cases r; rfl
  | bl _ => cases r; rfl
  | int _ => obtain ⟨t, rfl⟩ := r; rfl
  | str _ => obtain ⟨t, rfl⟩ := r; rfl
  | byt _ => obtain ⟨t, rfl⟩ := r; rfl
  | flt _ => obtain ⟨t, rfl⟩ := r; rfl
  | ref _ => cases r; rfl
  | ty _ => cases r; rfl
theorem RelV.inj {x y : V} {u : Value} (r : RelV x u) (q : RelV y u) : x = y := Option.some.inj (r.abs.symm.trans q.abs)
theorem Vals.inj : ∀ {xs ys : List V} {us : List Value}, Vals xs us → Vals ys us → xs = ys
  | _, _, _, .nil, .nil => rfl
  | _, _, _, .cons r t, .cons r' t' => by rw [r.inj r', Vals.inj t t']
section
variable {X : Cx} {pins : List (Addr × Obj)} {σ : St} {H : Hp} {s : Shared} {a : Addr} {xs ys : List V}
theorem SqL.of {K : PySem.W.Frag} (h : H a = some (.lst xs)) : SqL K H a xs := .inl (.inl h)
theorem SqT.of {K : PySem.W.Frag} (h : H a = some (.tup xs)) : SqT K H a xs := .inl (.inl h)
theorem Inv.list (I : Inv X pins σ H s) (h : SqL X.K H a xs) : ∃ its : List Value, Vals xs its ∧ PlainL s.heap a its.toArray ∧ xs.length ≤ sizeLine := by
  rcases h with h | ⟨o, its, n, hk, hc, hd, hs, hz, r⟩
  · obtain ⟨z, its, n, r, e⟩ := h.ok I.hok
    exact ⟨its, r, ⟨_, n, e, rfl, rfl, rfl⟩, z⟩
  · refine ⟨its.toList, r, ⟨o, n, I.kIn a o hk, hc, hd, by simpa using hs⟩, ?_⟩
    have e := r.length
    simp only [Array.length_toList] at e
    omega
theorem Inv.tuple (I : Inv X pins σ H s) (h : SqT X.K H a xs) : ∃ its : List Value, Vals xs its ∧ IsTup s.heap a its.toArray ∧ xs.length ≤ sizeLine := by
  rcases h with h | ⟨o, its, n, hk, hc, hs, hz, r⟩
  · obtain ⟨z, its, r, p⟩ := h.ok I.hok
    exact ⟨its, r, p, z⟩
  · refine ⟨its.toList, r, ⟨o, I.kIn a o hk, hc, n, by simpa using hs⟩, ?_⟩
    have e := r.length
    simp only [Array.length_toList] at e
    omega
theorem Inv.list_inj (I : Inv X pins σ H s) (h : SqL X.K H a xs) (h' : SqL X.K H a ys) : xs = ys := by
  obtain ⟨its, r, ⟨o, n, e, _, _, d⟩, _⟩ := I.list h
  obtain ⟨its', r', ⟨o', n', e', _, _, d'⟩, _⟩ := I.list h'
  rw [e] at e'; cases e'
  rw [d] at d'
  injection d' with d1 _
  have : its = its' := by simpa using congrArg Array.toList d1
  subst this
  exact r.inj r'
theorem Inv.tuple_inj (I : Inv X pins σ H s) (h : SqT X.K H a xs) (h' : SqT X.K H a ys) : xs = ys := by
  obtain ⟨its, r, ⟨o, e, _, n, d⟩, _⟩ := I.tuple h
  obtain ⟨its', r', ⟨o', e', _, n', d'⟩, _⟩ := I.tuple h'
  rw [e] at e'; cases e'
  rw [d] at d'
  injection d' with d1 _
  have : its = its' := by simpa using congrArg Array.toList d1
  subst this
  exact r.inj r'
end
abbrev Cx.wish (X : Cx) (E : Value → Shared → Prop) : Cx := { X with xe := E }
abbrev Cx.nox (X : Cx) : Cx := X.wish fun _ _ => False
theorem Cx.Ok.wish {X : Cx} (ok : X.Ok) (E : Value → Shared → Prop) : (X.wish E).Ok :=
  ⟨ok.mod, ok.kind, ok.glob, ok.blt, ok.above, ok.inj, ok.has, ok.cab, ok.hd, ok.frames, ok.stk, ok.exf, ok.bs, ok.bsz, ok.noex, ok.exfs, ok.funs, ok.frf⟩
theorem Cx.Ok.unwish {X : Cx} {E : Value → Shared → Prop} (ok : (X.wish E).Ok) : X.Ok :=
  ⟨ok.mod, ok.kind, ok.glob, ok.blt, ok.above, ok.inj, ok.has, ok.cab, ok.hd, ok.frames, ok.stk, ok.exf, ok.bs, ok.bsz, ok.noex, ok.exfs, ok.funs, ok.frf⟩
section
variable {X : Cx} {pins : List (Addr × Obj)} {σ : St} {H : Hp} {s : Shared} {E : Value → Shared → Prop}
theorem Inv.wish (I : Inv X pins σ H s) (E : Value → Shared → Prop) : Inv (X.wish E) pins σ H s := ⟨I.ok.wish E, I.os, I.bare, I.base, I.loc, I.cell, I.free, I.freeC, I.pin, I.hok, I.len⟩
theorem Inv.unwish (I : Inv (X.wish E) pins σ H s) : Inv X pins σ H s := ⟨I.ok.unwish, I.os, I.bare, I.base, I.loc, I.cell, I.free, I.freeC, I.pin, I.hok, I.len⟩
theorem SP.unwish {D : Ends} {f : Flow} {s' : Shared} (h : SP (X.wish E) pins D f s') : SP X pins D f s' := by
  cases f with
  | next => obtain ⟨σ', H', I, q⟩ := h; exact ⟨σ', H', I.unwish, q⟩
  | brk => obtain ⟨σ', H', I, q⟩ := h; exact ⟨σ', H', I.unwish, q⟩
  | cont => obtain ⟨σ', H', I, q⟩ := h; exact ⟨σ', H', I.unwish, q⟩
  | ret u => obtain ⟨v, σ', H', I, r, q⟩ := h; exact ⟨v, σ', H', I.unwish, r, q⟩
theorem PSs.nox {st : List Stmt} {t : TS} (h : PSs X.nox st t) : PSs X st t := fun pins s σ H D I hw =>
  wpAny_mono (h pins s σ H D (I.wish _) hw) (fun _ _ q => q.unwish) fun _ _ z => False.elim z
end
section
variable {X : Cx} {st : Stmt} {rest : List Stmt} {t u : TS} {e : Expr} {te : TE} {pos : Pos}
def tNext : TS := fun D σ H => D.nx σ H
def tSeq (t u : TS) : TS := fun D σ H => t { D with nx := u D } σ H
theorem pss_nil : PSs X [] tNext := fun _ _ σ H _ I h => wpAny_execs_nil ⟨σ, H, I, h⟩
theorem pss_cons (h1 : PS X st t) (h2 : PSs X rest u) : PSs X (st :: rest) (tSeq t u) := by
  intro pins s σ H D I h
  refine wpAny_execs_cons (thn (h1 pins s σ H { D with nx := u D } I h) fun f s1 q => ?_)
  cases f with
  | next =>
    obtain ⟨σ', H', I', q⟩ := q
    exact h2 pins s1 σ' H' D I' q
  | ret v => exact q
  | brk => exact q
  | cont => exact q
theorem pss_one (h1 : PS X st t) : PSs X [st] t := by
  intro pins s σ H D I h
  refine wpAny_execs_cons (thn (h1 pins s σ H D I h) fun f s1 q => ?_)
  cases f with
  | next => exact wpAny_execs_nil q
  | ret v => exact q
  | brk => exact q
  | cont => exact q
theorem Inv.quiet {pins : List (Addr × Obj)} {σ : St} {H : Hp} {s : Shared} (I : Inv X pins σ H s) : interactive X.env = false := by simp [interactive, I.ok.kind]
def tDrop (te : TE) : TS := fun D σ H => te σ H fun _ H1 => D.nx σ H1
theorem ps_expr (he : PE X e te) (hs : swapsWith e none pos.line X.env = pure false := by rfl) : PS X (.Expr e pos) (tDrop te) := by
  intro pins s σ H D I h
  exact wpAny_Expr_any (thn (he pins s σ H _ I h) fun v s1 ⟨x, H1, I1, r1, q1⟩ => ⟨σ, H1, I1, q1⟩) I.quiet hs
def tRet (te : TE) : TS := fun D σ H => te σ H D.rt
theorem ps_ret (he : PE X e te) : PS X (.Return (some e) pos) (tRet te) := by
  intro pins s σ H D I h
  exact wpAny_Return_some (thn (he pins s σ H _ I h) fun v s1 ⟨x, H1, I1, r1, q1⟩ => ⟨x, σ, H1, I1, r1, q1⟩)
def tIfS (c : TT) (t u : TS) : TS := fun D σ H => c σ H fun b H1 => if b = true then t D σ H1 else u D σ H1
theorem ps_if {c : Expr} {a b : List Stmt} {tc : TT} (hc : PT X c tc) (ha : PSs X a t) (hb : PSs X b u) : PS X (.If c a b pos) (tIfS tc t u) := by
  intro pins s σ H D I h
  refine wpAny_If (thn (hc pins s σ H _ I h) fun d s1 ⟨H1, I1, q1⟩ => ?_)
  cases d with
  | true => exact ha pins s1 σ H1 D I1 q1
  | false => exact hb pins s1 σ H1 D I1 q1
def tNever : TS := fun _ _ _ => False
theorem pss_never {sts : List Stmt} : PSs X sts tNever := fun _ _ _ _ _ _ h => h.elim
end
abbrev TG := V → St → Hp → (St → Hp → Prop) → Prop
abbrev TGs := List V → St → Hp → (St → Hp → Prop) → Prop
def PG (X : Cx) (target : Expr) (t : TG) : Prop :=
  ∀ (pins : List (Addr × Obj)) (s : Shared) (σ : St) (H : Hp) (v : V) (u : Value) (Q : St → Hp → Prop), Inv X pins σ H s → RelV v u → t v σ H Q →
    wpAny (model X.prog X.w) X.A (assign target X.env u) (fun _ s' => ∃ σ' H', Inv X pins σ' H' s' ∧ Q σ' H') X.xe s
def PGs (X : Cx) (ts : List Expr) (t : TGs) : Prop :=
  ∀ (pins : List (Addr × Obj)) (s : Shared) (σ : St) (H : Hp) (vs : List V) (us : List Value) (Q : St → Hp → Prop), Inv X pins σ H s → Vals vs us → t vs σ H Q →
    wpAny (model X.prog X.w) X.A (assignInOrder ((assignEach ts X.env).map (·.2)) us) (fun _ s' => ∃ σ' H', Inv X pins σ' H' s' ∧ Q σ' H') X.xe s
abbrev TSet := V → V → V → Hp → (Hp → Prop) → Prop
def PSet (X : Cx) (t : TSet) : Prop :=
  ∀ (pins : List (Addr × Obj)) (s : Shared) (σ : St) (H : Hp) (o i v : V) (ov iv u : Value) (Q : Hp → Prop), Inv X pins σ H s → RelV o ov → RelV i iv → RelV v u → t o i v H Q →
    wpAny (model X.prog X.w) X.A (setItem ov iv u) (fun _ s' => ∃ H', Inv X pins σ H' s' ∧ Q H') X.xe s
section
variable {X : Cx} {pos : Pos}
def gName (i : Nat) : TG := fun v σ H Q => Q (σ.set i (some v)) H
theorem pg_name {i : Nat} {x : Str} (hN : X.N.Nodup) (hi : X.N[i]? = some x) (hx : Loc X.env.scope x) (hf : X.fn x = true ∨ X.env.scope.names.lookup x = some .local := by first | exact .inl rfl | exact .inr rfl | assumption) : PG X (.Name x pos) (gName i) := by
  intro pins s σ H v u Q I r h
  exact wpAny_assign_Name (store_ok I hN hi hx r (fun s' I' => ⟨_, H, I', h⟩) hf)
def gNil : TGs := fun vs σ H Q => vs = [] ∧ Q σ H
def gCons (t : TG) (u : TGs) : TGs := fun vs σ H Q => ∃ v r, vs = v :: r ∧ t v σ H fun σ' H' => u r σ' H' Q
theorem pgs_nil : PGs X [] gNil := by
  intro pins s σ H vs us Q I r h
  obtain ⟨e, h⟩ := h
  subst e
  cases r
  exact assignInOrder_nil ⟨σ, H, I, h⟩
theorem pgs_cons {e : Expr} {es : List Expr} {t : TG} {u : TGs} (h1 : PG X e t) (h2 : PGs X es u)
    (hs : (assignEach (e :: es) X.env).map (·.2) = assign e X.env :: (assignEach es X.env).map (·.2) := by rfl) : PGs X (e :: es) (gCons t u) := by
  intro pins s σ H vs us Q I r h
  obtain ⟨v, vr, e1, h⟩ := h
  subst e1
  cases r with
  | cons r rr =>
    rw [hs]
    refine assignInOrder_cons (thn (h1 pins s σ H _ _ _ I r h) fun _ s1 ⟨σ1, H1, I1, q1⟩ => ?_)
    exact h2 pins s1 σ1 H1 _ _ Q I1 rr q1
def gSub (to ti : TE) (t : TSet) : TG := fun v σ H Q => to σ H fun o H1 => ti σ H1 fun i H2 => t o i v H2 fun H3 => Q σ H3
theorem pg_sub {o i : Expr} {to ti : TE} {t : TSet} (ho : PE X o to) (hi : PE X i ti) (hs : PSet X t)
    (ha : ∀ v, assign (.Subscript o i pos) X.env v = (do
      let ov ← holding [v] (eval o X.env)
      let iv ← holding [v, ov] (eval i X.env)
      standAt pos
      holding [v, ov, iv] (setItem ov iv v)
      release [v, ov, iv] []) := by intro _; rfl) : PG X (.Subscript o i pos) (gSub to ti t) := by
  intro pins s σ H v u Q I r h
  rw [ha]
  refine wpAny_bind (wpAny_holding (thn (ho pins s σ H _ I h) fun ov s1 ⟨x, H1, I1, r1, q1⟩ => ?_))
  refine wpAny_bind (wpAny_holding (thn (hi pins s1 σ H1 _ I1 q1) fun iv s2 ⟨y, H2, I2, r2, q2⟩ => ?_))
  refine wpAny_bind (wpAny_standAt (wpAny_bind (wpAny_holding (thn (hs pins s2 σ H2 x y v ov iv u _ I2 r1 r2 r q2) fun _ s3 ⟨H3, I3, q3⟩ => ?_))))
  exact wpAny_release ⟨σ, H3, I3, q3⟩
def tAsg (te : TE) (g : TG) : TS := fun D σ H => te σ H fun x H1 => g x σ H1 D.nx
theorem ps_asg {tg e : Expr} {te : TE} {g : TG} (he : PE X e te) (hg : PG X tg g) (hs : swapsWithSole [tg] e pos.line X.env = pure false := by rfl) (hw : swappedStores [tg] e X.env = pure none := by rfl)
    (h1 : (assignEach [tg] X.env).map (·.2) = [assign tg X.env] := by rfl) : PS X (.Assign [tg] e pos) (tAsg te g) := by
  intro pins s σ H D I h
  refine wpAny_Assign_stores (thn (he pins s σ H _ I h) fun v s1 ⟨x, H1, I1, r1, q1⟩ => ?_) hs hw
  rw [h1]
  exact thn (hg pins s1 σ H1 x v _ I1 r1 q1) fun _ s2 q => q
theorem ps_set {i : Nat} {x : Str} {e : Expr} {te : TE} {pos' : Pos} (hN : X.N.Nodup) (hi : X.N[i]? = some x) (hx : Loc X.env.scope x) (he : PE X e te) (hs : swapsWith e (some (.Name x pos')) pos.line X.env = pure false := by rfl) (hf : X.fn x = true ∨ X.env.scope.names.lookup x = some .local := by first | exact .inl rfl | exact .inr rfl | assumption) :
    PS X (.Assign [.Name x pos'] e pos) (tAsg te (gName i)) := by
  intro pins s σ H D I h
  refine wpAny_Assign_Name (thn (he pins s σ H _ I h) fun v s1 ⟨y, H1, I1, r1, q1⟩ => ?_) hs
  exact store_ok I1 hN hi hx r1 (fun s2 I2 => ⟨_, H1, I2, q1⟩) hf
end
section
variable {X : Cx} {pos : Pos}
end
structure It where
  go : Nat → Hp → Prop
  yld : Nat → Hp → V → Hp → Prop
  stop : Nat → Hp → Prop
def FpOk (X : Cx) (pins : List (Addr × Obj)) (H : Hp) (b : Addr) : Prop :=
  H b = none ∧ b ≠ X.env.locals ∧ b ∉ X.fs ∧ (b ∈ X.ex ∨ X.s₀.heap.objs.size ≤ b) ∧ (∀ x c, X.env.cells.lookup x = some c → c ≠ b) ∧ ∀ p ∈ X.pn ++ pins, p.1 ≠ b
theorem Inv.fpOk {X : Cx} {pins : List (Addr × Obj)} {σ : St} {H H' : Hp} {s : Shared} {b : Addr} (I : Inv X pins σ H s) (hb : s.heap.objs.size ≤ b) (hn : H' b = none) : FpOk X pins H' b := by
  refine ⟨hn, Nat.ne_of_gt (Nat.lt_of_lt_of_le I.lt hb), I.nofs hb, .inr (Nat.le_trans I.sz hb), fun x c e z => ?_, fun p hp z => ?_⟩
  · obtain ⟨v, q⟩ := I.cell x c e
    exact absurd (Nat.lt_of_lt_of_le q.lt (by rw [z]; exact hb)) (Nat.lt_irrefl _)
  · exact absurd (Nat.lt_of_lt_of_le (Heap.lt_size (I.pin p hp).1) (by rw [z]; exact hb)) (Nat.lt_irrefl _)
structure Turn (P : Program) (w : World) (K : PySem.W.Frag) (tg : Expr) (J : It) (fp : List Addr) (it : Addr) (tn : Nat → Heap → Prop) : Prop where
  mem : it ∈ fp
  obj : ∀ i h, tn i h → ∀ b ∈ fp, ∃ o, h.get? b = some o ∧ ∀ v, o.data ≠ .cell v
  keep : ∀ i h h', tn i h → (∀ b ∈ fp, ∀ o, h.get? b = some o → h'.get? b = some o) → tn i h'
  item : ∀ (X : Cx), X.prog = P → X.w = w → X.K = K → X.calm = true → ∀ (i : Nat) (pins : List (Addr × Obj)) (s : Shared) (σ : St) (H : Hp) (E : Value → Shared → Prop), Inv X pins σ H s → (∀ b ∈ fp, FpOk X pins H b) → tn i s.heap → J.go i H →
    wpAny (model P w) X.A (pyNext (.ref it)) (fun r s1 => ∃ u, r = some u ∧
      wpAny (model P w) X.A (letOwnedTupleGo tg (.ref it) u) (fun _ s2 => ∃ x H', Inv X pins σ H' s2 ∧ RelV x u ∧ J.yld i H x H' ∧ tn (i + 1) s2.heap ∧ ∀ b ∈ fp, H' b = none) E s1) E s
  done : ∀ (X : Cx), X.prog = P → X.w = w → X.K = K → X.calm = true → ∀ (i : Nat) (pins : List (Addr × Obj)) (s : Shared) (σ : St) (H : Hp) (E : Value → Shared → Prop), Inv X pins σ H s → (∀ b ∈ fp, FpOk X pins H b) → tn i s.heap → J.stop i H →
    wpAny (model P w) X.A (pyNext (.ref it)) (fun r s1 => r = none ∧ Inv X pins σ H s1) E s
  self : ∀ (A : Around) (i : Nat) (s : Shared) (Q : Value → Shared → Prop) (E : Value → Shared → Prop), tn i s.heap → Q (.ref it) s → wpAny (model P w) A (pyIter (.ref it)) Q E s
abbrev TI := St → Hp → (It → Hp → Prop) → Prop
def PIE (X : Cx) (pins : List (Addr × Obj)) (σ : St) (tg : Expr) (R : It → Hp → Prop) (itv : Value) (s2 : Shared) : Prop :=
  ∃ (it : Addr) (fp : List Addr) (tn : Nat → Heap → Prop) (J : It) (H' : Hp), itv = .ref it ∧ Inv X pins σ H' s2 ∧ Turn X.prog X.w X.K tg J fp it tn ∧ tn 0 s2.heap ∧ (∀ b ∈ fp, FpOk X pins H' b) ∧ R J H'
def PI (X : Cx) (tg iter : Expr) (wi : TI) : Prop :=
  ∀ (pins : List (Addr × Obj)) (s : Shared) (σ : St) (H : Hp) (R : It → Hp → Prop), Inv X pins σ H s → wi σ H R →
    wpAny (model X.prog X.w) X.A (eval iter X.env) (fun v s1 => wpAny (model X.prog X.w) X.A (pyIter v) (PIE X pins σ tg R) X.xe s1) X.xe s
theorem go_of {M : Model} {A : Around} {E : Value → Shared → Prop} {s : Shared} {tg : Expr} {it : Addr} {u : Value} {o : Obj} {n : String} {vs : Array Value} {Q : Unit → Shared → Prop} (ho : s.heap.get? it = some o) (hc : o.cls = .type n) (hd : o.data = .fields vs)
    (hn : ["enumerate", "zip", "dict_itemiterator", "dict_reverseitemiterator", "odict_iterator", "itertools.zip_longest", "itertools.pairwise"].contains n = false) (hQ : Q () s) : wpAny M A (letOwnedTupleGo tg (.ref it) u) Q E s := by
  unfold letOwnedTupleGo
  cases tg <;> first
    | exact wpAny_pure hQ
    | (cases u <;> first
        | exact wpAny_pure hQ
        | (refine wpAny_bind (wpAny_load ho ?_)
           rw [hc, hd]
           show wpAny M A (if (["enumerate", "zip", "dict_itemiterator", "dict_reverseitemiterator", "odict_iterator", "itertools.zip_longest", "itertools.pairwise"].contains n && vs[0]? == some (rawInt _)) = true then _ else _) Q E s
           rw [if_neg (by intro h; rw [hn, Bool.false_and] at h; cases h)]
           exact wpAny_pure hQ))
def Itl (K : PySem.W.Frag) (a : Addr) : It :=
  ⟨fun i H => ∃ xs x, SqL K H a xs ∧ xs[i]? = some x, fun i H x H' => H' = H ∧ ∀ xs, SqL K H a xs → xs[i]? = some x, fun i H => ∃ xs, SqL K H a xs ∧ xs.length ≤ i⟩
def Itr (lo : Int) (n : Nat) : It := ⟨fun i _ => i < n, fun i H x H' => H' = H ∧ x = .int (lo + i), fun i _ => n ≤ i⟩
theorem turn_list {P : Program} {w : World} {K : PySem.W.Frag} {tg : Expr} (a it : Addr) : Turn P w K tg (Itl K a) [it] it (fun i h => h.IsListIter it a i) where
  mem := by simp
  obj := fun i h st b hb => by
    have e : b = it := by simpa using hb
    subst e
    obtain ⟨o, e, c, d⟩ := st
    exact ⟨o, e, fun v z => by rw [d] at z; cases z⟩
  keep := fun i h h' st k => st.at fun o e => k it (by simp) o e
  item := by
    intro X hP hw hK hc i pins s σ H E I hf st hg
    subst hP hw hK
    obtain ⟨xs, x, hq, hx⟩ := hg
    obtain ⟨its, rv, p, hz⟩ := I.list hq
    obtain ⟨u, hu, ru⟩ := rv.get hx
    obtain ⟨f0, f1, f2, f3, f4, f5⟩ := hf it (by simp)
    refine wpAny_pyNext_list_item st p.isList (x := u) (by simpa using hu) fun h' st' sb => ?_
    have I1 : Inv X pins σ H { s with heap := h' } := I.turned (t' := s.toks) (fun b o hb e => (sb.2 b hb).trans e) f0 f1 f3 f4 f5
    obtain ⟨o, e, c, d⟩ := id st'
    exact ⟨u, rfl, go_of (s := { s with heap := h' }) e c d (by decide) ⟨x, H, I1, ru, ⟨rfl, fun ys hy => by rw [I.list_inj hy hq]; exact hx⟩, st', fun b hb => (hf b hb).1⟩⟩
  done := by
    intro X hP hw hK hc i pins s σ H E I hf st hg
    subst hP hw hK
    obtain ⟨xs, hq, hx⟩ := hg
    obtain ⟨its, rv, p, hz⟩ := I.list hq
    obtain ⟨f0, f1, f2, f3, f4, f5⟩ := hf it (by simp)
    have hl := rv.length
    exact wpAny_pyNext_list_end (I.ok.hd hc) st p.isList (by simp; omega) fun h' eb => ⟨rfl, I.turned (t' := s.toks) (fun b o hb e => eb b o hb e) f0 f1 f3 f4 f5⟩
  self := fun _ _ _ _ _ st h => wpAny_pyIter_listiter st h
theorem turn_range {P : Program} {w : World} {K : PySem.W.Frag} {tg : Expr} (it : Addr) (lo : Int) (n : Nat) : Turn P w K tg (Itr lo n) [it] it (fun i h => IsRangeIter h it (lo + (i : Nat) * 1) ((n : Int) - (i : Nat)) 1) where
  mem := by simp
  obj := fun i h st b hb => by
    have e : b = it := by simpa using hb
    subst e
    exact ⟨_, st, fun v z => by
      have z' : Data.fields _ = Data.cell v := z
      cases z'⟩
  keep := fun i h h' st k => k it (by simp) _ st
  item := by
    intro X hP hw hK hc i pins s σ H E I hf st hg
    subst hP hw hK
    obtain ⟨f0, f1, f2, f3, f4, f5⟩ := hf it (by simp)
    have W := Walks.range (prog := X.prog) (w := X.w) (I.ok.hd hc) it lo 1 n
    refine W.item i s _ _ hg st fun v h' tk hv st' kk => ?_
    obtain ⟨t, rfl⟩ := hv
    have I1 : Inv X pins σ H { s with heap := h', toks := tk } := I.turned (fun b o hb e => kk b o (by simpa using hb) e) f0 f1 f3 f4 f5
    refine ⟨_, rfl, go_of (s := { s with heap := h', toks := tk }) (n := "range_iterator") st' rfl rfl (by decide) ⟨.int (lo + i), H, I1, ⟨t, ?_⟩, ⟨rfl, rfl⟩, st', fun b hb => (hf b hb).1⟩⟩
    rw [Int.mul_one]
  done := by
    intro X hP hw hK hc i pins s σ H E I hf st hg
    subst hP hw hK
    obtain ⟨f0, f1, f2, f3, f4, f5⟩ := hf it (by simp)
    exact wpAny_pyNext_range_end (I.ok.hd hc) st (by have : n ≤ i := hg; omega) fun h' eb => ⟨rfl, I.turned (t' := s.toks) (fun b o hb e => eb b o hb e) f0 f1 f3 f4 f5⟩
  self := fun _ _ _ _ _ st h => wpAny_pyIter_rangeiter st h
section
variable {X : Cx} {tg : Expr}
def iList (K : PySem.W.Frag) (tl : TE) : TI := fun σ H R => tl σ H fun x H1 => ∃ a, x = .ref a ∧ (∃ xs, SqL K H1 a xs) ∧ R (Itl K a) H1
theorem pi_list {l : Expr} {tl : TE} (hl : PE X l tl) : PI X tg l (iList X.K tl) := by
  intro pins s σ H R I h
  refine thn (hl pins s σ H _ I h) fun v s1 ⟨x, H1, I1, r1, q1⟩ => ?_
  obtain ⟨a, e, ⟨xs, hq⟩, q⟩ := q1
  subst e
  cases r1
  obtain ⟨its, rv, p, hz⟩ := I1.list hq
  refine wpAny_pyIter_list p.isList ?_
  refine ⟨s1.heap.objs.size, [s1.heap.objs.size], _, _, H1, rfl, I1.kept (t' := s1.toks) fun b o e => Heap.get?_push_of_some _ e, turn_list a _, ⟨_, Heap.get?_push_size _ rfl, rfl, rfl⟩, fun b hb => ?_, q⟩
  have e : b = s1.heap.objs.size := by simpa using hb
  subst e
  exact I1.fpOk (Nat.le_refl _) (I1.hok.fresh (Nat.le_refl _))
theorem range_it {pins : List (Addr × Obj)} {σ : St} {H : Hp} {s : Shared} {R : It → Hp → Prop} {E : Value → Shared → Prop} {lo hi : Int} {t u v : Tok} {tk : Nat} (I : Inv X pins σ H s) (h1 : -(2 ^ 62) ≤ lo) (h2 : lo < 2 ^ 62) (h3 : -(2 ^ 62) ≤ hi) (h4 : hi < 2 ^ 62)
    (q : R (Itr lo (hi - lo).toNat) H) : wpAny (model X.prog X.w) X.A (pyIter (.ref s.heap.objs.size)) (PIE X pins σ tg R) E { s with heap := s.heap.push { cls := .type "range", data := .fields #[.int lo t, .int hi u, .int 1 v] }, toks := tk } := by
  refine wpAny_pyIter_range (IsRange.new ..) (small_one h1 h2 h3 h4) ?_
  have I1 : Inv X pins σ H { s with heap := s.heap.push { cls := .type "range", data := .fields #[.int lo t, .int hi u, .int 1 v] }, toks := tk } := I.kept fun b o e => Heap.get?_push_of_some _ e
  refine ⟨(s.heap.push { cls := .type "range", data := .fields #[.int lo t, .int hi u, .int 1 v] }).objs.size, [(s.heap.push { cls := .type "range", data := .fields #[.int lo t, .int hi u, .int 1 v] }).objs.size], _, _, H, rfl,
    I1.kept (t' := tk) fun b o e => Heap.get?_push_of_some _ e, turn_range _ lo (hi - lo).toNat, ?_, fun b hb => ?_, q⟩
  · have e1 : lo + ((0 : Nat) : Int) * 1 = lo := by simp
    have e2 : (((hi - lo).toNat : Nat) : Int) - ((0 : Nat) : Int) = Builtin.Range.rangeSize lo hi 1 := by rw [rangeSize_one]; split <;> omega
    show IsRangeIter _ _ (lo + ((0 : Nat) : Int) * 1) ((((hi - lo).toNat : Nat) : Int) - ((0 : Nat) : Int)) 1
    rw [e1, e2]
    exact Heap.get?_push_size _ rfl
  · have e : b = (s.heap.push { cls := .type "range", data := .fields #[.int lo t, .int hi u, .int 1 v] }).objs.size := by simpa using hb
    subst e
    exact I1.fpOk (Nat.le_refl _) (I1.hok.fresh (Nat.le_refl _))
def iRng1 (ta : TA) : TI := fun σ H R => ta σ H fun vs H1 => ∃ j : Int, vs = [.int j] ∧ -(2 ^ 62) ≤ j ∧ j < 2 ^ 62 ∧ R (Itr 0 j.toNat) H1
theorem pi_range1 {a : Expr} {ta : TA} {p pos : Pos} (hg : Gl X "range") (hm : X.mg "range" = none) (ha : PA X [a] ta) (hs : starEach [a] X.env = [(false, eval a X.env)] := by rfl) : PI X tg (.Call (.Name "range" p) [a] [] pos) (iRng1 ta) := by
  intro pins s σ H R I h
  refine Call_ (ld_blt I hg hm boot_range (PyProof.Rows.callWith_type1 (thn (ha pos pins s σ H _ I h) fun us s1 ⟨vs, H1, I1, r1, q1⟩ => ?_) hs rfl))
  obtain ⟨j, e, q1, q2, q⟩ := q1
  subst e
  cases r1 with
  | cons r rr =>
    cases rr
    obtain ⟨t, rfl⟩ := r
    exact call_range_1 (range_it I1 (by omega) (by omega) q1 q2 (by simpa using q))
def tFor (wi : TI) (g : TG) (tb : TS) : TS := fun D σ H => wi σ H fun J H1 => ∃ W : Nat → Nat → St → Hp → Prop, (∃ m, W 0 m σ H1) ∧ ∀ i m σ H, W i m σ H →
  (J.stop i H ∧ D.nx σ H) ∨ (J.go i H ∧ ∃ N : St → Hp → Prop, (∀ σ' H', N σ' H' → ∃ m', m' < m ∧ W (i + 1) m' σ' H') ∧ ∀ x H', J.yld i H x H' → g x σ H' fun σ2 H2 => tb { D with nx := N, ct := N, bk := D.nx } σ2 H2)
def pinsAt (fp : List Addr) (h : Heap) : List (Addr × Obj) := fp.filterMap fun b => (h.get? b).map fun o => (b, o)
theorem mem_pinsAt {fp : List Addr} {h : Heap} {b : Addr} {o : Obj} (hb : b ∈ fp) (e : h.get? b = some o) : (b, o) ∈ pinsAt fp h := List.mem_filterMap.mpr ⟨b, hb, by rw [e]; rfl⟩
theorem of_pinsAt {fp : List Addr} {h : Heap} {p : Addr × Obj} (hp : p ∈ pinsAt fp h) : p.1 ∈ fp ∧ h.get? p.1 = some p.2 := by
  obtain ⟨b, hb, e⟩ := List.mem_filterMap.mp hp
  cases q : h.get? b with
  | none => rw [q] at e; cases e
  | some o =>
    rw [q] at e
    have e' : (b, o) = p := Option.some.inj e
    subst e'
    exact ⟨hb, q⟩
theorem Inv.pinned {pins : List (Addr × Obj)} {σ : St} {H : Hp} {s : Shared} {fp : List Addr} (I : Inv X pins σ H s) (hf : ∀ b ∈ fp, FpOk X pins H b) (ho : ∀ b ∈ fp, ∃ o, s.heap.get? b = some o ∧ ∀ v, o.data ≠ .cell v) : Inv X (pins ++ pinsAt fp s.heap) σ H s :=
  I.pins_of fun p hp => (List.mem_append.mp hp).elim (fun z => I.pin p (List.mem_append_right _ z)) fun z => by
    obtain ⟨hb, e⟩ := of_pinsAt z
    obtain ⟨f0, f1, f2, _⟩ := hf p.1 hb
    obtain ⟨o, e', d⟩ := ho p.1 hb
    rw [e] at e'; cases e'
    exact ⟨e, f0, f1, f2, d⟩
theorem Inv.unpinned {pins pl : List (Addr × Obj)} {σ : St} {H : Hp} {s : Shared} (I : Inv X (pins ++ pl) σ H s) : Inv X pins σ H s := I.pins_of fun p hp => I.pin p (List.mem_append_right _ (List.mem_append_left _ hp))
theorem ps_for {iter : Expr} {body : List Stmt} {wi : TI} {g : TG} {tb : TS} {pos : Pos} (hp : PassesOwn (model X.prog X.w) X.A X.env X.xe) (hc : X.calm = true) (hi : PI X tg iter wi) (hg : PG X tg g) (hb : PSs X body tb)
    (hs : ∀ x, foldedSetIterable iter X.env x = pure x := by intro _; rfl) : PS X (.For tg iter body [] pos) (tFor wi g tb) := by
  intro pins s σ H D I h
  refine wpAny_For (thn (hi pins s σ H _ I h) fun v s1 h1 => thn h1 fun itv s2 h2 => ?_) hs
  obtain ⟨it, fp, tn, J, H2, e, I2, T, st2, f2, W, ⟨m0, w0⟩, turn⟩ := h2
  subst e
  -- what stays true of the iterator's objects through the loop
  have stat : ∀ {H' : Hp}, (∀ b ∈ fp, H' b = none) → ∀ b ∈ fp, FpOk X pins H' b := fun hn b hb => ⟨hn b hb, (f2 b hb).2⟩
  refine codeAny_forLoop_any (fun n s' => ∃ i σ' H', Inv X pins σ' H' s' ∧ tn i s'.heap ∧ (∀ b ∈ fp, H' b = none) ∧ W i n σ' H') ?_ m0 ⟨0, σ, H2, I2, st2, fun b hb => (f2 b hb).1, w0⟩
  rintro n s3 ⟨i, σ3, H3, I3, st3, fr3, w3⟩
  rcases turn i n σ3 H3 w3 with ⟨stop, qn⟩ | ⟨go, N, hN, step⟩
  · refine wpAny_passesOwn hp (thn (T.done X rfl rfl rfl hc i pins s3 σ3 H3 X.xe I3 (stat fr3) st3 stop) fun r s4 ⟨hr, I4⟩ => ?_)
    subst hr
    exact wpAny_execs_nil ⟨σ3, H3, I4, qn⟩
  · refine wpAny_passesOwn hp (thn (T.item X rfl rfl rfl hc i pins s3 σ3 H3 X.xe I3 (stat fr3) st3 go) fun r s4 ⟨u, hr, h4⟩ => ?_)
    subst hr
    refine wpAny_passesOwn hp (thn h4 fun _ s5 ⟨x, H5, I5, r5, y5, st5, fr5⟩ => ?_)
    have I5' := I5.pinned (stat fr5) (T.obj _ _ st5)
    refine wpAny_passesOwn hp (thn (hg _ s5 σ3 H5 x u _ I5' r5 (step x H5 y5)) fun _ s6 ⟨σ6, H6, I6, q6⟩ => ?_)
    refine wpAny_passesOwn hp (thn (hb _ s6 σ6 H6 _ I6 q6) fun f s7 q7 => ?_)
    have again : ∀ {σ7 : St} {H7 : Hp}, Inv X (pins ++ pinsAt fp s5.heap) σ7 H7 s7 → N σ7 H7 → ∃ m, m < n ∧ ∃ i σ' H', Inv X pins σ' H' s7 ∧ tn i s7.heap ∧ (∀ b ∈ fp, H' b = none) ∧ W i m σ' H' := fun {σ7 H7} I7 n7 => by
      obtain ⟨m', hm, w7⟩ := hN σ7 H7 n7
      refine ⟨m', hm, i + 1, σ7, H7, I7.unpinned, T.keep _ _ _ st5 fun b hb o e => (I7.pin (b, o) (List.mem_append_right _ (List.mem_append_right _ (mem_pinsAt hb e)))).1, fun b hb => ?_, w7⟩
      obtain ⟨o, e, d⟩ := T.obj _ _ st5 b hb
      exact (I7.pin (b, o) (List.mem_append_right _ (List.mem_append_right _ (mem_pinsAt hb e)))).2.1
    cases f with
    | next => obtain ⟨σ7, H7, I7, n7⟩ := q7; exact again I7 n7
    | cont => obtain ⟨σ7, H7, I7, n7⟩ := q7; exact again I7 n7
    | brk => obtain ⟨σ7, H7, I7, q7⟩ := q7; exact ⟨σ7, H7, I7.unpinned, q7⟩
    | ret v => obtain ⟨x7, σ7, H7, I7, r7, q7⟩ := q7; exact ⟨x7, σ7, H7, I7.unpinned, r7, q7⟩
end
theorem for_list {K : PySem.W.Frag} {a : Addr} {xs : List V} {g : TG} {tb : TS} {D : Ends} {σ : St} {H : Hp} (Pv : Nat → St → Hp → Prop) (h0 : Pv 0 σ H) (hl : ∀ i σ H, i ≤ xs.length → Pv i σ H → SqL K H a xs)
    (hs : ∀ i x σ H, xs[i]? = some x → Pv i σ H → g x σ H fun σ2 H2 => tb { D with nx := Pv (i + 1), ct := Pv (i + 1), bk := D.nx } σ2 H2) (hd : ∀ σ H, Pv xs.length σ H → D.nx σ H) :
    ∃ W : Nat → Nat → St → Hp → Prop, (∃ m, W 0 m σ H) ∧ ∀ i m σ H, W i m σ H →
      ((Itl K a).stop i H ∧ D.nx σ H) ∨ ((Itl K a).go i H ∧ ∃ N : St → Hp → Prop, (∀ σ' H', N σ' H' → ∃ m', m' < m ∧ W (i + 1) m' σ' H') ∧ ∀ x H', (Itl K a).yld i H x H' → g x σ H' fun σ2 H2 => tb { D with nx := N, ct := N, bk := D.nx } σ2 H2) := by
  refine ⟨fun i m σ H => m = xs.length - i ∧ i ≤ xs.length ∧ Pv i σ H, ⟨xs.length, by simp, Nat.zero_le _, h0⟩, ?_⟩
  rintro i m σ H ⟨rfl, hi, p⟩
  have q := hl i σ H hi p
  by_cases hlt : i < xs.length
  · refine .inr ⟨⟨xs, xs[i], q, by simp [hlt]⟩, Pv (i + 1), fun σ' H' p' => ⟨xs.length - (i + 1), by omega, rfl, hlt, p'⟩, fun x H' y => ?_⟩
    obtain ⟨e, y⟩ := y
    subst e
    exact hs i x σ _ (y xs q) p
  · have e : i = xs.length := by omega
    subst e
    exact .inl ⟨⟨xs, q, Nat.le_refl _⟩, hd σ H p⟩
theorem for_range {lo : Int} {n : Nat} {g : TG} {tb : TS} {D : Ends} {σ : St} {H : Hp} (Pv : Nat → St → Hp → Prop) (h0 : Pv 0 σ H)
    (hs : ∀ i σ H, i < n → Pv i σ H → g (.int (lo + i)) σ H fun σ2 H2 => tb { D with nx := Pv (i + 1), ct := Pv (i + 1), bk := D.nx } σ2 H2) (hd : ∀ σ H, Pv n σ H → D.nx σ H) :
    ∃ W : Nat → Nat → St → Hp → Prop, (∃ m, W 0 m σ H) ∧ ∀ i m σ H, W i m σ H →
      ((Itr lo n).stop i H ∧ D.nx σ H) ∨ ((Itr lo n).go i H ∧ ∃ N : St → Hp → Prop, (∀ σ' H', N σ' H' → ∃ m', m' < m ∧ W (i + 1) m' σ' H') ∧ ∀ x H', (Itr lo n).yld i H x H' → g x σ H' fun σ2 H2 => tb { D with nx := N, ct := N, bk := D.nx } σ2 H2) := by
  refine ⟨fun i m σ H => m = n - i ∧ i ≤ n ∧ Pv i σ H, ⟨n, by simp, Nat.zero_le _, h0⟩, ?_⟩
  rintro i m σ H ⟨rfl, hi, p⟩
  by_cases hlt : i < n
  · refine .inr ⟨hlt, Pv (i + 1), fun σ' H' p' => ⟨n - (i + 1), by omega, rfl, hlt, p'⟩, fun x H' y => ?_⟩
    obtain ⟨e, y⟩ := y
    subst e y
    exact hs i σ _ hlt p
  · have e : i = n := by omega
    subst e
    exact .inl ⟨Nat.le_refl _, hd σ H p⟩
abbrev R2 := V → V → Hp → VK → Prop
def OpR (X : Cx) (f : Value → Value → Sem Value) (r : R2) : Prop :=
  ∀ (pins : List (Addr × Obj)) (s : Shared) (σ : St) (H : Hp) (x y : V) (v u : Value) (Q : VK), Inv X pins σ H s → RelV x v → RelV y u → r x y H Q →
    wpAny (model X.prog X.w) X.A (f v u) (EP X pins σ Q) X.xe s
def UnR (X : Cx) (f : Value → Sem Value) (r : V → Hp → VK → Prop) : Prop :=
  ∀ (pins : List (Addr × Obj)) (s : Shared) (σ : St) (H : Hp) (x : V) (v : Value) (Q : VK), Inv X pins σ H s → RelV x v → r x H Q →
    wpAny (model X.prog X.w) X.A (f v) (EP X pins σ Q) X.xe s
def CallR (X : Cx) (f : Value) (r : List V → Hp → VK → Prop) : Prop :=
  ∀ (pins : List (Addr × Obj)) (s : Shared) (σ : St) (H : Hp) (xs : List V) (us : List Value) (Q : VK), Inv X pins σ H s → Vals xs us → r xs H Q →
    wpAny (model X.prog X.w) X.A (call f us) (EP X pins σ Q) X.xe s
def tOp (r : R2) (ta tb : TE) : TE := fun σ H Q => ta σ H fun x H1 => tb σ H1 fun y H2 => r x y H2 Q
def tUn (r : V → Hp → VK → Prop) (ta : TE) : TE := fun σ H Q => ta σ H fun x H1 => r x H1 Q
def rI (C : Int → Int → Prop) (g : Int → Int → V) : R2 := fun x y H Q => ∃ i j, x = .int i ∧ y = .int j ∧ C i j ∧ Q (g i j) H
def rI0 (g : Int → Int → V) : R2 := fun x y H Q => ∃ i j, x = .int i ∧ y = .int j ∧ Q (g i j) H
def rU (g : Int → V) : V → Hp → VK → Prop := fun x H Q => ∃ i, x = .int i ∧ Q (g i) H
section
variable {X : Cx} {a b c : Expr} {ta tb tc : TE} {pos : Pos}
theorem binT (ha : PE X a ta) (hb : PE X b tb) {pins : List (Addr × Obj)} {s : Shared} {σ : St} {H : Hp} {R : V → V → Hp → Prop} (I : Inv X pins σ H s)
    (h : ta σ H fun x H1 => tb σ H1 fun y H2 => R x y H2) {Q : Value → Shared → Prop} {f : Value → Value → Sem Value}
    (hf : ∀ v u s2 x y H2, Inv X pins σ H2 s2 → RelV x v → RelV y u → R x y H2 → wpAny (model X.prog X.w) X.A (f v u) Q X.xe s2) :
    wpAny (model X.prog X.w) X.A (eval a X.env) (fun v s₁ => wpAny (model X.prog X.w) X.A (eval b X.env) (fun u s₂ => wpAny (model X.prog X.w) X.A (f v u) Q X.xe s₂) X.xe s₁) X.xe s := by
  refine thn (ha pins s σ H _ I h) fun v s1 ⟨x, H1, I1, r1, q1⟩ => ?_
  refine thn (hb pins s1 σ H1 _ I1 q1) fun u s2 ⟨y, H2, I2, r2, q2⟩ => ?_
  exact hf v u s2 x y H2 I2 r1 r2 q2
theorem pe_op {op : Operator} {r : R2} (ho : OpR X (binaryOp op) r) (ha : PE X a ta) (hb : PE X b tb) : PE X (.BinOp a op b pos) (tOp r ta tb) := by
  intro pins s σ H Q I h
  exact wpAny_BinOp (binT ha hb I h fun v u s2 x y H2 I2 rx ry q => ho pins s2 σ H2 x y v u Q I2 rx ry q)
theorem pe_un {op : UnaryOp} {r : V → Hp → VK → Prop} (ho : UnR X (unaryOp op) r) (ha : PE X a ta) : PE X (.UnaryOp op a pos) (tUn r ta) := by
  intro pins s σ H Q I h
  exact UnaryOp_ (thn (ha pins s σ H _ I h) fun v s1 ⟨x, H1, I1, r1, q1⟩ => ho pins s1 σ H1 x v Q I1 r1 q1)
theorem opI {f : Value → Value → Sem Value} {C : Int → Int → Prop} {g : Int → Int → Int}
    (rule : ∀ (i j : Int) (t u : Tok) (s : Shared) (Q : Value → Shared → Prop) (E : Value → Shared → Prop), C i j → Q (.int (g i j) s.toks) { s with toks := s.toks + 1 } → wpAny (model X.prog X.w) X.A (f (.int i t) (.int j u)) Q E s) :
    OpR X f (rI C fun i j => .int (g i j)) := by
  intro pins s σ H x y v u Q I rx ry h
  obtain ⟨i, j, rfl, rfl, hc, q⟩ := h
  obtain ⟨t, rfl⟩ := rx
  obtain ⟨t', rfl⟩ := ry
  exact rule i j t t' s _ _ hc ⟨.int (g i j), H, I.tok _, ⟨_, rfl⟩, q⟩
theorem opI0 {f : Value → Value → Sem Value} {g : Int → Int → Int}
    (rule : ∀ (i j : Int) (t u : Tok) (s : Shared) (Q : Value → Shared → Prop) (E : Value → Shared → Prop), Q (.int (g i j) s.toks) { s with toks := s.toks + 1 } → wpAny (model X.prog X.w) X.A (f (.int i t) (.int j u)) Q E s) :
    OpR X f (rI0 fun i j => .int (g i j)) := by
  intro pins s σ H x y v u Q I rx ry h
  obtain ⟨i, j, rfl, rfl, q⟩ := h
  obtain ⟨t, rfl⟩ := rx
  obtain ⟨t', rfl⟩ := ry
  exact rule i j t t' s _ _ ⟨.int (g i j), H, I.tok _, ⟨_, rfl⟩, q⟩
theorem opB0 {f : Value → Value → Sem Value} {g : Int → Int → Bool}
    (rule : ∀ (i j : Int) (t u : Tok) (s : Shared) (Q : Value → Shared → Prop) (E : Value → Shared → Prop), Q (.bool (g i j)) s → wpAny (model X.prog X.w) X.A (f (.int i t) (.int j u)) Q E s) :
    OpR X f (rI0 fun i j => .bl (g i j)) := by
  intro pins s σ H x y v u Q I rx ry h
  obtain ⟨i, j, rfl, rfl, q⟩ := h
  obtain ⟨t, rfl⟩ := rx
  obtain ⟨t', rfl⟩ := ry
  exact rule i j t t' s _ _ ⟨.bl (g i j), H, I, rfl, q⟩
def CDiv (i j : Int) : Prop := 0 < j ∧ j < 1073741824
def CPow (i j : Int) : Prop := 0 ≤ j ∧ j ≤ 1000000 ∧ i.natAbs < 2 ^ 64
def CMul (i j : Int) : Prop := (-(2 ^ 64) < i ∧ i < 2 ^ 64) ∨ (-(2 ^ 64) < j ∧ j < 2 ^ 64)
theorem CMul.ok {i j : Int} (h : CMul i j) : IntMulOk i j := by
  rcases h with ⟨h1, h2⟩ | ⟨h1, h2⟩
  · exact .of_left (intBits_le_64 h1 h2)
  · exact .of_right (intBits_le_64 h1 h2)
theorem op_add : OpR X (binaryOp .Add) (rI0 fun i j => .int (i + j)) := opI0 fun _ _ _ _ _ _ _ q => add_int q
theorem op_sub : OpR X (binaryOp .Sub) (rI0 fun i j => .int (i - j)) := opI0 fun _ _ _ _ _ _ _ q => sub_int q
theorem op_mul : OpR X (binaryOp .Mult) (rI CMul fun i j => .int (i * j)) := opI fun _ _ _ _ _ _ _ hc q => mul_int q hc.ok
theorem op_fdiv : OpR X (binaryOp .FloorDiv) (rI CDiv fun i j => .int (i / j)) := opI fun i j _ _ _ _ _ hc q => by
  have h1 : (0 : Int) < j := hc.1
  have h2 : j < 1073741824 := hc.2
  exact floordiv_int (by omega) (by rw [Int.fdiv_eq_ediv_of_nonneg i (by omega)]; exact q) (.inl (PyProof.noPylong_small (by omega)))
theorem op_mod : OpR X (binaryOp .Mod) (rI (fun _ j => 0 < j) fun i j => .int (i % j)) := opI fun i j _ _ _ _ _ hc q => by
  have h1 : (0 : Int) < j := hc
  exact mod_int' (by omega) (by rw [Int.fmod_eq_emod_of_nonneg i (by omega)]; exact q)
theorem op_pow : OpR X (binaryOp .Pow) (rI CPow fun i j => .int (i ^ j.toNat)) := opI fun _ _ _ _ _ _ _ hc q => pow_int_small hc.1 hc.2.1 hc.2.2 q
theorem unI {f : Value → Sem Value} {g : Int → Int}
    (rule : ∀ (i : Int) (t : Tok) (s : Shared) (Q : Value → Shared → Prop) (E : Value → Shared → Prop), Q (.int (g i) s.toks) { s with toks := s.toks + 1 } → wpAny (model X.prog X.w) X.A (f (.int i t)) Q E s) :
    UnR X f (rU fun i => .int (g i)) := by
  intro pins s σ H x v Q I rx h
  obtain ⟨i, rfl, q⟩ := h
  obtain ⟨t, rfl⟩ := rx
  exact rule i t s _ _ ⟨.int (g i), H, I.tok _, ⟨_, rfl⟩, q⟩
theorem un_neg : UnR X (unaryOp .USub) (rU fun i => .int (-i)) := unI fun _ _ _ _ _ q => neg_int q
end
def scal : V → V → Bool
  | .non, .non => true | .non, .int _ => true | .int _, .non => true | .non, .bl _ => true | .bl _, .non => true | .non, .str _ => true | .str _, .non => true
  | .int _, .int _ => true | .bl _, .bl _ => true | .str _, .str _ => true | .byt _, .byt _ => true
  | .int _, .str _ => true | .str _, .int _ => true | .bl _, .str _ => true | .str _, .bl _ => true
  | _, _ => false
def rEq : R2 := fun x y H Q => scal x y = true ∧ Q (.bl (decide (x = y))) H
def rNe : R2 := fun x y H Q => scal x y = true ∧ Q (.bl (!decide (x = y))) H
theorem dec_int {i j : Int} : decide (V.int i = V.int j) = (i == j) := by
  rw [Bool.eq_iff_iff]
  simp
theorem dec_bl {i j : Bool} : decide (V.bl i = V.bl j) = (i == j) := by
  rw [Bool.eq_iff_iff]
  simp
theorem dec_str {i j : Str} : decide (V.str i = V.str j) = (i == j) := by
  rw [Bool.eq_iff_iff]
  simp
theorem dec_byt {i j : Array UInt8} : decide (V.byt i = V.byt j) = (i.toList == j.toList) := by
  rw [Bool.eq_iff_iff]
  cases i
  cases j
  simp
section
variable {X : Cx} {a b c : Expr} {ta tb tc : TE} {pos : Pos}
theorem fin_bl {pins : List (Addr × Obj)} {σ : St} {H : Hp} {s : Shared} {Q : VK} {k k' : Bool} (I : Inv X pins σ H s) (q : Q (.bl k) H) (e : k = k') : EP X pins σ Q (.bool k') s := by
  subst e
  exact ⟨.bl k, H, I, rfl, q⟩
theorem op_eq : OpR X (compareOp .Eq) rEq := by
  intro pins s σ H x y v u Q I rx ry h
  obtain ⟨hs, q⟩ := h
  cases x with
  | non =>
    cases rx
    cases y with
    | non => cases ry; exact PySem.EqNone.eq_none_none (fin_bl I q (by simp))
    | bl j => cases ry; exact PySem.EqNone.eq_none_bool (fin_bl I q (by simp))
    | int j => obtain ⟨t', rfl⟩ := ry; exact PySem.EqNone.eq_none_int (fin_bl I q (by simp))
    | str j => obtain ⟨t', rfl⟩ := ry; exact PySem.EqNone.eq_none_str (fin_bl I q (by simp))
    | _ => exact absurd (show false = true from hs) Bool.false_ne_true
  | bl i =>
    cases rx
    cases y with
    | non => cases ry; exact PySem.EqNone.eq_bool_none (fin_bl I q (by simp))
    | bl j => cases ry; exact eq_bool (fin_bl I q dec_bl)
    | str j => obtain ⟨t', rfl⟩ := ry; exact PySem.EqMixed.eq_bool_str (fin_bl I q (by simp))
    | _ => exact absurd (show false = true from hs) Bool.false_ne_true
  | int i =>
    obtain ⟨t, rfl⟩ := rx
    cases y with
    | non => cases ry; exact PySem.EqNone.eq_int_none (fin_bl I q (by simp))
    | int j => obtain ⟨t', rfl⟩ := ry; exact eq_int (fin_bl I q dec_int)
    | str j => obtain ⟨t', rfl⟩ := ry; exact PySem.EqMixed.eq_int_str (fin_bl I q (by simp))
    | _ => exact absurd (show false = true from hs) Bool.false_ne_true
  | str i =>
    obtain ⟨t, rfl⟩ := rx
    cases y with
    | non => cases ry; exact PySem.EqNone.eq_str_none (fin_bl I q (by simp))
    | bl j => cases ry; exact PySem.EqMixed.eq_str_bool (fin_bl I q (by simp))
    | int j => obtain ⟨t', rfl⟩ := ry; exact PySem.EqMixed.eq_str_int (fin_bl I q (by simp))
    | str j => obtain ⟨t', rfl⟩ := ry; exact eq_str (fin_bl I q dec_str)
    | _ => exact absurd (show false = true from hs) Bool.false_ne_true
  | byt i =>
    obtain ⟨t, rfl⟩ := rx
    cases y with
    | byt j => obtain ⟨t', rfl⟩ := ry; exact PySem.W.eq_bytes (fin_bl I q dec_byt)
    | _ => exact absurd (show false = true from hs) Bool.false_ne_true
  | _ => cases y <;> exact absurd (show false = true from hs) Bool.false_ne_true
theorem op_ne : OpR X (compareOp .NotEq) rNe := by
  intro pins s σ H x y v u Q I rx ry h
  obtain ⟨hs, q⟩ := h
  cases x with
  | non =>
    cases rx
    cases y with
    | non => cases ry; exact PySem.EqNone.ne_none_none (fin_bl I q (by simp))
    | bl j => cases ry; exact PySem.EqNone.ne_none_bool (fin_bl I q (by simp))
    | int j => obtain ⟨t', rfl⟩ := ry; exact PySem.EqNone.ne_none_int (fin_bl I q (by simp))
    | str j => obtain ⟨t', rfl⟩ := ry; exact PySem.EqNone.ne_none_str (fin_bl I q (by simp))
    | _ => exact absurd (show false = true from hs) Bool.false_ne_true
  | bl i =>
    cases rx
    cases y with
    | non => cases ry; exact PySem.EqNone.ne_bool_none (fin_bl I q (by simp))
    | bl j => cases ry; exact ne_bool (fin_bl I q (congrArg not dec_bl))
    | str j => obtain ⟨t', rfl⟩ := ry; exact PySem.EqMixed.ne_bool_str (fin_bl I q (by simp))
    | _ => exact absurd (show false = true from hs) Bool.false_ne_true
  | int i =>
    obtain ⟨t, rfl⟩ := rx
    cases y with
    | non => cases ry; exact PySem.EqNone.ne_int_none (fin_bl I q (by simp))
    | int j => obtain ⟨t', rfl⟩ := ry; exact ne_int (fin_bl I q (congrArg not dec_int))
    | str j => obtain ⟨t', rfl⟩ := ry; exact PySem.EqMixed.ne_int_str (fin_bl I q (by simp))
    | _ => exact absurd (show false = true from hs) Bool.false_ne_true
  | str i =>
    obtain ⟨t, rfl⟩ := rx
    cases y with
    | non => cases ry; exact PySem.EqNone.ne_str_none (fin_bl I q (by simp))
    | bl j => cases ry; exact PySem.EqMixed.ne_str_bool (fin_bl I q (by simp))
    | int j => obtain ⟨t', rfl⟩ := ry; exact PySem.EqMixed.ne_str_int (fin_bl I q (by simp))
    | str j => obtain ⟨t', rfl⟩ := ry; exact ne_str (fin_bl I q (congrArg not dec_str))
    | _ => exact absurd (show false = true from hs) Bool.false_ne_true
  | byt i =>
    obtain ⟨t, rfl⟩ := rx
    cases y with
    | byt j => obtain ⟨t', rfl⟩ := ry; exact PySem.W.ne_bytes (fin_bl I q (congrArg not dec_byt))
    | _ => exact absurd (show false = true from hs) Bool.false_ne_true
  | _ => cases y <;> exact absurd (show false = true from hs) Bool.false_ne_true
theorem op_lt : OpR X (compareOp .Lt) (rI0 fun i j => .bl (decide (i < j))) := opB0 fun _ _ _ _ _ _ _ q => lt_int q
theorem op_le : OpR X (compareOp .LtE) (rI0 fun i j => .bl (decide (i ≤ j))) := opB0 fun _ _ _ _ _ _ _ q => le_int q
theorem op_gt : OpR X (compareOp .Gt) (rI0 fun i j => .bl (decide (j < i))) := opB0 fun _ _ _ _ _ _ _ q => gt_int q
theorem op_ge : OpR X (compareOp .GtE) (rI0 fun i j => .bl (decide (j ≤ i))) := opB0 fun _ _ _ _ _ _ _ q => ge_int q
theorem op_isN : OpR X (compareOp .Is) (fun x y H Q => y = .non ∧ Q (.bl (decide (x = .non))) H) := by
  intro pins s σ H x y v u Q I rx ry h
  obtain ⟨rfl, q⟩ := h
  cases ry
  refine is_none_gen (fin_bl I q ?_)
  cases x <;> first
    | (cases rx; rfl)
    | (obtain ⟨t, rfl⟩ := rx; rfl)
theorem op_notN : OpR X (compareOp .IsNot) (fun x y H Q => y = .non ∧ Q (.bl (!decide (x = .non))) H) := by
  intro pins s σ H x y v u Q I rx ry h
  obtain ⟨rfl, q⟩ := h
  cases ry
  refine isnot_none_gen (fin_bl I q ?_)
  cases x <;> first
    | (cases rx; rfl)
    | (obtain ⟨t, rfl⟩ := rx; rfl)
theorem nomark (b : Expr) {op : CmpOp} (h : op ≠ .In := by decide) (h2 : op ≠ .NotIn := by decide) : behindInMarks op b = false := by
  have e1 : (op == CmpOp.In) = false := by cases op <;> first | rfl | exact absurd rfl h
  have e2 : (op == CmpOp.NotIn) = false := by cases op <;> first | rfl | exact absurd rfl h2
  cases b <;> simp [behindInMarks, e1, e2]
theorem pe_cmpR {op : CmpOp} {r : R2} (ho : OpR X (compareOp op) r) (ha : PE X a ta) (hb : PE X b tb) (hm : behindInMarks op b = false) : PE X (.Compare a [op] [b] pos) (tOp r ta tb) := by
  intro pins s σ H Q I h
  exact wpAny_Compare1 (binT ha hb I h fun v u s2 x y H2 I2 rx ry q => ho pins s2 σ H2 x y v u Q I2 rx ry q) hm
def tTest (t : TE) : TT := fun σ H Q => t σ H fun x H' => ∃ k, x = .bl k ∧ Q k H'
theorem pt_cmpR {op : CmpOp} {r : R2} (ho : OpR X (compareOp op) r) (ha : PE X a ta) (hb : PE X b tb) (hm : behindInMarks op b = false) : PT X (.Compare a [op] [b] pos) (tTest (tOp r ta tb)) := by
  intro pins s σ H Q I h
  refine wpAny_isTrue_Compare1 (thn (ha pins s σ H _ I h) fun v s1 ⟨x, H1, I1, r1, q1⟩ => thn (hb pins s1 σ H1 _ I1 q1) fun u s2 ⟨y, H2, I2, r2, q2⟩ =>
    thn (ho pins s2 σ H2 x y v u _ I2 r1 r2 q2) fun c s3 ⟨z, H3, I3, r3, k, e, q3⟩ => ?_) hm
  subst e
  cases r3
  exact wpAny_truthy_bool ⟨H3, I3, q3⟩
theorem line63 : (sizeLine : Nat) < 2 ^ 63 := by rw [sizeLine_eq]; decide
theorem op_add_str : OpR X (binaryOp .Add) (fun x y H Q => ∃ i j, x = .str i ∧ y = .str j ∧ i.length + j.length ≤ sizeLine ∧ Q (.str (i ++ j)) H) := by
  intro pins s σ H x y v u Q I rx ry h
  obtain ⟨i, j, rfl, rfl, hz, q⟩ := h
  obtain ⟨t, rfl⟩ := rx
  obtain ⟨t', rfl⟩ := ry
  exact add_str (fun t' tk => ⟨.str (i ++ j), H, I.tok _, ⟨_, rfl⟩, q⟩) hz
theorem vals1 {x : V} {us : List Value} (r : Vals [x] us) : ∃ u, us = [u] ∧ RelV x u := by
  cases r with
  | cons r1 r2 => cases r2; exact ⟨_, rfl, r1⟩
theorem vals2 {x y : V} {us : List Value} (r : Vals [x, y] us) : ∃ u w', us = [u, w'] ∧ RelV x u ∧ RelV y w' := by
  cases r with
  | cons r1 r2 =>
    cases r2 with
    | cons r3 r4 => cases r4; exact ⟨_, _, rfl, r1, r3⟩
theorem call_min2 (hc : X.calm = true) : CallR X (.builtin "min") (fun xs H Q => ∃ i j, xs = [.int i, .int j] ∧ Q (.int (if j < i then j else i)) H) := by
  intro pins s σ H xs us Q I r h
  obtain ⟨i, j, rfl, q⟩ := h
  obtain ⟨u, w', rfl, ⟨t, rfl⟩, ⟨t', rfl⟩⟩ := vals2 r
  refine min_two_ints (I.ok.hd hc) fun h' tk k => ⟨_, H, I.kept k, ?_, q⟩
  by_cases hj : j < i
  · rw [if_pos hj, if_pos hj]; exact ⟨_, rfl⟩
  · rw [if_neg hj, if_neg hj]; exact ⟨_, rfl⟩
theorem call_int1 : CallR X (.type "int") (fun xs H Q => (∃ i, xs = [.int i] ∧ Q (.int i) H) ∨ ∃ k, xs = [.bl k] ∧ Q (.int (if k then 1 else 0)) H) := by
  intro pins s σ H xs us Q I r h
  rcases h with ⟨i, rfl, q⟩ | ⟨k, rfl, q⟩
  · obtain ⟨u, rfl, t, rfl⟩ := vals1 r
    exact call_int_int ⟨.int i, H, I, ⟨_, rfl⟩, q⟩
  · obtain ⟨u, rfl, r1⟩ := vals1 r
    cases r1
    exact call_int_bool ⟨.int (if k then 1 else 0), H, I.tok _, ⟨_, rfl⟩, q⟩
end
theorem lookIn_ns {h : Heap} {dx : Addr} {mA : Str → Option Value} (n : h.Ns1 dx mA) : ∃ od, h.get? dx = some od ∧ ∀ name, PySem.W.lookIn name od = some (mA name) := by
  obtain ⟨o, es, ep, ho, hd, hk, _, hm⟩ := n
  refine ⟨o, ho, fun name => ?_⟩
  have e := hm name
  unfold nsFind findBy at e
  rw [← Array.find?_toList] at e
  unfold PySem.W.lookIn
  rw [hd]
  dsimp only
  split
  · rename_i y q
    rw [q] at e
    exact congrArg some e
  · rename_i q
    rw [q] at e
    have a : es.toList.any (·.refKey) = false := by
      rw [List.any_eq_false]
      intro y hy
      obtain ⟨z, t, hkey⟩ := hk y (Array.mem_toList_iff.mp hy)
      simp [DictEntry.refKey, hkey]
    have a' : ¬ es.toList.any (·.refKey) = true := by rw [a]; exact Bool.false_ne_true
    rw [if_neg a']
    exact congrArg some e
section
variable {prog : Program} {w : World} {A : Around} {E : Value → Shared → Prop} {s : Shared} {K : PySem.W.Frag} {x dx C f : Addr} {mA : Str → Option Value} {name : Str} {v : Value}
end
theorem RelO.some_of {v : V} {o : Option Value} (r : RelO (some v) o) : ∃ u, o = some u ∧ RelV v u := by
  cases o with
  | none => exact (show False from r).elim
  | some u => exact ⟨u, rfl, r⟩
theorem handed_of {v : V} {u : Value} (r : RelV v u) : PySem.W.handedIn u = true := by
  cases v with
  | non => cases (show u = Value.none from r); rfl
  | bl b => cases (show u = Value.bool b from r); rfl
  | int i => obtain ⟨t, e⟩ := (show ∃ t, u = Value.int i t from r); cases e; rfl
  | str x => obtain ⟨t, e⟩ := (show ∃ t, u = Value.str x t from r); cases e; rfl
  | byt b => obtain ⟨t, e⟩ := (show ∃ t, u = Value.bytes b t from r); cases e; rfl
  | flt b => obtain ⟨t, e⟩ := (show ∃ t, u = Value.float b t from r); cases e; rfl
  | ref a => cases (show u = Value.ref a from r); rfl
  | ty n => cases (show u = Value.type n from r); rfl
section
variable {P : Program} {w : World} {H H' : Hp} {h h' : Heap} {a C dx : Addr} {fs fs' : List (Str × V)}
end
section
variable {X : Cx} {pins : List (Addr × Obj)} {σ : St} {H : Hp} {s : Shared} {a C dx : Addr} {fs : List (Str × V)} {f : Str} {v : V} {A : Around} {E : Value → Shared → Prop}
theorem attr_of {prog : Program} {w : World} {env : Env} {e : Expr} {f : Str} {pos : Pos} {s : Shared} {Q : Value → Shared → Prop} (hb : attributeBase e f env (eval e env) = eval e env)
    (h : wpAny (model prog w) A (eval e env) (fun o s₁ => wpAny (model prog w) A (getAttr o f true) Q E s₁) E s) : wpAny (model prog w) A (eval (.Attribute e f pos) env) Q E s :=
  Attribute_any_ h (by rw [arm_eval_Attribute, hb])
end
section
variable {X : Cx} {o e value : Expr} {f : Str} {pos pos' tpos : Pos} {ta tv : TE}
end
section
variable {X : Cx} {pins : List (Addr × Obj)} {σ : St} {H : Hp} {s : Shared} {A : Around} {E : Value → Shared → Prop} {Q : Value → Shared → Prop} {c : Value} {b : Bool}
end
structure Room (k : Nat) (A : Around) : Prop where
  hd : A.handled = none
  dp : A.depth + 3 * k + 5 < recursionLimit
  un : A.units + 16 * k + 200 < cLine
theorem Room.mono {j k : Nat} {A : Around} (r : Room k A) (h : j ≤ k) : Room j A := ⟨r.hd, by have := r.dp; omega, by have := r.un; omega⟩
theorem Room.deeper {k : Nat} {A : Around} (r : Room (k + 1) A) (env : Env) : Room k (A.deeper env) :=
  ⟨r.hd, by have := r.dp; show A.depth + 1 + 3 * k + 5 < _; omega, by have := r.un; show A.units + 3 + 16 * k + 200 < _; omega⟩
theorem make_depth {A : Around} {C : Addr} {us : List Value} {kw : List (Str × Value)} : (A.under (.builtin "type.__call__" ⟨.ref C :: us, kw⟩)).depth = A.depth + 1 := by
  first | rfl | simp [Around.under, Code.weight, Code.isCreation, Code.isGuard, Code.isCaller, Code.frames, Code.isFrame, guardIds]
theorem make_units {A : Around} {C : Addr} {us : List Value} {kw : List (Str × Value)} : (A.under (.builtin "type.__call__" ⟨.ref C :: us, kw⟩)).units = A.units + 1 := by
  first | rfl | simp [Around.under, Code.cUnits, Code.frames, Code.isFrame]
theorem Room.make {k : Nat} {A : Around} (r : Room (k + 1) A) (C : Addr) (us : List Value) (kw : List (Str × Value)) : Room k (A.under (.builtin "type.__call__" ⟨.ref C :: us, kw⟩)) :=
  ⟨r.hd, by have := r.dp; rw [make_depth]; omega, by have := r.un; rw [make_units]; omega⟩
theorem Room.depth {k : Nat} {A : Around} (r : Room k A) : A.depth < recursionLimit := by have := r.dp; omega
theorem Room.units0 {k : Nat} {A : Around} (r : Room k A) : A.units < cLine := by have := r.un; omega
def tNil : TA := fun _ H Q => Q [] H
def tCons (ta : TE) (tr : TA) : TA := fun σ H Q => ta σ H fun x H1 => tr σ H1 fun xs H2 => Q (x :: xs) H2
section
variable {X : Cx} {e : Expr} {es : List Expr} {te : TE} {t : TA} {pos : Pos}
theorem pa_nil : PA X [] tNil := fun _ _ _ _ H Q I h => Calls.spliced_nil ⟨[], H, I, .nil, h⟩
theorem pa_cons (ha : PE X e te) (hr : PA X es t) (hs : starEach (e :: es) X.env = (false, eval e X.env) :: starEach es X.env := by rfl) : PA X (e :: es) (tCons te t) := by
  intro pos pins s σ H Q I h
  rw [hs]
  show wpAny _ _ (spliced ((false, eval e X.env) :: backTo pos (starEach es X.env))) _ _ s
  refine Calls.spliced_cons (thn (ha pins s σ H _ I h) fun u s1 ⟨x, H1, I1, r1, q1⟩ => ?_)
  exact thn (hr pos pins s1 σ H1 _ I1 q1) fun us s2 ⟨xs, H2, I2, r2, q2⟩ => ⟨x :: xs, H2, I2, .cons r1 r2, q2⟩
def tTup (t : TA) : TE := fun σ H Q => t σ H fun xs H1 => xs.length ≤ sizeLine ∧ ∀ p, H1 p = none → Q (.ref p) (upd H1 p (.tup xs))
def tLst (t : TA) : TE := fun σ H Q => t σ H fun xs H1 => xs.length ≤ sizeLine ∧ ∀ p, H1 p = none → Q (.ref p) (upd H1 p (.lst xs))
theorem pe_tup {x1} (h : PA X es t) : PE X (.Tuple es x1 pos) (tTup t) := by
  intro pins s σ H Q I hq
  refine wpAny_Tuple_spliced (thn (h pos pins s σ H _ I hq) fun us s1 ⟨xs, H1, I1, r, z, q⟩ => ⟨by rw [← r.length]; exact z, ?_⟩)
  have hf : H1 s1.heap.objs.size = none := I1.hok.fresh (Nat.le_refl _)
  refine ⟨.ref s1.heap.objs.size, upd H1 s1.heap.objs.size (.tup xs), I1.laid (t' := s1.toks) (fun b u e => Heap.get?_push_of_some _ e) (Nat.le_refl _) ?_, rfl, q _ hf⟩
  exact ⟨z, us, r, ⟨_, Heap.get?_push_size _ rfl, rfl, _, rfl⟩⟩
theorem pe_lst (h : PA X es t) : PE X (.List es pos) (tLst t) := by
  intro pins s σ H Q I hq
  refine wpAny_List_spliced (thn (h pos pins s σ H _ I hq) fun us s1 ⟨xs, H1, I1, r, z, q⟩ => ⟨by rw [← r.length]; exact z, ?_⟩)
  have hf : H1 s1.heap.objs.size = none := I1.hok.fresh (Nat.le_refl _)
  refine ⟨.ref s1.heap.objs.size, upd H1 s1.heap.objs.size (.lst xs), I1.laid (t' := s1.toks) (fun b u e => Heap.get?_push_of_some _ e) (Nat.le_refl _) ?_, rfl, q _ hf⟩
  exact ⟨z, us, 0, r, Heap.get?_push_size _ rfl⟩
end
abbrev Sp := List V → Hp → VK → XK → Prop
abbrev CXT := List Env → Hp → Shared → XK → Value → Shared → Prop
structure Env0 (P : Program) (w : World) (K : PySem.W.Frag) (mg : Str → Option Value) (base : Heap) (A : Around) (outer : List Env) (s : Shared) (H : Hp) : Prop where
  frames : A.frames = some outer
  mod : Mod K mg base
  bs : ∀ b o, base.get? b = some o → s.heap.get? b = some o ∧ H b = none
  bsz : base.objs.size ≤ s.heap.objs.size
  funs : s.heap.FunFrames base outer
  frf : ∀ b ∈ frs outer, H b = none
  hok : HOk P w H s.heap
  bare : AllBare s.gens
def CE (outer : List Env) (P : Program) (w : World) (H : Hp) (s : Shared) (Q : VK) (u : Value) (s' : Shared) : Prop :=
  ∃ v H', s'.os = s.os ∧ AllBare s'.gens ∧ Un (frs outer) [] H H' s.heap s'.heap ∧ HOk P w H' s'.heap ∧ RelV v u ∧ Q v H'
def CR (CX : CXT) (outer : List Env) (P : Program) (w : World) (H : Hp) (s : Shared) (Q : VK) (E : XK) (r : Result) (s' : Shared) : Prop :=
  match r with
  | .ok (.ret u) => CE outer P w H s Q u s'
  | .ok _ => False
  | .error e => CX outer H s E e s'
structure FnOk (P : Program) (w : World) (K : PySem.W.Frag) (mg : Str → Option Value) (base : Heap) (CX : CXT) (k : Nat) (f : Addr) (fd : FuncData) (ps : List Str) (sp : Sp) : Prop where
  len : ∀ vs H Q E, sp vs H Q E → vs.length = ps.length
  run : ∀ (A : Around) (outer : List Env) (s : Shared) (H : Hp) (args : Args) (us : List Value) (vs : List V) (Q : VK) (E : XK), Room k A → Env0 P w K mg base A outer s H → BindsTo s fd args (ps.zip us) → Vals vs us → sp vs H Q E →
    codeAny (model P w) A (.call (.ref f) args) (CR CX outer P w H s Q E) s
theorem FnOk.mono {P : Program} {w : World} {K : PySem.W.Frag} {mg : Str → Option Value} {base : Heap} {CX : CXT} {j k : Nat} {f : Addr} {fd : FuncData} {ps : List Str} {sp : Sp} (F : FnOk P w K mg base CX j f fd ps sp) (h : j ≤ k) :
    FnOk P w K mg base CX k f fd ps sp := ⟨F.len, fun A outer s H args us vs Q E hr => F.run A outer s H args us vs Q E (hr.mono h)⟩
theorem Env0.make {P : Program} {w : World} {K : PySem.W.Frag} {mg : Str → Option Value} {base : Heap} {A : Around} {outer : List Env} {s : Shared} {H : Hp} (e : Env0 P w K mg base A outer s H) (C : Addr) (us : List Value) (kw : List (Str × Value)) :
    Env0 P w K mg base (A.under (.builtin "type.__call__" ⟨.ref C :: us, kw⟩)) outer s H := ⟨by first | exact e.frames | (simpa [Around.under, Code.envs, Code.isFrame, pushEnvs] using e.frames), e.mod, e.bs, e.bsz, e.funs, e.frf, e.hok, e.bare⟩
section
variable {X : Cx} {pins : List (Addr × Obj)} {σ : St} {H : Hp} {s s' : Shared}
theorem Inv.env0 (I : Inv X pins σ H s) : Env0 X.prog X.w X.K X.mg X.base X.A X.stack s H :=
  ⟨I.ok.frames, I.ok.mod, I.bs, Nat.le_trans I.ok.bsz I.sz, I.stack, I.stkFree, I.hok, I.bare⟩
theorem Inv.after {Q : VK} {u : Value} (I : Inv X pins σ H s) (h : CE X.stack X.prog X.w H s Q u s') : EP X pins σ Q u s' := by
  obtain ⟨v, H', os, bare, un, hok, r, q⟩ := h
  obtain ⟨hh, g, d, t, os'⟩ := s'
  obtain rfl : os' = s.os := os
  exact ⟨v, H', I.call (h' := hh) (g' := g) (d' := d) (t' := t) (ch := []) un hok bare (fun b z => absurd z (by simp)), r, q⟩
end
def tCall (sp : Sp) (dvs : List V) (E : XK) (t : TA) : TE := fun σ H Q => t σ H fun vs H1 => sp (vs ++ dvs) H1 Q E
def Binds (K : PySem.W.Frag) (fd : FuncData) (ps : List Str) (ds : List Value) : Prop :=
  ∀ (s : Shared) (us : List Value), K.In s.heap → (us ++ ds).length = ps.length → BindsTo s fd ⟨us, []⟩ (ps.zip (us ++ ds))
theorem Binds.all {K : PySem.W.Frag} {fd : FuncData} {ps : List Str} (h : ∀ us : List Value, us.length = ps.length → bindArgs fd ⟨us, []⟩ = pure (ps.zip us)) : Binds K fd ps [] := fun s us _ hl => by
  rw [List.append_nil] at hl ⊢
  exact .of_eq (h us hl)
def Passes (CX : CXT) (X : Cx) (E : XK) : Prop := ∀ (pins : List (Addr × Obj)) (σ : St) (H : Hp) (s : Shared) (e : Value) (s' : Shared), Inv X pins σ H s → CX X.stack H s E e s' → X.xe e s'
section
variable {X : Cx} {CX : CXT} {k : Nat} {f C : Addr} {fd : FuncData} {ps : List Str} {sp : Sp} {dvs : List V} {ds : List Value} {E : XK} {x m : Str} {p pos apos : Pos} {e o : Expr} {es : List Expr} {ta : TE} {t : TA}
theorem run_fn {pins : List (Addr × Obj)} {σ : St} {H : Hp} {s : Shared} {Q : VK} {us : List Value} {vs : List V} (F : FnOk X.prog X.w X.K X.mg X.base CX k f fd ps sp) (hr : Room k X.A) (hb : Binds X.K fd ps ds) (hd : Vals dvs ds) (hx : Passes CX X E)
    (I : Inv X pins σ H s) (r : Vals vs us) (h : sp (vs ++ dvs) H Q E) : wpAny (model X.prog X.w) X.A (call (.ref f) us) (EP X pins σ Q) X.xe s := by
  have r2 : Vals (vs ++ dvs) (us ++ ds) := r.append hd
  have hl : (us ++ ds).length = ps.length := by rw [← r2.length]; exact F.len _ _ _ _ h
  refine wpAny_call (codeAny_mono (F.run X.A X.stack s H ⟨us, []⟩ (us ++ ds) (vs ++ dvs) Q E hr I.env0 (hb s us I.kIn hl) r2 h) fun r s' hq => ?_)
  cases r with
  | error e => exact hx pins σ H s e s' I hq
  | ok fl =>
    cases fl with
    | ret u => exact I.after hq
    | next => exact False.elim hq
    | brk => exact False.elim hq
    | cont => exact False.elim hq
theorem pe_call (F : FnOk X.prog X.w X.K X.mg X.base CX k f fd ps sp) (hr : Room k X.A) (hg : Gl X x) (hm : X.mg x = some (.ref f)) (hk : PySem.W.keepIn X.K (.ref f) = true) (hb : Binds X.K fd ps ds) (hd : Vals dvs ds) (hx : Passes CX X E)
    (ha : PA X (e :: es) t) (hdb : (x == ("__debug__" : Str)) = false := by decide) (he : starEach (e :: es) X.env = (false, eval e X.env) :: starEach es X.env := by rfl) (hpl : (backTo pos (starEach es X.env)).any (·.1) = false := by rfl) :
    PE X (.Call (.Name x p) (e :: es) [] pos) (tCall sp dvs E t) := by
  intro pins s σ H Q I h
  refine wpAny_Call_Name_kw (ld_glob I hg hm ?_ hdb)
  refine PySem.W.callWith_K (h₀ := X.base) I.ok.mod.kin hk (thn (ha pos pins s σ H _ I h) fun us s1 ⟨vs, H1, I1, r, q⟩ => ⟨I1.kIn, ?_⟩) he hpl
  exact run_fn F hr hb hd hx I1 r q
theorem pe_call0 (F : FnOk X.prog X.w X.K X.mg X.base CX k f fd ps sp) (hr : Room k X.A) (hg : Gl X x) (hm : X.mg x = some (.ref f)) (hk : PySem.W.keepIn X.K (.ref f) = true) (hb : Binds X.K fd ps ds) (hd : Vals dvs ds) (hx : Passes CX X E)
    (hdb : (x == ("__debug__" : Str)) = false := by decide) : PE X (.Call (.Name x p) [] [] pos) (tCall sp dvs E tNil) := by
  intro pins s σ H Q I h
  refine wpAny_Call_Name_kw (ld_glob I hg hm ?_ hdb)
  exact PySem.W.callWith_K0 I.kIn hk (run_fn (us := []) F hr hb hd hx I .nil h)
end
section
variable {X : Cx} {CX : CXT} {k : Nat} {f C : Addr} {fd : FuncData} {ps ks : List Str} {sp : Sp} {E : XK} {x m : Str} {p pos apos kpos : Pos} {e o : Expr} {es : List Expr} {kws : List Keyword} {te ta : TE} {t tk : TA} {nm : Option Str}
variable {g : List Value → List Value → List Value} {gV : List V → List V → List V}
end
structure FnScope (N P : List Str) (sc : Scope) : Prop where
  kind : sc.kind = .function
  co : sc.isCoroutine = false
  gen : sc.isGenerator = false
  nd : N.Nodup
  pre : N.take P.length = P
  par : ∀ x ∈ P, sc.names.lookup x = some .local ∨ sc.names.lookup x = some .cell
  nofree : ∀ y ∈ sc.names, y.2 ≠ .free
theorem bindL_out {kindOf : Str → Option NameKind} {x : Str} : ∀ {binds : List (Str × Value)} {m : Str → Option Value}, (∀ v, (x, v) ∉ binds) → bindL kindOf binds m x = m x
  | [], _, _ => rfl
  | (n, v) :: r, m, h => by
    unfold bindL
    rw [bindL_out fun w hw => h w (List.mem_cons_of_mem _ hw)]
    split
    · have : x ≠ n := by rintro rfl; exact h v List.mem_cons_self
      simp [this]
    · rfl
theorem bindC_out {kindOf : Str → Option NameKind} {x : Str} : ∀ {binds : List (Str × Value)} {m : Str → Option Value}, (∀ v, (x, v) ∉ binds) → bindC kindOf binds m x = m x
  | [], _, _ => rfl
  | (n, v) :: r, m, h => by
    unfold bindC
    rw [bindC_out fun w hw => h w (List.mem_cons_of_mem _ hw)]
    split
    · rfl
    · have : x ≠ n := by rintro rfl; exact h v List.mem_cons_self
      simp [this]
theorem bindL_get {kindOf : Str → Option NameKind} {x : Str} {v : Value} : ∀ {P : List Str} {vs : List Value} {i : Nat} {m : Str → Option Value}, P.Nodup → P[i]? = some x → vs[i]? = some v → kindOf x = some .local →
    bindL kindOf (P.zip vs) m x = some v
  | [], _, _, _, _, h, _, _ => by simp at h
  | _ :: _, [], _, _, _, _, h, _ => by simp at h
  | p :: P, w :: vs, 0, m, nd, h1, h2, hk => by
    simp at h1 h2; subst h1; subst h2
    show bindL kindOf ((p, w) :: P.zip vs) m p = _
    unfold bindL
    rw [bindL_out fun v hv => (List.nodup_cons.mp nd).1 (List.of_mem_zip hv).1, if_pos hk]
    simp
  | p :: P, w :: vs, i + 1, m, nd, h1, h2, hk => by
    show bindL kindOf ((p, w) :: P.zip vs) m x = _
    unfold bindL
    exact bindL_get (i := i) (List.nodup_cons.mp nd).2 (by simpa using h1) (by simpa using h2) hk
theorem bindC_get {kindOf : Str → Option NameKind} {x : Str} {v : Value} : ∀ {P : List Str} {vs : List Value} {i : Nat} {m : Str → Option Value}, P.Nodup → P[i]? = some x → vs[i]? = some v → kindOf x ≠ some .local →
    bindC kindOf (P.zip vs) m x = some v
  | [], _, _, _, _, h, _, _ => by simp at h
  | _ :: _, [], _, _, _, _, h, _ => by simp at h
  | p :: P, w :: vs, 0, m, nd, h1, h2, hk => by
    simp at h1 h2; subst h1; subst h2
    show bindC kindOf ((p, w) :: P.zip vs) m p = _
    unfold bindC
    rw [bindC_out fun v hv => (List.nodup_cons.mp nd).1 (List.of_mem_zip hv).1, if_neg hk]
    simp
  | p :: P, w :: vs, i + 1, m, nd, h1, h2, hk => by
    show bindC kindOf ((p, w) :: P.zip vs) m x = _
    unfold bindC
    exact bindC_get (i := i) (List.nodup_cons.mp nd).2 (by simpa using h1) (by simpa using h2) hk
def start (N : List Str) (vs : List V) : St := vs.map some ++ List.replicate (N.length - vs.length) none
def cxOf (CX : CXT) (P : Program) (w : World) (K : PySem.W.Frag) (mg : Str → Option Value) (base : Heap) (N : List Str) (qual : Str) (scope : Scope) (f : Addr) (cd : Value) (A : Around) (outer : List Env) (s : Shared) (H : Hp) (E : XK) : Cx where
  prog := P
  w := w
  K := K
  mg := mg
  base := base
  A := A.deeper (envOfC qual scope s.heap.objs.size f cd)
  N := N
  s₀ := s
  H₀ := H
  env := envOfC qual scope s.heap.objs.size f cd
  outer := outer
  stack := envOfC qual scope s.heap.objs.size f cd :: outer
  ex := []
  calm := true
  fn := fun _ => true
  pn := []
  xe := fun e s' => wpAny (model P w) (A.deeper (envOfC qual scope s.heap.objs.size f cd)) (leaving (envOfC qual scope s.heap.objs.size f cd) e) (fun _ s'' => CX outer H s E e s'') (fun e' s'' => CX outer H s E e' s'') s'
theorem cell_has {sc : Scope} {n : Nat} {x : Str} (h : sc.names.lookup x = some .cell) : ∃ c, (cellsFrom n sc.names []).lookup x = some c := by
  have q := PySem.W.cellsFrom_some sc.names n [] (.inl h)
  exact Option.isSome_iff_exists.mp q
theorem inv_start {CX : CXT} {P : Program} {w : World} {K : PySem.W.Frag} {mg : Str → Option Value} {base : Heap} {N ps : List Str} {qual : Str} {scope : Scope} {f : Addr} {cd : Value} {A : Around} {outer : List Env} {s s1 : Shared} {H : Hp} {E : XK} {us : List Value} {vs : List V}
    (S : FnScope N ps scope) (hd : A.handled = none) (e0 : Env0 P w K mg base A outer s H) (hl : vs.length = ps.length) (r : Vals vs us)
    (x : InCallC s s.heap.objs.size (bindL (envOfC qual scope s.heap.objs.size f cd).kindOf (ps.zip us) fun _ => none) (cellsFrom (s.heap.objs.size + 1) scope.names []) (bindC (envOfC qual scope s.heap.objs.size f cd).kindOf (ps.zip us) fun _ => none) s1) :
    Inv (cxOf CX P w K mg base N qual scope f cd A outer s H E) [] (start N vs) H s1 := by
  have hpl : ps.length ≤ N.length := by have := congrArg List.length S.pre; rw [List.length_take] at this; omega
  obtain ⟨h1, tk, rfl, hk⟩ := x.done
  have noA : ∀ b : Addr, b ∉ (cxOf CX P w K mg base N qual scope f cd A outer s H E).ex := fun b z => absurd (show b ∈ ([] : List Addr) from z) (by simp)
  refine ⟨⟨e0.mod, S.kind, rfl, rfl, Nat.le_refl _, fun y z c h1 h2 => ?_, fun y hy => ?_, fun y c _ h => ?_, fun _ => hd, Around.frames_deeper e0.frames, .inr ⟨rfl, rfl⟩, fun b z => absurd z (noA b), e0.bs, e0.bsz, fun b _ _ => noA b, fun b z => absurd z (noA b), e0.funs, e0.frf⟩,
    rfl, e0.bare, Un.kept hk, ⟨_, x.toInCall.ns, fun i y v h1 h2 h3 => ?_⟩, fun y c h => ⟨_, x.cell y c h⟩, e0.hok.fresh (Nat.le_refl _), fun y c h => ?_, fun p hp => absurd (show p ∈ ([] : List (Addr × Obj)) from hp) (by simp), e0.hok.kept hk, ?_⟩
  · exact name_of_addr x.apart (PySem.mem_of_lookup h1) (PySem.mem_of_lookup h2)
  · have hy : scope.names.lookup y = some .cell ∨ scope.names.lookup y = some .free := hy
    rcases hy with hy | hy
    · exact cell_has hy
    · exact absurd rfl (S.nofree _ (PySem.mem_of_lookup hy))
  · exact Nat.le_of_lt (x.above y c (PySem.mem_of_lookup h))
  · have hi : i < vs.length := by
      unfold start at h2
      by_cases hi : i < vs.length
      · exact hi
      · rw [List.getElem?_append_right (by simpa using hi)] at h2
        rw [List.getElem?_replicate] at h2
        split at h2 <;> cases h2
    have ha : vs[i]? = some v := by
      unfold start at h2
      rw [List.getElem?_append_left (by simpa using hi), List.getElem?_map] at h2
      cases e : vs[i]? with
      | none => rw [e] at h2; cases h2
      | some a => rw [e] at h2; cases h2; rfl
    obtain ⟨u, hu, rv⟩ := r.get ha
    have hp : ps[i]? = some y := by
      rw [← S.pre, List.getElem?_take_of_lt (by omega)]; exact h1
    have ndP : ps.Nodup := by rw [← S.pre]; exact S.nd.sublist (List.take_sublist _ _)
    refine ⟨u, rv, ?_⟩
    rcases S.par y (List.mem_of_getElem? hp) with k | k
    · exact .inl ⟨k, bindL_get ndP hp hu k⟩
    · obtain ⟨c, e⟩ := cell_has (n := s.heap.objs.size + 1) k
      refine .inr ⟨.inl k, c, e, ?_⟩
      have q := x.cell y c e
      rw [bindC_get ndP hp hu (by show scope.names.lookup y ≠ _; rw [k]; decide)] at q
      exact q
  · exact e0.hok.fresh (Nat.le_of_lt (x.above y c (PySem.mem_of_lookup h)))
  · unfold start
    show _ = N.length
    rw [List.length_append, List.length_map, List.length_replicate]
    omega
theorem fn_of {CX : CXT} {P : Program} {w : World} {K : PySem.W.Frag} {mg : Str → Option Value} {base : Heap} {k : Nat} {f : Addr} {name qual : Str} {params : Arguments} {body : List Stmt} {scope : Scope} {dV kV doc pm cdv ct oc : Value} {an od : Option Addr}
    {osl : Array (Option Value)} {N ps : List Str} {sp : Sp} (lk : K.lookup f = some ⟨oc, od, .func (PySem.W.fnOf name qual params body scope dV kV doc pm an cdv ct), osl⟩) (hcd : PySem.W.codeIn K cdv qual = true) (S : FnScope N ps scope)
    (len : ∀ vs H Q E, sp vs H Q E → vs.length = ps.length)
    (hbody : ∀ (A : Around) (outer : List Env) (s : Shared) (H : Hp) (vs : List V) (Q : VK) (E : XK), Room k (A.deeper (envOfC qual scope s.heap.objs.size f cdv)) → sp vs H Q E →
      ∃ t, PSs (cxOf CX P w K mg base N qual scope f cdv A outer s H E) body t ∧ t { nx := fun _ H' => Q .non H', rt := Q } (start N vs) H) :
    FnOk P w K mg base CX (k + 1) f (PySem.W.fnOf name qual params body scope dV kV doc pm an cdv ct) ps sp := by
  refine ⟨len, fun A outer s H args us vs Q E hr e0 hb r hsp => ?_⟩
  have hl := len _ _ _ _ hsp
  have KX : K.In s.heap := e0.mod.kin.keeps fun b o e => (e0.bs b o e).1
  have lim : s.heap.NoLimit := e0.mod.nolimit.keeps fun b o e => (e0.bs b o e).1
  have hkind : ∀ y ∈ ps.zip us, scope.names.lookup y.1 = some .local ∨ (scope.names.lookup y.1 = some .cell ∧ ((cellsFrom (s.heap.objs.size + 1) scope.names []).lookup y.1).isSome = true) := fun ⟨n, v⟩ hy => by
    rcases S.par n (List.of_mem_zip hy).1 with q | q
    · exact .inl q
    · exact .inr ⟨q, PySem.W.cellsFrom_some _ _ _ (.inl q)⟩
  refine codeAny_call_function hr.depth (KX _ _ lk) rfl S.co S.gen rfl (PySem.W.codeRec_of KX hcd) (hb _ _ _ _ ?_)
  refine wpAny_newFunctionEnv_cells S.kind hkind fun env he s1 x => ?_
  subst he
  refine ⟨lim.keeps x.toInCall.keep, codeAny_func ?_⟩
  obtain ⟨t, ht, hq⟩ := hbody A outer s H vs Q E (hr.deeper _) hsp
  have I : Inv (cxOf CX P w K mg base N qual scope f cdv A outer s H E) [] (start N vs) H s1 := inv_start S hr.hd e0 hl r x
  refine wpAny_mono (ht [] s1 (start N vs) H _ I hq) (fun fl s' hs => ?_) fun e s' hs => hs
  have fin : ∀ {σ' : St} {H' : Hp} {v : V} {u : Value}, Inv (cxOf CX P w K mg base N qual scope f cdv A outer s H E) [] σ' H' s' → RelV v u → Q v H' → CE outer P w H s Q u s' :=
    fun {σ' H' v u} J rv q => ⟨v, H', J.os, J.bare, J.base, J.hok, rv, q⟩
  cases fl with
  | ret u =>
    obtain ⟨v, σ', H', J, rv, q⟩ := hs
    exact fin J rv q
  | next =>
    obtain ⟨σ', H', J, q⟩ := hs
    exact fin (v := V.non) (u := Value.none) J rfl q
  | brk =>
    obtain ⟨_, _, _, q⟩ := hs
    exact False.elim q
  | cont =>
    obtain ⟨_, _, _, q⟩ := hs
    exact False.elim q
section
variable {X : Cx} {x : Str} {p pos : Pos} {e : Expr} {es : List Expr} {t : TA} {id T : String} {r : List V → Hp → VK → Prop}
def tCB (r : List V → Hp → VK → Prop) (t : TA) : TE := fun σ H Q => t σ H fun vs H1 => r vs H1 Q
theorem pe_callB (hc : CallR X (.builtin id) r) (hg : Gl X x) (hm : X.mg x = none) (hv : bootBuiltins x = some (.builtin id)) (ha : PA X (e :: es) t) (hn : x ≠ "__name__" := by decide) (hdb : (x == ("__debug__" : Str)) = false := by decide)
    (he : starEach (e :: es) X.env = (false, eval e X.env) :: starEach es X.env := by rfl) (hpl : (backTo pos (starEach es X.env)).any (·.1) = false := by rfl) : PE X (.Call (.Name x p) (e :: es) [] pos) (tCB r t) := by
  intro pins s σ H Q I h
  refine wpAny_Call_Name_kw (ld_blt I hg hm hv ?_ hn hdb)
  exact PyProof.Rows.callWith_builtin1 (thn (ha pos pins s σ H _ I h) fun us s1 ⟨vs, H1, I1, r1, q1⟩ => hc pins s1 σ H1 vs us Q I1 r1 q1) he hpl
theorem pe_callTy (hc : CallR X (.type T) r) (hg : Gl X x) (hm : X.mg x = none) (hv : bootBuiltins x = some (.type T)) (ha : PA X (e :: es) t) (hn : x ≠ "__name__" := by decide) (hdb : (x == ("__debug__" : Str)) = false := by decide)
    (he : starEach (e :: es) X.env = (false, eval e X.env) :: starEach es X.env := by rfl) (hpl : (backTo pos (starEach es X.env)).any (·.1) = false := by rfl) : PE X (.Call (.Name x p) (e :: es) [] pos) (tCB r t) := by
  intro pins s σ H Q I h
  refine wpAny_Call_Name_kw (ld_blt I hg hm hv ?_ hn hdb)
  exact PyProof.Rows.callWith_type1 (thn (ha pos pins s σ H _ I h) fun us s1 ⟨vs, H1, I1, r1, q1⟩ => hc pins s1 σ H1 vs us Q I1 r1 q1) he hpl
end
end L2
namespace HT
open PySem PyProof.Rows
section
open PySem.SeqAt
open PySem.AutoSeq1 (wpAny_loadPart')
open PySem.MeetsSeq PySem.MeetsSeq2 PySem.MeetsSeq3
end
section
variable {prog : Program} {w : World} {A : Around} {E : Value → Shared → Prop} {s : Shared}
def sIx (n d : Nat) : Option Int → Nat
  | none => d
  | some v => if v < 0 then (v + (n : Int)).toNat else min v.toNat n
theorem sIx_le (n d : Nat) (hd : d ≤ n) (o : Option Int) : sIx n d o ≤ n := by
  cases o with
  | none => exact hd
  | some v =>
    show (if v < 0 then (v + (n : Int)).toNat else min v.toNat n) ≤ n
    by_cases hv : v < 0
    · rw [if_pos hv]; omega
    · rw [if_neg hv]; exact Nat.min_le_right _ _
theorem clip_eq (v : Int) (n d : Nat) : (if v < 0 then max (v + (n : Int)) 0 else min v (n : Int)) = ((sIx n d (some v) : Nat) : Int) := by
  show (if v < 0 then max (v + (n : Int)) 0 else min v (n : Int)) = (((if v < 0 then (v + (n : Int)).toNat else min v.toNat n) : Nat) : Int)
  by_cases hv : v < 0
  · simp only [if_pos hv]; omega
  · simp only [if_neg hv]; omega
theorem adjust_gen (lo hi : Option Int) (n : Nat) : Builtin.Slice.sliceAdjust lo hi 1 (n : Int) = (((sIx n 0 lo : Nat) : Int), ((sIx n n hi : Nat) : Int)) := by
  have h1 : ¬ ((1 : Int) < 0) := by omega
  unfold Builtin.Slice.sliceAdjust
  simp only [h1, if_false]
  refine Prod.ext ?_ ?_
  · cases lo with
    | none => rfl
    | some v => exact clip_eq v n 0
  · cases hi with
    | none => rfl
    | some v => exact clip_eq v n n
theorem places_gen (i j : Nat) : Builtin.Slice.slicePlaces (i : Int) (j : Int) 1 = j - i := by
  unfold Builtin.Slice.slicePlaces
  have h1 : (1 : Int) > 0 := by omega
  simp only [h1, if_true, Int.ediv_one]
  split <;> omega
theorem slicePart_ {v : Value} {o : Option Int} {Q : Option Int → Shared → Prop} (p : IsPart v o) (h : Q o s) : wpAny (model prog w) A (Builtin.Slice.slicePartIndex v) Q E s := by
  cases p with
  | none => exact slicePart_none h
  | int i t => exact slicePart_int h
theorem sliceApplied_gen {sl : Addr} {vl vu : Value} {lo hi : Option Int} {n : Nat} {Q : Int × Int × Nat → Shared → Prop} (hs : s.heap.IsSliceOf sl vl vu .none) (pl : IsPart vl lo) (pu : IsPart vu hi)
    (h : Q (((sIx n 0 lo : Nat) : Int), 1, sIx n n hi - sIx n 0 lo) s) : wpAny (model prog w) A (Builtin.Slice.sliceApplied (.ref sl) (pure (n : Int))) Q E s := by
  obtain ⟨os, hos, hcs, hds⟩ := id hs
  unfold Builtin.Slice.sliceApplied Builtin.Slice.sliceFields
  refine wpAny_bind (wpAny_bind (wpAny_field hos hds (x := vl) rfl (wpAny_bind (wpAny_field hos hds (x := vu) rfl (wpAny_bind (wpAny_field hos hds (x := .none) rfl (wpAny_pure ?_)))))))
  refine wpAny_bind (slicePart_none ?_)
  show wpAny _ _ (if ((1 : Int) == 0) = true then _ else _) _ _ s
  rw [if_neg (by decide)]
  refine wpAny_bind (slicePart_ pl (wpAny_bind (slicePart_ pu (wpAny_bind (wpAny_pure ?_)))))
  show wpAny _ _ (match Builtin.Slice.sliceAdjust lo hi 1 (n : Int) with | (lo, hi) => pure (lo, (1 : Int), Builtin.Slice.slicePlaces lo hi 1)) _ _ s
  rw [adjust_gen lo hi n]
  show wpAny _ _ (pure (((sIx n 0 lo : Nat) : Int), (1 : Int), Builtin.Slice.slicePlaces ((sIx n 0 lo : Nat) : Int) ((sIx n n hi : Nat) : Int) 1)) _ _ s
  rw [places_gen]
  exact wpAny_pure h
theorem pick_gen (xs : Array Value) (i k : Nat) : ((List.range k).filterMap fun (m : Nat) => xs[((i : Int) + (m : Int) * 1).toNat]?).toArray = ((xs.toList.drop i).take k).toArray := by
  have e : (fun (m : Nat) => xs[((i : Int) + (m : Int) * 1).toNat]?) = fun m => xs[i + m]? := by
    funext m
    have : ((i : Int) + (m : Int) * 1).toNat = i + m := by omega
    rw [this]
  rw [e]
  have := pick_run xs i k
  rw [List.filterMap_map] at this
  have e2 : ((fun x => xs[x]?) ∘ fun x => i + x) = fun m => xs[i + m]? := rfl
  rw [e2] at this
  rw [this]
theorem getItem_tuple_cut {t sl : Addr} {items : Array Value} {vl vu : Value} {lo hi : Option Int} {Q : Value → Shared → Prop} (ht : IsTup s.heap t items) (hs : s.heap.IsSliceOf sl vl vu .none) (pl : IsPart vl lo) (pu : IsPart vu hi)
    (hw : ¬ (sIx items.size 0 lo = 0 ∧ sIx items.size items.size hi = items.size))
    (h : Q (.ref s.heap.objs.size) { s with heap := s.heap.push { cls := .type "tuple", data := .seq ((items.toList.drop (sIx items.size 0 lo)).take (sIx items.size items.size hi - sIx items.size 0 lo)).toArray } })
    (hsz : items.size ≤ sizeLine) : wpAny (model prog w) A (getItem (.ref t) (.ref sl)) Q E s := by
  have htake : sizeOk (.seq ((items.toList.drop (sIx items.size 0 lo)).take (sIx items.size items.size hi - sIx items.size 0 lo)).toArray) := by
    show ((items.toList.drop (sIx items.size 0 lo)).take (sIx items.size items.size hi - sIx items.size 0 lo)).toArray.size ≤ sizeLine
    rw [List.size_toArray, List.length_take, List.length_drop, Array.length_toList]
    omega
  have hj : sIx items.size items.size hi ≤ items.size := sIx_le _ _ (Nat.le_refl _) hi
  obtain ⟨os, hos, hcs, hds⟩ := id hs
  have hTs : s.TypeIs (.ref sl) "slice" := ⟨os, hos, hcs⟩
  unfold getItem
  try with_reducible refine wpAny_holding ?_
  first | refine wpAny_bind (wpAny_pure ?_) | skip
  refine wpAny_bind (wpAny_sequenceKey ht.typeIs (by decide) ?_)
  refine wpAny_bind (wpAny_callSpecial?_slot (name := Str.ofString "__getitem__") ht.typeIs PyProof.Rows.slot_tuple_getitem
    (wpAny_call_entry PyProof.Rows.slot_tuple_getitem ht.typeIs entry_tuple_getitem ?_ (args_tuple_getitem _ _)))
  show wpAny _ _ (Builtin.Tuple.tupleItemsOf (.ref t) >>= _) _ _ s
  refine wpAny_bind (tupleItemsOf_ ht ?_)
  refine wpAny_bind (wpAny_typeOf hTs ?_)
  rw [if_pos (by decide)]
  refine wpAny_bind (sliceApplied_gen hs pl pu ?_)
  have hno : ¬ ((((sIx items.size 0 lo : Nat) : Int) == 0 && (1 : Int) == 1 && (sIx items.size items.size hi - sIx items.size 0 lo) == items.size) = true) := by
    intro q
    rw [Bool.and_eq_true, Bool.and_eq_true] at q
    have q1 : ((sIx items.size 0 lo : Nat) : Int) = 0 := eq_of_beq q.1.1
    have q2 : sIx items.size items.size hi - sIx items.size 0 lo = items.size := eq_of_beq q.2
    exact hw ⟨by omega, by omega⟩
  show wpAny _ _ (if (((sIx items.size 0 lo : Nat) : Int) == 0 && (1 : Int) == 1 && (sIx items.size items.size hi - sIx items.size 0 lo) == items.size) = true then _ else _) _ _ s
  rw [if_neg hno, pick_gen]
  first
    | exact wpAny_bind (m := Builtin.Tuple.tupleExact _) (wpAny_newObj_type (wpAny_pure ⟨_, rfl, wpAny_pure h⟩) htake)
    | exact wpAny_bind (m := Builtin.Tuple.tupleExact _) (wpAny_newObj_type (wpAny_bind (wpAny_pure (wpAny_pure ⟨_, rfl, wpAny_pure h⟩))) htake)
    | exact wpAny_bind (wpAny_bind (m := Builtin.Tuple.tupleExact _) (wpAny_newObj_type (wpAny_pure (wpAny_pure ⟨_, rfl, wpAny_pure h⟩)) htake))
    | exact wpAny_bind (wpAny_bind (m := Builtin.Tuple.tupleExact _) (wpAny_newObj_type (wpAny_pure ⟨_, rfl, wpAny_pure h⟩) htake))
end
end HT
namespace L2
open PySem PySem.Spec PyProof.Rows
abbrev TO := St → Hp → (Option Int → Hp → Prop) → Prop
def PO (X : Cx) (e : Option Expr) (t : TO) : Prop :=
  ∀ (pins : List (Addr × Obj)) (s : Shared) (σ : St) (H : Hp) (Q : Option Int → Hp → Prop), Inv X pins σ H s → t σ H Q →
    wpAny (model X.prog X.w) X.A (evalPart e X.env) (fun u s' => ∃ o H', Inv X pins σ H' s' ∧ IsPart u o ∧ Q o H') X.xe s
def tNoPart : TO := fun _ H Q => Q none H
def tPart (t : TE) : TO := fun σ H Q => t σ H fun x H1 => ∃ i, x = .int i ∧ Q (some i) H1
section
variable {X : Cx} {e : Expr} {te : TE} {lo hi : Option Expr} {tl th : TO} {pos p2 : Pos}
theorem po_none : PO X none tNoPart := by
  intro pins s σ H Q I h
  rw [evalPart_none]
  exact wpAny_pure ⟨none, H, I, .none, h⟩
theorem po_some (h : PE X e te) : PO X (some e) (tPart te) := by
  intro pins s σ H Q I hw
  rw [evalPart_some]
  refine thn (h pins s σ H _ I hw) fun u s1 ⟨x, H1, I1, r1, q1⟩ => ?_
  obtain ⟨i, rfl, q⟩ := q1
  obtain ⟨t, rfl⟩ := r1
  exact ⟨some i, H1, I1, .int i t, q⟩
def SlR (X : Cx) (r : V → Option Int → Option Int → Hp → VK → Prop) : Prop :=
  ∀ (pins : List (Addr × Obj)) (s : Shared) (σ : St) (H : Hp) (x : V) (v vl vu : Value) (lo hi : Option Int) (sl : Addr) (Q : VK), Inv X pins σ H s → RelV x v → s.heap.IsSliceOf sl vl vu .none → IsPart vl lo → IsPart vu hi → r x lo hi H Q →
    ∃ T id, typeLookup (.type T) "__getitem__" = pure (some (.builtin id)) ∧ s.TypeIs v T ∧ wpAny (model X.prog X.w) X.A (getItem v (.ref sl)) (EP X pins σ Q) X.xe s
def tSl (r : V → Option Int → Option Int → Hp → VK → Prop) (te : TE) (tl th : TO) : TE := fun σ H Q => te σ H fun x H1 => tl σ H1 fun l H2 => th σ H2 fun u H3 => r x l u H3 Q
theorem pe_slice {r : V → Option Int → Option Int → Hp → VK → Prop} (hr : SlR X r) (he : PE X e te) (hl : PO X lo tl) (hu : PO X hi th) : PE X (.Subscript e (.Slice lo hi none p2) pos) (tSl r te tl th) := by
  intro pins s σ H Q I h
  refine Subscript_ (thn (he pins s σ H _ I h) fun v s1 ⟨x, H1, I1, r1, q1⟩ => ?_)
  refine wpAny_Slice (thn (hl pins s1 σ H1 _ I1 q1) fun vl s2 ⟨l, H2, I2, pl, q2⟩ => thn (hu pins s2 σ H2 _ I2 q2) fun vu s3 ⟨u, H3, I3, pu, q3⟩ => ?_)
  rw [evalPart_none]
  refine wpAny_pure ?_
  have I4 : Inv X pins σ H3 { s3 with heap := s3.heap.push { cls := .type "slice", data := .fields #[vl, vu, .none] } } := I3.kept (t' := s3.toks) fun b ob q => Heap.get?_push_of_some _ q
  obtain ⟨T, id, hT, ht, hg⟩ := hr pins { s3 with heap := s3.heap.push { cls := .type "slice", data := .fields #[vl, vu, .none] } } σ H3 x v vl vu l u s3.heap.objs.size Q I4 r1 (Heap.IsSliceOf.new ..) pl pu q3
  show wpAny (model X.prog X.w) X.A (subscriptTail e (.Slice lo hi none p2) v (.ref s3.heap.objs.size)) (EP X pins σ Q) X.xe { s3 with heap := s3.heap.push { cls := .type "slice", data := .fields #[vl, vu, .none] } }
  exact tail_any (ops := [.ref s3.heap.objs.size, v]) ht hT hg (by with_unfolding_all rfl)
def cutV (xs : List V) (lo hi : Option Int) : List V := (xs.drop (HT.sIx xs.length 0 lo)).take (HT.sIx xs.length xs.length hi - HT.sIx xs.length 0 lo)
theorem cutV_length (xs : List V) (lo hi : Option Int) : (cutV xs lo hi).length ≤ xs.length := by
  unfold cutV
  rw [List.length_take, List.length_drop]
  omega
def rSlT (K : PySem.W.Frag) : V → Option Int → Option Int → Hp → VK → Prop := fun x lo hi H Q => ∃ a xs, x = .ref a ∧ SqT K H a xs ∧
  ¬ (HT.sIx xs.length 0 lo = 0 ∧ HT.sIx xs.length xs.length hi = xs.length) ∧ ∀ p, H p = none → Q (.ref p) (upd H p (.tup (cutV xs lo hi)))
theorem sl_tup : SlR X (rSlT X.K) := by
  intro pins s σ H x v vl vu lo hi sl Q I rx hs pl pu h
  obtain ⟨a, xs, rfl, hx, hw, q⟩ := h
  cases rx
  obtain ⟨its, r, ht, hz⟩ := I.tuple hx
  have hlen : its.toArray.size = xs.length := by rw [List.size_toArray]; exact r.length.symm
  refine ⟨"tuple", _, PyProof.Rows.slot_tuple_getitem.lookup, ht.typeIs, ?_⟩
  refine HT.getItem_tuple_cut ht hs pl pu (by rw [hlen]; exact hw) ?_ (by rw [hlen]; exact hz)
  rw [hlen]
  refine ⟨.ref s.heap.objs.size, _, I.laid (t' := s.toks) (o := .tup (cutV xs lo hi)) (fun b ob q => Heap.get?_push_of_some _ q) (Nat.le_refl _) ?_, rfl, q _ (I.hok.fresh (Nat.le_refl _))⟩
  exact ⟨Nat.le_trans (cutV_length xs lo hi) hz, _, (r.drop (HT.sIx xs.length 0 lo)).take (HT.sIx xs.length xs.length hi - HT.sIx xs.length 0 lo), IsTup.new _ _⟩
end
def ixN (n : Nat) (i : Int) : Option Nat := if 0 ≤ i then (if i < n then some i.toNat else none) else if -(n : Int) ≤ i then some (i + n).toNat else none
def atI {α : Type} (xs : List α) (i : Int) : Option α := (ixN xs.length i).bind fun j => xs[j]?
theorem ixN_seq {n : Nat} {i : Int} {j : Nat} (h : ixN n i = some j) : seqIndex? i n = some j ∧ j < n ∧ -(n : Int) ≤ i ∧ i < n := by
  unfold ixN at h
  by_cases h0 : 0 ≤ i
  · rw [if_pos h0] at h
    by_cases h1 : i < n
    · rw [if_pos h1] at h
      have e : i.toNat = j := Option.some.inj h
      exact ⟨by rw [seqIndex_of h0 h1, e], by omega, by omega, h1⟩
    · rw [if_neg h1] at h; cases h
  · rw [if_neg h0] at h
    by_cases h1 : -(n : Int) ≤ i
    · rw [if_pos h1] at h
      have e : (i + n).toNat = j := Option.some.inj h
      exact ⟨by rw [seqIndex_neg (by omega) h1, e], by omega, h1, by omega⟩
    · rw [if_neg h1] at h; cases h
theorem atI_get {α : Type} {xs : List α} {i : Int} {v : α} (h : atI xs i = some v) : ∃ j, seqIndex? i xs.length = some j ∧ xs[j]? = some v ∧ j < xs.length ∧ -(xs.length : Int) ≤ i ∧ i < xs.length := by
  unfold atI at h
  cases e : ixN xs.length i with
  | none => rw [e] at h; cases h
  | some j =>
    rw [e] at h
    obtain ⟨h1, h2, h3, h4⟩ := ixN_seq e
    exact ⟨j, h1, h, h2, h3, h4⟩
theorem atI_nat {α : Type} {xs : List α} {j : Nat} {v : α} (h : xs[j]? = some v) : atI xs (j : Int) = some v := by
  have hj : j < xs.length := (List.getElem?_eq_some_iff.mp h).1
  have e : ixN xs.length (j : Int) = some j := by
    unfold ixN
    rw [if_pos (by omega), if_pos (by omega)]; simp
  unfold atI; rw [e]; exact h
theorem atI_last {α : Type} (xs : List α) (v : α) : atI (xs ++ [v]) (-1) = some v := by
  have hl : (xs ++ [v]).length = xs.length + 1 := by simp
  have e : ixN (xs ++ [v]).length (-1) = some xs.length := by
    unfold ixN
    rw [hl, if_neg (by decide), if_pos (by omega)]
    congr 1
    omega
  unfold atI
  rw [e]
  show (xs ++ [v])[xs.length]? = some v
  simp
def PlainIx (b : Expr) : Prop := ∀ o i, subscripted b false o i = operate [o, i] (getItem o i)
def IxR (X : Cx) (r : R2) : Prop :=
  ∀ (value slice : Expr) (pins : List (Addr × Obj)) (s : Shared) (σ : St) (H : Hp) (x y : V) (v u : Value) (Q : VK), Inv X pins σ H s → RelV x v → RelV y u → r x y H Q →
    subscripted slice false v u = operate [v, u] (getItem v u) → wpAny (model X.prog X.w) X.A (subscriptTail value slice v u) (EP X pins σ Q) X.xe s
def MtR (X : Cx) (id : String) (r : V → List V → Hp → VK → Prop) : Prop :=
  ∀ (pins : List (Addr × Obj)) (s : Shared) (σ : St) (H : Hp) (x : V) (xs : List V) (v : Value) (us : List Value) (Q : VK), Inv X pins σ H s → RelV x v → Vals xs us → r x xs H Q →
    wpAny (model X.prog X.w) X.A (call (.builtin id) (v :: us)) (EP X pins σ Q) X.xe s
section
variable {X : Cx} {a b : Expr} {ta tb : TE} {pos : Pos}
theorem pe_ix {r : R2} (hr : IxR X r) (ha : PE X a ta) (hb : PE X b tb) (hs : PlainIx b) : PE X (.Subscript a b pos) (tOp r ta tb) := by
  intro pins s σ H Q I h
  exact Subscript_ (binT ha hb I h fun v u s2 x y H2 I2 rx ry q => hr a b pins s2 σ H2 x y v u Q I2 rx ry q (hs _ _))
def rIxL (K : PySem.W.Frag) : R2 := fun x y H Q => ∃ p xs i v, x = .ref p ∧ y = .int i ∧ SqL K H p xs ∧ atI xs i = some v ∧ Q v H
def rIxT (K : PySem.W.Frag) : R2 := fun x y H Q => ∃ p xs i v, x = .ref p ∧ y = .int i ∧ SqT K H p xs ∧ atI xs i = some v ∧ Q v H
def rIxS : R2 := fun x y H Q => ∃ z i c, x = .str z ∧ y = .int i ∧ z.length ≤ sizeLine ∧ atI z.cps.toList i = some c ∧ Q (.str ⟨#[c]⟩) H
theorem ix_list : IxR X (rIxL X.K) := by
  intro value slice pins s σ H x y v u Q I rx ry h hs
  obtain ⟨p, xs, i, z, rfl, rfl, hq, he, q⟩ := h
  cases rx
  obtain ⟨t, rfl⟩ := ry
  obtain ⟨its, r, pl, hz⟩ := I.list hq
  obtain ⟨j, h1, h2, h3, h4, h5⟩ := atI_get he
  obtain ⟨w, ew, rw'⟩ := r.get h2
  have hl := r.length
  have hn := line63
  have fin : EP X pins σ Q w s := ⟨z, H, I, rw', q⟩
  by_cases h0 : 0 ≤ i
  · have hj : i.toNat = j := by
      rw [seqIndex_of h0 h5] at h1
      exact Option.some.inj h1
    exact item_listR pl.isList h0 (by omega) (by rw [hj]; simpa using ew) fin hs
  · have hj : (i + (its.toArray.size : Int)).toNat = j := by
      rw [seqIndex_neg (by omega) h4] at h1
      rw [List.size_toArray, ← hl]
      exact Option.some.inj h1
    exact subscriptTail_builtinR (x := w) pl.isList.typeIs slot_list_getitem.lookup
      (wpAny_getItem_list_neg (Q := fun r s' => r = w ∧ EP X pins σ Q r s') pl.isList (by omega) (by rw [List.size_toArray] <;> omega) (by omega) (by rw [hj]; simpa using ew) ⟨rfl, fin⟩) hs
theorem ix_tup : IxR X (rIxT X.K) := by
  intro value slice pins s σ H x y v u Q I rx ry h hs
  obtain ⟨p, xs, i, z, rfl, rfl, hq, he, q⟩ := h
  cases rx
  obtain ⟨t, rfl⟩ := ry
  obtain ⟨its, r, pl, hz⟩ := I.tuple hq
  obtain ⟨j, h1, h2, h3, h4, h5⟩ := atI_get he
  obtain ⟨w, ew, rw'⟩ := r.get h2
  have hl := r.length
  have hn := line63
  have fin : EP X pins σ Q w s := ⟨z, H, I, rw', q⟩
  exact subscriptTail_builtinR (x := w) pl.typeIs slot_tuple_getitem.lookup
    (getItem_tuple (j := j) (Q := fun r s' => r = w ∧ EP X pins σ Q r s') pl (by omega) (by omega) (by rw [List.size_toArray, ← hl]; exact h1) (by simpa using ew) ⟨rfl, fin⟩) hs
theorem ix_str : IxR X rIxS := by
  intro value slice pins s σ H x y v u Q I rx ry h hs
  obtain ⟨z, i, c, rfl, rfl, hz, he, q⟩ := h
  obtain ⟨t, rfl⟩ := rx
  obtain ⟨t', rfl⟩ := ry
  obtain ⟨j, h1, h2, h3, h4, h5⟩ := atI_get he
  have hl : z.cps.toList.length = z.length := by simp [Str.length]
  rw [hl] at h1 h4 h5
  have hn := line63
  exact tail_any (typeIs_str s z t) slot_str_getitem.lookup (getItem_str (c := c) (by
    have e1 : decide (i < -(2 ^ 63 : Int)) = false := decide_eq_false (by omega)
    have e2 : decide (i ≥ 2 ^ 63) = false := decide_eq_false (by omega)
    rw [e1, e2, Bool.or_false]) (by rw [h1]; simpa using h2) ⟨.str ⟨#[c]⟩, H, I.tok _, ⟨_, rfl⟩, q⟩) hs
theorem mapSeq_set (its : List Value) (n j : Nat) (u : Value) : Obj.mapSeq (·.setIfInBounds j u) { cls := .type "list", data := .seq its.toArray n } = { cls := .type "list", data := .seq (its.set j u).toArray n } := by
  simp [Obj.mapSeq]
theorem Inv.lst {pins : List (Addr × Obj)} {σ : St} {H : Hp} {s : Shared} {p : Addr} {xs : List V} (I : Inv X pins σ H s) (h : H p = some (.lst xs)) :
    ∃ (its : List Value) (n : Nat), Vals xs its ∧ s.heap.get? p = some { cls := .type "list", data := .seq its.toArray n } ∧ xs.length ≤ sizeLine := by
  obtain ⟨z, its, n, r, e⟩ := I.hok p _ h
  exact ⟨its, n, r, e, z⟩
theorem Inv.lstUpd {pins : List (Addr × Obj)} {σ : St} {H : Hp} {s : Shared} {p : Addr} {xs ys : List V} {its its' : List Value} {n n' : Nat} {f : Obj → Obj} (I : Inv X pins σ H s) (h : H p = some (.lst xs))
    (ho : s.heap.get? p = some { cls := .type "list", data := .seq its.toArray n }) (hf : f { cls := .type "list", data := .seq its.toArray n } = { cls := .type "list", data := .seq its'.toArray n' }) (r : Vals ys its') (hz : ys.length ≤ sizeLine) (t : Nat) :
    Inv X pins σ (upd H p (.lst ys)) { s with heap := s.heap.update p f, toks := t } := by
  have e : (s.heap.update p f).get? p = some { cls := .type "list", data := .seq its'.toArray n' } := by
    rw [Heap.get?_update_self f ho (by rw [hf] <;> rfl), hf]
  refine I.write (x := p) (e := p) (by rw [h]; trivial) (.inl rfl) (fun b u hb q => (Heap.get?_update_other _ _ (Ne.symm hb)).trans q) ⟨_, e⟩ ?_
  exact ⟨hz, its', n', r, e⟩
def rSetL : V → V → V → Hp → (Hp → Prop) → Prop := fun o i v H Q => ∃ p xs k j, o = .ref p ∧ i = .int k ∧ H p = some (.lst xs) ∧ ixN xs.length k = some j ∧ Q (upd H p (.lst (xs.set j v)))
theorem set_list : PSet X rSetL := by
  intro pins s σ H o i v ov iv u Q I ro ri rv h
  obtain ⟨p, xs, k, j, rfl, rfl, hp, hj, q⟩ := h
  cases ro
  obtain ⟨t, rfl⟩ := ri
  obtain ⟨its, n, r, ho, hz⟩ := I.lst hp
  obtain ⟨h1, h2, h3, h4⟩ := ixN_seq hj
  have hl := r.length
  have hn := line63
  have I' : Inv X pins σ (upd H p (.lst (xs.set j v))) { s with heap := s.heap.update p (Obj.mapSeq (·.setIfInBounds j u)) } :=
    I.lstUpd hp ho (mapSeq_set its n j u) (r.set rv j) (by rw [List.length_set]; exact hz) s.toks
  by_cases h0 : 0 ≤ k
  · have hk : k.toNat = j := by
      rw [seqIndex_of h0 h4] at h1
      exact Option.some.inj h1
    exact PySem.W.ki_setAt ho h0 (by omega) (by rw [List.size_toArray, ← hl]; exact h4) (by rw [hk]; exact ⟨_, I', q⟩)
  · have hk : (k + (its.toArray.size : Int)).toNat = j := by
      rw [seqIndex_neg (by omega) h3] at h1
      rw [List.size_toArray, ← hl]
      exact Option.some.inj h1
    exact PySem.W.ki_setBack ho (by omega) (by rw [List.size_toArray, ← hl]; exact h3) (by omega) (by rw [hk]; exact ⟨_, I', q⟩)
theorem slice_bounds (lo hi : Option Int) (n : Nat) : (sliceBounds lo hi none n).1 = ((HT.sIx n 0 lo : Nat) : Int) ∧ (sliceBounds lo hi none n).2.1 = ((HT.sIx n n hi : Nat) : Int) ∧ (sliceBounds lo hi none n).2.2 = 1 := by
  refine ⟨?_, ?_, rfl⟩
  · cases lo with
    | none => simp [sliceBounds, HT.sIx]
    | some i =>
      simp only [sliceBounds, HT.sIx, Option.getD_none, show (1 : Int) > 0 by decide, if_true]
      by_cases h : i < 0
      · simp only [h, if_true] <;> omega
      · simp only [h, if_false] <;> omega
  · cases hi with
    | none => simp [sliceBounds, HT.sIx]
    | some i =>
      simp only [sliceBounds, HT.sIx, Option.getD_none, show (1 : Int) > 0 by decide, if_true]
      by_cases h : i < 0
      · simp only [h, if_true] <;> omega
      · simp only [h, if_false] <;> omega
theorem slicePick_cut (its : List Value) (lo hi : Option Int) : slicePick its.toArray lo hi none = ((its.drop (HT.sIx its.length 0 lo)).take (HT.sIx its.length its.length hi - HT.sIx its.length 0 lo)).toArray := by
  obtain ⟨h1, h2, h3⟩ := slice_bounds lo hi its.toArray.size
  unfold slicePick
  rw [h1, h2, h3]
  simp only [sliceRange_one, pick_run, List.size_toArray] <;> rfl
def rSlL (K : PySem.W.Frag) : V → Option Int → Option Int → Hp → VK → Prop := fun x lo hi H Q => ∃ a xs, x = .ref a ∧ SqL K H a xs ∧ ∀ p, H p = none → Q (.ref p) (upd H p (.lst (cutV xs lo hi)))
theorem sl_list : SlR X (rSlL X.K) := by
  intro pins s σ H x v vl vu lo hi sl Q I rx hs pl pu h
  obtain ⟨a, xs, rfl, hx, q⟩ := h
  cases rx
  obtain ⟨its, r, ht, hz⟩ := I.list hx
  have hlen := r.length
  refine ⟨"list", _, slot_list_getitem.lookup, ht.isList.typeIs, ?_⟩
  refine wpAny_getItem_list_slice ht.isList hs pl pu .none (by simp) ?_ (by rw [List.size_toArray] <;> omega)
  rw [slicePick_cut, ← hlen]
  refine ⟨.ref s.heap.objs.size, _, I.laid (t' := s.toks) (o := .lst (cutV xs lo hi)) (fun b ob q => Heap.get?_push_of_some _ q) (Nat.le_refl _) ?_, rfl, q _ (I.hok.fresh (Nat.le_refl _))⟩
  exact ⟨Nat.le_trans (cutV_length xs lo hi) hz, _, 0, (r.drop (HT.sIx xs.length 0 lo)).take (HT.sIx xs.length xs.length hi - HT.sIx xs.length 0 lo), Heap.get?_push_size _ rfl⟩
def flatV : V → Bool
  | .non => true
  | .bl _ => true
  | .int _ => true
  | .str _ => true
  | _ => false
def eqV : V → V → Bool
  | .non, .non => true
  | .bl a, .bl b => a == b
  | .bl a, .int b => (if a then 1 else 0) == b
  | .int a, .bl b => a == (if b then 1 else 0)
  | .int a, .int b => a == b
  | .str a, .str b => a == b
  | _, _ => false
theorem eqAt_V {A : Around} {s : Shared} {y x : V} {u v : Value} (ry : RelV y u) (rx : RelV x v) (fy : flatV y = true) (fx : flatV x = true) : SeqAt.EqAt A s u v (eqV y x) := by
  cases y with
  | non =>
    cases ry
    cases x with
    | non => cases rx; exact SeqAt.EqAt.same _
    | bl b => cases rx; exact SeqAt.EqAt.none_bool b
    | int b => obtain ⟨t, rfl⟩ := rx; exact SeqAt.EqAt.none_int b t
    | str b => obtain ⟨t, rfl⟩ := rx; exact SeqAt.EqAt.none_str b t
    | _ => exact absurd (show false = true from fx) Bool.false_ne_true
  | bl a =>
    cases ry
    cases x with
    | non => cases rx; exact SeqAt.EqAt.bool_none a
    | bl b => cases rx; exact SeqAt.EqAt.bool_bool a b
    | int b => obtain ⟨t, rfl⟩ := rx; exact SeqAt.EqAt.bool_int a b t
    | str b => obtain ⟨t, rfl⟩ := rx; exact SeqAt.EqAt.bool_str a b t
    | _ => exact absurd (show false = true from fx) Bool.false_ne_true
  | int a =>
    obtain ⟨t', rfl⟩ := ry
    cases x with
    | non => cases rx; exact SeqAt.EqAt.int_none a t'
    | bl b => cases rx; exact SeqAt.EqAt.int_bool a t' b
    | int b => obtain ⟨t, rfl⟩ := rx; exact SeqAt.EqAt.int_int a t' b t
    | str b => obtain ⟨t, rfl⟩ := rx; exact SeqAt.EqAt.int_str a t' b t
    | _ => exact absurd (show false = true from fx) Bool.false_ne_true
  | str a =>
    obtain ⟨t', rfl⟩ := ry
    cases x with
    | non => cases rx; exact SeqAt.EqAt.str_none a t'
    | bl b => cases rx; exact SeqAt.EqAt.str_bool a t' b
    | int b => obtain ⟨t, rfl⟩ := rx; exact SeqAt.EqAt.str_int a t' b t
    | str b => obtain ⟨t, rfl⟩ := rx; exact SeqAt.EqAt.str_str a t' b t
    | _ => exact absurd (show false = true from fx) Bool.false_ne_true
  | _ => exact absurd (show false = true from fy) Bool.false_ne_true
def eqU (x : V) (u : Value) : Bool := match u with
  | .none => eqV .non x
  | .bool b => eqV (.bl b) x
  | .int i _ => eqV (.int i) x
  | .str z _ => eqV (.str z) x
  | _ => false
theorem eqU_of {x y : V} {u : Value} (r : RelV y u) (f : flatV y = true) : eqU x u = eqV y x := by
  cases y with
  | non => cases r; rfl
  | bl b => cases r; rfl
  | int i => obtain ⟨t, rfl⟩ := r; rfl
  | str z => obtain ⟨t, rfl⟩ := r; rfl
  | _ => exact absurd (show false = true from f) Bool.false_ne_true
theorem any_eqU {x : V} : ∀ {xs : List V} {us : List Value}, Vals xs us → xs.all flatV = true → us.any (eqU x) = xs.any fun y => eqV y x
  | _, _, .nil, _ => rfl
  | y :: xs, u :: us, .cons r t, f => by
    rw [List.all_cons, Bool.and_eq_true] at f
    rw [List.any_cons, List.any_cons, eqU_of r f.1, any_eqU t f.2]
theorem mem_eqAt {A : Around} {s : Shared} {x : V} {v : Value} (rx : RelV x v) (fx : flatV x = true) : ∀ {xs : List V} {us : List Value}, Vals xs us → xs.all flatV = true → ∀ u ∈ us, SeqAt.EqAt A s u v (eqU x u)
  | _, _, .nil, _ => fun u hu => by cases hu
  | y :: xs, u :: us, .cons r t, f => fun u' hu => by
    rw [List.all_cons, Bool.and_eq_true] at f
    rcases List.mem_cons.mp hu with rfl | hu
    · rw [eqU_of r f.1]; exact eqAt_V r rx f.1 fx
    · exact mem_eqAt rx fx t f.2 u' hu
def inV (x : V) (xs : List V) : Bool := xs.any fun y => eqV y x
def rIn (K : PySem.W.Frag) (neg : Bool) : R2 := fun x y H Q => ∃ p xs, y = .ref p ∧ (SqL K H p xs ∨ SqT K H p xs) ∧ flatV x = true ∧ xs.all flatV = true ∧ Q (.bl (if neg then !inV x xs else inV x xs)) H
theorem op_notIn_seq : OpR X (compareOp .NotIn) (rIn X.K true) := by
  intro pins s σ H x y v u Q I rx ry h
  obtain ⟨p, xs, rfl, hq, fx, fs, q⟩ := h
  cases ry
  rcases hq with hq | hq
  · obtain ⟨its, r, pl, hz⟩ := I.list hq
    refine SeqAt.notIn_listAt (eqU x) pl.isList (fun w hw => mem_eqAt rx fx r fs w (by simpa using hw)) ⟨.bl _, H, I, rfl, ?_⟩
    rw [show its.toArray.any (eqU x) = its.any (eqU x) by simp, any_eqU r fs]
    exact q
  · obtain ⟨its, r, pl, hz⟩ := I.tuple hq
    refine SeqAt.notIn_tupleAt (eqU x) pl (fun w hw => mem_eqAt rx fx r fs w (by simpa using hw)) ⟨.bl _, H, I, rfl, ?_⟩
    rw [show its.toArray.any (eqU x) = its.any (eqU x) by simp, any_eqU r fs]
    exact q
theorem call_len_seq : CallR X (.builtin "len") (fun xs H Q => ∃ p ys, xs = [.ref p] ∧ (SqL X.K H p ys ∨ SqT X.K H p ys) ∧ Q (.int ys.length) H) := by
  intro pins s σ H xs us Q I r h
  obtain ⟨p, ys, rfl, hq, q⟩ := h
  obtain ⟨u, rfl, rx⟩ := vals1 r
  cases rx
  have hn := line63
  rcases hq with hq | hq
  · obtain ⟨its, r', pl, hz⟩ := I.list hq
    have hlen := r'.length
    exact Calls.call_len_list pl.isList (by simp only [List.size_toArray] <;> omega) ⟨.int ys.length, H, I.tok _, ⟨s.toks + 1, by rw [List.size_toArray, hlen]⟩, q⟩
  · obtain ⟨its, r', pl, hz⟩ := I.tuple hq
    have hlen := r'.length
    exact len_tuple pl (by simp only [List.size_toArray] <;> omega) ⟨.int ys.length, H, I.tok _, ⟨s.toks + 1, by rw [List.size_toArray, hlen]⟩, q⟩
theorem call_len_str : CallR X (.builtin "len") (fun xs H Q => ∃ z, xs = [.str z] ∧ z.length ≤ sizeLine ∧ Q (.int z.length) H) := by
  intro pins s σ H xs us Q I r h
  obtain ⟨z, rfl, hz, q⟩ := h
  obtain ⟨u, rfl, t, rfl⟩ := vals1 r
  have hn := line63
  exact len_str (by omega) ⟨.int z.length, H, I.tok _, ⟨_, rfl⟩, q⟩
theorem call_list_of : CallR X (.type "list") (fun xs H Q => ∃ p ys, xs = [.ref p] ∧ (SqL X.K H p ys ∨ SqT X.K H p ys) ∧ ∀ l, H l = none → Q (.ref l) (upd H l (.lst ys))) := by
  intro pins s σ H xs us Q I r h
  obtain ⟨p, ys, rfl, hq, q⟩ := h
  obtain ⟨u, rfl, rx⟩ := vals1 r
  cases rx
  have fin : ∀ (its : List Value), Vals ys its → ys.length ≤ sizeLine → ∀ (h' : Heap) (c' : Nat), (∀ b o', s.heap.get? b = some o' → h'.get? b = some o') →
      h'.get? s.heap.objs.size = some { cls := .type "list", dict := none, data := .seq its.toArray c', slots := #[] } → EP X pins σ Q (.ref s.heap.objs.size) { s with heap := h' } := fun its r' hz h' c' kp e =>
    ⟨.ref s.heap.objs.size, _, I.laid (t' := s.toks) kp (Nat.le_refl _) (show ObjOk X.prog X.w _ h' _ (.lst ys) from ⟨hz, its, c', r', e⟩), rfl, q _ (I.hok.fresh (Nat.le_refl _))⟩
  rcases hq with hq | hq
  · obtain ⟨its, r', pl, hz⟩ := I.list hq
    have hlen := r'.length
    obtain ⟨o, ho, hc, n, hd⟩ := pl.isList
    exact call_list_seq p (.inl rfl) ho hc hd (fun h' c' kp e => fin its r' hz h' c' kp e) (by simp only [List.size_toArray] <;> omega)
  · obtain ⟨its, r', pl, hz⟩ := I.tuple hq
    have hlen := r'.length
    obtain ⟨o, ho, hc, n, hd⟩ := pl
    exact call_list_seq p (.inr rfl) ho hc hd (fun h' c' kp e => fin its r' hz h' c' kp e) (by simp only [List.size_toArray] <;> omega)
theorem call_tuple_of : CallR X (.type "tuple") (fun xs H Q => ∃ p ys, xs = [.ref p] ∧ ((SqL X.K H p ys ∧ ∀ l, H l = none → Q (.ref l) (upd H l (.tup ys))) ∨ (SqT X.K H p ys ∧ Q (.ref p) H))) := by
  intro pins s σ H xs us Q I r h
  obtain ⟨p, ys, rfl, h⟩ := h
  obtain ⟨u, rfl, rx⟩ := vals1 r
  cases rx
  rcases h with ⟨hq, q⟩ | ⟨hq, q⟩
  · obtain ⟨its, r', pl, hz⟩ := I.list hq
    have hlen := r'.length
    refine call_tuple_list pl.isList (fun h' kp => ?_) (by simp only [List.size_toArray] <;> omega)
    have I1 : Inv X pins σ H { s with heap := h' } := I.kept (t' := s.toks) kp
    have I2 : Inv X pins σ (upd H h'.objs.size (.tup ys)) { s with heap := h'.push { cls := .type "tuple", data := .seq its.toArray } } :=
      I1.laid (t' := s.toks) (fun b o e => Heap.get?_push_of_some _ e) (Nat.le_refl _) (show ObjOk X.prog X.w _ _ _ (.tup ys) from ⟨hz, its, r', IsTup.new _ _⟩)
    exact ⟨.ref h'.objs.size, _, I2, rfl, q _ (I1.hok.fresh (Nat.le_refl _))⟩
  · obtain ⟨its, r', pl, hz⟩ := I.tuple hq
    exact call_tuple_same pl ⟨.ref p, H, I, rfl, q⟩
def tyV (K : PySem.W.Frag) (T : String) (x : V) (H : Hp) : Prop := match x with
  | .str _ => T = "str"
  | .int _ => T = "int"
  | .ref p => (T = "list" ∧ ∃ xs, SqL K H p xs) ∨ (T = "tuple" ∧ ∃ o, K.lookup p = some o ∧ o.cls = .type "tuple" ∧ o.dict = none) ∨
      (T = "dict" ∧ ((∃ kvs, H p = some (.dK kvs)) ∨ ∃ kvs, H p = some (.dT kvs))) ∨ (T = "set" ∧ ∃ S n, H p = some (.set S n))
  | _ => False
theorem tyV_is {pins : List (Addr × Obj)} {σ : St} {H : Hp} {s : Shared} {T : String} {x : V} {v : Value} (I : Inv X pins σ H s) (r : RelV x v) (ty : tyV X.K T x H) :
    s.TypeIs v T ∧ ∀ a, v = .ref a → ∃ ob, s.heap.get? a = some ob ∧ ob.dict = none := by
  cases x with
  | str z =>
    obtain ⟨t, rfl⟩ := r
    cases (show T = "str" from ty)
    exact ⟨typeIs_str s z t, fun _ e => nomatch e⟩
  | int i =>
    obtain ⟨t, rfl⟩ := r
    cases (show T = "int" from ty)
    exact ⟨typeIs_int s i t, fun _ e => nomatch e⟩
  | ref p =>
    cases r
    rcases ty with ⟨rfl, xs, hq⟩ | ⟨rfl, o, hk, hc, hd⟩ | ⟨rfl, hk⟩ | ⟨rfl, S, n, hk⟩
    · obtain ⟨its, _, pl, _⟩ := I.list hq
      refine ⟨pl.isList.typeIs, fun a e => ?_⟩
      cases e
      obtain ⟨o, n, e, c, hd, _⟩ := pl
      exact ⟨o, e, hd⟩
    · refine ⟨⟨o, I.kIn p o hk, hc⟩, fun a e => ?_⟩
      cases e
      exact ⟨o, I.kIn _ o hk, hd⟩
    · have z : ∃ o, s.heap.get? p = some o ∧ o.ExactDict := by
        rcases hk with ⟨kvs, hk⟩ | ⟨kvs, hk⟩
        · obtain ⟨_, _, _, _, o, _, _, e, ex, _⟩ := I.hok p _ hk
          exact ⟨o, e, ex⟩
        · obtain ⟨_, _, _, _, o, _, _, e, ex, _⟩ := I.hok p _ hk
          exact ⟨o, e, ex⟩
      obtain ⟨o, e, ex⟩ := z
      refine ⟨⟨o, e, ex.1⟩, fun a e2 => ?_⟩
      cases e2
      exact ⟨o, e, ex.2.1⟩
    · obtain ⟨o, _, _, _, e, ex, _⟩ := I.hok p _ hk
      refine ⟨⟨o, e, ex.1⟩, fun a e2 => ?_⟩
      cases e2
      exact ⟨o, e, ex.2.1⟩
  | _ => exact False.elim ty
def tBM0 (K : PySem.W.Frag) (T : String) (r : V → List V → Hp → VK → Prop) (to : TE) : TE := fun σ H Q => to σ H fun x H1 => tyV K T x H1 ∧ r x [] H1 Q
def tBM (K : PySem.W.Frag) (T : String) (r : V → List V → Hp → VK → Prop) (to : TE) (t : TA) : TE := fun σ H Q => to σ H fun x H1 => tyV K T x H1 ∧ t σ H1 fun xs H2 => r x xs H2 Q
variable {o e : Expr} {es : List Expr} {to : TE} {t : TA} {name : Str} {apos cpos : Pos} {T id : String} {r : V → List V → Hp → VK → Prop}
theorem pe_bm0 (pa : PlainAttrs T) (slot : Slot T name id) (hty : typeOf (.builtin id) = pure (.type "method_descriptor")) (hm : MtR X id r) (ho : PE X o to)
    (hbase : attributeBase o name X.env (eval o X.env) = eval o X.env := by rfl) (hline : (apos.endLine == cpos.line) = true := by rfl) : PE X (.Call (.Attribute o name apos) [] [] cpos) (tBM0 X.K T r to) := by
  intro pins s σ H Q I h
  refine wpAny_Call_method0_late hbase hline (thn (ho pins s σ H _ I h) fun v s1 ⟨x, H1, I1, r1, ty, q1⟩ => ?_)
  obtain ⟨h1, h2⟩ := tyV_is I1 r1 ty
  exact ⟨T, id, pa, slot, hty, h1, h2, Calls.callWith_builtin rfl (PySem.evalArgs_none (hm pins s1 σ H1 x [] v [] Q I1 r1 .nil q1))⟩
theorem pe_bm (pa : PlainAttrs T) (slot : Slot T name id) (hty : typeOf (.builtin id) = pure (.type "method_descriptor")) (hm : MtR X id r) (ho : PE X o to) (ha : PA X (e :: es) t)
    (hbase : attributeBase o name X.env (eval o X.env) = eval o X.env := by rfl)
    (hfew : ((backTo cpos (starEach (e :: es) X.env)).all (fun x => !x.1) && (backToKw cpos (keywordEach [] X.env)).all (fun x => x.1.isSome)
      && decide ((e :: es).length + ([] : List Keyword).length + (if ([] : List Keyword).isEmpty then 0 else 1) < 30)) = true := by rfl)
    (hline : (apos.endLine == cpos.line) = true := by rfl) (hs : starEach (e :: es) X.env = (false, eval e X.env) :: starEach es X.env := by rfl) (hplain : (backTo cpos (starEach es X.env)).any (·.1) = false := by rfl) :
    PE X (.Call (.Attribute o name apos) (e :: es) [] cpos) (tBM X.K T r to t) := by
  intro pins s σ H Q I h
  refine wpAny_Call_method_late hbase hfew hline rfl (thn (ho pins s σ H _ I h) fun v s1 ⟨x, H1, I1, r1, ty, q1⟩ => ?_)
  obtain ⟨h1, h2⟩ := tyV_is I1 r1 ty
  refine ⟨T, id, pa, slot, hty, h1, h2, ?_⟩
  have hA := ha cpos pins s1 σ H1 _ I1 q1
  rw [hs] at hA ⊢
  refine Calls.callWith_builtin (by show (false || (backTo cpos (starEach es X.env)).any (·.1)) = false; rw [hplain] <;> rfl) (Calls.evalArgs_plain ?_)
  exact thn hA fun us s2 ⟨vs, H2, I2, r2, q2⟩ => hm pins s2 σ H2 x vs v us Q I2 r1 r2 q2
/- xs.append(e), list.index on a module's tuple .. are MtR facts of 06m -/
end
def MtM (X : Cx) (id : String) (r : V → List V → Hp → VK → Prop) : Prop :=
  ∀ (pins : List (Addr × Obj)) (s : Shared) (σ : St) (H : Hp) (x : V) (xs : List V) (v : Value) (us : List Value) (Q : VK), Inv X pins σ H s → RelV x v → Vals xs us → r x xs H Q →
    wpAny (model X.prog X.w) X.A (call (.builtin id) (v :: us)) (EP X pins σ Q) X.xe s
theorem Vals.one : ∀ {x : V} {us : List Value}, Vals [x] us → ∃ u, us = [u] ∧ RelV x u
  | _, _, .cons r .nil => ⟨_, rfl, r⟩
theorem Vals.two : ∀ {x y : V} {us : List Value}, Vals [x, y] us → ∃ u v, us = [u, v] ∧ RelV x u ∧ RelV y v
  | _, _, _, .cons r (.cons q .nil) => ⟨_, _, rfl, r, q⟩
theorem Vals.zero : ∀ {us : List Value}, Vals [] us → us = []
  | _, .nil => rfl
theorem Vals.dropLast {xs : List V} {us : List Value} (h : Vals xs us) : Vals xs.dropLast us.dropLast := by
  induction h with
  | nil => exact .nil
  | cons r t ih =>
    cases t with
    | nil => exact .nil
    | cons q t' => exact .cons r ih
theorem erase_last {α : Type} (l : List α) : l.eraseIdx (l.length - 1) = l.dropLast := by
  induction l with
  | nil => rfl
  | cons a r ih =>
    cases r with
    | nil => rfl
    | cons b r =>
      have e : (a :: b :: r).length - 1 = ((b :: r).length - 1) + 1 := by
        have h1 : (a :: b :: r).length = r.length + 2 := rfl
        have h2 : (b :: r).length = r.length + 1 := rfl
        omega
      rw [e, List.eraseIdx_cons_succ, ih]
      all_goals rfl
section
variable {X : Cx} {pins : List (Addr × Obj)} {σ : St} {H : Hp} {s : Shared} {l b : Addr} {xs ys zs : List V}
theorem Inv.lset {its its' : List Value} {n : Nat} {f : Array Value → Array Value} {t' : Nat} (I : Inv X pins σ H s) (hH : H l = some (.lst xs))
    (e : s.heap.get? l = some { cls := .type "list", data := .seq its.toArray n }) (hf : f its.toArray = its'.toArray) (hv : Vals ys its') (hz : ys.length ≤ sizeLine) :
    Inv X pins σ (upd H l (.lst ys)) { s with heap := s.heap.update l (Obj.mapSeq f), toks := t' } := by
  have q := PySem.IsL.update e f
  rw [hf] at q
  refine I.write (x := l) (e := l) (by rw [hH]; exact trivial) (.inl rfl) (fun b' u hb hu => (Heap.get?_update_other s.heap (Obj.mapSeq f) (Ne.symm hb)).trans hu) ⟨_, q⟩ ?_
  exact ⟨hz, its', _, hv, q⟩
theorem Inv.lnew {its : List Value} {t' : Nat} (I : Inv X pins σ H s) (hv : Vals ys its) (hz : ys.length ≤ sizeLine) :
    Inv X pins σ (upd H s.heap.objs.size (.lst ys)) { s with heap := s.heap.push { cls := .type "list", data := .seq its.toArray }, toks := t' } :=
  I.laid (fun _ _ q => Heap.get?_push_of_some _ q) (Nat.le_refl _) ⟨hz, its, 0, hv, Heap.get?_push_size _ rfl⟩
theorem Inv.fresh (I : Inv X pins σ H s) : H s.heap.objs.size = none := I.hok.fresh (Nat.le_refl _)
theorem Inv.lstM (I : Inv X pins σ H s) (hH : H l = some (.lst xs)) : xs.length ≤ sizeLine ∧ ∃ (its : List Value) (n : Nat), Vals xs its ∧ xs.length = its.length ∧ s.heap.get? l = some { cls := .type "list", data := .seq its.toArray n } := by
  obtain ⟨z, its, n, r, e⟩ := I.hok l _ hH
  exact ⟨z, its, n, r, r.length, e⟩
theorem notLongL {n : Nat} (h : n ≤ sizeLine) : Builtin.List.listTooLong n = false := by
  unfold Builtin.List.listTooLong
  exact decide_eq_false (by omega)
end
section
variable {X : Cx}
def rAppend : V → List V → Hp → VK → Prop := fun x vs H Q => ∃ l xs y, x = .ref l ∧ vs = [y] ∧ H l = some (.lst xs) ∧ xs.length < sizeLine ∧ Q .non (upd H l (.lst (xs ++ [y])))
theorem mt_append : MtM X "list.append" rAppend := by
  intro pins s σ H x vs v us Q I rx rv h
  obtain ⟨l, xs, y, rfl, rfl, hH, hz, q⟩ := h
  cases rx
  obtain ⟨u, rfl, ru⟩ := rv.one
  obtain ⟨z, its, n, r, hl, e⟩ := I.lstM hH
  refine call_meets F.slot_list_append ⟨_, e, rfl⟩ F.entry_list_append (F.args_list_append_2 _ _) (PySem.list_append l its.toArray n u (by rw [List.size_toArray]; omega)) ⟨e, ?_⟩
  refine ⟨.non, _, I.lset (its' := its ++ [u]) hH e (by simp) (r.append (.cons ru .nil)) ?_, rfl, q⟩
  rw [List.length_append, List.length_singleton]
  omega
def rExtend : V → List V → Hp → VK → Prop := fun x vs H Q => ∃ l b xs zs, x = .ref l ∧ vs = [.ref b] ∧ H l = some (.lst xs) ∧ H b = some (.lst zs) ∧ xs.length + zs.length ≤ sizeLine ∧ Q .non (upd H l (.lst (xs ++ zs)))
theorem mt_extend : MtM X "list.extend" rExtend := by
  intro pins s σ H x vs v us Q I rx rv h
  obtain ⟨l, b, xs, zs, rfl, rfl, hH, hB, hz, q⟩ := h
  cases rx
  obtain ⟨u, rfl, ru⟩ := rv.one
  cases ru
  obtain ⟨z, its, n, r, hl, e⟩ := I.lstM hH
  obtain ⟨z2, its2, n2, r2, hl2, e2⟩ := I.lstM hB
  have hsz : its.toArray.size + its2.toArray.size ≤ sizeLine := by rw [List.size_toArray, List.size_toArray]; omega
  have hlong : ¬ (!its.toArray.isEmpty && Builtin.List.listTooLong (its.toArray.size + its2.toArray.size)) = true := by
    rw [notLongL hsz, Bool.and_false]
    exact Bool.false_ne_true
  refine call_meets F.slot_list_extend ⟨_, e, rfl⟩ F.entry_list_extend (F.args_list_extend_2 _ _)
    (AutoSeq1.list_extend_list_list_0 l its.toArray n b its2.toArray n2 hlong (by rw [List.size_toArray]; omega) (by omega)) ⟨e, e2, ?_⟩
  refine ⟨.non, _, I.lset (its' := its ++ its2) hH e (by simp) (r.append r2) ?_, rfl, q⟩
  rw [List.length_append]
  omega
def rPop : V → List V → Hp → VK → Prop := fun x vs H Q => ∃ l xs y, x = .ref l ∧ vs = [] ∧ H l = some (.lst xs) ∧ xs[xs.length - 1]? = some y ∧ Q y (upd H l (.lst xs.dropLast))
theorem mt_pop : MtM X "list.pop" rPop := by
  intro pins s σ H x vs v us Q I rx rv h
  obtain ⟨l, xs, y, rfl, rfl, hH, hy, q⟩ := h
  cases rx
  have hus := rv.zero
  subst hus
  obtain ⟨z, its, n, r, hl, e⟩ := I.lstM hH
  obtain ⟨u, hu, ru⟩ := r.get hy
  have hy' : its.toArray[its.toArray.size - 1]? = some u := by
    show its.toArray[its.length - 1]? = some u
    rw [← Array.getElem?_toList, ← hl]
    exact hu
  refine call_meets F.slot_list_pop ⟨_, e, rfl⟩ F.entry_list_pop (F.args_list_pop_1 _) (MeetsSeq.list_pop_last l its.toArray n u hy' (by rw [List.size_toArray]; omega)) ⟨e, ?_⟩
  refine ⟨y, _, I.lset (its' := its.dropLast) hH e ?_ r.dropLast ?_, ru, q⟩
  · show its.toArray.eraseIdxIfInBounds (its.toArray.size - 1) = its.dropLast.toArray
    rw [List.size_toArray, List.eraseIdxIfInBounds_toArray, erase_last]
  · rw [List.length_dropLast]
    omega
def rCat : R2 := fun x y H Q => ∃ l b xs zs, x = .ref l ∧ y = .ref b ∧ H l = some (.lst xs) ∧ H b = some (.lst zs) ∧ xs.length + zs.length ≤ sizeLine ∧ ∀ p, H p = none → Q (.ref p) (upd H p (.lst (xs ++ zs)))
theorem op_cat : OpR X (binaryOp .Add) rCat := by
  intro pins s σ H x y v u Q I rx ry h
  obtain ⟨l, b, xs, zs, rfl, rfl, hH, hB, hz, q⟩ := h
  cases rx
  cases ry
  obtain ⟨z, its, n, r, hl, e⟩ := I.lstM hH
  obtain ⟨z2, its2, n2, r2, hl2, e2⟩ := I.lstM hB
  refine PySem.P.add_list e e2 ?_ (by rw [List.size_toArray, List.size_toArray]; omega)
  have ea : its.toArray ++ its2.toArray = (its ++ its2).toArray := by simp
  rw [ea]
  exact ⟨.ref _, _, I.lnew (t' := s.toks) (r.append r2) (by rw [List.length_append]; omega), rfl, q _ I.fresh⟩
end
section
variable {prog : Program} {w : World} {A : Around} {E : Value → Shared → Prop} {s : Shared}
set_option maxRecDepth 100000 in
end
section
variable {X : Cx}
end
end L2
namespace Att
open PySem PySem.W PySem.Calls PyProof.Rows
theorem ints_of_wellAll {P : Params} {h : Heap} : ∀ (ns : List Int) (vs : List Value), WellAll P h vs (ns.map WData.int) → IntsAre vs ns := by
  intro ns
  induction ns with
  | nil =>
    intro vs w
    rw [List.map_nil] at w
    cases w
    exact .nil
  | cons n ns ih =>
    intro vs w
    rw [List.map_cons] at w
    cases w with
    | cons a b =>
      cases a
      exact .cons _ _ (ih _ b)
theorem script_of {l : OpenLaw} {n : Nat} (hn : l.most = some n) {P : Params} {h : Heap} {args : List WData} {vals : List Value}
    (hpre : l.row.toRowW.claim.pre args = true) (hwl : WellAll P h vals args) :
    ∃ a vs ns, vals = [Value.ref a] ∧ args = [WData.list (ns.map WData.int)] ∧ h.get? a = some { cls := .type "list", data := .seq vs.toArray } ∧ IntsAre vs ns ∧ ns.length ≤ n := by
  have hsh : WShape.hasAll [] args [.list .int] = true := (pre_splitW hpre).1
  have hc : l.pre.holds [] { args := args } = true := (pre_splitW hpre).2
  obtain ⟨d, r, rfl, h1, h2⟩ := hasAllW_cons hsh
  obtain rfl := hasAllW_nil h2
  obtain ⟨xs, rfl, h3⟩ := hasW_list h1
  obtain ⟨ns, rfl⟩ := items_int h3
  have hlen : ns.length ≤ n := by
    unfold OpenLaw.pre at hc
    have h4 : (WTm.not (.lt (.lit (.int (n : Int))) (.len (.arg 0)))).holds [] { args := [.list (ns.map .int)] } = true := by
      have h4 := (holds_andW hc).1
      rw [hn] at h4
      exact h4
    have h5 := condW_of h4 (w_not (w_lt w_lit (w_len_list (w_arg rfl))))
    rw [List.length_map] at h5
    refine Nat.le_of_not_lt fun q => ?_
    have q' : (n : Int) < ((ns.length : Nat) : Int) := by omega
    first
      | (rw [decide_eq_true q'] at h5; exact absurd h5 (by decide))
      | (simp at h5; omega)
  cases hwl with
  | cons w1 w2 =>
    cases w2
    cases w1 with
    | list ho hall => exact ⟨_, _, ns, rfl, rfl, ho, ints_of_wellAll ns _ hall, hlen⟩
theorem post_true (l : OpenLaw) (args : List WData) : l.row.toRowW.claim.post args (.bool true) args = true :=
  postW_of (r := l.row.toRowW) (X := (true == true))
    (show WShape.has [] (.bool true) .bool = true by first | rfl | decide | simp [WShape.has, WShape.arms, WShape.armsAll])
    (show (WTm.eq .res (.lit (.bool true))).value [] { args := args, res := some (.bool true), after := args } = some (.bool (true == true)) from w_eq_bool (w_res rfl) w_lit) rfl
theorem attach_call {l : OpenLaw} {n : Nat} {q : Program} {loose : List Str} {XP : (Str → Option Value) → Heap → Prop} {YP : World → Heap → Prop} {d : DefRec}
    (hn : l.most = some n) (hdf : d.params.defaults = [])
    (call : ∀ (w : World) (s₀ s₁ : Shared) (mg mb : Str → Option Value) (fa : Addr) (o : Obj) (pm cd doc : Value) (a : Addr) (vs : List Value) (ns : List Int),
      Ground q loose [] XP w s₀ mg mb s₁.heap → YP w s₁.heap →
      s₁.heap.get? fa = some o → o.data = .func (docDef d.name d.params d.body d.scope pm cd doc) → s₁.heap.CodeRec cd d.name → mg d.name = some (.ref fa) →
      s₁.heap.get? a = some { cls := .type "list", data := .seq vs.toArray } → IntsAre vs ns → ns.length ≤ n → s₁.gens = #[] →
      codeAny (model l.prog w) callerA (.call (.ref fa) ⟨[.ref a], []⟩) (fun r s' => r = .ok (.ret (.bool true)) ∧ OldK s₁.heap s'.heap ∧ s'.os = s₁.os ∧ AllBare s'.gens) s₁) :
    WalkO q loose XP YP l.row.toRowW d [] (fun f vs => PySem.call f vs) := by
  intro w s₀ s₁ mg mb G Y fa o pm cd doc dV kV ho hd hcd hD hmg hg args vals as hpre hlay hrd hwl hlo
  obtain rfl : dV = .none := Dflts.none hD hdf
  obtain rfl : kV = .none := Dflts.noKw hD
  obtain ⟨a, vs, ns, rfl, rfl, hobj, hints, hlen⟩ := script_of hn hpre hwl
  refine enter_call (codeAny_mono (call w s₀ s₁ mg mb fa o pm cd doc a vs ns G Y ho (fd_plain hd) hcd hmg hobj hints hlen hg) fun r s' hq => ?_)
  obtain ⟨rfl, h2, h3, h4⟩ := hq
  exact ⟨.inl ⟨.bool true, .bool true, [], rfl, fun _ => rfl, .bool true, post_true l _, fun _ => ⟨List.Pairwise.nil, fun _ hm => (nomatch hm)⟩⟩, h2, h3, h4⟩
section
variable {prog : Program} {w : World} {A : Around} {E : Value → Shared → Prop} {s : Shared} {K : Frag}
end
end Att
namespace L2
open PySem PySem.Spec PyProof.Rows
theorem vals_ints : ∀ {vs : List Value} {ns : List Int}, IntsAre vs ns → Vals (ns.map V.int) vs
  | _, _, .nil => .nil
  | _, _, .cons n t h => .cons ⟨t, rfl⟩ (vals_ints h)
def Only (H : Hp) : Prop := ∀ b, H b = none ∨ ∃ o xs, H b = some (.frz o (.lst xs))
theorem law_call {P : Program} {w : World} {K : PySem.W.Frag} {mg mb : Str → Option Value} {CX : CXT} {k : Nat} {fa a : Addr} {fd : FuncData} {x : Str} {sp : Sp} {s₁ : Shared} {vs : List Value} {ns : List Int}
    (KX : K.In s₁.heap) (hns : s₁.heap.Ns mainGlobals mg) (hb : s₁.heap.Ns builtinsNs mb) (hbb : ∀ x : Str, x ≠ "__name__" → mb x = bootBuiltins x) (hlim : s₁.heap.NoLimit) (hg : s₁.gens = #[])
    (ha : s₁.heap.get? a = some { cls := .type "list", data := .seq vs.toArray }) (hi : IntsAre vs ns) (hl : ns.length ≤ sizeLine) (hr : Room k callerA)
    (F : ∀ base : Heap, K.In base → base.Ns mainGlobals mg → FnOk P w K mg base CX k fa fd [x] sp) (hbind : ∀ (s : Shared) (u : Value), BindsTo s fd ⟨[u], []⟩ [(x, u)])
    (hsp : ∀ H : Hp, Only H → SqL K H a (ns.map V.int) → sp [.ref a] H (fun v _ => v = .bl true) fun _ _ _ => False)
    (hCX : ∀ H e s', CX [] H s₁ (fun _ _ _ => False) e s' → False) :
    codeAny (model P w) callerA (.call (.ref fa) ⟨[.ref a], []⟩) (fun r s' => r = .ok (.ret (.bool true)) ∧ OldK s₁.heap s'.heap ∧ s'.os = s₁.os ∧ AllBare s'.gens) s₁ := by
  have rv := vals_ints hi
  have lenV := hi.length
  -- from an abstract heap in which nothing but the script may be tracked
  have core : ∀ H : Hp, Only H → SqL K H a (ns.map V.int) → HOk P w H s₁.heap → (∀ b, H b ≠ none → b = a) → (H a ≠ none → K.lookup a = none) →
      codeAny (model P w) callerA (.call (.ref fa) ⟨[.ref a], []⟩) (fun r s' => r = .ok (.ret (.bool true)) ∧ OldK s₁.heap s'.heap ∧ s'.os = s₁.os ∧ AllBare s'.gens) s₁ := by
    intro H hO hS hok hA hK
    have base_of : ∀ {b : Addr} {o : Obj}, s₁.heap.get? b = some o → H b = none → (hidT s₁.heap H).get? b = some o := fun e n => hidT_get e n
    have noA : ∀ {b : Addr} {o : Obj} {es : Array DictEntry} {ep : Nat}, s₁.heap.get? b = some o → o.data = .dict es ep → H b = none := fun {b o es ep} e d => by
      cases q : H b with
      | none => rfl
      | some u =>
        have e' : b = a := hA b (by rw [q]; simp)
        subst e'
        rw [ha] at e; cases e
        have d' : Data.seq vs.toArray _ = Data.dict es ep := d
        cases d'
    have nsK : ∀ {b : Addr} {m : Str → Option Value}, s₁.heap.Ns b m → (hidT s₁.heap H).Ns b m := fun {b m} ⟨o, es, ep, e, d, r⟩ => ⟨o, es, ep, base_of e (noA e d), d, r⟩
    have hKb : K.In (hidT s₁.heap H) := fun b o e => base_of (KX b o e) (by
      cases q : H b with
      | none => rfl
      | some u =>
        have e' : b = a := hA b (by rw [q]; simp)
        subst e'
        rw [hK (by rw [q]; simp)] at e; cases e)
    have hM : Mod K mg (hidT s₁.heap H) := ⟨hKb, nsK hns, ⟨mb, nsK hb, hbb⟩, let ⟨mc, h1, h2⟩ := hlim; ⟨mc, nsK h1, h2⟩⟩
    have e0 : Env0 P w K mg (hidT s₁.heap H) callerA [] s₁ H := ⟨rfl, hM, fun b o e => of_hidT e, Nat.le_of_eq (hidT_size _ _), trivial, fun b hb => absurd (show b ∈ ([] : List Addr) from hb) (by simp), hok, .of_eq hg⟩
    refine codeAny_mono ((F _ hKb (nsK hns)).run callerA [] s₁ H ⟨[.ref a], []⟩ [.ref a] [.ref a] _ _ hr e0 (hbind s₁ (.ref a)) (.cons rfl .nil) (hsp H hO hS)) fun r s' h => ?_
    cases r with
    | error e => exact (hCX H e s' h).elim
    | ok fl =>
      cases fl with
      | next => exact False.elim h
      | brk => exact False.elim h
      | cont => exact False.elim h
      | ret u =>
        obtain ⟨v, H', os, bare, un, hok', r', q⟩ := h
        have q' : v = .bl true := q
        subst q'
        obtain rfl : u = Value.bool true := r'
        refine ⟨rfl, OldK.of_keep fun b o e => ?_, os, bare⟩
        cases q : H b with
        | none => exact un.keep b o e q (by intro z; exact absurd (show b ∈ ([] : List Addr) from z) (by simp)) (by simp)
        | some u =>
          rcases hO b with z | ⟨ob, xs, z⟩
          · rw [q] at z; cases z
          · have z2 := un.frzs b ob _ z
            obtain ⟨e1, _⟩ := hok b _ z
            obtain ⟨e2, _⟩ := hok' b _ z2
            rw [e] at e1; cases e1
            exact e2
  cases hk : K.lookup a with
  | some o =>
    -- the script is one of the module's own objects
    have e := KX a o hk
    rw [ha] at e
    cases e
    refine core (fun _ => none) (fun _ => .inl rfl) (.inr ⟨_, vs.toArray, _, hk, rfl, rfl, rfl, by rw [List.size_toArray, lenV]; exact hl, by simpa using rv⟩) (fun b u z => by have z' : (none : Option HO) = some u := z; cases z') (fun b z => absurd rfl z) fun z => absurd rfl z
  | none =>
    refine core (fun b => if b = a then some (.frz { cls := .type "list", data := .seq vs.toArray } (.lst (ns.map V.int))) else none) (fun b => ?_) (.inl (.inr ⟨{ cls := .type "list", data := .seq vs.toArray }, if_pos rfl⟩)) (fun b u z => ?_) (fun b z => ?_) fun _ => hk
    · by_cases hb : b = a
      · exact .inr ⟨_, _, if_pos hb⟩
      · exact .inl (if_neg hb)
    · by_cases hb : b = a
      · have z' := (if_pos hb).symm.trans z
        cases z'
        subst hb
        exact ⟨ha, by rw [List.length_map]; exact hl, vs, _, rv, ha⟩
      · have z' := (if_neg hb).symm.trans z
        cases z'
    · by_cases hb : b = a
      · exact hb
      · exact absurd (if_neg hb) z
theorem walk_of {l : PySem.W.OpenLaw} {n k : Nat} {q : Program} {loose : List Str} {XP : (Str → Option Value) → Heap → Prop} {YP : World → Heap → Prop} {d : DefRec} {K : Params → PySem.W.Frag} {CX : World → CXT} {sp : World → Sp} {x : Str}
    (hn : l.most = some n) (hn2 : n ≤ sizeLine) (hdf : d.params.defaults = []) (hr : Room k callerA)
    (hY : ∀ (w : World) (h : Heap), YP w h → (K w.params).In h)
    (F : ∀ (w : World) (mg : Str → Option Value) (fa : Addr) (h : Heap), (K w.params).In h → h.Ns mainGlobals mg → mg d.name = some (.ref fa) →
      ∃ fd : FuncData, (∀ (s : Shared) (u : Value), BindsTo s fd ⟨[u], []⟩ [(x, u)]) ∧
        ∀ base : Heap, (K w.params).In base → base.Ns mainGlobals mg → FnOk l.prog w (K w.params) mg base (CX w) k fa fd [x] (sp w))
    (hsp : ∀ (w : World) (H : Hp) (a : Addr) (ns : List Int), ns.length ≤ n → Only H → SqL (K w.params) H a (ns.map V.int) → sp w [.ref a] H (fun v _ => v = .bl true) fun _ _ _ => False)
    (hCX : ∀ (w : World) (H : Hp) (s : Shared) (e : Value) (s' : Shared), CX w [] H s (fun _ _ _ => False) e s' → False) :
    PySem.W.WalkO q loose XP YP l.row.toRowW d [] (fun f vs => PySem.call f vs) := by
  refine Att.attach_call hn hdf fun w s₀ s₁ mg mb fa o pm cd doc a vs ns G Y ho hd hcd hmg hobj hints hlen hg => ?_
  have KX := hY w _ Y
  obtain ⟨fd, hb, hF⟩ := F w mg fa _ KX G.T.g hmg
  exact law_call KX G.T.g G.T.b G.T.builtins G.T.nolimit hg hobj hints (Nat.le_trans hlen hn2) hr hF hb (fun H hO hS => hsp w H a ns hlen hO hS) fun H e s' => hCX w H s₁ e s'
end L2
/- THE LAST THEOREM (shape; LID, My.* are yours):
   My.Adr: a structure of the addresses that your layer names (classes, functions); My.Txt K t: a structure (Prop) of the equations over K;
   My.txt_mk : {K} {implicit addresses ..} (e1 : nsIn K mainGlobals "law" = some (some (.ref f))) (e2 : K.lookup f = some ⟨oc, od, .func (fnOf "law" "law" params body scope dV kV doc pm an cdv ct), sl⟩) (e3 : codeIn K cdv "law" = true) .. : ∃ t, My.Txt K t
set_option maxRecDepth 100000 in
set_option maxHeartbeats 0 in
theorem PySem.Challenge.cw_LID_holds : PySem.Challenge.rw_LID.Holds := by
  w_on; o_law; k_head; (case hw => w_witness2)
  k_fill
  refine L2.walk_of (l := PySem.Challenge.rw_LID) (n := 63) (k := 40) (x := "script") (CX := fun w => ..) (sp := fun _ => My.sp_law) rfl (by decide) rfl ⟨rfl, by decide, by decide⟩ (fun w h Y => PySem.W.kIn_of Y) ?F ?S ?C
  case F =>
    intro w mg fa h KX G hmg
    have T : ∃ t, My.Txt (L2.KOf KX) t := by
      dsimp only [L2.KOf]                          -- K must stand as «<heap const> w.params» for k_is
      refine' My.txt_mk ?e1 ?e2 ?e3 ..
      (case e1 => PySem.W.k_is)                    -- in the order: a name -> its address -> its object -> its parts
      (case e2 => PySem.W.k_is)
      ..
    obtain ⟨t, T⟩ := T
    have e0 := hmg.symm.trans (PySem.W.mg_of KX G T.law)
    cases e0                                       -- fa is the law's own address
    exact ⟨_, fun s u => .of_eq rfl, fun base kb nb => My.law_fn T kb nb⟩     -- if «.of_eq rfl» comes too early: refine' ⟨_, ?b, fun base kb nb => My.law_fn T kb nb⟩; exact fun s u => .of_eq rfl
  case S => exact fun w H a ns hl hO hS => ..
  case C => exact ..
(the tactic k_is has no namespace: write k_is) -/
namespace L2
open PySem PySem.Spec PyProof.Rows
def defArgs (s : Stmt) : Arguments := match s with
  | .FunctionDef _ a _ _ _ _ _ _ _ _ => a
  | _ => { posonlyargs := [], args := [], vararg := none, kwonlyargs := [], kw_defaults := [], kwarg := none, defaults := [] }
def defBody (s : Stmt) : List Stmt := match s with
  | .FunctionDef _ _ b _ _ _ _ _ _ _ => b
  | _ => []
def defScope (s : Stmt) : Scope := match s with
  | .FunctionDef _ _ _ _ _ _ sc _ _ _ => sc
  | _ => { kind := .function, names := [], isGenerator := false, isCoroutine := false }
abbrev CX0 : CXT := fun _ _ _ _ _ _ => False
abbrev E0 : XK := fun _ _ _ => False
theorem pass0 {X : Cx} : Passes CX0 X E0 := fun _ _ _ _ _ _ _ h => h.elim
structure Fun (K : PySem.W.Frag) (x qual : Str) (st : Stmt) (f : Addr) (fd : FuncData) : Prop where
  ex : ∃ (oc : Value) (od : Option Addr) (kV doc pm : Value) (an : Option Addr) (cdv ct : Value) (osl : Array (Option Value)),
    fd = PySem.W.fnOf x qual (defArgs st) (defBody st) (defScope st) .none kV doc pm an cdv ct ∧ K.lookup f = some ⟨oc, od, .func fd, osl⟩ ∧ PySem.W.codeIn K cdv qual = true
  kp : PySem.W.keepIn K (.ref f) = true
section
variable {P : Program} {w : World} {K : PySem.W.Frag} {mg : Str → Option Value} {base : Heap}
theorem Fun.ok {x qual : Str} {st : Stmt} {f : Addr} {fd : FuncData} {N ps : List Str} {k : Nat} {sp : Sp} (F : Fun K x qual st f fd) (S : FnScope N ps (defScope st)) (len : ∀ vs H Q E, sp vs H Q E → vs.length = ps.length)
    (hbody : ∀ (cdv : Value) (A : Around) (outer : List Env) (s : Shared) (H : Hp) (vs : List V) (Q : VK) (E : XK), Room k (A.deeper (envOfC qual (defScope st) s.heap.objs.size f cdv)) → sp vs H Q E →
      ∃ t, PSs (cxOf CX0 P w K mg base N qual (defScope st) f cdv A outer s H E).nox (defBody st) t ∧ t { nx := fun _ H' => Q .non H', rt := Q } (start N vs) H) : FnOk P w K mg base CX0 (k + 1) f fd ps sp := by
  obtain ⟨oc, od, kV, doc, pm, an, cdv, ct, osl, rfl, lk, hcd⟩ := F.ex
  refine fn_of lk hcd S len fun A outer s H vs Q E hr hsp => ?_
  obtain ⟨t, h, q⟩ := hbody cdv A outer s H vs Q E hr hsp
  exact ⟨t, h.nox, q⟩
theorem Fun.binds {x qual : Str} {st : Stmt} {f : Addr} {fd : FuncData} {ps : List Str} (F : Fun K x qual st f fd)
    (h : ∀ (kV doc pm : Value) (an : Option Addr) (cdv ct : Value) (us : List Value), us.length = ps.length → bindArgs (PySem.W.fnOf x qual (defArgs st) (defBody st) (defScope st) .none kV doc pm an cdv ct) ⟨us, []⟩ = pure (ps.zip us)) : Binds K fd ps [] := by
  obtain ⟨oc, od, kV, doc, pm, an, cdv, ct, osl, rfl, lk, hcd⟩ := F.ex
  exact .all (h kV doc pm an cdv ct)
theorem fun_mk {x qual : Str} {st : Stmt} {f : Addr} {oc : Value} {od an : Option Addr} {osl : Array (Option Value)} {kV doc pm cdv ct : Value} (l : K.lookup f = some ⟨oc, od, .func (PySem.W.fnOf x qual (defArgs st) (defBody st) (defScope st) .none kV doc pm an cdv ct), osl⟩)
    (c : PySem.W.codeIn K cdv qual = true) (k : PySem.W.keepIn K (.ref f) = true) : Fun K x qual st f (PySem.W.fnOf x qual (defArgs st) (defBody st) (defScope st) .none kV doc pm an cdv ct) := ⟨⟨oc, od, kV, doc, pm, an, cdv, ct, osl, rfl, l, c⟩, k⟩
end
theorem small1000 {n : Nat} (h : n ≤ 1000) : n < sizeLine := Nat.lt_of_le_of_lt h (by decide)
section
variable {X : Cx}
theorem pv (i : Nat) {x : Str} {pos : Pos} (hN : X.N[i]? = some x := by rfl) (hv : Vis X.env.scope x := by first | exact Or.inl rfl | exact Or.inr (Or.inl rfl) | exact Or.inr (Or.inr rfl)) (hd : (x == ("__debug__" : Str)) = false := by decide)
    (hcd : (x == ("__classdict__" : Str)) = false := by decide) : PE X (.Name x pos) (tVar i) := pe_var hN hv hd hcd
end
theorem iteF {A B : Prop} (h : B) : if false = true then A else B := by
  rw [if_neg Bool.false_ne_true]
  exact h
theorem iteT {A B : Prop} (h : A) : if true = true then A else B := by
  rw [if_pos rfl]
  exact h
theorem ite2 {c A B : Prop} [Decidable c] (h1 : c → A) (h2 : ¬ c → B) : if c then A else B := by
  by_cases h : c
  · rw [if_pos h]
    exact h1 h
  · rw [if_neg h]
    exact h2 h
def Same (H H' : Hp) : Prop := ∀ b o, H b = some o → H' b = some o
theorem Same.refl (H : Hp) : Same H H := fun _ _ h => h
theorem Same.trans {H H1 H2 : Hp} (a : Same H H1) (b : Same H1 H2) : Same H H2 := fun c o h => b c o (a c o h)
theorem Same.free {H H' : Hp} (e : Same H H') {l : Addr} (h : H' l = Option.none) : H l = Option.none := by
  cases q : H l with
  | none => rfl
  | some o =>
    rw [e l o q] at h
    cases h
def clStep (cells : List (Str × Addr)) (acc : List (Str × Addr)) (p : Str × NameKind) : List (Str × Addr) :=
  if p.2 == .free then (match cells.lookup p.1 with | some c => (p.1, c) :: acc | none => acc) else acc
def clOf (names : List (Str × NameKind)) (cells : List (Str × Addr)) : List (Str × Addr) := names.foldl (clStep cells) []
theorem closure_loop {env : Env} : ∀ (names : List (Str × NameKind)) (acc : List (Str × Addr)), (∀ y ∈ names, y.2 = .free → ∃ c, env.cells.lookup y.1 = some c) →
    (forIn names acc (fun (p : Str × NameKind) (cs : List (Str × Addr)) => (match p with
      | (name, kind) => if (kind == .free) = true then (do let c ← cellOf env name; pure (ForInStep.yield ((name, c) :: cs))) else pure (ForInStep.yield cs) : Sem (ForInStep (List (Str × Addr)))))) = pure (names.foldl (clStep env.cells) acc)
  | [], acc, _ => rfl
  | (n, k) :: r, acc, h => by
    have ih := fun acc => closure_loop (env := env) r acc fun y hy => h y (List.mem_cons_of_mem _ hy)
    rw [List.forIn_cons, List.foldl_cons]
    by_cases e : (k == NameKind.free) = true
    · obtain ⟨c, hc⟩ := h (n, k) List.mem_cons_self (by simpa using e)
      have hc' : env.cells.lookup n = some c := hc
      have e1 : clStep env.cells acc (n, k) = (n, c) :: acc := by unfold clStep; rw [if_pos e]; simp only [hc']
      rw [e1, ← ih]
      have e2 : cellOf env n = pure c := by unfold cellOf; rw [hc']
      simp only [e, if_true, e2]
      rfl
    · have e1 : clStep env.cells acc (n, k) = acc := by unfold clStep; rw [if_neg e]
      rw [e1, ← ih]
      simp only [e, if_false]
      rfl
theorem closureFor_of {scope : Scope} {env : Env} (h : ∀ y ∈ scope.names, y.2 = .free → ∃ c, env.cells.lookup y.1 = some c) : closureFor scope env = pure (clOf scope.names env.cells) := by
  unfold closureFor
  have q := closure_loop (env := env) scope.names [] h
  unfold clOf
  exact (congrArg (fun (m : Sem (List (Str × Addr))) => m >>= fun cs => pure cs) q).trans rfl
theorem cl_sound {cells : List (Str × Addr)} : ∀ (names : List (Str × NameKind)) (acc : List (Str × Addr)), (∀ y c, acc.lookup y = some c → cells.lookup y = some c) → ∀ y c, (names.foldl (clStep cells) acc).lookup y = some c → cells.lookup y = some c
  | [], acc, h, y, c, e => h y c e
  | p :: r, acc, h, y, c, e => by
    refine cl_sound r (clStep cells acc p) (fun z d q => ?_) y c e
    unfold clStep at q
    split at q
    · split at q
      · rename_i c' hc'
        rw [List.lookup_cons] at q
        split at q
        · rename_i hz
          have hz' : z = p.1 := by simpa using hz
          cases q
          rw [hz']; exact hc'
        · exact h z d q
      · exact h z d q
    · exact h z d q
theorem cl_keeps {cells : List (Str × Addr)} : ∀ (names : List (Str × NameKind)) (acc : List (Str × Addr)) (y : Str), (acc.lookup y).isSome = true → ((names.foldl (clStep cells) acc).lookup y).isSome = true
  | [], _, _, h => h
  | p :: r, acc, y, h => by
    refine cl_keeps r _ y ?_
    unfold clStep
    split
    · split
      · rw [List.lookup_cons]
        split
        · rfl
        · exact h
      · exact h
    · exact h
theorem cl_has {cells : List (Str × Addr)} : ∀ (names : List (Str × NameKind)) (acc : List (Str × Addr)) (y : Str) (c : Addr), (y, NameKind.free) ∈ names → cells.lookup y = some c → ((names.foldl (clStep cells) acc).lookup y).isSome = true
  | [], _, _, _, h, _ => by simp at h
  | p :: r, acc, y, c, h, hc => by
    rcases List.mem_cons.mp h with e | e
    · refine cl_keeps r _ y ?_
      subst e
      unfold clStep
      simp only [hc]
      simp [List.lookup_cons]
    · exact cl_has r _ y c e hc
theorem relabel_free {env : Env} : ∀ {names : List (Str × NameKind)} {x : Str}, names.lookup x = some .free →
    (names.map fun (n, k) => if (k == NameKind.free && env.scope.kind == .function && env.kindOf n == some .cell) then (n, NameKind.cell) else (n, k)).lookup x = some .cell ∨
    (names.map fun (n, k) => if (k == NameKind.free && env.scope.kind == .function && env.kindOf n == some .cell) then (n, NameKind.cell) else (n, k)).lookup x = some .free
  | [], _, h => by simp at h
  | (n, k) :: r, x, h => by
    have ih := @relabel_free env r x
    rw [List.map_cons]
    cases hx : x == n with
    | true =>
      simp only [List.lookup_cons, hx] at h
      cases h
      by_cases hc : (NameKind.free == NameKind.free && env.scope.kind == .function && env.kindOf n == some .cell) = true
      · left; dsimp only; rw [if_pos hc]; simp [List.lookup_cons, hx]
      · right; dsimp only; rw [if_neg hc]; simp [List.lookup_cons, hx]
    | false =>
      simp only [List.lookup_cons, hx] at h
      have e : ∀ z : Str × NameKind, z.1 = n → ((z :: (r.map fun (n, k) => if (k == NameKind.free && env.scope.kind == .function && env.kindOf n == some .cell) then (n, NameKind.cell) else (n, k))).lookup x = (r.map fun (n, k) => if (k == NameKind.free && env.scope.kind == .function && env.kindOf n == some .cell) then (n, NameKind.cell) else (n, k)).lookup x) := fun z hz => by
        obtain ⟨z1, z2⟩ := z
        cases hz
        rw [List.lookup_cons, hx]
      dsimp only
      split
      · rw [e _ rfl]; exact ih h
      · rw [e _ rfl]; exact ih h
theorem relabel_back {env : Env} : ∀ {names : List (Str × NameKind)} {x : Str}, (∀ y ∈ names, y.2 ≠ .cell) →
    ((names.map fun (n, k) => if (k == NameKind.free && env.scope.kind == .function && env.kindOf n == some .cell) then (n, NameKind.cell) else (n, k)).lookup x = some .cell ∨
    (names.map fun (n, k) => if (k == NameKind.free && env.scope.kind == .function && env.kindOf n == some .cell) then (n, NameKind.cell) else (n, k)).lookup x = some .free) → names.lookup x = some .free
  | [], _, _, h => by simp at h
  | (n, k) :: r, x, hn, h => by
    have ih := @relabel_back env r x fun y hy => hn y (List.mem_cons_of_mem _ hy)
    have hk : k ≠ .cell := hn (n, k) List.mem_cons_self
    rw [List.map_cons] at h
    cases hx : x == n with
    | true =>
      by_cases hc : (k == NameKind.free && env.scope.kind == .function && env.kindOf n == some .cell) = true
      · have : k = .free := by
          cases k <;> simp at hc ⊢
        subst this
        simp [List.lookup_cons, hx]
      · dsimp only at h; rw [if_neg hc] at h
        simp only [List.lookup_cons, hx] at h ⊢
        rcases h with h | h
        · cases h; exact absurd rfl hk
        · exact h
    | false =>
      have e : ∀ z : Str × NameKind, z.1 = n → ((z :: (r.map fun (n, k) => if (k == NameKind.free && env.scope.kind == .function && env.kindOf n == some .cell) then (n, NameKind.cell) else (n, k))).lookup x = (r.map fun (n, k) => if (k == NameKind.free && env.scope.kind == .function && env.kindOf n == some .cell) then (n, NameKind.cell) else (n, k)).lookup x) := fun z hz => by
        obtain ⟨z1, z2⟩ := z
        cases hz
        rw [List.lookup_cons, hx]
      dsimp only at h
      have h' : (r.map fun (n, k) => if (k == NameKind.free && env.scope.kind == .function && env.kindOf n == some .cell) then (n, NameKind.cell) else (n, k)).lookup x = some .cell ∨ (r.map fun (n, k) => if (k == NameKind.free && env.scope.kind == .function && env.kindOf n == some .cell) then (n, NameKind.cell) else (n, k)).lookup x = some .free := by
        split at h
        · rw [e _ rfl] at h; exact h
        · rw [e _ rfl] at h; exact h
      rw [List.lookup_cons, hx]
      exact ih h'
structure CompSc (X : Cx) (scope : Scope) (x : Str) (ix : List Nat) : Prop where
  kind : scope.kind = .function
  nocell : ∀ y ∈ scope.names, y.2 ≠ .cell
  loc : ∀ y ∈ scope.names, y.2 = .local → scope.names.lookup y.1 = some .local
  x : scope.names.lookup x = some .local
  free : ∀ y ∈ scope.names, y.2 = .free → X.env.scope.names.lookup y.1 = some .cell ∨ X.env.scope.names.lookup y.1 = some .free
  cap : ∀ i ∈ ix, i < X.N.length ∧ scope.names.lookup (X.N.getD i "") = some .free
def compN (X : Cx) (x : Str) (ix : List Nat) : List Str := x :: ix.map fun i => X.N.getD i ""
def compσ (σ : St) (ix : List Nat) : St := none :: ix.map fun i => σ.getD i none
def compCx (X : Cx) (scope : Scope) (x : Str) (ix : List Nat) (ex : List Addr) (s : Shared) (H : Hp) : Cx where
  prog := X.prog
  w := X.w
  K := X.K
  mg := X.mg
  base := X.base
  A := X.A
  N := compN X x ix
  s₀ := s
  H₀ := H
  env := compEnvC scope (clOf scope.names X.env.cells) s.heap.objs.size X.env
  outer := X.stack
  stack := X.stack
  ex := ex
  fn := fun _ => false
  calm := X.calm
  pn := []
  xe := fun _ _ => False
section
variable {X : Cx} {scope : Scope} {x : Str} {ix : List Nat}
theorem CompSc.cells (S : CompSc X scope x ix) (ok : X.Ok) : ∀ y ∈ scope.names, y.2 = .free → ∃ c, X.env.cells.lookup y.1 = some c := fun y hy hf => ok.has y.1 (S.free y hy hf)
theorem inv_comp {pins : List (Addr × Obj)} {σ : St} {H : Hp} {s : Shared} {h' : Heap} {t' : Nat} {fp : List Addr} (S : CompSc X scope x ix) (I : Inv X pins σ H s) (hf : ∀ b ∈ fp, FpOk X pins H b) (hlt : ∀ b ∈ fp, b < s.heap.objs.size)
    (ns : h'.Ns s.heap.objs.size (fun y => ([] : List (Str × Value)).reverse.lookup y)) (sb : Heap.SameBut s.heap.objs.size (s.heap.push { cls := .type "dict", data := .dict #[] }) h') :
    Inv (compCx X scope x ix fp s H) [] (compσ σ ix) H { s with heap := h', toks := t' } := by
  have hk : ∀ b u, s.heap.get? b = some u → h'.get? b = some u := fun b u e => (sb.2 b (Nat.ne_of_lt (Heap.lt_size e))).trans (Heap.get?_push_of_some _ e)
  have sound : ∀ y c, (clOf scope.names X.env.cells).lookup y = some c → X.env.cells.lookup y = some c := cl_sound scope.names [] (fun _ _ q => by simp at q)
  have cellLt : ∀ y c, X.env.cells.lookup y = some c → c < s.heap.objs.size := fun y c e => by
    obtain ⟨v, q⟩ := I.cell y c e
    exact q.lt
  have cellK : ∀ y c v, X.env.cells.lookup y = some c → s.heap.IsCell c v → h'.IsCell c v := fun y c v _ ⟨o, ho, hd⟩ => ⟨o, hk c o ho, hd⟩
  refine ⟨⟨I.ok.mod, S.kind, I.ok.glob, I.ok.blt, Nat.le_refl _, fun y z c h1 h2 => I.ok.inj y z c (sound y c h1) (sound z c h2), fun y hy => ?_, fun y c hf _ => (by cases hf), I.ok.hd, I.ok.frames, .inl rfl, fun b hb => ⟨Nat.ne_of_lt (hlt b hb), fun y c e => (hf b hb).2.2.2.2.1 y c (sound y c e)⟩, I.bs, Nat.le_trans I.ok.bsz I.sz, fun b o e hb => ?_, fun b hb hs => ?_, I.stack, I.stkFree⟩,
    rfl, I.bare, Un.kept hk, ⟨_, ns, fun i y v h1 h2 h3 => ?_⟩, fun y c e => ?_, I.hok.fresh (Nat.le_refl _), fun y c e => I.freeC y c (sound y c e), fun p hp => absurd (show p ∈ ([] : List (Addr × Obj)) from hp) (by simp), I.hok.kept hk, ?_⟩
  · have hy' : scope.names.lookup y = some .free := relabel_back (env := X.env) S.nocell hy
    obtain ⟨c, hc⟩ := S.cells I.ok (y, .free) (PySem.mem_of_lookup hy') rfl
    exact Option.isSome_iff_exists.mp (cl_has scope.names [] y c (PySem.mem_of_lookup hy') hc)
  · obtain ⟨_, _, _, f3, _⟩ := hf b hb
    rcases f3 with f3 | f3
    · exact I.ok.noex b o e f3
    · exact absurd (Nat.lt_of_lt_of_le (Heap.lt_size e) (Nat.le_trans I.ok.bsz f3)) (Nat.lt_irrefl _)
  · rcases List.mem_cons.mp (I.stkSub b hs) with e | e
    · exact (hf b hb).2.1 e
    · exact (hf b hb).2.2.1 e
  · cases i with
    | zero =>
      have h2' : (none : Option V) = some v := by simpa [compσ] using h2
      cases h2'
    | succ i =>
      have h1' : (ix.map fun i => X.N.getD i "")[i]? = some y := by simpa [compCx, compN] using h1
      have h2' : (ix.map fun i => σ.getD i none)[i]? = some (some v) := by simpa [compσ] using h2
      rw [List.getElem?_map] at h1' h2'
      cases ei : ix[i]? with
      | none => rw [ei] at h1'; cases h1'
      | some j =>
        rw [ei] at h1' h2'
        have h1'' : X.N.getD j "" = y := Option.some.inj h1'
        have h2'' : σ.getD j none = some v := Option.some.inj h2'
        obtain ⟨hj, hfr⟩ := S.cap j (List.mem_of_getElem? ei)
        rw [h1''] at hfr
        have e1 : X.N[j]? = some y := by
          rw [List.getElem?_eq_getElem hj]
          rw [List.getD_eq_getElem?_getD, List.getElem?_eq_getElem hj] at h1''
          exact congrArg some h1''
        have e2 : σ[j]? = some (some v) := by
          have hj' : j < σ.length := by rw [I.len]; exact hj
          rw [List.getElem?_eq_getElem hj']
          rw [List.getD_eq_getElem?_getD, List.getElem?_eq_getElem hj'] at h2''
          exact congrArg some h2''
        have vis : Vis X.env.scope y := by
          rcases S.free (y, .free) (PySem.mem_of_lookup hfr) rfl with q | q
          · exact .inr (.inl q)
          · exact .inr (.inr q)
        obtain ⟨m, hn, hl⟩ := I.loc
        obtain ⟨u, r, q⟩ := hl j y v e1 e2 vis
        refine ⟨u, r, .inr ⟨?_, ?_⟩⟩
        · exact relabel_free (env := X.env) hfr
        · rcases q with ⟨k, _⟩ | ⟨_, c, hc, z⟩
          · rcases S.free (y, .free) (PySem.mem_of_lookup hfr) rfl with q | q
            · rw [show X.env.kindOf y = X.env.scope.names.lookup y from rfl, q] at k; cases k
            · rw [show X.env.kindOf y = X.env.scope.names.lookup y from rfl, q] at k; cases k
          · obtain ⟨c', hc'⟩ := Option.isSome_iff_exists.mp (cl_has scope.names [] y c (PySem.mem_of_lookup hfr) hc)
            have e3 := sound y c' hc'
            rw [hc] at e3; cases e3
            exact ⟨c, hc', cellK y c _ hc z⟩
  · obtain ⟨v, q⟩ := I.cell y c (sound y c e)
    exact ⟨v, cellK y c v (sound y c e) q⟩
  · simp [compσ, compCx, compN]
theorem comp_out {pins : List (Addr × Obj)} {σ σ' : St} {H H' : Hp} {s s' : Shared} {fp : List Addr} {h'' : Heap} (I : Inv X pins σ H s) (hf : ∀ b ∈ fp, FpOk X pins H b) (J : Inv (compCx X scope x ix fp s H) [] σ' H' s')
    (sb : Heap.SameBut s.heap.objs.size s'.heap h'') : Inv X pins σ H' { s' with heap := h'' } := by
  have neC : ∀ b o, s.heap.get? b = some o → b ≠ s.heap.objs.size := fun b o e => Nat.ne_of_lt (Heap.lt_size e)
  have B : Un (frs X.stack) fp H H' s.heap s'.heap := J.base
  have hC : H' s.heap.objs.size = none := J.free
  refine I.call' (ch := fp) J.os ?_ ?_ J.bare fun b hb => ⟨(hf b hb).2.2.2.1, (hf b hb).2.1, (hf b hb).2.2.2.2.1, (hf b hb).2.2.2.2.2⟩
  · refine ⟨fun b o e n hb hx => (sb.2 b (neC b o e)).trans (B.keep b o e n hb hx), fun b o e n hb hx => ?_, B.free, fun b o e hx => ?_, B.tups, B.frzs, B.tbls⟩
    · obtain ⟨sl, q⟩ := B.slot b o e n hb hx
      exact ⟨sl, (sb.2 b (neC b o e)).trans q⟩
    · obtain ⟨o', q⟩ := B.there b o e hx
      exact ⟨o', (sb.2 b (neC b o e)).trans q⟩
  · intro b ob e
    refine (J.hok b ob e).stay (fun c w' hc q => (sb.2 c ?_).trans q) (fun _ q => q) fun _ _ q => q
    rintro rfl
    rcases hc with hc | hc
    · rw [← hc, hC] at e; cases e
    · rw [hC] at hc; cases hc
end
theorem wpAny_of_pure {α β : Type} {M : Model} {A : Around} {a : α} {t : Sem β} {P : α → Shared → Prop} {Q : β → Shared → Prop} {E E' : Value → Shared → Prop} {s : Shared} (h : wpAny M A (pure a : Sem α) P E s) (k : P a s → wpAny M A t Q E' s) : wpAny M A t Q E' s := fun Γ p hΓ => k (h Γ p hΓ) Γ p hΓ
def PIfs (X : Cx) (ifs : List Expr) (t : TT) : Prop :=
  ∀ (pins : List (Addr × Obj)) (s : Shared) (σ : St) (H : Hp) (Q : Bool → Hp → Prop), Inv X pins σ H s → t σ H Q →
    wpAny (model X.prog X.w) X.A (forIn ifs true fun c r => if r = true then do let ok ← isTrue c X.env (eval c X.env); pure (ForInStep.yield ok) else pure (ForInStep.yield r)) (TP X pins σ Q) X.xe s
def tYes : TT := fun _ H Q => Q true H
theorem pifs_nil {X : Cx} : PIfs X [] tYes := fun _ _ _ H _ I h => wpAny_tests_nil ⟨H, I, h⟩
theorem pifs_one {X : Cx} {c : Expr} {t : TT} (h : PT X c t) : PIfs X [c] t := fun pins s σ H Q I q => wpAny_tests_one (h pins s σ H Q I q)
def capσ (σ : St) (ix : List Nat) : St := ix.map fun i => σ.getD i none
def compGo (J : It) (D : Addr) (Q : VK) (ti : TT) (te : TE) (c : St) (H0 : Hp) : Prop :=
  ∃ W : Nat → Nat → Hp → Prop, (∃ m, W 0 m H0) ∧ ∀ i m H, W i m H →
    (J.stop i H ∧ Q (.ref D) H) ∨ (J.go i H ∧ ∃ N : Hp → Prop, (∀ H', N H' → ∃ m', m' < m ∧ W (i + 1) m' H') ∧ ∀ v H', J.yld i H v H' →
      ti (some v :: c) H' fun b H2 => if b = true then te (some v :: c) H2 fun y H3 => ∃ ys, H3 D = some (.lst ys) ∧ ys.length < sizeLine ∧ N (upd H3 D (.lst (ys ++ [y]))) else N H2)
def tComp (wi : TI) (ix : List Nat) (ti : TT) (te : TE) : TE := fun σ H Q => wi σ H fun J H1 => ∀ D, H1 D = none → compGo J D Q ti te (capσ σ ix) (upd H1 D (.lst []))
section
variable {X : Cx} {scope : Scope} {x : Str} {px pos : Pos} {ix : List Nat} {elt iter : Expr} {ifs : List Expr} {wi : TI} {ti : TT} {te : TE}
theorem comp_block {pins : List (Addr × Obj)} {σ : St} {H : Hp} {s : Shared} {fp : List Addr} {it D : Addr} {tn : Nat → Heap → Prop} {J : It} {Q : VK} {E : Value → Shared → Prop} {RR : Result → Shared → Prop} (S : CompSc X scope x ix) (hc : X.calm = true)
    (he : ∀ s H, PE (compCx X scope x ix fp s H) elt te) (hi : ∀ s H, PIfs (compCx X scope x ix fp s H) ifs ti)
    (I : Inv X pins σ H s) (T : Turn X.prog X.w X.K (.Name x px) J fp it tn) (st : tn 0 s.heap) (hf : ∀ b ∈ fp, FpOk X pins H b) (go : compGo J D Q ti te (capσ σ ix) H)
    (nd : (compN X x ix).Nodup)
    (hR : ∀ σ' H' s', Inv (compCx X scope x ix fp s H) [] σ' H' s' → Q (.ref D) H' → RR (.ok .next) s') :
    wpAny (model X.prog X.w) X.A (newFunctionEnv scope X.env.globals (clOf scope.names X.env.cells) [] X.env.qual none .none (some X.env)) (fun cenv s₄ => cenv.locals = s.heap.objs.size ∧
      codeAny (model X.prog X.w) X.A (.compStart (.ListComp elt [⟨.Name x px, iter, ifs, 0⟩] scope pos) 0 (.ref it) (.ref D) { cenv with scope := relabel scope X.env }) RR s₄) E s := by
  refine wpAny_newFunctionEnv S.nocell (by intro y hy; simp at hy) (fun h' ns sb => ⟨rfl, ?_⟩) S.kind
  have hlt : ∀ b ∈ fp, b < s.heap.objs.size := fun b hb => by
    obtain ⟨o, e, _⟩ := T.obj 0 _ st b hb
    exact Heap.lt_size e
  have I0 : Inv (compCx X scope x ix fp s H) [] (compσ σ ix) H { s with heap := h', toks := s.toks + ([] : List (Str × Value)).length } := inv_comp S I hf hlt ns sb
  have st0 : tn 0 h' := T.keep 0 _ _ st fun b hb o e => (sb.2 b (Nat.ne_of_lt (Heap.lt_size e))).trans (Heap.get?_push_of_some _ e)
  obtain ⟨W, ⟨m0, w0⟩, turn⟩ := go
  have stat : ∀ {H' : Hp}, (∀ b ∈ fp, H' b = none) → ∀ b ∈ fp, FpOk (compCx X scope x ix fp s H) [] H' b := fun hn b hb => by
    refine ⟨hn b hb, Nat.ne_of_lt (hlt b hb), fun z => ?_, .inl hb, fun y c e => (I0.ok.exf b hb).2 y c e, fun p hp => absurd (show p ∈ ([] : List (Addr × Obj)) from hp) (by simp)⟩
    exact I0.ok.exfs b hb z
  have loop : codeAny (model X.prog X.w) X.A (.compLoop (.ListComp elt [⟨.Name x px, iter, ifs, 0⟩] scope pos) 0 (.ref it) (.ref D) (compCx X scope x ix fp s H).env) RR { s with heap := h', toks := s.toks + ([] : List (Str × Value)).length } := by
    refine codeAny_compLoop_tests (fun n s' => ∃ i o H', Inv (compCx X scope x ix fp s H) [] (o :: capσ σ ix) H' s' ∧ tn i s'.heap ∧ (∀ b ∈ fp, H' b = none) ∧ W i n H') ?_ m0 ⟨0, none, H, I0, st0, fun b hb => (hf b hb).1, w0⟩
    rintro n s3 ⟨i, o3, H3, I3, st3, fr3, w3⟩
    rcases turn i n H3 w3 with ⟨stop, qn⟩ | ⟨gone, N, hN, step⟩
    · refine thn (T.done (compCx X scope x ix fp s H) rfl rfl rfl hc i [] s3 _ H3 _ I3 (stat fr3) st3 stop) fun r s4 ⟨hr, I4⟩ => ?_
      subst hr
      exact hR _ H3 s4 I4 qn
    · refine thn (T.item (compCx X scope x ix fp s H) rfl rfl rfl hc i [] s3 _ H3 (fun _ _ => False) I3 (stat fr3) st3 gone |> fun z => wpAny_mono z (fun _ _ q => q) fun _ _ f => f.elim) fun r s4 ⟨u, hr, h4⟩ => ?_
      subst hr
      refine wpAny_of_pure (a := ()) h4 fun ⟨y, H5, I5, r5, y5, st5, fr5⟩ => ?_
      have I5' := I5.pinned (stat fr5) (T.obj _ _ st5)
      have hx0 : (compCx X scope x ix fp s H).N[0]? = some x := rfl
      refine wpAny_assign_Name (store_ok I5' nd hx0 (.inl (lookup_relabel_local S.x)) r5 (fun s6 I6 => ?_) (.inr (lookup_relabel_local S.x)))
      refine wpAny_mono (hi s H _ s6 _ H5 _ I6 (step y H5 y5)) (fun ok s7 ⟨H7, I7, q7⟩ => ?_) fun _ _ f => f.elim
      have again : ∀ {o7 : Option V} {H7 : Hp} {s7 : Shared}, Inv (compCx X scope x ix fp s H) ([] ++ pinsAt fp s4.heap) (o7 :: capσ σ ix) H7 s7 → N H7 → ∃ m, m < n ∧ ∃ i o H', Inv (compCx X scope x ix fp s H) [] (o :: capσ σ ix) H' s7 ∧ tn i s7.heap ∧ (∀ b ∈ fp, H' b = none) ∧ W i m H' := fun {o7 H7 s7} I7 n7 => by
        obtain ⟨m', hm, w7⟩ := hN H7 n7
        refine ⟨m', hm, i + 1, o7, H7, I7.unpinned, T.keep _ _ _ st5 fun b hb o e => (I7.pin (b, o) (List.mem_append_right _ (List.mem_append_right _ (mem_pinsAt hb e)))).1, fun b hb => ?_, w7⟩
        obtain ⟨o, e, d⟩ := T.obj _ _ st5 b hb
        exact (I7.pin (b, o) (List.mem_append_right _ (List.mem_append_right _ (mem_pinsAt hb e)))).2.1
      cases ok with
      | false =>
        rw [if_neg (by simp)] at q7
        exact again I7 q7
      | true =>
        rw [if_pos rfl] at q7
        refine wpAny_mono (he s H _ s7 _ H7 _ I7 q7) (fun v s8 ⟨y8, H8, I8, r8, ys, hD, hz, n8⟩ => ?_) fun _ _ f => f.elim
        obtain ⟨z, its, k, rv, e⟩ := I8.hok D _ hD
        have hl : s8.heap.IsList D its.toArray := ⟨_, e, rfl, k, rfl⟩
        refine mt_append _ s8 _ H8 (.ref D) [y8] (.ref D) [v] _ I8 rfl (.cons r8 .nil) ⟨D, ys, y8, rfl, rfl, hD, hz, n8⟩ |> fun z => wpAny_mono z (fun _ s9 ⟨_, H9, I9, _, q9⟩ => again I9 q9) fun _ _ f => f.elim
  exact codeAny_compStart_list loop (T.self _ 0 _ _ _ st0 loop)
end
section
variable {X : Cx} {scope : Scope} {x : Str} {px pos : Pos} {ix : List Nat} {elt iter : Expr} {ifs : List Expr} {wi : TI} {ti : TT} {te : TE}
theorem Inv.fp_upd {pins : List (Addr × Obj)} {H : Hp} {D : Addr} {o : HO} {fp : List Addr} (hf : ∀ b ∈ fp, FpOk X pins H b) (hD : ∀ b ∈ fp, b ≠ D) : ∀ b ∈ fp, FpOk X pins (upd H D o) b := fun b hb =>
  ⟨by rw [upd_ne (hD b hb)]; exact (hf b hb).1, (hf b hb).2⟩
theorem pe_comp (S : CompSc X scope x ix) (nd : (compN X x ix).Nodup) (hc : X.calm = true) (hi : PI X (.Name x px) iter wi) (hif : ∀ fp s H, PIfs (compCx X scope x ix fp s H) ifs ti) (he : ∀ fp s H, PE (compCx X scope x ix fp s H) elt te)
    (hs : ∀ z, foldedSetIterable iter X.env z = pure z := by intro _; rfl) : PE X (.ListComp elt [⟨.Name x px, iter, ifs, 0⟩] scope pos) (tComp wi ix ti te) := by
  intro pins s σ H Q I h
  rw [eval_ListComp]
  refine wpAny_comprehension_free (use := none) rfl hs (closureFor_of (S.cells I.ok)) S.kind S.loc (thn (hi pins s σ H _ I h) fun v s1 h1 => thn h1 fun itv s2 h2 => ?_)
  obtain ⟨it, fp, tn, J, H2, rfl, I2, T, st2, f2, q⟩ := h2
  refine wpAny_newObj_type ?_
  have fr := I2.fresh
  have I3 : Inv X pins σ (upd H2 s2.heap.objs.size (.lst [])) { s2 with heap := s2.heap.push { cls := .type "list", data := .seq ([] : List Value).toArray } } := I2.lnew (t' := s2.toks) .nil (Nat.zero_le _)
  have hD : ∀ b ∈ fp, b ≠ s2.heap.objs.size := fun b hb => by
    obtain ⟨o, e, _⟩ := T.obj 0 _ st2 b hb
    exact Nat.ne_of_lt (Heap.lt_size e)
  have f3 := Inv.fp_upd (o := .lst []) f2 hD
  have st3 : tn 0 (s2.heap.push { cls := .type "list", data := .seq ([] : List Value).toArray }) := T.keep 0 _ _ st2 fun b hb o e => Heap.get?_push_of_some _ e
  refine thn (comp_block (px := px) (pos := pos) (iter := iter) (E := X.xe) (RR := compPost (model X.prog X.w) X.A X.xe none (EP X pins σ Q) (.ref s2.heap.objs.size) (s2.heap.push { cls := .type "list", data := .seq ([] : List Value).toArray }).objs.size) S hc (he fp) (hif fp) I3 T st3 f3 (q _ fr) nd ?_) fun cenv s4 ⟨e, z⟩ => ?_
  · intro σ' H' s' J' q'
    obtain ⟨m, hn, _⟩ := J'.loc
    exact ⟨m, hn, fun h'' sb => ⟨_, H', comp_out I3 f3 J' sb, (show RelV (.ref s2.heap.objs.size) _ from rfl), q'⟩⟩
  · rw [← show cenv.locals = (s2.heap.push { cls := .type "list", data := .seq ([] : List Value).toArray }).objs.size from e] at z; exact z
def tSetC (i : Nat) (wi : TI) (ix : List Nat) (ti : TT) (te : TE) : TS := fun D σ H => tComp wi ix ti te σ H fun v H1 => D.nx (σ.set i (some v)) H1
theorem ps_setc {i : Nat} {y : Str} {py spos : Pos} (hN : X.N.Nodup) (hy : X.N[i]? = some y) (hyl : X.env.scope.names.lookup y = some .local) (S : CompSc X scope x ix) (nd : (compN X x ix).Nodup) (hc : X.calm = true) (hi : PI X (.Name x px) iter wi)
    (hif : ∀ fp s H, PIfs (compCx X scope x ix fp s H) ifs ti) (he : ∀ fp s H, PE (compCx X scope x ix fp s H) elt te)
    (hsw : swapsWith (.ListComp elt [⟨.Name x px, iter, ifs, 0⟩] scope pos) (some (.Name y py)) spos.line X.env = pure true := by rfl)
    (hs : ∀ z, foldedSetIterable iter X.env z = pure z := by intro _; rfl) : PS X (.Assign [.Name y py] (.ListComp elt [⟨.Name x px, iter, ifs, 0⟩] scope pos) spos) (tSetC i wi ix ti te) := by
  intro pins s σ H D I h
  rw [exec_Assign_Name_used _ _ _ _ hsw]
  refine wpAny_bind (wpAny_standAt (wpAny_bind ?_))
  show wpAny _ X.A (do let _ ← comprehension (.ListComp elt [⟨.Name x px, iter, ifs, 0⟩] scope pos) scope X.env _ (newList []) false (eval iter X.env) (some (assign (.Name y py) X.env))) _ _ s
  refine wpAny_bind (wpAny_mono (wpAny_comprehension_free (use := some (assign (.Name y py) X.env)) (Q := fun _ s' => SP X pins D .next s') rfl hs (closureFor_of (S.cells I.ok)) S.kind S.loc (thn (hi pins s σ H _ I h) fun v s1 h1 => thn h1 fun itv s2 h2 => ?_)) (fun _ s' hq => wpAny_pure (wpAny_pure hq)) fun _ _ e => e)
  obtain ⟨it, fp, tn, J, H2, rfl, I2, T, st2, f2, q⟩ := h2
  refine wpAny_newObj_type ?_
  have fr := I2.fresh
  have I3 : Inv X pins σ (upd H2 s2.heap.objs.size (.lst [])) { s2 with heap := s2.heap.push { cls := .type "list", data := .seq ([] : List Value).toArray } } := I2.lnew (t' := s2.toks) .nil (Nat.zero_le _)
  have hD : ∀ b ∈ fp, b ≠ s2.heap.objs.size := fun b hb => by
    obtain ⟨o, e, _⟩ := T.obj 0 _ st2 b hb
    exact Nat.ne_of_lt (Heap.lt_size e)
  have f3 := Inv.fp_upd (o := .lst []) f2 hD
  have st3 : tn 0 (s2.heap.push { cls := .type "list", data := .seq ([] : List Value).toArray }) := T.keep 0 _ _ st2 fun b hb o e => Heap.get?_push_of_some _ e
  refine thn (comp_block (px := px) (pos := pos) (iter := iter) (E := X.xe) (RR := compPost (model X.prog X.w) X.A X.xe (some (assign (.Name y py) X.env)) (fun _ s' => SP X pins D .next s') (.ref s2.heap.objs.size) (s2.heap.push { cls := .type "list", data := .seq ([] : List Value).toArray }).objs.size) S hc (he fp) (hif fp) I3 T st3 f3 (q _ fr) nd ?_) fun cenv s4 ⟨e, z⟩ => ?_
  · intro σ' H' s' J' q'
    have neL : (s2.heap.push { cls := .type "list", data := .seq ([] : List Value).toArray }).objs.size ≠ X.env.locals := Nat.ne_of_gt I3.lt
    have I4 : Inv X pins σ H' { s' with heap := s'.heap } := comp_out I3 f3 J' (.refl ..)
    show wpAny (model X.prog X.w) X.A (assign (.Name y py) X.env (.ref s2.heap.objs.size)) _ X.xe s'
    refine wpAny_assign_Name (store_ok2 (s := s') I4 hN hy (.inl hyl) (show RelV (.ref s2.heap.objs.size) _ from rfl) (fun s6 I6 ⟨a, sb, ha⟩ => ?_) (.inr hyl))
    have ha' : a ≠ (s2.heap.push { cls := .type "list", data := .seq ([] : List Value).toArray }).objs.size := by
      rcases ha with ha | ha
      · rw [ha]; exact Ne.symm neL
      · obtain ⟨v, z⟩ := I3.cell y a ha
        exact Nat.ne_of_lt z.lt
    obtain ⟨m, hn, _⟩ := J'.loc
    refine ⟨m, hn.sameBut sb (Ne.symm ha'), fun h'' sb2 => ⟨σ.set i (some (.ref s2.heap.objs.size)), H', ?_, q'⟩⟩
    -- the block's dict is not ours: its change is no matter
    have I7 : Inv X pins (σ.set i (some (.ref s2.heap.objs.size))) H' s6 := I6
    have hCn : H' (s2.heap.push { cls := .type "list", data := .seq ([] : List Value).toArray }).objs.size = none := J'.free
    refine I7.turned (s := s6) (t' := s6.toks) (it := (s2.heap.push { cls := .type "list", data := .seq ([] : List Value).toArray }).objs.size) (fun b o hb e => (sb2.2 b hb).trans e) hCn neL (.inr (Nat.le_trans I3.sz (Nat.le_refl _))) (fun y c e z => ?_) fun p hp z => ?_
    · obtain ⟨v, q⟩ := I3.cell y c e
      exact absurd z (Nat.ne_of_lt q.lt)
    · exact absurd z (Nat.ne_of_lt (Heap.lt_size (I3.pin p hp).1))
  · rw [← show cenv.locals = (s2.heap.push { cls := .type "list", data := .seq ([] : List Value).toArray }).objs.size from e] at z; exact z
end
theorem comp_range {lo : Int} {n : Nat} {D : Addr} {Q : VK} {te : TE} {c : St} {H0 : Hp} (Pv : Nat → Hp → Prop) (h0 : Pv 0 H0)
    (hs : ∀ i H, i < n → Pv i H → te (some (.int (lo + i)) :: c) H fun y H2 => ∃ ys, H2 D = some (.lst ys) ∧ ys.length < sizeLine ∧ Pv (i + 1) (upd H2 D (.lst (ys ++ [y])))) (hd : ∀ H, Pv n H → Q (.ref D) H) :
    compGo (Itr lo n) D Q tYes te c H0 := by
  refine ⟨fun i m H' => m = n - i ∧ i ≤ n ∧ Pv i H', ⟨n, by simp, Nat.zero_le _, h0⟩, ?_⟩
  rintro i m H' ⟨rfl, hi, p⟩
  by_cases hlt : i < n
  · refine .inr ⟨hlt, Pv (i + 1), fun H'' p => ⟨n - (i + 1), by omega, rfl, hlt, p⟩, fun v H2 y => ?_⟩
    obtain ⟨e, y⟩ := y
    subst e y
    exact iteT (B := Pv (i + 1) H2) (hs i H2 hlt p)
  · have e : i = n := by omega
    subst e
    exact .inl ⟨Nat.le_refl _, hd H' p⟩
theorem comp_listIf {K : PySem.W.Frag} {a : Addr} {xs : List V} {D : Addr} {Q : VK} {ti : TT} {te : TE} {c : St} {H0 : Hp} (Pv : Nat → Hp → Prop) (h0 : Pv 0 H0) (hl : ∀ i H, i ≤ xs.length → Pv i H → SqL K H a xs)
    (hs : ∀ i x H, xs[i]? = some x → Pv i H → ti (some x :: c) H fun b H1 => if b = true then te (some x :: c) H1 fun y H2 => ∃ ys, H2 D = some (.lst ys) ∧ ys.length < sizeLine ∧ Pv (i + 1) (upd H2 D (.lst (ys ++ [y]))) else Pv (i + 1) H1) (hd : ∀ H, Pv xs.length H → Q (.ref D) H) :
    compGo (Itl K a) D Q ti te c H0 := by
  refine ⟨fun i m H' => m = xs.length - i ∧ i ≤ xs.length ∧ Pv i H', ⟨xs.length, by simp, Nat.zero_le _, h0⟩, ?_⟩
  rintro i m H' ⟨rfl, hi, p⟩
  have q := hl i H' hi p
  by_cases hlt : i < xs.length
  · refine .inr ⟨⟨xs, xs[i], q, by simp [hlt]⟩, Pv (i + 1), fun H'' p => ⟨xs.length - (i + 1), by omega, rfl, hlt, p⟩, fun v H2 y => ?_⟩
    obtain ⟨e, y⟩ := y
    subst e
    exact hs i v H2 (y xs q) p
  · have e : i = xs.length := by omega
    subst e
    exact .inl ⟨⟨xs, q, Nat.le_refl _⟩, hd H' p⟩
def Its (x : Str) : It := ⟨fun i _ => i < x.cps.size, fun i H v H' => H' = H ∧ ∃ c, x.cps[i]? = some c ∧ v = .str ⟨#[c]⟩, fun i _ => i = x.cps.size⟩
theorem turn_str {P : Program} {w : World} {K : PySem.W.Frag} {tg : Expr} (x : Str) (t : Tok) (T : String) (it : Addr) (hT : T = "str_ascii_iterator" ∨ T = "str_iterator") : Turn P w K tg (Its x) [it] it (fun i h => h.IsStrIter it T x t i) where
  mem := by simp
  obj := fun i h st b hb => by
    have e : b = it := by simpa using hb
    subst e
    obtain ⟨o, e, c, d⟩ := st
    exact ⟨o, e, fun v z => by rw [d] at z; cases z⟩
  keep := fun i h h' st k => by
    obtain ⟨o, e, r⟩ := st
    exact ⟨o, k it (by simp) o e, r⟩
  item := by
    intro X hP hw hK hc i pins s σ H E I hf st hg
    subst hP hw hK
    obtain ⟨f0, f1, f2, f3, f4, f5⟩ := hf it (by simp)
    have hn : ["enumerate", "zip", "dict_itemiterator", "dict_reverseitemiterator", "odict_iterator", "itertools.zip_longest", "itertools.pairwise"].contains T = false := by rcases hT with rfl | rfl <;> decide
    have fin : ∀ (v : Value) (h' : Heap) (tk : Nat), SignAt x i v → h'.IsStrIter it T x t (i + 1) → (∀ b o, b ∉ [it] → s.heap.get? b = some o → h'.get? b = some o) →
        ∃ u, some v = some u ∧ wpAny (model X.prog X.w) X.A (letOwnedTupleGo tg (.ref it) u) (fun _ s2 => ∃ y H', Inv X pins σ H' s2 ∧ RelV y u ∧ (Its x).yld i H y H' ∧ s2.heap.IsStrIter it T x t (i + 1) ∧ ∀ b ∈ [it], H' b = none) E { s with heap := h', toks := tk } := fun v h' tk hv st' kk => by
      obtain ⟨c, u, hc', rfl⟩ := hv
      have I1 : Inv X pins σ H { s with heap := h', toks := tk } := I.turned (fun b o hb e => kk b o (by simpa using hb) e) f0 f1 f3 f4 f5
      obtain ⟨o, e, c2, d⟩ := id st'
      exact ⟨_, rfl, go_of (s := { s with heap := h', toks := tk }) e c2 d hn ⟨.str ⟨#[c]⟩, H, I1, ⟨u, rfl⟩, ⟨rfl, c, hc', rfl⟩, st', fun b hb => (hf b hb).1⟩⟩
    rcases hT with rfl | rfl
    · exact (Walks.strAscii (prog := X.prog) (w := X.w) (I.ok.hd hc) it x t).item i s _ _ hg st fin
    · exact (Walks.strWide (prog := X.prog) (w := X.w) (I.ok.hd hc) it x t).item i s _ _ hg st fin
  done := by
    intro X hP hw hK hc i pins s σ H E I hf st hg
    subst hP hw hK
    obtain ⟨f0, f1, f2, f3, f4, f5⟩ := hf it (by simp)
    have hi : i = x.cps.size := hg
    subst hi
    have fin : ∀ (h' : Heap) (tk : Nat), (∀ b o, b ∉ [it] → s.heap.get? b = some o → h'.get? b = some o) → (none : Option Value) = none ∧ Inv X pins σ H { s with heap := h', toks := tk } := fun h' tk kk =>
      ⟨rfl, I.turned (fun b o hb e => kk b o (by simpa using hb) e) f0 f1 f3 f4 f5⟩
    rcases hT with rfl | rfl
    · exact (Walks.strAscii (prog := X.prog) (w := X.w) (I.ok.hd hc) it x t).done s _ _ st fin
    · exact (Walks.strWide (prog := X.prog) (w := X.w) (I.ok.hd hc) it x t).done s _ _ st fin
  self := fun A i s Q E st h => by
    rcases hT with rfl | rfl
    · exact wpAny_pyIter_striter_ascii st h
    · exact wpAny_pyIter_striter_wide st h
section
variable {X : Cx} {tg : Expr}
def iStr (tl : TE) : TI := fun σ H R => tl σ H fun x H1 => ∃ z, x = .str z ∧ R (Its z) H1
theorem pi_str {l : Expr} {tl : TE} (hl : PE X l tl) : PI X tg l (iStr tl) := by
  intro pins s σ H R I h
  refine thn (hl pins s σ H _ I h) fun v s1 ⟨x, H1, I1, r1, q1⟩ => ?_
  obtain ⟨z, e, q⟩ := q1
  subst e
  obtain ⟨t, rfl⟩ := r1
  refine wpAny_pyIter_strU ?_
  refine ⟨s1.heap.objs.size, [s1.heap.objs.size], _, _, H1, rfl, I1.kept (t' := s1.toks) fun b o e => Heap.get?_push_of_some _ e, turn_str z t (strIterType z) _ (by unfold strIterType; split <;> simp), ⟨_, Heap.get?_push_size _ rfl, rfl, rfl⟩, fun b hb => ?_, q⟩
  have e : b = s1.heap.objs.size := by simpa using hb
  subst e
  exact I1.fpOk (Nat.le_refl _) (I1.hok.fresh (Nat.le_refl _))
end
abbrev S (w : List Nat) : Str := ⟨w.toArray⟩
theorem for_str {w : List Nat} {g : TG} {tb : TS} {D : Ends} {σ : St} {H : Hp} (Pv : Nat → St → Hp → Prop) (h0 : Pv 0 σ H)
    (hs : ∀ i c σ H, w[i]? = some c → Pv i σ H → g (.str (S [c])) σ H fun σ2 H2 => tb { D with nx := Pv (i + 1), ct := Pv (i + 1), bk := D.nx } σ2 H2) (hd : ∀ σ H, Pv w.length σ H → D.nx σ H) :
    ∃ W : Nat → Nat → St → Hp → Prop, (∃ m, W 0 m σ H) ∧ ∀ i m σ H, W i m σ H →
      ((Its (S w)).stop i H ∧ D.nx σ H) ∨ ((Its (S w)).go i H ∧ ∃ N : St → Hp → Prop, (∀ σ' H', N σ' H' → ∃ m', m' < m ∧ W (i + 1) m' σ' H') ∧ ∀ x H', (Its (S w)).yld i H x H' → g x σ H' fun σ2 H2 => tb { D with nx := N, ct := N, bk := D.nx } σ2 H2) := by
  refine ⟨fun i m σ H => m = w.length - i ∧ i ≤ w.length ∧ Pv i σ H, ⟨w.length, by simp, Nat.zero_le _, h0⟩, ?_⟩
  rintro i m σ H ⟨rfl, hi, p⟩
  by_cases hlt : i < w.length
  · refine .inr ⟨by simpa [Its] using hlt, Pv (i + 1), fun σ' H' p' => ⟨w.length - (i + 1), by omega, rfl, hlt, p'⟩, fun x H' y => ?_⟩
    obtain ⟨e, c, hc, rfl⟩ := y
    subst e
    exact hs i c σ _ (by simpa using hc) p
  · have e : i = w.length := by omega
    subst e
    exact .inl ⟨by simp [Its], hd σ H p⟩
theorem comp_strIf {w : List Nat} {D : Addr} {Q : VK} {ti : TT} {te : TE} {c : St} {H0 : Hp} (Pv : Nat → Hp → Prop) (h0 : Pv 0 H0)
    (hs : ∀ i k H, w[i]? = some k → Pv i H → ti (some (.str (S [k])) :: c) H fun b H1 => if b = true then te (some (.str (S [k])) :: c) H1 fun y H2 => ∃ ys, H2 D = some (.lst ys) ∧ ys.length < sizeLine ∧ Pv (i + 1) (upd H2 D (.lst (ys ++ [y]))) else Pv (i + 1) H1) (hd : ∀ H, Pv w.length H → Q (.ref D) H) :
    compGo (Its (S w)) D Q ti te c H0 := by
  refine ⟨fun i m H' => m = w.length - i ∧ i ≤ w.length ∧ Pv i H', ⟨w.length, by simp, Nat.zero_le _, h0⟩, ?_⟩
  rintro i m H' ⟨rfl, hi, p⟩
  by_cases hlt : i < w.length
  · refine .inr ⟨by simpa [Its] using hlt, Pv (i + 1), fun H'' p => ⟨w.length - (i + 1), by omega, rfl, hlt, p⟩, fun v H2 y => ?_⟩
    obtain ⟨e, k, hk, rfl⟩ := y
    subst e
    exact hs i k H2 (by simpa using hk) p
  · have e : i = w.length := by omega
    subst e
    exact .inl ⟨by simp [Its], hd H' p⟩
section
variable {X : Cx}
def rTab (a : Addr) (D : List (PyData × PyData)) : R2 := fun x y H Q => x = .ref a ∧ ∃ z, y = .str z ∧ ((∃ v, lookup (.str z) D = some (.str v) ∧ Q (.str v) H) ∨ ∃ i, lookup (.str z) D = some (.int i) ∧ Q (.int i) H)
theorem ix_tab {a : Addr} {D : List (PyData × PyData)} (T : ∀ h, X.K.In h → StrTab X.prog X.w h a D) : IxR X (rTab a D) := by
  intro value slice pins s σ H x y v u Q I rx ry h hs
  obtain ⟨rfl, z, rfl, q⟩ := h
  cases rx
  obtain ⟨t, rfl⟩ := ry
  obtain ⟨lo, kvs, hd, hf⟩ := T s.heap I.kIn
  rcases q with ⟨y, hl, q⟩ | ⟨y, hl, q⟩
  · obtain ⟨v, hv, hfl⟩ := hf.of_lookup (enc := PyData.str) PyProof.V.same_str hl
    exact tail_any hd.typeIs slot_dict_getitem.lookup (wpAny_getItem_of (strKind_is X.prog X.w z t) hd.mapOf hv ⟨.str y, H, I.tok _, PyProof.V.Flat.str_inv hfl, q⟩) hs
  · obtain ⟨v, hv, hfl⟩ := hf.of_lookup (enc := PyData.str) PyProof.V.same_str hl
    exact tail_any hd.typeIs slot_dict_getitem.lookup (wpAny_getItem_of (strKind_is X.prog X.w z t) hd.mapOf hv ⟨.int y, H, I.tok _, PyProof.V.Flat.int_inv hfl, q⟩) hs
def rSlS : V → Option Int → Option Int → Hp → VK → Prop := fun x lo hi H Q => ∃ z, x = .str z ∧ z.length ≤ sizeLine ∧ Q (.str (Txt.slice z lo hi)) H
theorem sl_str : SlR X rSlS := by
  intro pins s σ H x v vl vu lo hi sl Q I rx hs pl pu h
  obtain ⟨z, rfl, hz, q⟩ := h
  obtain ⟨t, rfl⟩ := rx
  refine ⟨"str", _, F.slot_str_getitem.lookup, typeIs_str _ _ _, ?_⟩
  obtain ⟨o, ho, hc, hd⟩ := hs
  have fin : ∀ t' k, EP X pins σ Q (.str (Txt.slice z lo hi) t') { s with toks := k } := fun t' k => ⟨.str (Txt.slice z lo hi), H, I.tok _, ⟨t', rfl⟩, q⟩
  cases pl with
  | none =>
    cases pu with
    | none => exact wpAny_getItem_str_slice (l := none) (u := none) (st := none) ⟨o, ho, hc, hd⟩ rfl (post_val_or_str ⟨Nat.le_trans (Txt.slice_le z _ _) hz, fin⟩)
    | int j uj => exact wpAny_getItem_str_slice (l := none) (u := some (j, uj)) (st := none) ⟨o, ho, hc, hd⟩ rfl (post_val_or_str ⟨Nat.le_trans (Txt.slice_le z _ _) hz, fin⟩)
  | int i ui =>
    cases pu with
    | none => exact wpAny_getItem_str_slice (l := some (i, ui)) (u := none) (st := none) ⟨o, ho, hc, hd⟩ rfl (post_val_or_str ⟨Nat.le_trans (Txt.slice_le z _ _) hz, fin⟩)
    | int j uj => exact wpAny_getItem_str_slice (l := some (i, ui)) (u := some (j, uj)) (st := none) ⟨o, ho, hc, hd⟩ rfl (post_val_or_str ⟨Nat.le_trans (Txt.slice_le z _ _) hz, fin⟩)
theorem mt_islower : MtR X "str.islower" (fun x xs H Q => ∃ z, x = .str z ∧ xs = [] ∧ Q (.bl (Txt.islower z)) H) := by
  intro pins s σ H x xs v us Q I rx rs h
  obtain ⟨z, rfl, rfl, q⟩ := h
  obtain ⟨t, rfl⟩ := rx
  cases rs
  exact SC.islower ⟨.bl _, H, I, rfl, q⟩
theorem mt_upper : MtR X "str.upper" (fun x xs H Q => ∃ z, x = .str z ∧ xs = [] ∧ Builtin.Str.tooLong (Txt.upper z).length = false ∧ Q (.str (Txt.upper z)) H) := by
  intro pins s σ H x xs v us Q I rx rs h
  obtain ⟨z, rfl, rfl, hf, q⟩ := h
  obtain ⟨t, rfl⟩ := rx
  cases rs
  exact SC.upper hf ⟨.str _, H, I.tok _, ⟨_, rfl⟩, q⟩
theorem mt_lower : MtR X "str.lower" (fun x xs H Q => ∃ z, x = .str z ∧ xs = [] ∧ Builtin.Str.tooLong (Txt.lower z).length = false ∧ Q (.str (Txt.lower z)) H) := by
  intro pins s σ H x xs v us Q I rx rs h
  obtain ⟨z, rfl, rfl, hf, q⟩ := h
  obtain ⟨t, rfl⟩ := rx
  cases rs
  exact SC.lower hf ⟨.str _, H, I.tok _, ⟨_, rfl⟩, q⟩
theorem strsAre_of : ∀ {zs : List Str} {us : List Value}, Vals (zs.map V.str) us → StrsAre us zs
  | [], _, r => by
    cases r
    exact .nil
  | z :: zs, _, r => by
    rw [List.map_cons] at r
    cases r with
    | cons r1 r2 =>
      obtain ⟨t, rfl⟩ := r1
      exact .cons z t (strsAre_of r2)
theorem mt_join : MtR X "str.join" (fun x xs H Q => ∃ z a zs, x = .str z ∧ xs = [.ref a] ∧ SqL X.K H a (zs.map V.str) ∧ (zs.map (·.length)).sum + zs.length * z.length ≤ 16777216 ∧ Q (.str (Txt.join z zs)) H) := by
  intro pins s σ H x xs v us Q I rx rs h
  obtain ⟨z, a, zs, rfl, rfl, hq, hz, q⟩ := h
  obtain ⟨t, rfl⟩ := rx
  obtain ⟨u, rfl, ru⟩ := rs.one
  cases ru
  obtain ⟨its, r, pl, _⟩ := I.list hq
  exact join_list pl.isList (by simpa using strsAre_of r) hz fun t' k => ⟨.str _, H, I.tok _, ⟨t', rfl⟩, q⟩
end
def tyNames : List String := ["str", "int", "bool", "list", "tuple", "NoneType", "dict"]
def clNames : List String := ["list", "tuple", "bool", "str", "int"]
def subT (t c : String) : Bool := t == c || (t == "bool" && c == "int")
theorem kit_str (K : PySem.W.Frag) (c : String) (h : c ∈ clNames) : PySem.W.kitOne K (.type "str") (.type c) = some (subT "str" c) := by
  simp only [clNames, List.mem_cons, List.not_mem_nil, or_false] at h
  rcases h with rfl | rfl | rfl | rfl | rfl <;> kernel_rfl
theorem kit_int (K : PySem.W.Frag) (c : String) (h : c ∈ clNames) : PySem.W.kitOne K (.type "int") (.type c) = some (subT "int" c) := by
  simp only [clNames, List.mem_cons, List.not_mem_nil, or_false] at h
  rcases h with rfl | rfl | rfl | rfl | rfl <;> kernel_rfl
theorem kit_bool (K : PySem.W.Frag) (c : String) (h : c ∈ clNames) : PySem.W.kitOne K (.type "bool") (.type c) = some (subT "bool" c) := by
  simp only [clNames, List.mem_cons, List.not_mem_nil, or_false] at h
  rcases h with rfl | rfl | rfl | rfl | rfl <;> kernel_rfl
theorem kit_list (K : PySem.W.Frag) (c : String) (h : c ∈ clNames) : PySem.W.kitOne K (.type "list") (.type c) = some (subT "list" c) := by
  simp only [clNames, List.mem_cons, List.not_mem_nil, or_false] at h
  rcases h with rfl | rfl | rfl | rfl | rfl <;> kernel_rfl
theorem kit_tuple (K : PySem.W.Frag) (c : String) (h : c ∈ clNames) : PySem.W.kitOne K (.type "tuple") (.type c) = some (subT "tuple" c) := by
  simp only [clNames, List.mem_cons, List.not_mem_nil, or_false] at h
  rcases h with rfl | rfl | rfl | rfl | rfl <;> kernel_rfl
theorem kit_none (K : PySem.W.Frag) (c : String) (h : c ∈ clNames) : PySem.W.kitOne K (.type "NoneType") (.type c) = some (subT "NoneType" c) := by
  simp only [clNames, List.mem_cons, List.not_mem_nil, or_false] at h
  rcases h with rfl | rfl | rfl | rfl | rfl <;> kernel_rfl
theorem kit_dict (K : PySem.W.Frag) (c : String) (h : c ∈ clNames) : PySem.W.kitOne K (.type "dict") (.type c) = some (subT "dict" c) := by
  simp only [clNames, List.mem_cons, List.not_mem_nil, or_false] at h
  rcases h with rfl | rfl | rfl | rfl | rfl <;> kernel_rfl
theorem kit_all (K : PySem.W.Frag) (t c : String) (ht : t ∈ tyNames) (h : c ∈ clNames) : PySem.W.kitOne K (.type t) (.type c) = some (subT t c) := by
  simp only [tyNames, List.mem_cons, List.not_mem_nil, or_false] at ht
  rcases ht with rfl | rfl | rfl | rfl | rfl | rfl | rfl
  · exact kit_str K c h
  · exact kit_int K c h
  · exact kit_bool K c h
  · exact kit_list K c h
  · exact kit_tuple K c h
  · exact kit_none K c h
  · exact kit_dict K c h
section
variable {X : Cx}
inductive BTy (K : PySem.W.Frag) (H : Hp) : V → String → Prop where
  | non : BTy K H .non "NoneType"
  | bl (x : Bool) : BTy K H (.bl x) "bool"
  | int (i : Int) : BTy K H (.int i) "int"
  | str (x : Str) : BTy K H (.str x) "str"
  | lst {a : Addr} {xs : List V} (e : SqL K H a xs) : BTy K H (.ref a) "list"
  | tup {a : Addr} {xs : List V} (e : SqT K H a xs) : BTy K H (.ref a) "tuple"
theorem BTy.mem {K : PySem.W.Frag} {H : Hp} {x : V} {t : String} (h : BTy K H x t) : t ∈ tyNames := by cases h <;> decide
theorem isi_one {pins : List (Addr × Obj)} {σ : St} {H : Hp} {s : Shared} {A : Around} {E : Value → Shared → Prop} {Q : Value → Shared → Prop} {x : V} {u : Value} {t c : String} (I : Inv X pins σ H s) (rx : RelV x u) (ty : BTy X.K H x t) (hc : c ∈ clNames)
    (h : ∀ tk, Q (.bool (subT t c)) { s with toks := tk }) : wpAny (model X.prog X.w) A (call (.builtin "isinstance") [u, .type c]) Q E s := by
  have e := kit_all X.K t c ty.mem hc
  cases ty with
  | non => cases (show u = Value.none from rx); exact PySem.W.kia_one PySem.W.kitx_none I.kIn True.intro e (fun z => nomatch z) h
  | bl y => cases (show u = Value.bool y from rx); exact PySem.W.kia_one PySem.W.kitx_bool I.kIn True.intro e (fun z => nomatch z) h
  | int i => obtain ⟨t, q⟩ := (show ∃ t, u = Value.int i t from rx); cases q; exact PySem.W.kia_one PySem.W.kitx_int I.kIn True.intro e (fun z => nomatch z) h
  | str y => obtain ⟨t, q⟩ := (show ∃ t, u = Value.str y t from rx); cases q; exact PySem.W.kia_one PySem.W.kitx_str I.kIn True.intro e (fun z => nomatch z) h
  | @lst a xs ea =>
    cases (show u = Value.ref a from rx)
    obtain ⟨its, _, ⟨o, n, h1, h2, _⟩, _⟩ := I.list ea
    exact PySem.W.kia_one PySem.W.kitx_list I.kIn ⟨o, h1, h2⟩ e (fun z => nomatch z) h
  | @tup a xs ea =>
    cases (show u = Value.ref a from rx)
    obtain ⟨its, _, ⟨o, h1, h2, _⟩, _⟩ := I.tuple ea
    exact PySem.W.kia_one PySem.W.kitx_tuple I.kIn ⟨o, h1, h2⟩ e (fun z => nomatch z) h
theorem kitAny_two {K : PySem.W.Frag} {t c d : String} (ht : t ∈ tyNames) (hc : c ∈ clNames) (hd : d ∈ clNames) : PySem.W.kitAny K (.type t) [.type c, .type d] = some (subT t c || subT t d) := by
  unfold PySem.W.kitAny
  rw [kit_all K t c ht hc]
  cases subT t c with
  | true => rfl
  | false =>
    dsimp only
    unfold PySem.W.kitAny
    rw [kit_all K t d ht hd]
    cases subT t d <;> rfl
theorem isi_two {pins : List (Addr × Obj)} {σ : St} {H : Hp} {s : Shared} {A : Around} {E : Value → Shared → Prop} {Q : Value → Shared → Prop} {x : V} {u : Value} {t c d : String} {p : Addr} (I : Inv X pins σ H s) (rx : RelV x u) (ty : BTy X.K H x t) (hp : H p = some (.tup [.ty c, .ty d])) (hc : c ∈ clNames) (hd : d ∈ clNames)
    (h : ∀ tk, Q (.bool (subT t c || subT t d)) { s with toks := tk }) : wpAny (model X.prog X.w) A (call (.builtin "isinstance") [u, .ref p]) Q E s := by
  have e := kitAny_two (K := X.K) ty.mem hc hd
  obtain ⟨_, its, r, ot, h1, h2, n, h3⟩ := I.hok p _ hp
  obtain ⟨u1, u2, rfl, r1, r2⟩ := r.two
  cases (show u1 = Value.type c from r1)
  cases (show u2 = Value.type d from r2)
  obtain ⟨cl, dd, dt, sl⟩ := ot
  have h2' : cl = .type "tuple" := h2
  have h3' : dt = .seq [Value.type c, Value.type d].toArray n := h3
  subst h2' h3'
  cases ty with
  | non => cases (show u = Value.none from rx); exact PySem.W.kia_tup PySem.W.kitx_none I.kIn True.intro h1 e (fun z => nomatch z) h
  | bl y => cases (show u = Value.bool y from rx); exact PySem.W.kia_tup PySem.W.kitx_bool I.kIn True.intro h1 e (fun z => nomatch z) h
  | int i => obtain ⟨t, q⟩ := (show ∃ t, u = Value.int i t from rx); cases q; exact PySem.W.kia_tup PySem.W.kitx_int I.kIn True.intro h1 e (fun z => nomatch z) h
  | str y => obtain ⟨t, q⟩ := (show ∃ t, u = Value.str y t from rx); cases q; exact PySem.W.kia_tup PySem.W.kitx_str I.kIn True.intro h1 e (fun z => nomatch z) h
  | @lst a xs ea =>
    cases (show u = Value.ref a from rx)
    obtain ⟨its, _, ⟨o, n, g1, g2, _⟩, _⟩ := I.list ea
    exact PySem.W.kia_tup PySem.W.kitx_list I.kIn ⟨o, g1, g2⟩ h1 e (fun z => nomatch z) h
  | @tup a xs ea =>
    cases (show u = Value.ref a from rx)
    obtain ⟨its, _, ⟨o, g1, g2, _⟩, _⟩ := I.tuple ea
    exact PySem.W.kia_tup PySem.W.kitx_tuple I.kIn ⟨o, g1, g2⟩ h1 e (fun z => nomatch z) h
def rIsi (K : PySem.W.Frag) : List V → Hp → VK → Prop := fun xs H Q => ∃ x t, BTy K H x t ∧
  ((∃ c, xs = [x, .ty c] ∧ c ∈ clNames ∧ Q (.bl (subT t c)) H) ∨ ∃ c d p, xs = [x, .ref p] ∧ H p = some (.tup [.ty c, .ty d]) ∧ c ∈ clNames ∧ d ∈ clNames ∧ Q (.bl (subT t c || subT t d)) H)
theorem call_isi : CallR X (.builtin "isinstance") (rIsi X.K) := by
  intro pins s σ H xs us Q I r h
  obtain ⟨x, t, ty, ⟨c, rfl, hc, q⟩ | ⟨c, d, p, rfl, hp, hc, hd, q⟩⟩ := h
  · obtain ⟨u, v, rfl, r1, r2⟩ := r.two
    cases (show v = Value.type c from r2)
    exact isi_one I r1 ty hc fun tk => ⟨.bl _, H, I.tok _, rfl, q⟩
  · obtain ⟨u, v, rfl, r1, r2⟩ := r.two
    cases (show v = Value.ref p from r2)
    exact isi_two I r1 ty hp hc hd fun tk => ⟨.bl _, H, I.tok _, rfl, q⟩
theorem pe_ty {x : Str} {T : String} {pos : Pos} (hg : Gl X x) (hm : X.mg x = none) (hv : bootBuiltins x = some (.type T)) (hn : x ≠ "__name__" := by decide) (hd : (x == ("__debug__" : Str)) = false := by decide) : PE X (.Name x pos) (tC (.ty T)) := pe_bltn hg hm hv rfl hn hd
theorem boolsAre_of : ∀ {bs : List Bool} {us : List Value}, Vals (bs.map V.bl) us → LSm.BoolsAre us bs
  | [], _, r => by
    cases r
    exact .nil
  | b :: bs, _, r => by
    rw [List.map_cons] at r
    cases r with
    | cons r1 r2 =>
      cases (show _ = Value.bool b from r1)
      exact .cons b (boolsAre_of r2)
theorem call_allB (hc : X.calm = true) : CallR X (.builtin "all") (fun xs H Q => ∃ (a : Addr) (bs : List Bool), xs = [.ref a] ∧ SqL X.K H a (bs.map V.bl) ∧ Q (.bl (bs.all id)) H) := by
  intro pins s σ H xs us Q I r h
  obtain ⟨a, bs, rfl, hq, q⟩ := h
  obtain ⟨u, rfl, ru⟩ := r.one
  cases ru
  obtain ⟨its, rv, pl, _⟩ := I.list hq
  have hl := pl.isList
  have hb := boolsAre_of rv
  have hlt : a < s.heap.objs.size := by obtain ⟨_, e, _⟩ := hl; exact Heap.lt_size e
  refine call_all_walk (wpAny_pyIter_list hl ?_)
  refine ⟨s.heap.objs.size, [s.heap.objs.size, a], [s.heap.objs.size], its.toArray.size, _, _, fun i => (bs[i]?).getD true, rfl, Walks.list (A := X.A.in1) (I.ok.hd hc) _ a (Nat.ne_of_lt hlt) its.toArray,
    ⟨⟨_, Heap.get?_push_size _ rfl, rfl, rfl⟩, hl.push _⟩, fun i v s' Q' E' hP hQ => ?_, fun h' tk hk => ?_⟩
  · obtain ⟨b, e, rfl⟩ := hb.get i v (by simpa using hP)
    simp only [e, Option.getD_some] at hQ
    exact wpAny_truthy_bool hQ
  · have e : ((List.range its.toArray.size).all fun i => (bs[i]?).getD true) = bs.all id := by
      rw [List.size_toArray, hb.length]; exact LSm.range_all bs
    rw [e]
    exact ⟨.bl _, H, I.kept (t' := tk) (LSm.kept_iter hk), rfl, q⟩
end
end L2
namespace PySem
open Sem (wp)
namespace F
end F
section
variable {prog : Program} {w : World} {A : Around} {E : Value → Shared → Prop} {s : Shared}
end
end PySem
namespace L2
open PySem PySem.Spec PyProof.Rows
section
variable {X : Cx} {tg : Expr}
end
def eqVs : List V → List V → Bool
  | [], [] => true
  | x :: xs, y :: ys => eqV x y && eqVs xs ys
  | _, _ => false
theorem eqVs_len : ∀ {xs ys : List V}, xs.length ≠ ys.length → eqVs xs ys = false
  | [], [], h => absurd rfl h
  | [], _ :: _, _ => rfl
  | _ :: _, [], _ => rfl
  | x :: xs, y :: ys, h => by unfold eqVs; rw [eqVs_len (by simpa using h), Bool.and_false]
theorem range_succ_all (n : Nat) (e : Nat → Bool) : (List.range (n + 1)).all e = (e 0 && (List.range n).all fun i => e (i + 1)) := by
  rw [List.range_succ_eq_map, List.all_cons, List.all_map]; rfl
theorem eqVs_range : ∀ {xs ys : List V}, xs.length = ys.length → (List.range xs.length).all (fun i => match xs[i]?, ys[i]? with | some x, some y => eqV x y | _, _ => true) = eqVs xs ys
  | [], [], _ => rfl
  | [], _ :: _, h => by simp at h
  | _ :: _, [], h => by simp at h
  | x :: xs, y :: ys, h => by
    have h' : xs.length = ys.length := by simpa using h
    rw [List.length_cons, range_succ_all]
    unfold eqVs
    rw [← eqVs_range h']
    simp
section
variable {X : Cx}
theorem pairs_eq {A : Around} {s : Shared} {xs ys : List V} {us vs : List Value} (rx : Vals xs us) (ry : Vals ys vs) (fx : xs.all flatV = true) (fy : ys.all flatV = true) :
    ∀ (j : Nat) (h1 : j < us.toArray.size) (h2 : j < vs.toArray.size), SeqAt.EqAt A s us.toArray[j] vs.toArray[j] (match xs[j]?, ys[j]? with | some x, some y => eqV x y | _, _ => true) := fun j h1 h2 => by
  have hx : j < xs.length := by rw [rx.length]; simpa using h1
  have hy : j < ys.length := by rw [ry.length]; simpa using h2
  obtain ⟨u, hu, ru⟩ := rx.get (List.getElem?_eq_getElem hx)
  obtain ⟨v, hv, rv⟩ := ry.get (List.getElem?_eq_getElem hy)
  have eu : us.toArray[j] = u := by
    have : us[j]? = some us.toArray[j] := by rw [List.getElem?_eq_getElem (by simpa using h1)]; simp
    rw [hu] at this; exact (Option.some.inj this).symm
  have ev : vs.toArray[j] = v := by
    have : vs[j]? = some vs.toArray[j] := by rw [List.getElem?_eq_getElem (by simpa using h2)]; simp
    rw [hv] at this; exact (Option.some.inj this).symm
  rw [eu, ev, List.getElem?_eq_getElem hx, List.getElem?_eq_getElem hy]
  exact eqAt_V ru rv (List.all_eq_true.mp fx _ (List.getElem_mem hx)) (List.all_eq_true.mp fy _ (List.getElem_mem hy))
def rEqL (K : PySem.W.Frag) (neg : Bool) : R2 := fun x y H Q => ∃ a b xs ys, x = .ref a ∧ y = .ref b ∧ ((SqL K H a xs ∧ SqL K H b ys) ∨ (SqT K H a xs ∧ SqT K H b ys)) ∧ xs.all flatV = true ∧ ys.all flatV = true ∧ Q (.bl (if neg then !eqVs xs ys else eqVs xs ys)) H
theorem op_eqL (hu : X.A.units < cLine) : OpR X (compareOp .Eq) (rEqL X.K false) := by
  intro pins s σ H x y v u Q I rx ry h
  obtain ⟨a, b, xs, ys, rfl, rfl, hq, fx, fy, q⟩ := h
  cases rx
  cases ry
  rcases hq with ⟨ha, hb⟩ | ⟨ha, hb⟩
  · obtain ⟨us, r1, p1, _⟩ := I.list ha
    obtain ⟨vs, r2, p2, _⟩ := I.list hb
    by_cases hl : xs.length = ys.length
    · refine SeqAt.eq_listAt p1.isList p2.isList (by simp; rw [← r1.length, ← r2.length]; exact hl) hu (pairs_eq r1 r2 fx fy) ?_
      rw [List.size_toArray, ← r1.length, eqVs_range hl]
      exact ⟨.bl _, H, I, rfl, q⟩
    · refine SeqAt.eq_list_lengthsAt p1.isList p2.isList (by simp; rw [← r1.length, ← r2.length]; exact hl) hu ?_
      rw [eqVs_len hl] at q
      exact ⟨.bl _, H, I, rfl, q⟩
  · obtain ⟨us, r1, p1, _⟩ := I.tuple ha
    obtain ⟨vs, r2, p2, _⟩ := I.tuple hb
    refine SeqAt.eq_tupleAt (show s.heap.IsTuple a us.toArray from p1) (show s.heap.IsTuple b vs.toArray from p2) hu (pairs_eq r1 r2 fx fy) ?_
    refine ⟨.bl _, H, I, rfl, ?_⟩
    have e : ((List.range (min us.toArray.size vs.toArray.size)).all (fun i => match xs[i]?, ys[i]? with | some x, some y => eqV x y | _, _ => true) && us.toArray.size == vs.toArray.size) = eqVs xs ys := by
      rw [List.size_toArray, List.size_toArray, ← r1.length, ← r2.length]
      by_cases hl : xs.length = ys.length
      · rw [← hl, Nat.min_self, eqVs_range hl]; simp
      · rw [eqVs_len hl]; simp [hl]
    rw [e]
    exact q
theorem op_neL (hu : X.A.units < cLine) : OpR X (compareOp .NotEq) (rEqL X.K true) := by
  intro pins s σ H x y v u Q I rx ry h
  obtain ⟨a, b, xs, ys, rfl, rfl, hq, fx, fy, q⟩ := h
  cases rx
  cases ry
  rcases hq with ⟨ha, hb⟩ | ⟨ha, hb⟩
  · obtain ⟨us, r1, p1, _⟩ := I.list ha
    obtain ⟨vs, r2, p2, _⟩ := I.list hb
    by_cases hl : xs.length = ys.length
    · refine EqBoolInt.of_rcne (SeqAt.RcNeAt.lists p1.isList p2.isList (by simp; rw [← r1.length, ← r2.length]; exact hl) hu (pairs_eq r1 r2 fx fy)) ?_
      rw [List.size_toArray, ← r1.length, eqVs_range hl]
      exact ⟨.bl _, H, I, rfl, q⟩
    · refine EqBoolInt.of_rcne (SeqAt.RcNeAt.lists_lengths p1.isList p2.isList (by simp; rw [← r1.length, ← r2.length]; exact hl) hu) ?_
      rw [eqVs_len hl] at q
      exact ⟨.bl _, H, I, rfl, q⟩
  · obtain ⟨us, r1, p1, _⟩ := I.tuple ha
    obtain ⟨vs, r2, p2, _⟩ := I.tuple hb
    refine EqBoolInt.of_rcne (SeqAt.RcNeAt.tuples (show s.heap.IsTuple a us.toArray from p1) (show s.heap.IsTuple b vs.toArray from p2) hu (pairs_eq r1 r2 fx fy)) ?_
    refine ⟨.bl _, H, I, rfl, ?_⟩
    have e : ((List.range (min us.toArray.size vs.toArray.size)).all (fun i => match xs[i]?, ys[i]? with | some x, some y => eqV x y | _, _ => true) && us.toArray.size == vs.toArray.size) = eqVs xs ys := by
      rw [List.size_toArray, List.size_toArray, ← r1.length, ← r2.length]
      by_cases hl : xs.length = ys.length
      · rw [← hl, Nat.min_self, eqVs_range hl]; simp
      · rw [eqVs_len hl]; simp [hl]
    rw [e]
    exact q
theorem call_listStr (hc : X.calm = true) : CallR X (.type "list") (fun xs H Q => ∃ w : List Nat, xs = [.str (S w)] ∧ w.length ≤ 1000 ∧ ∀ l, H l = none → Q (.ref l) (upd H l (.lst (w.map fun c => V.str (S [c]))))) := by
  intro pins s σ H xs us Q I r h
  obtain ⟨w, rfl, hz, q⟩ := h
  obtain ⟨u, rfl, ru⟩ := r.one
  obtain ⟨t, rfl⟩ := ru
  have hz2 : w.length ≤ sizeLine := Nat.le_of_lt (small1000 hz)
  refine call_list_str (I.ok.hd hc) (S w) t (fun h' tk acc c hk hl hit => ?_) (by simpa using hz2)
  have hv : Vals (w.map fun c => V.str (S [c])) acc.toList := by
    have hn : acc.size = w.length := by simpa using hit.1
    have : ∀ (n : Nat) (w : List Nat) (l : List Value), w.length = n → l.length = n → (∀ (j : Nat) (v : Value), l[j]? = some v → ∃ (c : Nat) (u : Tok), w[j]? = some c ∧ v = Value.str ⟨#[c]⟩ u) → Vals (w.map fun c => V.str (S [c])) l := by
      intro n
      induction n with
      | zero =>
        intro w l h1 h2 _
        have e1 := List.length_eq_zero_iff.mp h1
        have e2 := List.length_eq_zero_iff.mp h2
        subst e1 e2
        exact .nil
      | succ n ih =>
        intro w l h1 h2 h3
        cases w with
        | nil => simp at h1
        | cons c w =>
          cases l with
          | nil => simp at h2
          | cons v l =>
            obtain ⟨c', u, hc', rfl⟩ := h3 0 v rfl
            have hc'' : c = c' := by simpa using hc'
            subst hc''
            exact .cons ⟨u, rfl⟩ (ih w l (by simpa using h1) (by simpa using h2) fun j v hv => by simpa using h3 (j + 1) v (by simpa using hv))
    refine this w.length w acc.toList rfl (by simpa using hn) fun j v hv => ?_
    obtain ⟨c, u, hc, hv'⟩ := hit.2 j v (by simpa using hv)
    exact ⟨c, u, by simpa using hc, hv'⟩
  refine ⟨.ref s.heap.objs.size, _, I.laid (t' := tk) (o := .lst (w.map fun c => V.str (S [c]))) hk (Nat.le_refl _) ⟨by rw [List.length_map]; exact hz2, acc.toList, c, hv, ?_⟩, rfl, q _ I.fresh⟩
  simpa using hl
end
def compChk (sc0 scope : Scope) (N : List Str) (x : Str) (ix : List Nat) : Bool :=
  decide (scope.kind = .function) && scope.names.all (fun y => decide (y.2 ≠ .cell)) && scope.names.all (fun y => decide (y.2 = .local → scope.names.lookup y.1 = some .local)) && decide (scope.names.lookup x = some .local) &&
  scope.names.all (fun y => decide (y.2 = .free → sc0.names.lookup y.1 = some .cell ∨ sc0.names.lookup y.1 = some .free)) && ix.all (fun i => decide (i < N.length) && decide (scope.names.lookup (N.getD i "") = some .free)) && decide ((x :: ix.map fun i => N.getD i "").Nodup)
theorem compSc_of {X : Cx} {sc0 scope : Scope} {N : List Str} {x : Str} {ix : List Nat} (h : compChk sc0 scope N x ix = true) (e1 : X.env.scope = sc0) (e2 : X.N = N) : CompSc X scope x ix ∧ (compN X x ix).Nodup := by
  subst e1 e2
  simp only [compChk, Bool.and_eq_true, List.all_eq_true, decide_eq_true_eq] at h
  obtain ⟨⟨⟨⟨⟨⟨h1, h2⟩, h3⟩, h4⟩, h5⟩, h6⟩, h7⟩ := h
  exact ⟨⟨h1, h2, h3, h4, h5, h6⟩, h7⟩
section
variable {prog : Program} {w : World} {A : Around} {E : Value → Shared → Prop} {s : Shared}
theorem draw_list {it t : Addr} {items : Array Value} (hne : t ≠ it) : ∀ (n i : Nat) (s : Shared) (Q : List Value → Shared → Prop), s.heap.IsListIter it t i → s.heap.IsList t items → i + n ≤ items.size →
    (∀ h', h'.IsListIter it t (i + n) → Heap.SameBut it s.heap h' → Q ((items.toList.drop i).take n) { s with heap := h' }) → wpAny (model prog w) A (draw (.ref it) n) Q E s
  | 0, i, s, Q, hit, _, _, hQ => by
    show wpAny _ _ (pure []) Q E s
    exact wpAny_pure (by simpa using hQ s.heap hit (Heap.SameBut.refl ..))
  | n + 1, i, s, Q, hit, ht, hle, hQ => by
    have hlt : i < items.size := by omega
    show wpAny _ _ (pyNext (.ref it) >>= _) Q E s
    refine wpAny_bind (wpAny_pyNext_list_item hit ht (x := items[i]) (by simp [hlt]) fun h₁ hit₁ hs₁ => ?_)
    refine wpAny_bind (wpAny_holding (draw_list hne n (i + 1) _ _ hit₁ (ht.extBut hs₁.extBut hne) (by omega) fun h₂ hit₂ hs₂ => wpAny_pure ?_))
    have hd : items.toList.drop i = items[i] :: items.toList.drop (i + 1) := by simp [List.drop_eq_getElem_cons, hlt]
    have := hQ h₂ (by rw [show i + (n + 1) = i + 1 + n by omega]; exact hit₂) (hs₁.trans hs₂)
    rw [hd, List.take_succ_cons] at this
    exact this
theorem unpackItems_list {t : Addr} {items : Array Value} {Q : List Value → Shared → Prop} (hh : A.handled = none) (ht : s.heap.IsList t items)
    (hQ : ∀ h', Heap.ExtBut s.heap.objs.size s.heap h' → Q items.toList { s with heap := h' }) : wpAny (model prog w) A (unpackItems (.ref t) items.size none) Q E s := by
  have hlt : t ≠ s.heap.objs.size := by obtain ⟨o, ho, _⟩ := ht; exact Nat.ne_of_lt (Heap.lt_size ho)
  unfold unpackItems
  refine wpAny_bind ?_
  · unfold notIterableAtAll
    refine wpAny_bind (wpAny_specialOf ht.typeIs slot_list_iter.lookup ?_)
    refine wpAny_pure ?_
    simp only [Bool.false_eq_true, if_false]
    refine wpAny_bind (wpAny_holding (wpAny_pyIter_list ht ?_))
    refine wpAny_bind (wpAny_holding (draw_list hlt items.size 0 _ _ ⟨_, Heap.get?_push_size _ rfl, rfl, rfl⟩ (ht.push _) (by omega) fun h₁ hit₁ hs₁ => ?_))
    have hall : List.take items.size (List.drop 0 items.toList) = items.toList := by
      rw [List.drop_zero]; exact List.take_of_length_le (by simp)
    rw [hall]
    rw [if_neg (by simp)]
    have ht₁ : h₁.IsList t items := (ht.push _).extBut hs₁.extBut hlt
    refine wpAny_bind (wpAny_holding (wpAny_pyNext_list_end hh hit₁ ht₁ (by simp) fun h₂ he₂ => ?_))
    simp only [Option.isSome_none, Bool.false_eq_true, if_false]
    refine wpAny_pure (hQ h₂ fun b o hb e => he₂ b o hb (hs₁.extBut b o hb (Heap.get?_push_of_some _ e)))
theorem assign_Tuple_list {env : Env} {elts : List Expr} {x1} {pos : Pos} {t : Addr} {items : Array Value} {Q : Unit → Shared → Prop} (hh : A.handled = none) (ht : s.heap.IsList t items)
    (hn : (assignEach elts env).length = items.size) (hstar : (assignEach elts env).findIdx? (·.1) = none)
    (h : ∀ h', Heap.ExtBut s.heap.objs.size s.heap h' → wpAny (model prog w) A (assignInOrder ((assignEach elts env).map (·.2)) items.toList) Q E { s with heap := h' }) :
    wpAny (model prog w) A (assign (.Tuple elts x1 pos) env (.ref t)) Q E s := by
  rw [assign_Tuple]
  refine wpAny_bind (wpAny_standAt ?_)
  unfold unpack
  rw [hn, hstar]
  exact wpAny_bind (wpAny_holding (unpackItems_list hh ht h))
end
section
variable {X : Cx} {pos : Pos} {K : PySem.W.Frag}
def gSeq (K : PySem.W.Frag) (n : Nat) (t : TGs) : TG := fun v σ H Q => ∃ a xs, v = .ref a ∧ (SqL K H a xs ∨ SqT K H a xs) ∧ xs.length = n ∧ t xs σ H Q
theorem pg_seq {es : List Expr} {k : Nat} {t : TGs} {n : Nat} (hK : X.K = K) (hc : X.calm = true) (h : PGs X es t)
    (hn : (assignEach es X.env).length = n := by rfl) (hst : (assignEach es X.env).findIdx? (·.1) = none := by rfl) : PG X (.Tuple es k pos) (gSeq K n t) := by
  subst hK
  intro pins s σ H v u Q I r hw
  obtain ⟨a, xs, e1, hq, hl, hw⟩ := hw
  subst e1
  cases r
  rcases hq with hq | hq
  · obtain ⟨its, rv, ht, hz⟩ := I.list hq
    refine assign_Tuple_list (I.ok.hd hc) ht.isList (by simp [hn, ← hl, rv.length]) hst fun h' hx => ?_
    have I1 : Inv X pins σ H { s with heap := h' } := I.kept (t' := s.toks) fun b o e => hx b o (Nat.ne_of_lt (Heap.lt_size e)) e
    exact h pins _ σ H xs _ Q I1 (by simpa using rv) hw
  · obtain ⟨its, rv, ht, hz⟩ := I.tuple hq
    refine assign_Tuple_tuple (I.ok.hd hc) ht (by simp [hn, ← hl, rv.length]) hst fun h' hx => ?_
    have I1 : Inv X pins σ H { s with heap := h' } := I.kept (t' := s.toks) fun b o e => hx b o (Nat.ne_of_lt (Heap.lt_size e)) e
    exact h pins _ σ H xs _ Q I1 (by simpa using rv) hw
end
end L2
namespace Ma
def con (c : Nat) : Nat := if 96 < c then c - 32 else c + 32
def isL (c : Nat) : Prop := (97 ≤ c ∧ c ≤ 100) ∨ (65 ≤ c ∧ c ≤ 68)
theorem con_con {c : Nat} (h : isL c) : con (con c) = c := by unfold con; unfold isL at h; split <;> split <;> omega
def push (k : List Nat) (c : Nat) : List Nat := match k with
  | [] => [c]
  | x :: r => if x = con c then r else c :: x :: r
def PlainR : List Nat → Prop
  | [] => True
  | [_] => True
  | a :: b :: r => b ≠ con a ∧ PlainR (b :: r)
def AllL (w : List Nat) : Prop := ∀ c ∈ w, isL c
def act (k : List Nat) (w : List Nat) : List Nat := w.foldl push k
def lay (w : List Nat) : List Nat := (act [] w).reverse
def Plain (w : List Nat) : Prop := PlainR w.reverse
theorem AllL.nil : AllL [] := by unfold AllL; simp
theorem PlainR.tail {a : Nat} {r : List Nat} (h : PlainR (a :: r)) : PlainR r := by
  cases r with
  | nil => trivial
  | cons b r => exact h.2
theorem push_plain {k : List Nat} {c : Nat} (hk : PlainR k) : PlainR (push k c) := by
  cases k with
  | nil => trivial
  | cons x r =>
    unfold push
    dsimp only
    split
    · exact hk.tail
    · rename_i h; exact ⟨h, hk⟩
theorem act_plain : ∀ {w k : List Nat}, PlainR k → PlainR (act k w)
  | [], _, h => h
  | c :: w, k, h => act_plain (w := w) (push_plain h)
theorem act_app (k u w : List Nat) : act k (u ++ w) = act (act k u) w := by unfold act; rw [List.foldl_append]
theorem act_snoc (k u : List Nat) (c : Nat) : act k (u ++ [c]) = push (act k u) c := by rw [act_app]; rfl
theorem act_cons (k w : List Nat) (c : Nat) : act k (c :: w) = act (push k c) w := rfl
theorem lay_plain (w : List Nat) : Plain (lay w) := by unfold Plain lay; rw [List.reverse_reverse]; exact act_plain trivial
theorem push_len (k : List Nat) (c : Nat) : (push k c).length ≤ k.length + 1 := by
  cases k with
  | nil => simp [push]
  | cons x r =>
    unfold push
    dsimp only
    split
    · simp; omega
    · simp
theorem act_len : ∀ (w k : List Nat), (act k w).length ≤ k.length + w.length
  | [], k => by simp [act]
  | c :: w, k => by
    have h1 := act_len w (push k c)
    have h2 := push_len k c
    rw [act_cons, List.length_cons]
    omega
theorem lay_len (w : List Nat) : (lay w).length ≤ w.length := by
  unfold lay; rw [List.length_reverse]; have := act_len w []; simpa using this
theorem act_plain_id : ∀ (w k : List Nat), PlainR (w.reverse ++ k) → act k w = w.reverse ++ k
  | [], k, _ => rfl
  | c :: w, k, h => by
    have h0 : PlainR (w.reverse ++ (c :: k)) := by simpa using h
    have e : push k c = c :: k := by
      cases k with
      | nil => rfl
      | cons x r =>
        have h1 : x ≠ con c := by
          have : ∀ (l : List Nat), PlainR (l ++ (c :: x :: r)) → x ≠ con c := by
            intro l
            induction l with
            | nil => intro h; exact h.1
            | cons y l ih =>
              intro h
              exact ih (PlainR.tail h)
          exact this _ h0
        unfold push
        dsimp only
        rw [if_neg h1]
    rw [act_cons, e, act_plain_id w (c :: k) h0]
    simp
theorem lay_id {w : List Nat} (h : Plain w) : lay w = w := by
  unfold lay
  rw [act_plain_id w [] (by rw [List.append_nil]; exact h)]
  simp
end Ma
namespace Lw
open PySem PySem.Spec PyProof.Rows L2 Ma
theorem S_len (w : List Nat) : (S w).length = w.length := by simp [Str.length]
theorem S_app (u w : List Nat) : (S u ++ S w : Str) = S (u ++ w) := by
  show Str.append (S u) (S w) = S (u ++ w)
  unfold Str.append; simp
theorem S_inj {u w : List Nat} (h : S u = S w) : u = w := by
  have h' : u.toArray = w.toArray := congrArg Str.cps h
  simpa using congrArg Array.toList h'
theorem VS_dec (u w : List Nat) : decide (V.str (S u) = V.str (S w)) = decide (u = w) := by
  by_cases h : u = w
  · subst h; simp
  · rw [decide_eq_false h, decide_eq_false fun e => h (S_inj (V.str.inj e))]
theorem S_of (x : Str) : x = S x.cps.toList := by simp
theorem S_nil : (Str.ofString "" : Str) = S [] := by decide +kernel
theorem S_at (w : List Nat) : (S w).cps.toList = w := by simp
theorem len_1000 {n : Nat} (h : n ≤ 100000) : n ≤ sizeLine := Nat.le_trans h (by decide)
theorem slice_to (w : List Nat) {j : Int} (h0 : 0 ≤ j) (h2 : j ≤ w.length) : Txt.slice (S w) none (some j) = S (w.take j.toNat) := by
  have := slice_closes_toL (x := S w) h0 (by rw [S_len]; exact h2)
  rw [beq_iff_eq.mp this]
  simp
theorem slice_from (w : List Nat) {i : Int} (h0 : 0 ≤ i) (h2 : i ≤ w.length) : Txt.slice (S w) (some i) none = S (w.drop i.toNat) := by
  have := slice_closes_fromL (x := S w) (b := (S w).length) h0 (by rw [S_len]; exact h2) rfl
  rw [beq_iff_eq.mp this]
  congr 1
  rw [S_at, S_len, List.take_of_length_le (by rw [List.length_drop]; omega)]
theorem join_S : ∀ (zs : List (List Nat)), Txt.join (S []) (zs.map S) = S zs.flatten
  | [] => by unfold Txt.join; rw [StrLaws.glued_eq_join]; rfl
  | [z] => by unfold Txt.join; rw [StrLaws.glued_eq_join]; simp [Str.join]
  | z :: y :: r => by
    have ih := join_S (y :: r)
    unfold Txt.join at ih ⊢
    rw [StrLaws.glued_eq_join] at ih ⊢
    rw [List.map_cons, List.map_cons]
    show (S z ++ S []) ++ Str.join (S []) (S y :: r.map S) = _
    rw [List.map_cons] at ih
    rw [ih, S_app, S_app]
    simp
theorem sum_len (zs : List (List Nat)) : ((zs.map S).map (·.length)).sum = zs.flatten.length := by
  induction zs with
  | nil => rfl
  | cons z zs ih => simp only [List.map_cons, List.sum_cons, List.flatten_cons, List.length_append, ih, S_len]
def isLow (c : Nat) : Bool := decide (96 < c)
theorem isL_cases {c : Nat} (h : isL c) : c = 97 ∨ c = 98 ∨ c = 99 ∨ c = 100 ∨ c = 65 ∨ c = 66 ∨ c = 67 ∨ c = 68 := by unfold isL at h; omega
theorem islower_S {c : Nat} (h : isL c) : Txt.islower (S [c]) = isLow c := by
  rcases isL_cases h with rfl | rfl | rfl | rfl | rfl | rfl | rfl | rfl <;> decide +kernel
theorem upper_S {c : Nat} (h : isL c) (hl : isLow c = true) : Txt.upper (S [c]) = S [con c] := by
  rcases isL_cases h with rfl | rfl | rfl | rfl | rfl | rfl | rfl | rfl <;> first | (decide +kernel) | (exact absurd hl (by decide))
theorem lower_S {c : Nat} (h : isL c) (hl : isLow c = false) : Txt.lower (S [c]) = S [con c] := by
  rcases isL_cases h with rfl | rfl | rfl | rfl | rfl | rfl | rfl | rfl <;> first | (decide +kernel) | (exact absurd hl (by decide))
theorem short1 (c : Nat) : Builtin.Str.tooLong (S [c]).length = false := by rw [S_len]; show Builtin.Str.tooLong 1 = false; decide +kernel
def conTab_rows : List (Str × PyData) := [("a", .str "A"), ("A", .str "a"), ("b", .str "B"), ("B", .str "b"), ("c", .str "C"), ("C", .str "c"), ("d", .str "D"), ("D", .str "d")]
def conTab : List (PyData × PyData) := conTab_rows.map fun p => (PyData.str p.1, p.2)
theorem conTab_look {c : Nat} (h : isL c) : lookup (.str (S [c])) conTab = some (.str (S [con c])) := by
  rcases isL_cases h with rfl | rfl | rfl | rfl | rfl | rfl | rfl | rfl <;> kernel_rfl
def Kp (fl : Addr) (H H' : Hp) : Prop := ∀ b o, H b = some o → b ≠ fl → H' b = some o
theorem Kp.refl (fl : Addr) (H : Hp) : Kp fl H H := fun _ _ h _ => h
theorem Kp.trans {fl : Addr} {H H1 H2 : Hp} (a : Kp fl H H1) (b : Kp fl H1 H2) : Kp fl H H2 := fun c o h n => b c o (a c o h n) n
theorem _root_.L2.Same.kp {fl : Addr} {H H' : Hp} (h : Same H H') : Kp fl H H' := fun b o e _ => h b o e
theorem _root_.L2.Same.new {H : Hp} {l : Addr} {o : HO} (h : H l = none) : Same H (upd H l o) := fun b u e => by rw [upd_ne (ne_of_none e h)]; exact e
theorem _root_.L2.Same.upd {H H' : Hp} {l : Addr} {o : HO} (s : Same H H') (h : H l = none) : Same H (upd H' l o) := fun b u e => by rw [upd_ne (ne_of_none e h)]; exact s b u e
theorem _root_.L2.Same.upd' {H H' : Hp} {l : Addr} {o : HO} (s : Same H H') (h : H' l = none) : Same H (upd H' l o) := s.trans (Same.new h)
theorem Kp.upd {fl : Addr} {H H' : Hp} {l : Addr} {o : HO} (s : Kp fl H H') (h : H l = none) : Kp fl H (upd H' l o) := fun b u e n => by rw [upd_ne (ne_of_none e h)]; exact s b u e n
theorem Kp.self {fl : Addr} {H H' : Hp} {o : HO} (s : Kp fl H H') : Kp fl H (L2.upd H' fl o) := fun b u e n => by rw [upd_ne n]; exact s b u e n
theorem Kp.free {fl : Addr} {H H' : Hp} (k : Kp fl H H') {l : Addr} (h : H' l = none) (n : l ≠ fl) : H l = none := by
  cases q : H l with
  | none => rfl
  | some o => rw [k l o q n] at h; cases h
def IsFl (H : Hp) (fl sc : Addr) : Prop := ∃ (ns : List Int) (i a b c : Int), H fl = some (.lst [.ref sc, .int i, .int a, .int b, .int c]) ∧ H sc = some (.lst (ns.map V.int)) ∧ ns.length ≤ 63 ∧ 0 ≤ i ∧ 0 ≤ a ∧ 0 ≤ b
theorem IsFl.same {H H' : Hp} {fl sc : Addr} (s : Same H H') (h : IsFl H fl sc) : IsFl H' fl sc := by
  obtain ⟨ns, i, a, b, c, h1, h2, r⟩ := h
  exact ⟨ns, i, a, b, c, s _ _ h1, s _ _ h2, r⟩
theorem IsFl.some {H : Hp} {fl sc : Addr} (h : IsFl H fl sc) : (∃ o, H fl = some o) ∧ ∃ o, H sc = some o := by
  obtain ⟨ns, i, a, b, c, h1, h2, r⟩ := h
  exact ⟨⟨_, h1⟩, ⟨_, h2⟩⟩
theorem IsFl.ne {H : Hp} {fl sc l : Addr} (h : IsFl H fl sc) (n : H l = none) : l ≠ fl := by
  obtain ⟨⟨o, e⟩, _⟩ := h.some
  exact (ne_of_none e n).symm
theorem IsFl.ne2 {H : Hp} {fl sc l : Addr} (h : IsFl H fl sc) (n : H l = none) : l ≠ sc := by
  obtain ⟨_, ⟨o, e⟩⟩ := h.some
  exact (ne_of_none e n).symm
theorem IsFl.upd {H : Hp} {fl sc l : Addr} {o : HO} (h : IsFl H fl sc) (n : H l = none) : IsFl (L2.upd H l o) fl sc := h.same (Same.new n)
theorem IsFl.set {H : Hp} {fl sc l : Addr} {o : HO} (h : IsFl H fl sc) (n : l ≠ fl) (n2 : l ≠ sc) : IsFl (L2.upd H l o) fl sc := by
  obtain ⟨ns, i, a, b, c, h1, h2, r⟩ := h
  exact ⟨ns, i, a, b, c, by rw [upd_ne n.symm]; exact h1, by rw [upd_ne n2.symm]; exact h2, r⟩
structure Df (K : PySem.W.Frag) (mg : Str → Option Value) (x : Str) (st : Stmt) (ps : List Str) (f : Addr) (fd : FuncData) : Prop where
  F : Fun K x x st f fd
  b : Binds K fd ps []
  m : mg x = some (.ref f)
def Cl (P : Program) (w : World) (K : PySem.W.Frag) (mg : Str → Option Value) (base : Heap) (x : Str) (ps : List Str) (n : Nat) (sp : Sp) : Prop :=
  ∃ f fd, FnOk P w K mg base CX0 n f fd ps sp ∧ mg x = some (.ref f) ∧ PySem.W.keepIn K (.ref f) = true ∧ Binds K fd ps []
theorem Df.cl {P : Program} {w : World} {K : PySem.W.Frag} {mg : Str → Option Value} {base : Heap} {x : Str} {st : Stmt} {ps : List Str} {f : Addr} {fd : FuncData} {n : Nat} {sp : Sp} (D : Df K mg x st ps f fd) (h : FnOk P w K mg base CX0 n f fd ps sp) : Cl P w K mg base x ps n sp :=
  ⟨f, fd, h, D.m, D.F.kp, D.b⟩
def lets : List Nat := [97, 65, 98, 66, 99, 67, 100, 68]
def letsN (n : Int) : List Nat := lets.take (2 * n).toNat
def OfN (n : Int) (w : List Nat) : Prop := ∀ c ∈ w, c ∈ letsN n
theorem letsN_isL {n : Int} {c : Nat} (h : c ∈ letsN n) : isL c := by
  have h2 : c ∈ lets := List.mem_of_mem_take h
  unfold lets at h2
  simp only [List.mem_cons, List.not_mem_nil, or_false] at h2
  unfold isL
  omega
theorem OfN.all {n : Int} {w : List Nat} (h : OfN n w) : AllL w := fun c hc => letsN_isL (h c hc)
theorem letsN_len {n : Int} (h1 : 1 ≤ n) (h4 : n ≤ 4) : (letsN n).length = (2 * n).toNat := by
  unfold letsN lets
  rw [List.length_take]
  simp
  omega
def lstC (w : List Nat) : List V := w.map fun c => V.str (S [c])
theorem lstC_eq (w : List Nat) : lstC w = (w.map fun c => S [c]).map V.str := by unfold lstC; rw [List.map_map]; rfl
theorem flat_ones : ∀ (w : List Nat), (w.map fun c => [c]).flatten = w
  | [] => rfl
  | c :: w => by rw [List.map_cons, List.flatten_cons, flat_ones w]; rfl
theorem ones_S (w : List Nat) : (w.map fun c => [c]).map S = w.map fun c => S [c] := by rw [List.map_map]; rfl
theorem join_lets (w : List Nat) : Txt.join (Str.ofString "") (w.map fun c => S [c]) = S w := by
  have h := join_S (w.map fun c => [c])
  rw [ones_S, flat_ones] at h
  rw [S_nil]
  exact h
theorem join_letsB (w : List Nat) (hw : w.length ≤ 100000) : ((w.map fun c => S [c]).map (·.length)).sum + (w.map fun c => S [c]).length * (Str.ofString "").length ≤ 16777216 := by
  have h := sum_len (w.map fun c => [c])
  rw [ones_S, flat_ones] at h
  have e2 : (Str.ofString "").length = 0 := by decide +kernel
  rw [e2, Nat.mul_zero, Nat.add_zero, h]
  omega
theorem lstC_snoc (w : List Nat) (c : Nat) : lstC (w ++ [c]) = lstC w ++ [V.str (S [c])] := by unfold lstC; simp
theorem lstC_len (w : List Nat) : (lstC w).length = w.length := by unfold lstC; simp
theorem lstC_get {w : List Nat} {i : Nat} {c : Nat} (h : w[i]? = some c) : (lstC w)[i]? = some (.str (S [c])) := by unfold lstC; rw [List.getElem?_map, h]; rfl
theorem atI_of {α : Type} {xs : List α} {i : Int} {v : α} (h0 : 0 ≤ i) (h : xs[i.toNat]? = some v) : atI xs i = some v := by
  have := atI_nat h
  rwa [Int.toNat_of_nonneg h0] at this
theorem take_snoc {w : List Nat} {i c : Nat} (h : w[i]? = some c) : w.take (i + 1) = w.take i ++ [c] := by rw [List.take_add_one, h]; rfl
def spFlow (K : PySem.W.Frag) : Sp := fun vs H Q _ => ∃ (a : Addr) (ns : List Int), vs = [.ref a] ∧ SqL K H a (ns.map V.int) ∧ ns.length ≤ 63 ∧ ∀ (fl sc : Addr) (H' : Hp), H fl = none → Same H H' → IsFl H' fl sc → Q (.ref fl) H'
def spPick : Sp := fun vs H Q _ => ∃ (fl sc : Addr) (m : Int), vs = [.ref fl, .int m] ∧ IsFl H fl sc ∧ 0 < m ∧ m < 1073741824 ∧ ∀ (d : Int) (H' : Hp), 0 ≤ d → d < m → IsFl H' fl sc → Kp fl H H' → Q (.int d) H'
def spCon : Sp := fun vs H Q _ => ∃ c : Nat, vs = [.str (S [c])] ∧ isL c ∧ ∀ H', Same H H' → Q (.str (S [con c])) H'
def spLay : Sp := fun vs H Q _ => ∃ w : List Nat, vs = [.str (S w)] ∧ AllL w ∧ w.length ≤ 10000 ∧ ∀ H', Same H H' → Q (.str (S (lay w))) H'
def spLetters : Sp := fun vs H Q _ => ∃ n : Int, vs = [.int n] ∧ 1 ≤ n ∧ n ≤ 4 ∧ ∀ (l : Addr) (H' : Hp), H l = none → Same H H' → H' l = some (.lst (lstC (letsN n))) → Q (.ref l) H'
def spWord : Sp := fun vs H Q _ => ∃ (fl sc : Addr) (n most : Int), vs = [.ref fl, .int n, .int most] ∧ IsFl H fl sc ∧ 1 ≤ n ∧ n ≤ 4 ∧ 0 ≤ most ∧ most ≤ 900 ∧
  ∀ (w : List Nat) (H' : Hp), OfN n w → Plain w → (w.length : Int) ≤ most → IsFl H' fl sc → Kp fl H H' → Q (.str (S w)) H'
def spLaw (K : PySem.W.Frag) : Sp := fun vs H Q _ => ∃ (a : Addr) (ns : List Int), vs = [.ref a] ∧ SqL K H a (ns.map V.int) ∧ ns.length ≤ 63 ∧ ∀ H', Q (.bl true) H'
end Lw
namespace L2
open PySem PySem.Spec PyProof.Rows
def tMid (t u : TS) : TS := fun D σ H => ∃ M : St → Hp → Prop, t { D with nx := M } σ H ∧ ∀ σ' H', M σ' H' → u D σ' H'
theorem pss_mid {X : Cx} {st : Stmt} {rest : List Stmt} {t u : TS} (h1 : PS X st t) (h2 : PSs X rest u) : PSs X (st :: rest) (tMid t u) := by
  intro pins s σ H D I ⟨M, q1, q2⟩
  refine wpAny_execs_cons (thn (h1 pins s σ H { D with nx := M } I q1) fun f s1 q => ?_)
  cases f with
  | next =>
    obtain ⟨σ', H', I', q⟩ := q
    exact h2 pins s1 σ' H' D I' (q2 σ' H' q)
  | ret v => exact q
  | brk => exact q
  | cont => exact q
end L2
namespace Lw
open PySem PySem.Spec PyProof.Rows L2 Ma
def okc (x : List Nat) (c : Nat) : Bool := match x.getLast? with
  | none => true
  | some z => !decide ([c] = [con z])
theorem okc_pos {n : Int} {x : List Nat} (h1 : 1 ≤ n) (h4 : n ≤ 4) : 0 < ((letsN n).filter (okc x)).length := by
  have m1 : 97 ∈ letsN n ∧ 65 ∈ letsN n := by
    have : n = 1 ∨ n = 2 ∨ n = 3 ∨ n = 4 := by omega
    rcases this with rfl | rfl | rfl | rfl <;> decide
  have : okc x 97 = true ∨ okc x 65 = true := by
    unfold okc
    cases x.getLast? with
    | none => exact .inl rfl
    | some z =>
      by_cases e : con z = 97
      · right; dsimp only; rw [e]; rfl
      · left; dsimp only; simp; omega
  rcases this with h | h
  · exact List.length_pos_of_mem (List.mem_filter.mpr ⟨m1.1, h⟩)
  · exact List.length_pos_of_mem (List.mem_filter.mpr ⟨m1.2, h⟩)
theorem okc_plain {x : List Nat} {c : Nat} (hx : AllL x) (hc : isL c) (hp : Plain x) (h : okc x c = true) : Plain (x ++ [c]) := by
  unfold Plain at *
  rw [List.reverse_append]
  show PlainR (c :: x.reverse)
  cases hq : x.reverse with
  | nil => trivial
  | cons z r =>
    rw [hq] at hp
    refine ⟨?_, hp⟩
    intro e
    have hz : x.getLast? = some z := by
      rw [List.getLast?_eq_head?_reverse, hq]; rfl
    unfold okc at h
    rw [hz] at h
    have h' : ¬ c = con z := by simpa using h
    exact h' (by rw [e, con_con hc])
end Lw
namespace L2
open PySem PySem.Spec PyProof.Rows
section
variable {X : Cx} {K : PySem.W.Frag}
theorem ix_listK (h : X.K = K) : IxR X (rIxL K) := by subst h; exact ix_list
theorem ix_tupK (h : X.K = K) : IxR X (rIxT K) := by subst h; exact ix_tup
theorem sl_listK (h : X.K = K) : SlR X (rSlL K) := by subst h; exact sl_list
theorem call_lenK (h : X.K = K) : CallR X (.builtin "len") (fun xs H Q => ∃ p ys, xs = [.ref p] ∧ (SqL K H p ys ∨ SqT K H p ys) ∧ Q (.int ys.length) H) := by subst h; exact call_len_seq
theorem call_isiK (h : X.K = K) : CallR X (.builtin "isinstance") (rIsi K) := by subst h; exact call_isi
theorem call_listK (h : X.K = K) : CallR X (.type "list") (fun xs H Q => ∃ p ys, xs = [.ref p] ∧ (SqL K H p ys ∨ SqT K H p ys) ∧ ∀ l, H l = none → Q (.ref l) (upd H l (.lst ys))) := by subst h; exact call_list_of
theorem call_tupleK (h : X.K = K) : CallR X (.type "tuple") (fun xs H Q => ∃ p ys, xs = [.ref p] ∧ ((SqL K H p ys ∧ ∀ l, H l = none → Q (.ref l) (upd H l (.tup ys))) ∨ (SqT K H p ys ∧ Q (.ref p) H))) := by subst h; exact call_tuple_of
theorem call_allK (h : X.K = K) (hc : X.calm = true) : CallR X (.builtin "all") (fun xs H Q => ∃ (a : Addr) (bs : List Bool), xs = [.ref a] ∧ SqL K H a (bs.map V.bl) ∧ Q (.bl (bs.all id)) H) := by subst h; exact call_allB hc
theorem mt_joinK (h : X.K = K) : MtR X "str.join" (fun x xs H Q => ∃ z a zs, x = .str z ∧ xs = [.ref a] ∧ SqL K H a (zs.map V.str) ∧ (zs.map (·.length)).sum + zs.length * z.length ≤ 16777216 ∧ Q (.str (Txt.join z zs)) H) := by subst h; exact mt_join
theorem op_eqLK (h : X.K = K) (hu : X.A.units < cLine) : OpR X (compareOp .Eq) (rEqL K false) := by subst h; exact op_eqL hu
theorem op_neLK (h : X.K = K) (hu : X.A.units < cLine) : OpR X (compareOp .NotEq) (rEqL K true) := by subst h; exact op_neL hu
theorem op_notinK (h : X.K = K) : OpR X (compareOp .NotIn) (rIn K true) := by subst h; exact op_notIn_seq
theorem pi_listK {tg l : Expr} {tl : TE} (h : X.K = K) (hl : PE X l tl) : PI X tg l (iList K tl) := by subst h; exact pi_list hl
variable {o e : Expr} {es : List Expr} {to : TE} {t : TA} {name : Str} {apos cpos : Pos} {T id : String} {r : V → List V → Hp → VK → Prop}
theorem pe_bm0K (h : X.K = K) (pa : PlainAttrs T) (slot : Slot T name id) (hty : typeOf (.builtin id) = pure (.type "method_descriptor")) (hm : MtR X id r) (ho : PE X o to)
    (hbase : attributeBase o name X.env (eval o X.env) = eval o X.env := by rfl) (hline : (apos.endLine == cpos.line) = true := by rfl) : PE X (.Call (.Attribute o name apos) [] [] cpos) (tBM0 K T r to) := by subst h; exact pe_bm0 pa slot hty hm ho hbase hline
theorem pe_bmK (h : X.K = K) (pa : PlainAttrs T) (slot : Slot T name id) (hty : typeOf (.builtin id) = pure (.type "method_descriptor")) (hm : MtR X id r) (ho : PE X o to) (ha : PA X (e :: es) t)
    (hbase : attributeBase o name X.env (eval o X.env) = eval o X.env := by rfl)
    (hfew : ((backTo cpos (starEach (e :: es) X.env)).all (fun x => !x.1) && (backToKw cpos (keywordEach [] X.env)).all (fun x => x.1.isSome)
      && decide ((e :: es).length + ([] : List Keyword).length + (if ([] : List Keyword).isEmpty then 0 else 1) < 30)) = true := by rfl)
    (hline : (apos.endLine == cpos.line) = true := by rfl) (hs : starEach (e :: es) X.env = (false, eval e X.env) :: starEach es X.env := by rfl) (hplain : (backTo cpos (starEach es X.env)).any (·.1) = false := by rfl) :
    PE X (.Call (.Attribute o name apos) (e :: es) [] cpos) (tBM K T r to t) := by subst h; exact pe_bm pa slot hty hm ho ha hbase hfew hline hs hplain
end
section
variable {X : Cx} {scope : Scope} {x : Str} {px pos : Pos} {ix : List Nat} {elt iter : Expr} {ifs : List Expr} {wi : TI} {ti : TT} {te : TE}
theorem pe_compc {sc0 : Scope} {N : List Str} (h : compChk sc0 scope N x ix = true) (e1 : X.env.scope = sc0) (e2 : X.N = N) (hc : X.calm = true) (hi : PI X (.Name x px) iter wi) (hif : ∀ fp s H, PIfs (compCx X scope x ix fp s H) ifs ti) (he : ∀ fp s H, PE (compCx X scope x ix fp s H) elt te)
    (hs : ∀ z, foldedSetIterable iter X.env z = pure z := by intro _; rfl) : PE X (.ListComp elt [⟨.Name x px, iter, ifs, 0⟩] scope pos) (tComp wi ix ti te) :=
  pe_comp (compSc_of h e1 e2).1 (compSc_of h e1 e2).2 hc hi hif he hs
theorem ps_setcc {i : Nat} {y : Str} {py spos : Pos} {sc0 : Scope} {N : List Str} (hN : X.N.Nodup) (hy : X.N[i]? = some y) (hyl : X.env.scope.names.lookup y = some .local) (h : compChk sc0 scope N x ix = true) (e1 : X.env.scope = sc0) (e2 : X.N = N) (hc : X.calm = true) (hi : PI X (.Name x px) iter wi)
    (hif : ∀ fp s H, PIfs (compCx X scope x ix fp s H) ifs ti) (he : ∀ fp s H, PE (compCx X scope x ix fp s H) elt te)
    (hsw : swapsWith (.ListComp elt [⟨.Name x px, iter, ifs, 0⟩] scope pos) (some (.Name y py)) spos.line X.env = pure true := by rfl)
    (hs : ∀ z, foldedSetIterable iter X.env z = pure z := by intro _; rfl) : PS X (.Assign [.Name y py] (.ListComp elt [⟨.Name x px, iter, ifs, 0⟩] scope pos) spos) (tSetC i wi ix ti te) :=
  ps_setc hN hy hyl (compSc_of h e1 e2).1 (compSc_of h e1 e2).2 hc hi hif he hsw hs
end
end L2
namespace Lw
open PySem PySem.Spec PyProof.Rows L2 Ma
def Adj (x : List Nat) (k : Nat) : Prop := ∃ a b, x[k]? = some a ∧ x[k + 1]? = some b ∧ a = con b
theorem plainR_of : ∀ (k : List Nat), (∀ i a b, k[i]? = some a → k[i + 1]? = some b → b ≠ con a) → PlainR k
  | [], _ => trivial
  | [_], _ => trivial
  | a :: b :: r, h => ⟨h 0 a b rfl rfl, plainR_of (b :: r) fun i x y h1 h2 => h (i + 1) x y (by simpa using h1) (by simpa using h2)⟩
theorem plain_of_noadj {x : List Nat} (h : ∀ k, ¬ Adj x k) : Plain x := by
  unfold Plain
  refine plainR_of _ fun i a b h1 h2 e => ?_
  have l2 : i + 1 < x.length := by
    have := (List.getElem?_eq_some_iff.mp h2).1
    simpa using this
  rw [List.getElem?_reverse (by omega)] at h1 h2
  refine h (x.length - 1 - (i + 1)) ⟨b, a, h2, ?_, e⟩
  rw [show x.length - 1 - (i + 1) + 1 = x.length - 1 - i by omega]
  exact h1
end Lw
namespace Lw
open PySem PySem.Spec PyProof.Rows L2 Ma
end Lw
namespace Lw
open PySem PySem.Spec PyProof.Rows L2 Ma
structure GoodW (n : Int) (m : Nat) (x : List Nat) : Prop where
  ofn : OfN n x
  plain : Plain x
  le : x.length ≤ m
theorem GoodW.all {n : Int} {m : Nat} {x : List Nat} (g : GoodW n m x) : AllL x := g.ofn.all
end Lw
namespace LtL
open PySem PyProof.Rows HT
open PySem.SeqAt
open PySem.AutoSeq1 (wpAny_loadPart')
open PySem.MeetsSeq PySem.MeetsSeq2 PySem.MeetsSeq3
end LtL
namespace L2
open PySem PySem.Spec PyProof.Rows
section
variable {X : Cx}
theorem op_mul_str : OpR X (binaryOp .Mult) (fun x y H Q => ∃ z n, x = .str z ∧ y = .int n ∧ MulOk z n ∧ Q (.str (Txt.mul z n)) H) := by
  intro pins s σ H x y v u Q I rx ry h
  obtain ⟨z, n, rfl, rfl, hok, q⟩ := h
  obtain ⟨t, rfl⟩ := rx
  obtain ⟨t', rfl⟩ := ry
  exact SB.mul hok fun t' k => ⟨.str _, H, I.tok _, ⟨t', rfl⟩, q⟩
end
end L2
namespace MaR
section
variable {g : Nat → Nat} {n : Nat}
end
end MaR
namespace Lw
open PySem PySem.Spec PyProof.Rows L2 Ma MaR
end Lw
namespace Lw
open PySem PySem.Spec PyProof.Rows L2 Ma MaR
end Lw
namespace Lw
open PySem PySem.Spec PyProof.Rows L2 Ma MaR
end Lw
namespace Lw
open PySem PySem.Spec PyProof.Rows L2 Ma MaR
end Lw
namespace Lw
open PySem PySem.Spec PyProof.Rows L2 Ma MaR
theorem plainR_get : ∀ (k : List Nat), PlainR k → ∀ i a b, k[i]? = some a → k[i + 1]? = some b → b ≠ con a
  | [], _, i, a, b, h, _ => by simp at h
  | [_], _, i, a, b, _, h => by simp at h
  | c :: d :: r, h, 0, a, b, h1, h2 => by
    simp at h1 h2
    subst h1 h2
    exact h.1
  | c :: d :: r, h, i + 1, a, b, h1, h2 => plainR_get (d :: r) h.2 i a b (by simpa using h1) (by simpa using h2)
theorem plain_get {x : List Nat} (h : Plain x) {k a b : Nat} (h1 : x[k]? = some a) (h2 : x[k + 1]? = some b) : a ≠ con b := by
  have l2 := (List.getElem?_eq_some_iff.mp h2).1
  refine plainR_get x.reverse h (x.length - 1 - (k + 1)) b a ?_ ?_
  · rw [List.getElem?_reverse (by omega), show x.length - 1 - (x.length - 1 - (k + 1)) = k + 1 by omega]; exact h2
  · rw [List.getElem?_reverse (by omega), show x.length - 1 - (x.length - 1 - (k + 1) + 1) = k by omega]; exact h1
end Lw
namespace Lw
open PySem PySem.Spec PyProof.Rows L2 Ma MaR
end Lw
namespace L2
open PySem PySem.Spec PyProof.Rows
section
variable {X : Cx} {e : Expr} {te : TE} {lo hi : Option Expr} {stp : Expr} {tl th tk : TO} {pos p2 : Pos}
def SlR3 (X : Cx) (r : V → Option Int → Option Int → Option Int → Hp → VK → Prop) : Prop :=
  ∀ (pins : List (Addr × Obj)) (s : Shared) (σ : St) (H : Hp) (x : V) (v vl vu vk : Value) (lo hi st : Option Int) (sl : Addr) (Q : VK), Inv X pins σ H s → RelV x v → s.heap.IsSliceOf sl vl vu vk → IsPart vl lo → IsPart vu hi → IsPart vk st → r x lo hi st H Q →
    ∃ T id, typeLookup (.type T) "__getitem__" = pure (some (.builtin id)) ∧ s.TypeIs v T ∧ wpAny (model X.prog X.w) X.A (getItem v (.ref sl)) (EP X pins σ Q) X.xe s
def tSl3 (r : V → Option Int → Option Int → Option Int → Hp → VK → Prop) (te : TE) (tl th tk : TO) : TE := fun σ H Q => te σ H fun x H1 => tl σ H1 fun l H2 => th σ H2 fun u H3 => tk σ H3 fun k H4 => r x l u k H4 Q
theorem pe_slice3 {r : V → Option Int → Option Int → Option Int → Hp → VK → Prop} (hr : SlR3 X r) (he : PE X e te) (hl : PO X lo tl) (hu : PO X hi th) (hk : PO X (some stp) tk) : PE X (.Subscript e (.Slice lo hi (some stp) p2) pos) (tSl3 r te tl th tk) := by
  intro pins s σ H Q I h
  refine Subscript_ (thn (he pins s σ H _ I h) fun v s1 ⟨x, H1, I1, r1, q1⟩ => ?_)
  refine wpAny_Slice (thn (hl pins s1 σ H1 _ I1 q1) fun vl s2 ⟨l, H2, I2, pl, q2⟩ => thn (hu pins s2 σ H2 _ I2 q2) fun vu s3 ⟨u, H3, I3, pu, q3⟩ => thn (hk pins s3 σ H3 _ I3 q3) fun vk s4 ⟨k, H4, I4, pk, q4⟩ => ?_)
  have I5 : Inv X pins σ H4 { s4 with heap := s4.heap.push { cls := .type "slice", data := .fields #[vl, vu, vk] } } := I4.kept (t' := s4.toks) fun b ob q => Heap.get?_push_of_some _ q
  obtain ⟨T, id, hT, ht, hg⟩ := hr pins { s4 with heap := s4.heap.push { cls := .type "slice", data := .fields #[vl, vu, vk] } } σ H4 x v vl vu vk l u k s4.heap.objs.size Q I5 r1 (Heap.IsSliceOf.new ..) pl pu pk q4
  show wpAny (model X.prog X.w) X.A (subscriptTail e (.Slice lo hi (some stp) p2) v (.ref s4.heap.objs.size)) (EP X pins σ Q) X.xe { s4 with heap := s4.heap.push { cls := .type "slice", data := .fields #[vl, vu, vk] } }
  exact tail_any (ops := [v, .ref s4.heap.objs.size]) ht hT hg rfl
end
section
variable {X : Cx} {pins : List (Addr × Obj)} {σ : St} {H : Hp} {s : Shared}
end
section
variable {X : Cx} {k : Nat} {f : Addr} {fd : FuncData} {ps : List Str} {sp : Sp} {rlt : R2}
end
end L2
namespace Lw
open PySem PySem.Spec PyProof.Rows L2 Ma MaR
end Lw
namespace Lw
open PySem PySem.Spec PyProof.Rows L2 Ma MaR
theorem slice_past (w : List Nat) {i : Int} (h : (w.length : Int) ≤ i) : Txt.slice (S w) (some i) none = S [] := by
  have e : Builtin.Str.strSliceIndices (some i) none 1 (S w).length = [] := by
    unfold Builtin.Str.strSliceIndices sliceRange
    rw [S_len]
    simp only [show ((1 : Int) > 0) = True from by simp, if_true]
    have h1 : ¬ i < 0 := by omega
    simp only [if_neg h1]
    rw [if_neg (by omega)]
    rfl
  unfold Txt.slice
  rw [e]
  by_cases c : w = []
  · subst c; rfl
  · rw [if_neg]
    · rfl
    · rw [S_len]
      have : 0 < w.length := List.length_pos_iff.mpr c
      simp
      omega
theorem slice_fromA (w : List Nat) {i : Int} (h0 : 0 ≤ i) : Txt.slice (S w) (some i) none = S (w.drop i.toNat) := by
  by_cases c : i ≤ w.length
  · exact slice_from w h0 c
  · rw [slice_past w (by omega), List.drop_eq_nil_of_le (by omega)]
end Lw
namespace Lw
open PySem PySem.Spec PyProof.Rows L2 Ma MaR
end Lw
namespace PySem
open Sem (wp)
section
variable {prog : Program} {w : World} {A : Around} {E : Value → Shared → Prop} {s : Shared}
theorem drawT_item {j t : Addr} {k : Nat} {vs : Array Value} {x : Value} {Q : Value → Shared → Prop} (hj : s.heap.IsTupleIter j t k) (ht : s.heap.IsTuple t vs) (hx : vs[k]? = some x)
    (hQ : ∀ g, g.IsTupleIter j t (k + 1) → Heap.SameBut j s.heap g → Q x { s with heap := g }) : wpAny (model prog w) A (Builtin.SmallTypes.nextOf (.ref j)) Q E s := by
  obtain ⟨oj, goj, cj, dj⟩ := id hj
  obtain ⟨ot, got, _, m, dt⟩ := ht
  unfold Builtin.SmallTypes.nextOf
  refine wpAny_bind (wpAny_callSpecial?_slot (name := Str.ofString "__next__") hj.typeIs F.slot_tuple_iterator_next (wpAny_call_entry F.slot_tuple_iterator_next hj.typeIs F.entry_tuple_iterator_next ?_ (F.args_tuple_iterator_next_1 _)))
  show wpAny _ _ (field (.ref j) 0 >>= _) _ _ s
  refine wpAny_bind (wpAny_field goj dj (x := .ref t) rfl ?_)
  show wpAny _ _ (if (Value.ref t == Value.none) = true then _ else _) _ _ s
  rw [if_neg (by intro c; cases c)]
  show wpAny _ _ (field (.ref j) 1 >>= _) _ _ s
  refine wpAny_bind (wpAny_field goj dj (x := .int k 0) rfl ?_)
  show wpAny _ _ (seqItems? (.ref t) >>= _) _ _ s
  refine wpAny_bind (wpAny_seqItems got dt ?_)
  simp only [Int.toNat_natCast, hx]
  refine wpAny_bind (wpAny_setField goj dj (by simp) (wpAny_pure ⟨x, rfl, wpAny_pure (hQ _ ?_ (Heap.SameBut.update ..))⟩))
  refine ⟨_, Heap.get?_update_self _ goj (Obj.isFreed_of_fields (Obj.data_mapFields dj _)), (Obj.cls_mapFields ..).trans cj, ?_⟩
  rw [Obj.data_mapFields dj]
  simp [rawInt]
theorem drawT_end {j t : Addr} {k : Nat} {vs : Array Value} {Q : Value → Shared → Prop} (hh : A.handled = none) (hj : s.heap.IsTupleIter j t k) (ht : s.heap.IsTuple t vs) (hx : vs[k]? = none)
    (hE : ∀ g e, Heap.ExtBut j s.heap g → (∃ o, g.get? e = some o ∧ o.cls = .type "StopIteration") → E (.ref e) { s with heap := g }) : wpAny (model prog w) A (Builtin.SmallTypes.nextOf (.ref j)) Q E s := by
  obtain ⟨oj, goj, cj, dj⟩ := id hj
  obtain ⟨ot, got, _, m, dt⟩ := ht
  unfold Builtin.SmallTypes.nextOf
  refine wpAny_bind (wpAny_callSpecial?_slot (name := Str.ofString "__next__") hj.typeIs F.slot_tuple_iterator_next (wpAny_call_entry F.slot_tuple_iterator_next hj.typeIs F.entry_tuple_iterator_next ?_ (F.args_tuple_iterator_next_1 _)))
  show wpAny _ _ (field (.ref j) 0 >>= _) _ _ s
  refine wpAny_bind (wpAny_field goj dj (x := .ref t) rfl ?_)
  show wpAny _ _ (if (Value.ref t == Value.none) = true then _ else _) _ _ s
  rw [if_neg (by intro c; cases c)]
  show wpAny _ _ (field (.ref j) 1 >>= _) _ _ s
  refine wpAny_bind (wpAny_field goj dj (x := .int k 0) rfl ?_)
  show wpAny _ _ (seqItems? (.ref t) >>= _) _ _ s
  refine wpAny_bind (wpAny_seqItems got dt ?_)
  simp only [Int.toNat_natCast, hx]
  refine wpAny_bind (wpAny_rule (wpAny_bind (wpAny_setField goj dj (by simp) ?_)))
  show wpAny _ _ (newExc (.type "StopIteration") [] >>= _) _ _ _
  refine wpAny_bind ?_
  simp only [newExc, newTuple]
  refine wpAny_bind (wpAny_newObj_type ?_ (by size_fits))
  refine wpAny_bind (m := firstArgMember _ _) (wpAny_of_eq (a := Value.none) (by first | rfl | (simp only [firstArgMember]; rfl)) ?_)
  refine wpAny_newObj_type ?_ (by size_fits)
  simp only [raiseNew]
  refine wpAny_bind (wpAny_handled ?_)
  first | rw [show A.in1.handled = none from hh] | rw [hh]
  refine wpAny_bind (wpAny_pure (wpAny_throw ?_))
  exact hE _ _ (((Heap.SameBut.update ..).extBut.push _).push _) ⟨_, Heap.get?_push_size _ rfl, rfl⟩
structure ZApart (z a b i j t u : Addr) : Prop where
  az : a ≠ z
  bz : b ≠ z
  iz : i ≠ z
  jz : j ≠ z
  ab : a ≠ b
  ai : a ≠ i
  aj : a ≠ j
  bi : b ≠ i
  bj : b ≠ j
  ij : i ≠ j
  tz : t ≠ z
  tb : t ≠ b
  ti : t ≠ i
  tj : t ≠ j
  uz : u ≠ z
  ub : u ≠ b
  ui : u ≠ i
  uj : u ≠ j
end
end PySem
namespace L2
open PySem PySem.Spec PyProof.Rows
section
variable {X : Cx} {pins : List (Addr × Obj)} {σ : St} {H : Hp} {s : Shared} {h' : Heap}
theorem Inv.turnedN {t' : Nat} {ch : List Addr} {a : Addr} {xs : List V} (I : Inv X pins σ H s) (k : ∀ b o, b ∉ ch → s.heap.get? b = some o → h'.get? b = some o) (hf : ∀ b ∈ ch, FpOk X pins H b) (ha : s.heap.objs.size ≤ a)
    (new : ObjOk X.prog X.w (upd H a (.tup xs)) h' a (.tup xs)) : Inv X pins σ (upd H a (.tup xs)) { s with heap := h', toks := t' } := by
  have hn : H a = none := I.hok.fresh ha
  have un : ∀ {b u}, H b = some u → upd H a (.tup xs) b = some u := fun e => by rw [upd_ne (ne_of_none e hn)]; exact e
  have nch : ∀ {b u}, H b = some u → b ∉ ch := fun e hb => by rw [(hf _ hb).1] at e; cases e
  refine I.step (g' := s.gens) (d' := s.drawn) (ch := ch) (fun b hb => ?_) (fun b o _ _ hc e _ => k b o hc e) (fun b o _ _ hc e _ => ⟨o.slots, k b o hc e⟩) (fun b o _ e n => ?_) (fun b o hc e => ⟨o, k b o hc e⟩) (fun _ _ e => un e) (fun _ _ _ e => un e)
    (fun b ps e => ⟨#[], by rw [un e]; simp⟩) (fun m hm => ?_) (fun b u e => ?_) I.bare
  · obtain ⟨f0, f1, f2, f3, f4, f5⟩ := hf b hb
    exact ⟨f3, f1, f4, f5⟩
  · rw [upd_ne (Nat.ne_of_lt (Nat.lt_of_lt_of_le (Heap.lt_size e) ha))]
    exact n
  · obtain ⟨o, es, ep, ho, r⟩ := hm
    exact ⟨o, es, ep, k _ o (fun hb => (hf _ hb).2.1 rfl) ho, r⟩
  · by_cases hb : b = a
    · subst hb
      rw [upd_same] at e
      cases e
      exact new
    · rw [upd_ne hb] at e
      refine (I.hok b u e).stay (fun c v hc q => k c v ?_ q) (fun c q => un q) fun c ys q => un q
      rcases hc with z | z
      · rw [z]; exact nch e
      · exact nch z
theorem Inv.turnedM {t' : Nat} {ch : List Addr} (I : Inv X pins σ H s) (k : ∀ b o, b ∉ ch → s.heap.get? b = some o → h'.get? b = some o) (hf : ∀ b ∈ ch, FpOk X pins H b) : Inv X pins σ H { s with heap := h', toks := t' } := by
  have nch : ∀ {b u}, H b = some u → b ∉ ch := fun e hb => by rw [(hf _ hb).1] at e; cases e
  refine I.step (g' := s.gens) (d' := s.drawn) (ch := ch) (fun b hb => ?_) (fun b o _ _ hc e _ => k b o hc e) (fun b o _ _ hc e _ => ⟨o.slots, k b o hc e⟩) (fun b o _ e n => n) (fun b o hc e => ⟨o, k b o hc e⟩) (fun _ _ e => e) (fun _ _ _ e => e)
    (fun b ps e => ⟨#[], by rw [e]; simp⟩) (fun m hm => ?_) (fun b u e => ?_) I.bare
  · obtain ⟨f0, f1, f2, f3, f4, f5⟩ := hf b hb
    exact ⟨f3, f1, f4, f5⟩
  · obtain ⟨o, es, ep, ho, r⟩ := hm
    exact ⟨o, es, ep, k _ o (fun hb => (hf _ hb).2.1 rfl) ho, r⟩
  · refine (I.hok b u e).stay (fun c v hc q => k c v ?_ q) (fun c q => q) fun c ys q => q
    rcases hc with z | z
    · rw [z]; exact nch e
    · exact nch z
end
section
variable {X : Cx}
theorem zap (n t u : Nat) (h1 : t < n) (h2 : u < n) : ZApart (n + 4) (n + 2) (n + 3) n (n + 1) t u :=
  ⟨(by omega : (n + 2 : Nat) ≠ n + 4), (by omega : (n + 3 : Nat) ≠ n + 4), (by omega : (n : Nat) ≠ n + 4), (by omega : (n + 1 : Nat) ≠ n + 4), (by omega : (n + 2 : Nat) ≠ n + 3), (by omega : (n + 2 : Nat) ≠ n), (by omega : (n + 2 : Nat) ≠ n + 1), (by omega : (n + 3 : Nat) ≠ n), (by omega : (n + 3 : Nat) ≠ n + 1), (by omega : (n : Nat) ≠ n + 1),
   (by omega : (t : Nat) ≠ n + 4), (by omega : (t : Nat) ≠ n + 3), (by omega : (t : Nat) ≠ n), (by omega : (t : Nat) ≠ n + 1), (by omega : (u : Nat) ≠ n + 4), (by omega : (u : Nat) ≠ n + 3), (by omega : (u : Nat) ≠ n), (by omega : (u : Nat) ≠ n + 1)⟩
end
section
variable {κ : Type} [DecidableEq κ]
end
section
variable {P : Program} {w : World} {H : Hp} {h : Heap} {a : Addr}
end
section
variable {X : Cx} {pins : List (Addr × Obj)} {σ : St} {H : Hp} {s : Shared} {a : Addr} {y v : V} {u r : Value} {o : Option V} {A : Around} {E : Value → Shared → Prop}
end
section
variable {X : Cx} {pins : List (Addr × Obj)} {σ : St} {H : Hp} {s : Shared} {a : Addr} {kvs : List (Key × V)} {k : Key} {u : Value} {A : Around} {E : Value → Shared → Prop}
end
section
variable {X : Cx} {o i e value : Expr} {pos pos' tpos : Pos} {td ty tv : TE}
end
section
variable {X : Cx} {pos : Pos}
end
section
variable {X : Cx} {pins : List (Addr × Obj)} {σ : St} {H : Hp} {s : Shared} {a : Addr} {y d : V} {u r : Value} {o : Option V} {A : Around} {E : Value → Shared → Prop}
end
section
variable {X : Cx} {o e f : Expr} {apos cpos : Pos} {td ty tx : TE}
end
section
variable {X : Cx} {pins : List (Addr × Obj)} {σ : St} {H : Hp} {s : Shared} {a : Addr} {kvs : List (Key × V)} {A : Around} {E : Value → Shared → Prop}
end
section
variable {X : Cx} {pins : List (Addr × Obj)} {σ : St} {H : Hp} {s : Shared} {a : Addr} {y : V} {u : Value} {A : Around} {E : Value → Shared → Prop}
end
def picks (xs : List V) (f : Nat → Nat) (l : List Nat) : List V := l.filterMap fun m => xs[f m]?
theorem vals_picks {xs : List V} {us : List Value} (r : Vals xs us) (f : Nat → Nat) : ∀ l : List Nat, Vals (picks xs f l) (l.filterMap fun m => us[f m]?)
  | [] => .nil
  | m :: l => by
    have ih := vals_picks r f l
    unfold picks at *
    rw [List.filterMap_cons, List.filterMap_cons]
    cases hx : xs[f m]? with
    | none =>
      have : us[f m]? = none := by
        have h1 := r.length
        have h2 := List.getElem?_eq_none_iff.mp hx
        exact List.getElem?_eq_none (by omega)
      rw [this]
      exact ih
    | some x =>
      obtain ⟨u, hu, ru⟩ := r.get hx
      rw [hu]
      exact .cons ru ih
theorem picks_len (xs : List V) (f : Nat → Nat) (l : List Nat) : (picks xs f l).length ≤ l.length := List.length_filterMap_le _ _
section
variable {prog : Program} {w : World} {A : Around} {E : Value → Shared → Prop} {s : Shared}
theorem applied_two {sl : Addr} {vu vk : Value} {j n : Nat} {Q : Int × Int × Nat → Shared → Prop} (hs : s.heap.IsSliceOf sl .none vu vk) (pu : IsPart vu (some (j : Int))) (pk : IsPart vk (some 2)) (hj : j ≤ n)
    (h : Q (0, 2, (j + 1) / 2) s) : wpAny (model prog w) A (Builtin.Slice.sliceApplied (.ref sl) (pure (n : Int))) Q E s := by
  obtain ⟨os, hos, hcs, hds⟩ := id hs
  unfold Builtin.Slice.sliceApplied Builtin.Slice.sliceFields
  refine wpAny_bind (wpAny_bind (wpAny_field hos hds (x := .none) rfl (wpAny_bind (wpAny_field hos hds (x := vu) rfl (wpAny_bind (wpAny_field hos hds (x := vk) rfl (wpAny_pure ?_)))))))
  refine wpAny_bind (HT.slicePart_ pk ?_)
  show wpAny _ _ (if ((2 : Int) == 0) = true then _ else _) _ _ s
  rw [if_neg (by decide)]
  refine wpAny_bind (HT.slicePart_ .none (wpAny_bind (HT.slicePart_ pu (wpAny_bind (wpAny_pure ?_)))))
  show wpAny _ _ (match Builtin.Slice.sliceAdjust none (some (j : Int)) 2 (n : Int) with | (lo, hi) => pure (lo, (2 : Int), Builtin.Slice.slicePlaces lo hi 2)) _ _ s
  have e1 : Builtin.Slice.sliceAdjust none (some (j : Int)) 2 (n : Int) = (0, (j : Int)) := by
    unfold Builtin.Slice.sliceAdjust
    have h1 : ¬ ((2 : Int) < 0) := by omega
    have h2 : ¬ ((j : Int) < 0) := by omega
    simp only [if_neg h1, if_neg h2]
    congr 1
    omega
  rw [e1]
  show wpAny _ _ (pure ((0 : Int), (2 : Int), Builtin.Slice.slicePlaces 0 (j : Int) 2)) _ _ s
  have e2 : Builtin.Slice.slicePlaces 0 (j : Int) 2 = (j + 1) / 2 := by
    unfold Builtin.Slice.slicePlaces
    rw [if_pos (by omega)]
    split <;> omega
  rw [e2]
  exact wpAny_pure h
theorem item_two {t sl : Addr} {items : Array Value} {vu vk : Value} {j : Nat} {Q : Value → Shared → Prop} (ht : IsTup s.heap t items) (hs : s.heap.IsSliceOf sl .none vu vk) (pu : IsPart vu (some (j : Int))) (pk : IsPart vk (some 2)) (hj : j ≤ items.size)
    (h : Q (.ref s.heap.objs.size) { s with heap := s.heap.push { cls := .type "tuple", data := .seq ((List.range ((j + 1) / 2)).filterMap fun m => items.toList[2 * m]?).toArray } })
    (hsz : items.size ≤ sizeLine) : wpAny (model prog w) A (getItem (.ref t) (.ref sl)) Q E s := by
  have htake : sizeOk (.seq ((List.range ((j + 1) / 2)).filterMap fun m => items.toList[2 * m]?).toArray) := by
    show ((List.range ((j + 1) / 2)).filterMap fun m => items.toList[2 * m]?).toArray.size ≤ sizeLine
    rw [List.size_toArray]
    refine Nat.le_trans (List.length_filterMap_le _ _) ?_
    rw [List.length_range]
    omega
  obtain ⟨os, hos, hcs, hds⟩ := id hs
  have hTs : s.TypeIs (.ref sl) "slice" := ⟨os, hos, hcs⟩
  unfold getItem
  try with_reducible refine wpAny_holding ?_
  first | refine wpAny_bind (wpAny_pure ?_) | skip
  refine wpAny_bind (wpAny_sequenceKey ht.typeIs (by decide) ?_)
  refine wpAny_bind (wpAny_callSpecial?_slot (name := Str.ofString "__getitem__") ht.typeIs PyProof.Rows.slot_tuple_getitem
    (wpAny_call_entry PyProof.Rows.slot_tuple_getitem ht.typeIs entry_tuple_getitem ?_ (args_tuple_getitem _ _)))
  show wpAny _ _ (Builtin.Tuple.tupleItemsOf (.ref t) >>= _) _ _ s
  refine wpAny_bind (tupleItemsOf_ ht ?_)
  refine wpAny_bind (wpAny_typeOf hTs ?_)
  rw [if_pos (by decide)]
  refine wpAny_bind (applied_two hs pu pk hj ?_)
  show wpAny _ _ (if ((0 : Int) == 0 && (2 : Int) == 1 && ((j + 1) / 2) == items.size) = true then _ else _) _ _ s
  rw [if_neg (by simp)]
  have e : (fun (m : Nat) => items[((0 : Int) + (m : Int) * 2).toNat]?) = fun m => items.toList[2 * m]? := by
    funext m
    have : ((0 : Int) + (m : Int) * 2).toNat = 2 * m := by omega
    rw [this]
    simp
  rw [e]
  first
    | exact wpAny_bind (m := Builtin.Tuple.tupleExact _) (wpAny_newObj_type (wpAny_pure ⟨_, rfl, wpAny_pure h⟩) htake)
    | exact wpAny_bind (m := Builtin.Tuple.tupleExact _) (wpAny_newObj_type (wpAny_bind (wpAny_pure (wpAny_pure ⟨_, rfl, wpAny_pure h⟩))) htake)
    | exact wpAny_bind (wpAny_bind (m := Builtin.Tuple.tupleExact _) (wpAny_newObj_type (wpAny_pure (wpAny_pure ⟨_, rfl, wpAny_pure h⟩)) htake))
    | exact wpAny_bind (wpAny_bind (m := Builtin.Tuple.tupleExact _) (wpAny_newObj_type (wpAny_pure ⟨_, rfl, wpAny_pure h⟩) htake))
end
def rSl2 (K : PySem.W.Frag) : V → Option Int → Option Int → Option Int → Hp → VK → Prop := fun x lo hi st H Q => ∃ (a : Addr) (xs : List V) (j : Nat), x = .ref a ∧ SqT K H a xs ∧ lo = none ∧ hi = some (j : Int) ∧ st = some 2 ∧ j ≤ xs.length ∧ ∀ p, H p = none → Q (.ref p) (upd H p (.tup (picks xs (2 * ·) (List.range ((j + 1) / 2)))))
theorem sl3_tupK {X : Cx} {K : PySem.W.Frag} (hK : X.K = K) : SlR3 X (rSl2 K) := by
  subst hK
  intro pins s σ H x v vl vu vk lo hi st sl Q I rx hs pl pu pk h
  obtain ⟨a, xs, j, rfl, hx, rfl, rfl, rfl, hj, q⟩ := h
  cases rx
  cases pl
  obtain ⟨its, r, ht, hz⟩ := I.tuple hx
  have hlen := r.length
  refine ⟨"tuple", _, PyProof.Rows.slot_tuple_getitem.lookup, ht.typeIs, ?_⟩
  refine item_two ht hs pu pk (by rw [List.size_toArray]; omega) ?_ (by rw [List.size_toArray]; omega)
  have rv := vals_picks r (2 * ·) (List.range ((j + 1) / 2))
  have pl := picks_len xs (2 * ·) (List.range ((j + 1) / 2))
  rw [List.length_range] at pl
  refine ⟨.ref s.heap.objs.size, _, I.laid (t' := s.toks) (o := .tup (picks xs (2 * ·) (List.range ((j + 1) / 2)))) (fun b ob q => Heap.get?_push_of_some _ q) (Nat.le_refl _) ?_, rfl, q _ (I.hok.fresh (Nat.le_refl _))⟩
  refine ⟨by omega, _, rv, ?_⟩
  exact IsTup.new _ _
end L2
namespace Lw
open PySem PySem.Spec PyProof.Rows L2 Ma MaR
def wds (rs : List (List Nat)) : List V := rs.map fun x => V.str (S x)
theorem wds_len (rs : List (List Nat)) : (wds rs).length = rs.length := by unfold wds; rw [List.length_map]
theorem wds_get {rs : List (List Nat)} {i : Nat} {v : V} (h : (wds rs)[i]? = some v) : ∃ x, rs[i]? = some x ∧ v = .str (S x) := by
  unfold wds at h
  rw [List.getElem?_map] at h
  cases hq : rs[i]? with
  | none => rw [hq] at h; cases h
  | some x => rw [hq] at h; exact ⟨x, rfl, (Option.some.inj h).symm⟩
theorem wds_at {rs : List (List Nat)} {i : Nat} {x : List Nat} (h : rs[i]? = some x) : (wds rs)[i]? = some (.str (S x)) := by unfold wds; rw [List.getElem?_map, h]; rfl
theorem wds_flat (rs : List (List Nat)) : (wds rs).all flatV = true := by
  rw [List.all_eq_true]
  intro v hv
  obtain ⟨x, _, rfl⟩ := List.mem_map.mp hv
  rfl
structure RT (rs : List (List Nat)) (n M : Nat) : Prop where
  len : rs.length = n
  all : ∀ x ∈ rs, AllL x
  le : ∀ x ∈ rs, x.length ≤ M
theorem getD_mem {rs : List (List Nat)} {P : List Nat → Prop} (h0 : P []) (h : ∀ x ∈ rs, P x) (i : Nat) : P (rs.getD i []) := by
  rw [List.getD_eq_getElem?_getD]
  cases hq : rs[i]? with
  | none => exact h0
  | some x => exact h x (List.mem_of_getElem? hq)
section
variable {rs : List (List Nat)} {n M : Nat}
theorem RT.getA (r : RT rs n M) (i : Nat) : AllL (rs.getD i []) := getD_mem AllL.nil r.all i
theorem RT.getL (r : RT rs n M) (i : Nat) : (rs.getD i []).length ≤ M := getD_mem (P := fun x => x.length ≤ M) (Nat.zero_le _) r.le i
end
def lowN (n : Nat) : List Nat := [97, 98, 99, 100].take n
def lowW (n : Nat) : List (List Nat) := (lowN n).map fun c => [c]
theorem n14 {n : Nat} (h1 : 1 ≤ n) (h4 : n ≤ 4) : n = 1 ∨ n = 2 ∨ n = 3 ∨ n = 4 := by omega
theorem lowW_rt {n : Nat} (h1 : 1 ≤ n) (h4 : n ≤ 4) : RT (lowW n) n 1 := by
  refine ⟨?_, ?_, ?_⟩
  · rcases n14 h1 h4 with rfl | rfl | rfl | rfl <;> rfl
  · intro x hx
    obtain ⟨c, hc, rfl⟩ := List.mem_map.mp hx
    intro d hd
    rw [List.mem_singleton.mp hd]
    have : c ∈ [97, 98, 99, 100] := List.mem_of_mem_take hc
    simp only [List.mem_cons, List.not_mem_nil, or_false] at this
    unfold isL
    omega
  · intro x hx
    obtain ⟨c, _, rfl⟩ := List.mem_map.mp hx
    exact Nat.le_refl _
theorem _root_.L2.SqT.same {K : PySem.W.Frag} {H H' : Hp} {a : Addr} {xs : List V} (s : Same H H') (h : SqT K H a xs) : SqT K H' a xs := by
  rcases h with (h | ⟨o, h⟩) | h
  · exact .inl (.inl (s _ _ h))
  · exact .inl (.inr ⟨o, s _ _ h⟩)
  · exact .inr h
theorem SqT.new {K : PySem.W.Frag} {H : Hp} {a p : Addr} {xs : List V} {o : HO} (h : SqT K H a xs) (hp : H p = none) : SqT K (upd H p o) a xs := h.same (Same.new hp)
def spFirst : Sp := fun vs H Q _ => ∃ n : Nat, vs = [.int (n : Nat)] ∧ 1 ≤ n ∧ n ≤ 4 ∧ ∀ (p : Addr) (H' : Hp), H p = none → Same H H' → H' p = some (.tup (wds (lowW n))) → Q (.ref p) H'
def spRetelling : Sp := fun vs H Q _ => ∃ (fl sc : Addr) (n : Nat), vs = [.ref fl, .int (n : Nat)] ∧ IsFl H fl sc ∧ 1 ≤ n ∧ n ≤ 4 ∧ ∀ (p : Addr) (rs : List (List Nat)) (H' : Hp), H p = none → RT rs n 8 → (∀ x ∈ rs, OfN n x ∧ Plain x) → IsFl H' fl sc → Kp fl H H' → H' p = some (.tup (wds rs)) → Q (.ref p) H'
def letV : List V := lstC lets
theorem letV_len : letV.length = 8 := rfl
theorem tab_fit {xs : List V} {i : Array Value} (h : Vals xs i.toList) (hl : xs.length ≤ 1000) : i.size ≤ sizeLine := by
  have h2 : xs.length = i.toList.length := h.length
  have h3 : i.toList.length = i.size := Array.length_toList
  exact len_1000 (by omega)
theorem picks_low {n : Nat} (h1 : 1 ≤ n) (h4 : n ≤ 4) : picks letV (2 * ·) (List.range ((2 * n + 1) / 2)) = wds (lowW n) := by
  rcases n14 h1 h4 with rfl | rfl | rfl | rfl <;> rfl
theorem low_get {n i : Nat} (h4 : n ≤ 4) {v : V} (h : (wds (lowW n))[i]? = some v) : v = .str (S [97 + i]) ∧ i < n := by
  have hi : i < n := by
    have := (List.getElem?_eq_some_iff.mp h).1
    rw [wds_len] at this
    unfold lowW lowN at this
    rw [List.length_map, List.length_take] at this
    omega
  obtain ⟨x, hx, rfl⟩ := wds_get h
  unfold lowW lowN at hx
  rw [List.getElem?_map, List.getElem?_take_of_lt hi] at hx
  have : i = 0 ∨ i = 1 ∨ i = 2 ∨ i = 3 := by omega
  rcases this with rfl | rfl | rfl | rfl <;> (cases hx; exact ⟨rfl, hi⟩)
theorem get_getDL {rs : List (List Nat)} {i : Nat} (h : i < rs.length) : rs[i]? = some (rs.getD i []) := by rw [List.getD_eq_getElem?_getD, List.getElem?_eq_getElem h]; rfl
structure GoodR (n M : Nat) (rs : List (List Nat)) : Prop where
  rt : RT rs n M
  ofn : ∀ x ∈ rs, OfN n x
  plain : ∀ x ∈ rs, Plain x
theorem kp_tup {fl sc p : Addr} {H H' : Hp} {xs : List V} (f : IsFl H fl sc) (k : Kp fl H H') (h : H p = some (.tup xs)) : H' p = some (.tup xs) := by
  obtain ⟨ns, i, x, b, c, h1, _⟩ := f
  exact k _ _ h fun e => by rw [e, h1] at h; cases h
theorem slice_toA (w : List Nat) {j : Int} (h0 : 0 ≤ j) : Txt.slice (S w) none (some j) = S (w.take j.toNat) := by
  by_cases c : j ≤ w.length
  · exact slice_to w h0 c
  · have e : Builtin.Str.strSliceIndices none (some j) 1 (S w).length = Builtin.Str.strSliceIndices none (some (w.length : Int)) 1 (S w).length := by
      unfold Builtin.Str.strSliceIndices
      rw [S_len]
      have h1 : ¬ j < 0 := by omega
      have h2 : ¬ ((w.length : Int) < 0) := by omega
      simp only [show ((1 : Int) > 0) = True from by simp, if_true, if_neg h1, if_neg h2]
      congr 1
      omega
    have e2 : Txt.slice (S w) none (some j) = Txt.slice (S w) none (some (w.length : Int)) := by
      unfold Txt.slice
      rw [e]
    rw [e2, slice_to w (by omega) (by omega), List.take_of_length_le (by omega), List.take_of_length_le (by omega)]
end Lw
namespace PySem
section
variable {prog : Program} {w : World} {A : Around} {R : Result → Shared → Prop} {s : Shared}
end
end PySem
namespace L2
open PySem PySem.Spec PyProof.Rows
section
variable {X : Cx} {scope : Scope} {x y : Str} {ix : List Nat}
end
section
variable {X : Cx} {scope : Scope} {x y : Str} {px py tp pos : Pos} {k1 : Nat} {ix : List Nat} {elt iter : Expr} {ifs : List Expr} {wi : TI} {ti : TT} {te : TE}
end
end L2
namespace L2
open PySem PySem.Spec PyProof.Rows PySem.Calls
section
variable {X : Cx}
def tFstr (te : TE) (y : Str) : TE := fun σ H Q => te σ H fun x H1 => ∃ z : Str, x = .str z ∧ z.length + y.length ≤ 1000 ∧ Q (.str (z ++ y)) H1
theorem pe_fstr {e : Expr} {te : TE} {y : Str} {k : Nat} {p1 p2 pos : Pos} (he : PE X e te) :
    PE X (.JoinedStr [.FormattedValue e (-1) none p1, .Constant (.str y) k p2] pos) (tFstr te y) := by
  intro pins s σ H Q I h
  refine JoinedStr_many (joinParts_cons (FormattedValue_plain (thn (he pins s σ H _ I h) fun v s1 ⟨x, H1, I1, r1, z, e1, hz, q⟩ => ?_)))
  subst e1
  obtain ⟨t, rfl⟩ := r1
  have h1000 : 1000 ≤ sizeLine := Nat.le_of_lt (small1000 (Nat.le_refl _))
  have e0 : (Str.empty ++ z) = z := by
    show Str.mk (#[] ++ z.cps) = z
    rw [Array.empty_append]
  refine formatField_str (fun t' tk => ?_) (by omega)
  show (Str.empty ++ z).length ≤ sizeLine ∧ _
  rw [e0]
  refine ⟨by omega, ?_⟩
  refine joinParts_cons (Calls.Constant_str ?_)
  show (z ++ y).length ≤ sizeLine ∧ _
  have e3 : (z ++ y).length = z.length + y.length := strLen_append z y
  refine ⟨by rw [e3]; omega, joinParts_nil ?_ (by rw [e3]; omega)⟩
  exact ⟨.str (z ++ y), H1, I1.tok _, ⟨_, rfl⟩, q⟩
theorem mt_startswith : MtR X "str.startswith" (fun x xs H Q => ∃ z y, x = .str z ∧ xs = [.str y] ∧ Q (.bl (0 + y.length ≤ z.length && Builtin.Str.subAt z y 0)) H) := by
  intro pins s σ H x xs v us Q I rx r h
  obtain ⟨z, y, rfl, rfl, q⟩ := h
  obtain ⟨t, rfl⟩ := rx
  obtain ⟨u, rfl, ru⟩ := r.one
  obtain ⟨tu, rfl⟩ := ru
  exact call_gives F.slot_str_startswith (typeIs_str _ _ _) F.entry_str_startswith (F.args_str_startswith_2 _ _) (gives_str_startswith z y t tu) ⟨.bl _, H, I, rfl, q⟩
theorem vals_strValues : ∀ l : List (Str × Tok), Vals ((l.map (·.1)).map V.str) (strValues l)
  | [] => .nil
  | p :: r => .cons ⟨p.2, rfl⟩ (vals_strValues r)
theorem split_len {x y : Str} : (Txt.split x y).length ≤ x.length + 2 := by
  unfold Txt.split
  split
  · simp
  · split
    · simp
    · rw [length_partsBetween]
      have e1 := StrLaws.occ_length_le x y 0 x.length (x.length + 1)
      omega
theorem mt_split : MtR X "str.split" (fun x xs H Q => ∃ z y, x = .str z ∧ xs = [.str y] ∧ (y.length == 0) = false ∧ z.length ≤ 900 ∧ ∀ p, H p = none → Q (.ref p) (upd H p (.lst ((Txt.split z y).map V.str)))) := by
  intro pins s σ H x xs v us Q I rx r h
  obtain ⟨z, y, rfl, rfl, hy, hz, q⟩ := h
  obtain ⟨t, rfl⟩ := rx
  obtain ⟨u, rfl, ru⟩ := r.one
  obtain ⟨tu, rfl⟩ := ru
  have h1000 : 1000 ≤ sizeLine := Nat.le_of_lt (small1000 (Nat.le_refl _))
  have fin : ∀ (l : List (Str × Tok)) (k : Nat), l.map (·.1) = Txt.split z y → EP X pins σ Q (.ref s.heap.objs.size) { s with toks := k, heap := s.heap.push { cls := .type "list", data := .seq (strValues l).toArray } } := fun l k e => by
    have hl := split_len (x := z) (y := y)
    refine ⟨.ref s.heap.objs.size, _, I.lnew (t' := k) (by rw [← e]; exact vals_strValues l) ?_, rfl, q _ (I.hok.fresh (Nat.le_refl _))⟩
    have : l.length = (Txt.split z y).length := by rw [← e, List.length_map]
    first | (rw [List.length_map]; omega) | (simp; omega)
  have hn : (Builtin.Str.partsBetween z (Builtin.Str.occurrences z y 0 z.length (z.length + 1)) y.length).length ≤ sizeLine := by
    have e1 := StrLaws.occ_length_le z y 0 z.length (z.length + 1)
    rw [length_partsBetween]; omega
  cases h1 : (decide (z.length < y.length) || decide (Builtin.Str.strKind z < Builtin.Str.strKind y))
  · cases hf : (Builtin.Str.occurrences z y 0 z.length (z.length + 1)).isEmpty
    · refine call_meets F.slot_str_split (typeIs_str _ _ _) F.entry_str_split (F.args_str_split_2 _ _) (meets_str_split_sep z y t tu h1 hy hf (by omega) hn) ?_
      show wants _ _ _ { s with toks := _, heap := s.heap.push { cls := .type "list", data := .seq (strsFrom s.toks (Builtin.Str.partsBetween z (Builtin.Str.occurrences z y 0 z.length (z.length + 1)) y.length)).toArray } }
      rw [strsFrom_eq]
      exact fin (numbered s.toks _) _ ((numbered_texts _ _).trans ((if_neg (ne_true_of_eq_false h1)).trans (if_neg (ne_true_of_eq_false hf))).symm)
    · exact call_meets F.slot_str_split (typeIs_str _ _ _) F.entry_str_split (F.args_str_split_2 _ _) (meets_str_split_not_found z y t tu h1 hy hf)
        (fin [(z, t)] s.toks ((if_neg (ne_true_of_eq_false h1)).trans (if_pos hf)).symm)
  · exact call_meets F.slot_str_split (typeIs_str _ _ _) F.entry_str_split (F.args_str_split_2 _ _) (meets_str_split_cannot_occur z y t tu h1)
      (fin [(z, t)] s.toks (if_pos h1).symm)
end
end L2
namespace PySem
open Sem (wp)
section
variable {prog : Program} {w : World} {A : Around} {E : Value → Shared → Prop} {s : Shared}
structure ZStL (h : Heap) (z a b i j t u : Addr) (k : Nat) (f0 : Value) : Prop where
  zip : IsZip h z a b f0
  its : IsPair h a (.ref i) (.ref j)
  own : ∃ p q, IsPair h b p q
  one : h.IsTupleIter i t k
  two : h.IsListIter j u k
theorem ZStL.at {h h' : Heap} {z a b i j t u : Addr} {k : Nat} {f0 : Value} (S : ZStL h z a b i j t u k f0) (kp : ∀ c ∈ [z, a, b, i, j], ∀ o, h.get? c = some o → h'.get? c = some o) : ZStL h' z a b i j t u k f0 := by
  obtain ⟨p, q, ho⟩ := S.own
  obtain ⟨o1, g1, r1⟩ := S.one
  obtain ⟨o2, g2, r2⟩ := S.two
  exact ⟨kp z (by simp) _ S.zip, kp a (by simp) _ S.its, ⟨p, q, kp b (by simp) _ ho⟩, ⟨o1, kp i (by simp) _ g1, r1⟩, ⟨o2, kp j (by simp) _ g2, r2⟩⟩
theorem zipTL_item {z a b i j t u : Addr} {k : Nat} {xs ys : Array Value} {x y : Value} {Q : Value → Shared → Prop} (D : ZApart z a b i j t u) (S : ZStL s.heap z a b i j t u k .none)
    (ht : s.heap.IsTuple t xs) (hu : s.heap.IsList u ys) (hx : xs[k]? = some x) (hy : ys[k]? = some y)
    (hQ : ∀ g, ZStL g z a b i j t u (k + 1) (rawInt s.heap.objs.size) → IsPair g s.heap.objs.size x y → g.objs.size = s.heap.objs.size + 1 → (∀ c o, c ≠ z → c ≠ b → c ≠ i → c ≠ j → s.heap.get? c = some o → g.get? c = some o) → Q (.ref s.heap.objs.size) { s with heap := g }) :
    wpAny (model prog w) A (Builtin.«zip.__next__» ⟨[.ref z], []⟩) (fun fin s' => ∃ v, fin = .done (.ret v) ∧ Q v s') E s := by
  obtain ⟨hz, hI, ⟨p, q, hO⟩, h1, h2⟩ := S
  show wpAny _ _ (field (.ref z) 2 >>= _) _ _ _
  refine wpAny_bind (wpAny_field hz rfl (x := .bool false) rfl ?_)
  show wpAny _ _ (field (.ref z) 3 >>= _) _ _ _
  refine wpAny_bind (wpAny_field hz rfl (x := .ref a) rfl (wpAny_bind (wpAny_seqItems hI rfl ?_)))
  show wpAny _ _ (Builtin.SmallTypes.ownedTupleIsFree (.ref z) >>= _) _ _ _
  unfold Builtin.SmallTypes.ownedTupleIsFree
  refine wpAny_bind (wpAny_bind (wpAny_field hz rfl (x := .none) rfl (wpAny_pure ?_)))
  simp only [if_true]
  refine wpAny_bind (wpAny_rule (wpAny_bind (wpAny_field hz rfl (x := .ref b) rfl (wpAny_bind (wpAny_setField_rec hz (by simp) fun g1 z1 e1 => ?_)))))
  replace z1 : IsZip g1 z a b .ellipsis := z1
  refine wpAny_bind ?_
  simp only [List.zipIdx_cons, List.zipIdx_nil, List.forIn_cons, List.forIn_nil]
  refine wpAny_bind (wpAny_bind (wpAny_onRaise ?_))
  show wpAny _ _ (Builtin.SmallTypes.nextOf (.ref i) >>= _) _ _ _
  refine wpAny_bind (drawT_item (h1.extBut e1.extBut D.iz) (ht.extBut e1.extBut D.tz) hx fun g2 i2 e2 => wpAny_pure ?_)
  have o2 : IsPair g2 b p q := e2.extBut _ _ D.bi (e1.extBut _ _ D.bz hO)
  refine wpAny_bind (wpAny_seqItems o2 rfl (wpAny_bind (wpAny_updateSeq_pair o2 fun g3 o3 e3 => wpAny_bind (wpAny_letGo (wpAny_pure ?_)))))
  replace o3 : IsPair g3 b x q := o3
  refine wpAny_bind (wpAny_bind (wpAny_onRaise ?_))
  show wpAny _ _ (Builtin.SmallTypes.nextOf (.ref j) >>= _) _ _ _
  have j3 := ((h2.extBut e1.extBut D.jz).extBut e2.extBut D.ij.symm).extBut e3.extBut D.bj.symm
  have u3 := ((hu.extBut e1.extBut D.uz).extBut e2.extBut D.ui).extBut e3.extBut D.ub
  refine wpAny_bind (wpAny_nextOf_list_item j3 u3 hy fun g4 j4 e4 => wpAny_pure ?_)
  have o4 : IsPair g4 b x q := e4.extBut _ _ D.bj o3
  refine wpAny_bind (wpAny_seqItems o4 rfl (wpAny_bind (wpAny_updateSeq_pair o4 fun g5 o5 e5 => wpAny_bind (wpAny_letGo (wpAny_pure (wpAny_pure ?_))))))
  replace o5 : IsPair g5 b x y := o5
  refine wpAny_bind (wpAny_seqItems o5 rfl (wpAny_bind (wpAny_newTuple ?_)))
  have sz : g5.objs.size = s.heap.objs.size := by rw [e5.1, e4.1, e3.1, e2.1, e1.1]
  have z5 : IsZip g5 z a b .ellipsis := e5.extBut _ _ D.bz.symm (e4.extBut _ _ D.jz.symm (e3.extBut _ _ D.bz.symm (e2.extBut _ _ D.iz.symm z1)))
  have kp : ∀ c o, c ≠ z → c ≠ b → c ≠ i → c ≠ j → s.heap.get? c = some o → g5.get? c = some o := fun c o c1 c2 c3 c4 e => e5.extBut _ _ c2 (e4.extBut _ _ c4 (e3.extBut _ _ c2 (e2.extBut _ _ c3 (e1.extBut _ _ c1 e))))
  have i5 : g5.IsTupleIter i t (k + 1) := ((i2.extBut e3.extBut D.bi.symm).extBut e4.extBut D.ij).extBut e5.extBut D.bi.symm
  have j5 : g5.IsListIter j u (k + 1) := j4.extBut e5.extBut D.bj.symm
  have lz := Heap.lt_size z5
  show wpAny _ _ (Builtin.SmallTypes.ownedTupleHandOut (.ref z) (.ref g5.objs.size) >>= _) _ _ _
  unfold Builtin.SmallTypes.ownedTupleHandOut
  have z6 : IsZip (g5.push { cls := .type "tuple", data := .seq #[x, y] }) z a b .ellipsis := Heap.get?_push_of_some _ z5
  refine wpAny_bind (wpAny_bind (wpAny_setField_rec z6 (by simp) fun g7 z7 e7 => ?_))
  replace z7 : IsZip g7 z a b (rawInt g5.objs.size) := z7
  refine wpAny_setField_rec z7 (by simp) fun g8 z8 e8 => wpAny_pure ⟨_, rfl, ?_⟩
  replace z8 : IsZip g8 z a b (rawInt g5.objs.size) := z8
  have up : ∀ c o, c ≠ z → g5.get? c = some o → g8.get? c = some o := fun c o c1 e => e8.extBut _ _ c1 (e7.extBut _ _ c1 (Heap.get?_push_of_some _ e))
  have T8 : IsPair g8 g5.objs.size x y := e8.extBut _ _ (Nat.ne_of_gt lz) (e7.extBut _ _ (Nat.ne_of_gt lz) (Heap.get?_push_size _ rfl))
  have n8 : g8.objs.size = g5.objs.size + 1 := by rw [e8.1, e7.1, Heap.size_push]
  show Q (.ref g5.objs.size) _
  rw [sz] at z8 T8 n8 ⊢
  obtain ⟨oi, goi, ri⟩ := i5
  obtain ⟨oj, goj, rj⟩ := j5
  exact hQ g8 ⟨z8, up _ _ D.az (kp _ _ D.az D.ab D.ai D.aj hI), ⟨x, y, up _ _ D.bz o5⟩, ⟨oi, up _ _ D.iz goi, ri⟩, ⟨oj, up _ _ D.jz goj, rj⟩⟩ T8 n8 fun c o c1 c2 c3 c4 e => up c o c1 (kp c o c1 c2 c3 c4 e)
theorem zipTL_end {z a b i j t u : Addr} {k : Nat} {xs ys : Array Value} {Q : Fin → Shared → Prop} (hh : A.handled = none) (D : ZApart z a b i j t u) (S : ZStL s.heap z a b i j t u k .none)
    (ht : s.heap.IsTuple t xs) (hu : s.heap.IsList u ys) (hn : xs[k]? = none ∨ ys[k]? = none)
    (hE : ∀ g e, (∀ c o, c ≠ z → c ≠ b → c ≠ i → c ≠ j → s.heap.get? c = some o → g.get? c = some o) → (∃ o, g.get? e = some o ∧ o.cls = .type "StopIteration") → E (.ref e) { s with heap := g }) :
    wpAny (model prog w) A (Builtin.«zip.__next__» ⟨[.ref z], []⟩) Q E s := by
  obtain ⟨hz, hI, ⟨p, q, hO⟩, h1, h2⟩ := S
  show wpAny _ _ (field (.ref z) 2 >>= _) _ _ _
  refine wpAny_bind (wpAny_field hz rfl (x := .bool false) rfl ?_)
  show wpAny _ _ (field (.ref z) 3 >>= _) _ _ _
  refine wpAny_bind (wpAny_field hz rfl (x := .ref a) rfl (wpAny_bind (wpAny_seqItems hI rfl ?_)))
  show wpAny _ _ (Builtin.SmallTypes.ownedTupleIsFree (.ref z) >>= _) _ _ _
  unfold Builtin.SmallTypes.ownedTupleIsFree
  refine wpAny_bind (wpAny_bind (wpAny_field hz rfl (x := .none) rfl (wpAny_pure ?_)))
  simp only [if_true]
  refine wpAny_bind (wpAny_rule (wpAny_bind (wpAny_field hz rfl (x := .ref b) rfl (wpAny_bind (wpAny_setField_rec hz (by simp) fun g1 z1 e1 => ?_)))))
  replace z1 : IsZip g1 z a b .ellipsis := z1
  refine wpAny_bind ?_
  simp only [List.zipIdx_cons, List.zipIdx_nil, List.forIn_cons, List.forIn_nil]
  refine wpAny_bind (wpAny_bind (wpAny_onRaise ?_))
  show wpAny _ _ (Builtin.SmallTypes.nextOf (.ref i) >>= _) _ _ _
  cases hx : xs[k]? with
  | none =>
    refine wpAny_bind (drawT_end hh (h1.extBut e1.extBut D.iz) (ht.extBut e1.extBut D.tz) hx fun g2 e e2 he => ?_)
    obtain ⟨oe, goe, ce⟩ := he
    have z2 : IsZip g2 z a b .ellipsis := e2 _ _ D.iz.symm z1
    have ne : e ≠ z := fun c => by subst c; rw [z2] at goe; cases goe; simp at ce
    exact wpAny_setField_rec z2 (by simp) fun g3 _ e3 => hE g3 e (fun c o c1 _ c3 _ v => e3.extBut _ _ c1 (e2 _ _ c3 (e1.extBut _ _ c1 v))) ⟨oe, e3.extBut _ _ ne goe, ce⟩
  | some x =>
    have hy : ys[k]? = none := by
      rcases hn with h | h
      · rw [hx] at h; cases h
      · exact h
    refine wpAny_bind (drawT_item (h1.extBut e1.extBut D.iz) (ht.extBut e1.extBut D.tz) hx fun g2 i2 e2 => wpAny_pure ?_)
    have o2 : IsPair g2 b p q := e2.extBut _ _ D.bi (e1.extBut _ _ D.bz hO)
    refine wpAny_bind (wpAny_seqItems o2 rfl (wpAny_bind (wpAny_updateSeq_pair o2 fun g3 o3 e3 => wpAny_bind (wpAny_letGo (wpAny_pure ?_)))))
    refine wpAny_bind (wpAny_bind (wpAny_onRaise ?_))
    show wpAny _ _ (Builtin.SmallTypes.nextOf (.ref j) >>= _) _ _ _
    have j3 := ((h2.extBut e1.extBut D.jz).extBut e2.extBut D.ij.symm).extBut e3.extBut D.bj.symm
    have u3 := ((hu.extBut e1.extBut D.uz).extBut e2.extBut D.ui).extBut e3.extBut D.ub
    refine wpAny_bind (wpAny_nextOf_list_end hh j3 u3 hy fun g4 e e4 he => ?_)
    obtain ⟨oe, goe, ce⟩ := he
    have z4 : IsZip g4 z a b .ellipsis := e4 _ _ D.jz.symm (e3.extBut _ _ D.bz.symm (e2.extBut _ _ D.iz.symm z1))
    have ne : e ≠ z := fun c => by subst c; rw [z4] at goe; cases goe; simp at ce
    exact wpAny_setField_rec z4 (by simp) fun g5 _ e5 => hE g5 e (fun c o c1 c2 c3 c4 v => e5.extBut _ _ c1 (e4 _ _ c4 (e3.extBut _ _ c2 (e2.extBut _ _ c3 (e1.extBut _ _ c1 v))))) ⟨oe, e5.extBut _ _ ne goe, ce⟩
theorem nextZL_item {z a b i j t u : Addr} {k : Nat} {xs ys : Array Value} {x y : Value} {Q : Option Value → Shared → Prop} (D : ZApart z a b i j t u) (S : ZStL s.heap z a b i j t u k .none)
    (ht : s.heap.IsTuple t xs) (hu : s.heap.IsList u ys) (hx : xs[k]? = some x) (hy : ys[k]? = some y)
    (hQ : ∀ g, ZStL g z a b i j t u (k + 1) (rawInt s.heap.objs.size) → IsPair g s.heap.objs.size x y → g.objs.size = s.heap.objs.size + 1 → (∀ c o, c ≠ z → c ≠ b → c ≠ i → c ≠ j → s.heap.get? c = some o → g.get? c = some o) → Q (some (.ref s.heap.objs.size)) { s with heap := g }) :
    wpAny (model prog w) A (pyNext (.ref z)) Q E s := by
  have hT : s.TypeIs (.ref z) "zip" := ⟨_, S.zip, rfl⟩
  unfold pyNext
  exact wpAny_bind (wpAny_attempt (wpAny_callSpecial?_slot (name := Str.ofString "__next__") hT F.slot_zip_next (wpAny_call_entry F.slot_zip_next hT F.entry_zip_next (zipTL_item D S ht hu hx hy fun g b1 b2 b3 b4 => wpAny_pure (hQ g b1 b2 b3 b4)) (F.args_zip_next_1 _))))
theorem nextZL_end {z a b i j t u : Addr} {k : Nat} {xs ys : Array Value} {Q : Option Value → Shared → Prop} (hh : A.handled = none) (D : ZApart z a b i j t u) (S : ZStL s.heap z a b i j t u k .none)
    (ht : s.heap.IsTuple t xs) (hu : s.heap.IsList u ys) (hn : xs[k]? = none ∨ ys[k]? = none)
    (hQ : ∀ g, (∀ c o, c ≠ z → c ≠ b → c ≠ i → c ≠ j → s.heap.get? c = some o → g.get? c = some o) → Q none { s with heap := g }) : wpAny (model prog w) A (pyNext (.ref z)) Q E s := by
  have hT : s.TypeIs (.ref z) "zip" := ⟨_, S.zip, rfl⟩
  unfold pyNext
  refine wpAny_bind (wpAny_attempt (wpAny_callSpecial?_slot (name := Str.ofString "__next__") hT F.slot_zip_next (wpAny_call_entry F.slot_zip_next hT F.entry_zip_next (zipTL_end hh D S ht hu hn fun g e kp he => ?_) (F.args_zip_next_1 _))))
  obtain ⟨o, go, co⟩ := he
  exact wpAny_bind (wpAny_isInstance (T := "StopIteration") (b := true) ⟨o, go, co⟩ isSubtype_stop (wpAny_pure (hQ _ kp)))
end
abbrev zl1 (h : Heap) (t : Addr) : Heap := h.push { cls := .type "tuple_iterator", data := .fields #[.ref t, .int 0 0] }
abbrev zl2 (h : Heap) (t u : Addr) : Heap := (zl1 h t).push { cls := .type "list_iterator", data := .fields #[.ref u, .int 0 0] }
abbrev zl3 (h : Heap) (t u : Addr) : Heap := (zl2 h t u).push { cls := .type "tuple", data := .seq #[.ref h.objs.size, .ref (zl1 h t).objs.size] }
abbrev zl4 (h : Heap) (t u : Addr) : Heap := (zl3 h t u).push { cls := .type "tuple", data := .seq #[.none, .none] }
abbrev zl5 (h : Heap) (t u : Addr) : Heap := (zl4 h t u).push { cls := .type "zip", data := .fields #[.none, .bool false, .bool false, .ref (zl2 h t u).objs.size, .ref (zl3 h t u).objs.size] }
theorem meets_zipTL (t u : Addr) (xs ys : Array Value) :
    Meets (Builtin.«zip.__new__» ⟨[.type "zip", .ref t, .ref u], []⟩) (fun _ R s => s.heap.IsTuple t xs ∧ s.heap.IsList u ys ∧ R (.ok (.ret (.ref (zl4 s.heap t u).objs.size))) { s with heap := zl5 s.heap t u }) :=
  .of_wp fun prog w A R s h => by
    obtain ⟨hp, g, d, tk, os⟩ := s
    obtain ⟨ht, hu, h⟩ := h
    have hsub := sub_zip
    have hL1 : Heap.IsTuple (Shared.heap ⟨hp, g, d, tk, os⟩) t xs := ht
    have hL2 : Heap.IsList (Shared.heap ⟨hp.push { cls := .type "tuple_iterator", data := .fields #[.ref t, .int 0 0] }, g, d, tk, os⟩) u ys := Heap.IsList.push hu _
    wp_walk using wpAny_pyIter_tuple hL1, wpAny_pyIter_list hL2
    exact ⟨_, rfl, h⟩
end PySem
namespace L2
open PySem PySem.Spec PyProof.Rows
def ItzL (K : PySem.W.Frag) (t u : Addr) : It :=
  ⟨fun i H => ∃ xs ys x y, SqT K H t xs ∧ SqL K H u ys ∧ xs[i]? = some x ∧ ys[i]? = some y,
   fun i H v H' => ∃ p x y, v = .ref p ∧ H p = none ∧ H' = upd H p (.tup [x, y]) ∧ ∀ xs ys, SqT K H t xs → SqL K H u ys → xs[i]? = some x ∧ ys[i]? = some y,
   fun i H => ∃ xs ys, SqT K H t xs ∧ SqL K H u ys ∧ (xs.length ≤ i ∨ ys.length ≤ i)⟩
theorem turn_zipL {P : Program} {w : World} {K : PySem.W.Frag} {es : List Expr} {x1} {pos : Pos} (z a b i j t u : Addr) (D : ZApart z a b i j t u) : Turn P w K (.Tuple es x1 pos) (ItzL K t u) [z, a, b, i, j] z (fun k h => ZStL h z a b i j t u k .none) where
  mem := by simp
  obj := fun k h st c hc => by
    obtain ⟨p, q, ho⟩ := st.own
    obtain ⟨o1, g1, c1, d1⟩ := st.one
    obtain ⟨o2, g2, c2, d2⟩ := st.two
    simp only [List.mem_cons, List.not_mem_nil, or_false] at hc
    rcases hc with rfl | rfl | rfl | rfl | rfl
    · exact ⟨_, st.zip, fun v e => by cases e⟩
    · exact ⟨_, st.its, fun v e => by cases e⟩
    · exact ⟨_, ho, fun v e => by cases e⟩
    · exact ⟨o1, g1, fun v e => by rw [d1] at e; cases e⟩
    · exact ⟨o2, g2, fun v e => by rw [d2] at e; cases e⟩
  keep := fun k h h' st kp => st.at kp
  item := by
    intro X hP hw hK hc k pins s σ H E I hf st hg
    subst hP hw hK
    obtain ⟨xs, ys, x, y, hq1, hq2, hx, hy⟩ := hg
    obtain ⟨v1, r1, p1, _⟩ := I.tuple hq1
    obtain ⟨v2, r2, p2, _⟩ := I.list hq2
    obtain ⟨ux, hux, rux⟩ := r1.get hx
    obtain ⟨uy, huy, ruy⟩ := r2.get hy
    refine nextZL_item D st (show s.heap.IsTuple t v1.toArray from p1) p2.isList (x := ux) (y := uy) (by simpa using hux) (by simpa using huy) fun g S1 hT hn kp => ⟨_, rfl, ?_⟩
    refine wpAny_letOwnedTupleGo_zip S1.zip fun g2 z2 e2 => ?_
    have kp2 : ∀ c o, c ≠ z → c ≠ b → c ≠ i → c ≠ j → s.heap.get? c = some o → g2.get? c = some o := fun c o c1 c2 c3 c4 e => (e2.2 c c1).trans (kp c o c1 c2 c3 c4 e)
    have nz : s.heap.objs.size ≠ z := Nat.ne_of_gt (Heap.lt_size st.zip)
    have hT2 : IsPair g2 s.heap.objs.size ux uy := (e2.2 _ nz).trans hT
    have hsub : ∀ c ∈ [z, b, i, j], FpOk X pins H c := fun c hc => hf c (by
      simp only [List.mem_cons, List.not_mem_nil, or_false] at hc ⊢
      rcases hc with h | h | h | h <;> simp [h])
    have kpn : ∀ c o, c ∉ [z, b, i, j] → s.heap.get? c = some o → g2.get? c = some o := fun c o hn e => kp2 c o (fun q => hn (by simp [q])) (fun q => hn (by simp [q])) (fun q => hn (by simp [q])) (fun q => hn (by simp [q])) e
    have hHn : H s.heap.objs.size = none := I.hok.fresh (Nat.le_refl _)
    refine ⟨.ref s.heap.objs.size, upd H s.heap.objs.size (.tup [x, y]), ?_, rfl, ⟨_, x, y, rfl, hHn, rfl, fun xs' ys' h1 h2 => by rw [I.tuple_inj h1 hq1, I.list_inj h2 hq2]; exact ⟨hx, hy⟩⟩, ?_, fun c hc => ?_⟩
    · exact I.turnedN (t' := s.toks) (h' := g2) kpn hsub (Nat.le_refl _) ⟨by show 2 ≤ sizeLine; decide, [ux, uy], .cons rux (.cons ruy .nil), _, hT2, rfl, 0, rfl⟩
    · obtain ⟨p, q, ho⟩ := S1.own
      obtain ⟨o1, g1, d1⟩ := S1.one
      obtain ⟨o2, gg2, d2⟩ := S1.two
      exact ⟨z2, (e2.2 _ D.az).trans S1.its, ⟨p, q, (e2.2 _ D.bz).trans ho⟩, ⟨o1, (e2.2 _ D.iz).trans g1, d1⟩, ⟨o2, (e2.2 _ D.jz).trans gg2, d2⟩⟩
    · have hce : c ≠ s.heap.objs.size := by
        obtain ⟨p, q, ho⟩ := st.own
        obtain ⟨o1, g1, _⟩ := st.one
        obtain ⟨o2, g2', _⟩ := st.two
        simp only [List.mem_cons, List.not_mem_nil, or_false] at hc
        rcases hc with rfl | rfl | rfl | rfl | rfl
        · exact Nat.ne_of_lt (Heap.lt_size st.zip)
        · exact Nat.ne_of_lt (Heap.lt_size st.its)
        · exact Nat.ne_of_lt (Heap.lt_size ho)
        · exact Nat.ne_of_lt (Heap.lt_size g1)
        · exact Nat.ne_of_lt (Heap.lt_size g2')
      rw [upd_ne hce]
      exact (hf c hc).1
  done := by
    intro X hP hw hK hc k pins s σ H E I hf st hg
    subst hP hw hK
    obtain ⟨xs, ys, hq1, hq2, hn⟩ := hg
    obtain ⟨v1, r1, p1, _⟩ := I.tuple hq1
    obtain ⟨v2, r2, p2, _⟩ := I.list hq2
    have l1 := r1.length
    have l2 := r2.length
    refine nextZL_end (I.ok.hd hc) D st (show s.heap.IsTuple t v1.toArray from p1) p2.isList (by
      rcases hn with h | h
      · exact .inl (by simp; omega)
      · exact .inr (by simp; omega)) fun g kp => ⟨rfl, ?_⟩
    refine I.turnedM (t' := s.toks) (ch := [z, b, i, j]) (fun c o hn e => kp c o (fun q => hn (by simp [q])) (fun q => hn (by simp [q])) (fun q => hn (by simp [q])) (fun q => hn (by simp [q])) e) fun c hc => hf c ?_
    simp only [List.mem_cons, List.not_mem_nil, or_false] at hc ⊢
    rcases hc with h | h | h | h <;> simp [h]
  self := fun A k s Q E st h => wpAny_pyIter_zip st.zip h
section
variable {X : Cx}
def iZipL (K : PySem.W.Frag) (ta : TA) : TI := fun σ H R => ta σ H fun vs H1 => ∃ t u, vs = [.ref t, .ref u] ∧ (∃ xs, SqT K H1 t xs) ∧ (∃ ys, SqL K H1 u ys) ∧ R (ItzL K t u) H1
theorem call_zipTL {pins : List (Addr × Obj)} {σ : St} {H : Hp} {s : Shared} {t u : Addr} {xs ys : Array Value} {Q : Value → Shared → Prop} {E : Value → Shared → Prop} (ht : s.heap.IsTuple t xs) (hu : s.heap.IsList u ys)
    (h : ∀ g, ZStL g (s.heap.objs.size + 4) (s.heap.objs.size + 2) (s.heap.objs.size + 3) s.heap.objs.size (s.heap.objs.size + 1) t u 0 .none → (∀ c o, s.heap.get? c = some o → g.get? c = some o) → Q (.ref (s.heap.objs.size + 4)) { s with heap := g }) :
    wpAny (model X.prog X.w) X.A (call (.type "zip") [.ref t, .ref u]) Q E s := by
  refine callType_new F.called_zip (by decide) (F.typeCall_zip_2 _ _) (F.newCall_zip_2 _ _) (fun obj => F.args_object_init_3 obj _ _) F.entry_zip_new (meets_zipTL t u xs ys) ⟨ht, hu, ?_⟩
  have n1 : (zl1 s.heap t).objs.size = s.heap.objs.size + 1 := Heap.size_push ..
  have n2 : (zl2 s.heap t u).objs.size = s.heap.objs.size + 2 := by rw [Heap.size_push, n1]
  have n3 : (zl3 s.heap t u).objs.size = s.heap.objs.size + 3 := by rw [Heap.size_push, n2]
  have n4 : (zl4 s.heap t u).objs.size = s.heap.objs.size + 4 := by rw [Heap.size_push, n3]
  have g5 : (zl5 s.heap t u).get? (zl4 s.heap t u).objs.size = some _ := Heap.get?_push_size _ rfl
  have g4 : (zl5 s.heap t u).get? (zl3 s.heap t u).objs.size = some _ := Heap.get?_push_of_some _ (Heap.get?_push_size _ rfl)
  have g3 : (zl5 s.heap t u).get? (zl2 s.heap t u).objs.size = some _ := Heap.get?_push_of_some _ (Heap.get?_push_of_some _ (Heap.get?_push_size _ rfl))
  have g2 : (zl5 s.heap t u).get? (zl1 s.heap t).objs.size = some _ := Heap.get?_push_of_some _ (Heap.get?_push_of_some _ (Heap.get?_push_of_some _ (Heap.get?_push_size _ rfl)))
  have g1 : (zl5 s.heap t u).get? s.heap.objs.size = some _ := Heap.get?_push_of_some _ (Heap.get?_push_of_some _ (Heap.get?_push_of_some _ (Heap.get?_push_of_some _ (Heap.get?_push_size _ rfl))))
  show _ ∧ _
  rw [n2, n3, n4] at g5
  rw [n1, n2] at g3
  rw [n3] at g4
  rw [n1] at g2
  rw [n4]
  exact ⟨⟨_, g5, rfl⟩, h _ ⟨g5, g3, ⟨_, _, g4⟩, ⟨_, g1, rfl, rfl⟩, ⟨_, g2, rfl, rfl⟩⟩ fun c o e => Heap.get?_push_of_some _ (Heap.get?_push_of_some _ (Heap.get?_push_of_some _ (Heap.get?_push_of_some _ (Heap.get?_push_of_some _ e))))⟩
theorem pi_zipL {es : List Expr} {x1} {tpos : Pos} {a b : Expr} {ta : TA} {p pos : Pos} {K : PySem.W.Frag} (hK : X.K = K) (hg : Gl X "zip") (hm : X.mg "zip" = none) (ha : PA X [a, b] ta) (hs : starEach [a, b] X.env = [(false, eval a X.env), (false, eval b X.env)] := by rfl) (hs2 : starEach [b] X.env = [(false, eval b X.env)] := by rfl) :
    PI X (.Tuple es x1 tpos) (.Call (.Name "zip" p) [a, b] [] pos) (iZipL K ta) := by
  subst hK
  intro pins s σ H R I h
  refine Call_ (ld_blt I hg hm boot_zip (PyProof.Rows.callWith_type1 (thn (ha pos pins s σ H _ I h) fun us s1 ⟨vs, H1, I1, r1, q1⟩ => ?_) (by rw [hs, hs2]) (by rw [hs2]; rfl)))
  obtain ⟨t, u, e, ⟨xs, hx⟩, ⟨ys, hy⟩, q⟩ := q1
  subst e
  obtain ⟨v1, v2, rfl, rv1, rv2⟩ := vals2 r1
  cases rv1
  cases rv2
  obtain ⟨w1, rw1, p1, _⟩ := I1.tuple hx
  obtain ⟨w2, rw2, p2, _⟩ := I1.list hy
  have lt : t < s1.heap.objs.size := by obtain ⟨o, e, _⟩ := p1; exact Heap.lt_size e
  have lu : u < s1.heap.objs.size := by obtain ⟨o, e, _⟩ := p2.isList; exact Heap.lt_size e
  refine call_zipTL (pins := pins) (σ := σ) (H := H1) (show s1.heap.IsTuple t w1.toArray from p1) p2.isList fun g st kp => ?_
  have I2 : Inv X pins σ H1 { s1 with heap := g } := I1.kept (t' := s1.toks) kp
  have D : ZApart (s1.heap.objs.size + 4) (s1.heap.objs.size + 2) (s1.heap.objs.size + 3) s1.heap.objs.size (s1.heap.objs.size + 1) t u := by
    exact zap _ t u lt lu
  refine wpAny_pyIter_zip st.zip ⟨s1.heap.objs.size + 4, [s1.heap.objs.size + 4, s1.heap.objs.size + 2, s1.heap.objs.size + 3, s1.heap.objs.size, s1.heap.objs.size + 1], _, _, H1, rfl, I2, turn_zipL _ _ _ _ _ t u D, st, fun c hc => ?_, q⟩
  have hle : s1.heap.objs.size ≤ c := by
    simp only [List.mem_cons, List.not_mem_nil, or_false] at hc
    rcases hc with h | h | h | h | h <;> rw [h]
    · exact Nat.le_add_right _ _
    · exact Nat.le_add_right _ _
    · exact Nat.le_add_right _ _
    · exact Nat.le_refl _
    · exact Nat.le_add_right _ _
  exact I1.fpOk hle (I1.hok.fresh hle)
end
theorem for_zipL {K : PySem.W.Frag} {t u : Addr} {xs ys : List V} {g : TG} {tb : TS} {D : Ends} {σ : St} {H : Hp} (Pv : Nat → St → Hp → Prop) (h0 : Pv 0 σ H) (hl : ∀ i σ H, i ≤ min xs.length ys.length → Pv i σ H → SqT K H t xs ∧ SqL K H u ys)
    (hs : ∀ i x y p σ H, xs[i]? = some x → ys[i]? = some y → H p = none → Pv i σ H → g (.ref p) σ (upd H p (.tup [x, y])) fun σ2 H2 => tb { D with nx := Pv (i + 1), ct := Pv (i + 1), bk := D.nx } σ2 H2) (hd : ∀ σ H, Pv (min xs.length ys.length) σ H → D.nx σ H) :
    ∃ W : Nat → Nat → St → Hp → Prop, (∃ m, W 0 m σ H) ∧ ∀ i m σ H, W i m σ H →
      ((ItzL K t u).stop i H ∧ D.nx σ H) ∨ ((ItzL K t u).go i H ∧ ∃ N : St → Hp → Prop, (∀ σ' H', N σ' H' → ∃ m', m' < m ∧ W (i + 1) m' σ' H') ∧ ∀ x H', (ItzL K t u).yld i H x H' → g x σ H' fun σ2 H2 => tb { D with nx := N, ct := N, bk := D.nx } σ2 H2) := by
  refine ⟨fun i m σ H => m = min xs.length ys.length - i ∧ i ≤ min xs.length ys.length ∧ Pv i σ H, ⟨_, rfl, Nat.zero_le _, h0⟩, ?_⟩
  rintro i m σ H ⟨rfl, hi, p⟩
  obtain ⟨q1, q2⟩ := hl i σ H hi p
  by_cases hlt : i < min xs.length ys.length
  · have l1 : i < xs.length := by omega
    have l2 : i < ys.length := by omega
    refine .inr ⟨⟨xs, ys, xs[i], ys[i], q1, q2, by simp [l1], by simp [l2]⟩, Pv (i + 1), fun σ' H' p' => ⟨min xs.length ys.length - (i + 1), by omega, rfl, hlt, p'⟩, fun v H' hv => ?_⟩
    obtain ⟨pp, x, y, rfl, hn, rfl, hxy⟩ := hv
    obtain ⟨ex, ey⟩ := hxy xs ys q1 q2
    exact hs i x y pp σ H ex ey hn p
  · have e : i = min xs.length ys.length := by omega
    subst e
    refine .inl ⟨⟨xs, ys, q1, q2, ?_⟩, hd σ H p⟩
    rcases Nat.le_total xs.length ys.length with h | h
    · exact .inl (by omega)
    · exact .inr (by omega)
def Itn (x : Str) : It :=
  ⟨fun i _ => i < x.cps.size, fun i H v H' => ∃ p c, v = .ref p ∧ H p = none ∧ H' = upd H p (.tup [.int (i : Nat), .str ⟨#[c]⟩]) ∧ x.cps[i]? = some c, fun i _ => i = x.cps.size⟩
theorem draws_str {prog : Program} {w : World} {A : Around} (hh : A.handled = none) (it : Addr) (x : Str) (t : Tok) (T : String) (hT : T = "str_ascii_iterator" ∨ T = "str_iterator") :
    Draws prog w A it [it] x.cps.size (fun i v => ∃ c u, x.cps[i]? = some c ∧ v = .str ⟨#[c]⟩ u) (fun i h => h.IsStrIter it T x t i) := by
  rcases hT with rfl | rfl
  · exact Draws.strAscii hh it x t
  · exact Draws.strWide hh it x t
theorem turn_enum {P : Program} {w : World} {K : PySem.W.Frag} {es : List Expr} {x1} {pos : Pos} (x : Str) (t : Tok) (T : String) (e it : Addr) (hne : e ≠ it) (hT : T = "str_ascii_iterator" ∨ T = "str_iterator") :
    Turn P w K (.Tuple es x1 pos) (Itn x) [e, it] e (fun i h => (∃ old, IsEnum h e it ((i : Nat) : Int) old) ∧ h.IsStrIter it T x t i) where
  mem := by simp
  obj := fun i h st b hb => by
    obtain ⟨⟨old, he⟩, o, g, c, d⟩ := st
    simp only [List.mem_cons, List.not_mem_nil, or_false] at hb
    rcases hb with rfl | rfl
    · exact ⟨_, he, fun v z => by cases z⟩
    · exact ⟨o, g, fun v z => by rw [d] at z; cases z⟩
  keep := fun i h h' st k => by
    obtain ⟨⟨old, he⟩, o, g, r⟩ := st
    exact ⟨⟨old, k e (by simp) _ he⟩, o, k it (by simp) o g, r⟩
  item := by
    intro X hP hw hK hc i pins s σ H E I hf st hg
    subst hP hw hK
    obtain ⟨⟨old, he⟩, hs⟩ := st
    have hei : e ∉ [it] := by simpa using hne
    have DD := draws_str (prog := X.prog) (w := X.w) (A := X.A.in1) (I.ok.hd hc) it x t T hT
    refine wpAny_pyNext_enum_itemD DD he hs hg hne hei fun v h1 tk hv ho hs1 hT1 hz1 kp => ⟨_, rfl, ?_⟩
    obtain ⟨c, u, hc', rfl⟩ := hv
    refine wpAny_letOwnedTupleGo_enum ho fun h2 he2 e2 => ?_
    have ne : s.heap.objs.size ≠ e := Nat.ne_of_gt (Heap.lt_size he)
    have hT2 : h2.get? s.heap.objs.size = some { cls := .type "tuple", data := .seq #[.int i tk, .str ⟨#[c]⟩ u] } := (e2.2 _ ne).trans hT1
    have hHn : H s.heap.objs.size = none := I.hok.fresh (Nat.le_refl _)
    have kpn : ∀ b o, b ∉ [e, it] → s.heap.get? b = some o → h2.get? b = some o := fun b o hn q => (e2.2 b fun z => hn (by simp [z])).trans (kp b o (fun z => hn (by simp [z])) (fun z => hn (by simp [z])) q)
    refine ⟨.ref s.heap.objs.size, upd H s.heap.objs.size (.tup [.int (i : Nat), .str ⟨#[c]⟩]), ?_, rfl, ⟨_, c, rfl, hHn, rfl, hc'⟩, ⟨⟨_, by simpa using he2⟩, ?_⟩, fun b hb => ?_⟩
    · exact I.turnedN (t' := tk + 1) (h' := h2) kpn hf (Nat.le_refl _) ⟨by show 2 ≤ sizeLine; decide, [.int i tk, .str ⟨#[c]⟩ u], .cons ⟨_, rfl⟩ (.cons ⟨_, rfl⟩ .nil), _, hT2, rfl, 0, rfl⟩
    · obtain ⟨o, g, r⟩ := hs1
      exact ⟨o, (e2.2 it hne.symm).trans g, r⟩
    · have hce : b ≠ s.heap.objs.size := by
        obtain ⟨o1, g1, _⟩ := hs
        simp only [List.mem_cons, List.not_mem_nil, or_false] at hb
        rcases hb with rfl | rfl
        · exact Nat.ne_of_lt (Heap.lt_size he)
        · exact Nat.ne_of_lt (Heap.lt_size g1)
      rw [upd_ne hce]
      exact (hf b hb).1
  done := by
    intro X hP hw hK hc i pins s σ H E I hf st hg
    subst hP hw hK
    obtain ⟨⟨old, he⟩, hs⟩ := st
    have hi : i = x.cps.size := hg
    subst hi
    have DD := draws_str (prog := X.prog) (w := X.w) (A := X.A.in1) (I.ok.hd hc) it x t T hT
    refine wpAny_pyNext_enum_endD DD he hs fun h1 e1 => ⟨rfl, ?_⟩
    exact I.turnedM (t' := s.toks) (ch := [e, it]) (fun b o hn q => e1 b o (fun z => hn (by simp [z])) q) hf
  self := fun A i s Q E st h => by
    obtain ⟨⟨old, he⟩, _⟩ := st
    exact wpAny_pyIter_enum he h
section
variable {X : Cx}
def iEnum (ta : TA) : TI := fun σ H R => ta σ H fun vs H1 => ∃ z, vs = [.str z] ∧ R (Itn z) H1
theorem pi_enum {es : List Expr} {x1} {tpos : Pos} {a : Expr} {ta : TA} {p pos : Pos} (hg : Gl X "enumerate") (hm : X.mg "enumerate" = none) (ha : PA X [a] ta) (hs : starEach [a] X.env = [(false, eval a X.env)] := by rfl) :
    PI X (.Tuple es x1 tpos) (.Call (.Name "enumerate" p) [a] [] pos) (iEnum ta) := by
  intro pins s σ H R I h
  refine Call_ (ld_blt I hg hm boot_enumerate (PyProof.Rows.callWith_type1 (thn (ha pos pins s σ H _ I h) fun us s1 ⟨vs, H1, I1, r1, q1⟩ => ?_) hs rfl))
  obtain ⟨z, e, q⟩ := q1
  subst e
  obtain ⟨u, rfl, ru⟩ := r1.one
  obtain ⟨t, rfl⟩ := ru
  refine call_enumerate_str fun h' he hit hz kp => ?_
  have I2 : Inv X pins σ H1 { s1 with heap := h' } := I1.kept (t' := s1.toks) kp
  have hne : s1.heap.objs.size + 1 ≠ s1.heap.objs.size := by omega
  refine wpAny_pyIter_enum he ⟨s1.heap.objs.size + 1, [s1.heap.objs.size + 1, s1.heap.objs.size], _, _, H1, rfl, I2, turn_enum z t (strIterType z) _ _ hne (by unfold strIterType; split <;> simp), ⟨⟨_, he⟩, hit⟩, fun b hb => ?_, q⟩
  have hle : s1.heap.objs.size ≤ b := by
    simp only [List.mem_cons, List.not_mem_nil, or_false] at hb
    rcases hb with h | h <;> rw [h]
    · exact Nat.le_add_right _ _
    · exact Nat.le_refl _
  exact I1.fpOk hle (I1.hok.fresh hle)
end
theorem for_enum {w : List Nat} {g : TG} {tb : TS} {D : Ends} {σ : St} {H : Hp} (Pv : Nat → St → Hp → Prop) (h0 : Pv 0 σ H)
    (hs : ∀ i c p σ H, w[i]? = some c → H p = none → Pv i σ H → g (.ref p) σ (upd H p (.tup [.int (i : Nat), .str (S [c])])) fun σ2 H2 => tb { D with nx := Pv (i + 1), ct := Pv (i + 1), bk := D.nx } σ2 H2) (hd : ∀ σ H, Pv w.length σ H → D.nx σ H) :
    ∃ W : Nat → Nat → St → Hp → Prop, (∃ m, W 0 m σ H) ∧ ∀ i m σ H, W i m σ H →
      ((Itn (S w)).stop i H ∧ D.nx σ H) ∨ ((Itn (S w)).go i H ∧ ∃ N : St → Hp → Prop, (∀ σ' H', N σ' H' → ∃ m', m' < m ∧ W (i + 1) m' σ' H') ∧ ∀ x H', (Itn (S w)).yld i H x H' → g x σ H' fun σ2 H2 => tb { D with nx := N, ct := N, bk := D.nx } σ2 H2) := by
  refine ⟨fun i m σ H => m = w.length - i ∧ i ≤ w.length ∧ Pv i σ H, ⟨w.length, by simp, Nat.zero_le _, h0⟩, ?_⟩
  rintro i m σ H ⟨rfl, hi, p⟩
  by_cases hlt : i < w.length
  · refine .inr ⟨by simpa [Itn] using hlt, Pv (i + 1), fun σ' H' p' => ⟨w.length - (i + 1), by omega, rfl, hlt, p'⟩, fun x H' y => ?_⟩
    obtain ⟨pp, c, rfl, hn, rfl, hc⟩ := y
    exact hs i c pp σ H (by simpa using hc) hn p
  · have e : i = w.length := by omega
    subst e
    exact .inl ⟨by simp [Itn], hd σ H p⟩
section
variable {prog : Program} {w : World} {A : Around} {E : Value → Shared → Prop} {s : Shared}
theorem item_whole {t sl : Addr} {items : Array Value} {vl vu : Value} {lo hi : Option Int} {Q : Value → Shared → Prop} (ht : IsTup s.heap t items) (hs : s.heap.IsSliceOf sl vl vu .none) (pl : IsPart vl lo) (pu : IsPart vu hi)
    (h1 : HT.sIx items.size 0 lo = 0) (h2 : HT.sIx items.size items.size hi = items.size)
    (h : Q (.ref t) s) : wpAny (model prog w) A (getItem (.ref t) (.ref sl)) Q E s := by
  obtain ⟨os, hos, hcs, hds⟩ := id hs
  have hTs : s.TypeIs (.ref sl) "slice" := ⟨os, hos, hcs⟩
  unfold getItem
  try with_reducible refine wpAny_holding ?_
  first | refine wpAny_bind (wpAny_pure ?_) | skip
  refine wpAny_bind (wpAny_sequenceKey ht.typeIs (by decide) ?_)
  refine wpAny_bind (wpAny_callSpecial?_slot (name := Str.ofString "__getitem__") ht.typeIs PyProof.Rows.slot_tuple_getitem
    (wpAny_call_entry PyProof.Rows.slot_tuple_getitem ht.typeIs entry_tuple_getitem ?_ (args_tuple_getitem _ _)))
  show wpAny _ _ (Builtin.Tuple.tupleItemsOf (.ref t) >>= _) _ _ s
  refine wpAny_bind (tupleItemsOf_ ht ?_)
  refine wpAny_bind (wpAny_typeOf hTs ?_)
  rw [if_pos (by decide)]
  refine wpAny_bind (HT.sliceApplied_gen hs pl pu ?_)
  rw [h1, h2]
  show wpAny _ _ (if (((0 : Nat) : Int) == 0 && (1 : Int) == 1 && (items.size - 0) == items.size) = true then _ else _) _ _ s
  rw [if_pos (by simp)]
  refine wpAny_bind ?_
  unfold Builtin.Tuple.tupleIsExact
  refine wpAny_bind (wpAny_typeOf ht.typeIs (wpAny_pure ?_))
  rw [if_pos (by decide)]
  exact wpAny_bind (wpAny_rule (wpAny_pure ⟨_, rfl, wpAny_pure h⟩))
end
def rSlB (K : PySem.W.Frag) : V → Option Int → Option Int → Hp → VK → Prop := fun x lo hi H Q => ∃ (a : Addr) (xs : List V) (j : Nat), x = .ref a ∧ SqT K H a xs ∧ lo = none ∧ hi = some (j : Int) ∧ j ≤ xs.length ∧
  (j < xs.length → ∀ p, H p = none → Q (.ref p) (upd H p (.tup (xs.take j)))) ∧ (j = xs.length → Q (.ref a) H)
theorem sl_tupB {X : Cx} {K : PySem.W.Frag} (hK : X.K = K) : SlR X (rSlB K) := by
  subst hK
  intro pins s σ H x v vl vu lo hi sl Q I rx hs pl pu h
  obtain ⟨a, xs, j, rfl, hx, rfl, rfl, hj, q1, q2⟩ := h
  have e0 : HT.sIx xs.length 0 none = 0 := rfl
  have e1 : HT.sIx xs.length xs.length (some (j : Int)) = j := by
    unfold HT.sIx
    simp only
    rw [if_neg (by omega)]
    simp
    omega
  rcases Nat.lt_or_ge j xs.length with hlt | hge
  · refine sl_tup pins s σ H _ v vl vu _ _ sl Q I rx hs pl pu ⟨a, xs, rfl, hx, fun z => ?_, ?_⟩
    · rw [e1] at z; omega
    · have e : cutV xs none (some (j : Int)) = xs.take j := by
        unfold cutV
        rw [e1, e0]
        simp
      rw [e]
      exact q1 hlt
  · have ej : j = xs.length := by omega
    cases rx
    obtain ⟨its, r, ht, hz⟩ := I.tuple hx
    have hlen : its.toArray.size = xs.length := by rw [List.size_toArray]; exact r.length.symm
    refine ⟨"tuple", _, PyProof.Rows.slot_tuple_getitem.lookup, ht.typeIs, ?_⟩
    exact item_whole ht hs pl pu (by rw [hlen]; exact e0) (by rw [hlen, e1]; exact ej) ⟨.ref a, H, I, rfl, q2 ej⟩
end L2
namespace L2
open PySem PySem.W PyProof.Rows
section
variable {lt : Nat → Nat → Bool} {n : Nat}
end
end L2
namespace L2
open PySem PySem.W PySem.Spec PyProof.Rows
section
variable {X : Cx} {pins : List (Addr × Obj)} {σ : St} {H : Hp} {s : Shared} {h' : Heap}
end
section
variable {X : Cx} {k : Nat} {f : Addr} {fd : FuncData} {ps : List Str} {sp : Sp}
end
end L2
namespace PySem
open Sem (wp)
section
variable {prog : Program} {w : World} {A : Around} {E : Value → Shared → Prop} {s : Shared} {P1 P2 : Nat → Value → Prop} {St1 St2 : Nat → Heap → Prop} {n1 n2 : Nat}
end
end PySem
namespace L2
open PySem PySem.Spec PyProof.Rows
section
variable {X : Cx}
end
end L2
namespace Lw
open PySem PySem.Spec PyProof.Rows L2 Ma MaR
end Lw
namespace Lw
open PySem PySem.Spec PyProof.Rows L2 Ma MaR
end Lw
namespace Lw
open PySem PySem.Spec PyProof.Rows L2 Ma MaR
end Lw
namespace Lw
open PySem PySem.Spec PyProof.Rows L2 Ma MaR
end Lw
namespace L2
open PySem PySem.Spec PyProof.Rows
section
variable {X : Cx}
end
section
variable {prog : Program} {w : World} {A : Around} {E : Value → Shared → Prop} {s : Shared}
end
section
variable {X : Cx} {pins : List (Addr × Obj)} {σ : St} {H : Hp} {s : Shared}
end
section
variable {X : Cx}
end
theorem ints_of : ∀ {ns : List Int} {us : List Value}, Vals (ns.map V.int) us → us.length = ns.length ∧ ∀ (i : Nat) (v : Value), us[i]? = some v → ∃ t, v = Value.int ((ns[i]?).getD 0) t
  | [], us, r => by
    cases r
    exact ⟨rfl, fun i v h => by simp at h⟩
  | n :: ns, us, r => by
    rw [List.map_cons] at r
    cases r with
    | cons r1 r2 =>
      obtain ⟨t, rfl⟩ := r1
      obtain ⟨h1, h2⟩ := ints_of r2
      refine ⟨by rw [List.length_cons, List.length_cons, h1], fun i v h => ?_⟩
      cases i with
      | zero => exact ⟨t, by simpa using h.symm⟩
      | succ i => simpa using h2 i v (by simpa using h)
section
variable {X : Cx} {K : PySem.W.Frag}
end
section
variable {X : Cx} {pins : List (Addr × Obj)} {σ : St} {H : Hp} {s : Shared} {a b : Addr} {v : V} {A : Around} {E : Value → Shared → Prop}
end
section
variable {X : Cx} {o e : Expr} {apos cpos : Pos} {td ty : TE}
end
section
variable {prog : Program} {w : World} {A : Around} {E : Value → Shared → Prop} {s : Shared}
end
end L2
namespace Lw
open PySem PySem.Spec PyProof.Rows L2 Ma MaR
end Lw
namespace Lw
open PySem PySem.Spec PyProof.Rows L2 Ma MaR
def inter (c : Nat) : List (List Nat) → List Nat
  | [] => []
  | [x] => x
  | x :: y :: r => x ++ c :: inter c (y :: r)
theorem cut_first {c : Nat} : ∀ {x y u v : List Nat}, c ∉ x → c ∉ y → x ++ c :: u = y ++ c :: v → x = y ∧ u = v
  | [], [], u, v, _, _, h => by simp at h; exact ⟨rfl, h⟩
  | [], b :: y, u, v, _, hy, h => by
    simp at h
    exact absurd (by rw [h.1]; simp) hy
  | a :: x, [], u, v, hx, _, h => by
    simp at h
    exact absurd (by rw [← h.1]; simp) hx
  | a :: x, b :: y, u, v, hx, hy, h => by
    simp only [List.cons_append, List.cons.injEq] at h
    have := cut_first (x := x) (y := y) (fun z => hx (by simp [z])) (fun z => hy (by simp [z])) h.2
    exact ⟨by rw [h.1, this.1], this.2⟩
theorem inter_uniq {c : Nat} : ∀ {xs ys : List (List Nat)}, xs ≠ [] → ys ≠ [] → (∀ x ∈ xs, c ∉ x) → (∀ y ∈ ys, c ∉ y) → inter c xs = inter c ys → xs = ys
  | [], _, h, _, _, _, _ => absurd rfl h
  | _, [], _, h, _, _, _ => absurd rfl h
  | [x], [y], _, _, _, _, h => by unfold inter at h; rw [h]
  | [x], y :: y2 :: r, _, _, hx, _, h => by
    unfold inter at h
    exact absurd (by rw [h]; simp) (hx x (by simp))
  | x :: x2 :: r, [y], _, _, _, hy, h => by
    unfold inter at h
    exact absurd (by rw [← h]; simp) (hy y (by simp))
  | x :: x2 :: r, y :: y2 :: q, _, _, hx, hy, h => by
    unfold inter at h
    obtain ⟨e1, e2⟩ := cut_first (hx x (by simp)) (hy y (by simp)) h
    have := inter_uniq (xs := x2 :: r) (ys := y2 :: q) (by simp) (by simp) (fun z hz => hx z (by simp only [List.mem_cons] at hz ⊢; exact .inr hz)) (fun z hz => hy z (by simp only [List.mem_cons] at hz ⊢; exact .inr hz)) e2
    rw [e1, this]
theorem join_inter (c : Nat) : ∀ zs : List (List Nat), Str.join (S [c]) (zs.map S) = S (inter c zs)
  | [] => rfl
  | [z] => by simp [Str.join, inter]
  | z :: y :: r => by
    have ih := join_inter c (y :: r)
    show S z ++ S [c] ++ Str.join (S [c]) ((y :: r).map S) = _
    rw [ih, S_app, S_app]
    simp [inter]
theorem S_toList (z : Str) : z = S z.cps.toList := by cases z; simp
theorem split_inter {c : Nat} {zs : List (List Nat)} (h0 : zs ≠ []) (h : ∀ z ∈ zs, c ∉ z) : Txt.split (S (inter c zs)) (S [c]) = zs.map S := by
  have hj := StrLaws.join_split (S (inter c zs)) (S [c])
  have hf := StrLaws.split_free (S (inter c zs)) c
  have hp := split_pos (S (inter c zs)) (S [c])
  have e : Txt.split (S (inter c zs)) (S [c]) = ((Txt.split (S (inter c zs)) (S [c])).map fun z => z.cps.toList).map S := by
    rw [List.map_map]
    conv => lhs; rw [← List.map_id (Txt.split (S (inter c zs)) (S [c]))]
    exact List.map_congr_left fun z _ => S_toList z
  generalize Txt.split (S (inter c zs)) (S [c]) = l at *
  rw [e] at hj
  rw [join_inter] at hj
  have hi := S_inj hj
  have := inter_uniq (xs := l.map fun z => z.cps.toList) (ys := zs) (c := c) (by intro q; rw [List.map_eq_nil_iff] at q; rw [q] at hp; simp at hp) h0 (fun x hx => by
    obtain ⟨z, hz, rfl⟩ := List.mem_map.mp hx
    exact hf z hz) h hi
  rw [e, this]
theorem inter_len (c : Nat) : ∀ zs : List (List Nat), (inter c zs).length ≤ (zs.map List.length).sum + zs.length
  | [] => by simp [inter]
  | [z] => by simp [inter]
  | z :: y :: r => by
    have ih := inter_len c (y :: r)
    unfold inter
    simp only [List.length_append, List.length_cons, List.map_cons, List.sum_cons] at ih ⊢
    omega
theorem join10 (zs : List (List Nat)) : Txt.join (Str.ofString "\n") (zs.map S) = S (inter 10 zs) := by
  rw [show (Str.ofString "\n") = S [10] from by decide +kernel]
  unfold Txt.join
  rw [StrLaws.glued_eq_join, join_inter]
theorem pe_globT {X : Cx} {x : Str} {z : Str} {pos : Pos} (hg : Gl X x) (hm : ∃ t, X.mg x = some (.str z t)) (hd : (x == ("__debug__" : Str)) = false := by decide) : PE X (.Name x pos) (tC (.str z)) := by
  obtain ⟨t, hm⟩ := hm
  intro pins s σ H Q I h
  exact ld_glob I hg hm ⟨.str z, H, I, ⟨t, rfl⟩, h⟩ hd
theorem pe_globI {X : Cx} {x : Str} {z : Int} {pos : Pos} (hg : Gl X x) (hm : ∃ t, X.mg x = some (.int z t)) (hd : (x == ("__debug__" : Str)) = false := by decide) : PE X (.Name x pos) (tC (.int z)) := by
  obtain ⟨t, hm⟩ := hm
  intro pins s σ H Q I h
  exact ld_glob I hg hm ⟨.int z, H, I, ⟨t, rfl⟩, h⟩ hd
def shownW (x : List Nat) : List Nat := if x = [] then [46] else x
def rowW (i : Nat) (x : List Nat) : List Nat := [97 + i, 32, 61, 32] ++ shownW x
def rowsW (rs : List (List Nat)) (i : Nat) : List (List Nat) := (List.range i).map fun j => rowW j (rs.getD j [])
def txtW (rs : List (List Nat)) : List Nat := inter 10 (rowsW rs rs.length)
theorem shown_len (x : List Nat) : (shownW x).length ≤ x.length + 1 := by
  unfold shownW
  split
  · simp
  · omega
theorem row_len (i : Nat) (x : List Nat) : (rowW i x).length ≤ x.length + 5 := by
  have := shown_len x
  unfold rowW
  simp only [List.length_append, List.length_cons, List.length_nil]
  omega
theorem rowsW_succ (rs : List (List Nat)) (i : Nat) : rowsW rs (i + 1) = rowsW rs i ++ [rowW i (rs.getD i [])] := by
  unfold rowsW
  rw [List.range_succ, List.map_append]
  rfl
theorem rowsW_len (rs : List (List Nat)) (i : Nat) : (rowsW rs i).length = i := by unfold rowsW; rw [List.length_map, List.length_range]
theorem rowsW_sum {rs : List (List Nat)} {n M : Nat} (h : RT rs n M) : ∀ i, ((rowsW rs i).map List.length).sum ≤ i * (M + 5)
  | 0 => by simp [rowsW]
  | i + 1 => by
    have ih := rowsW_sum h i
    have h1 := row_len i (rs.getD i [])
    have h2 := h.getL i
    rw [rowsW_succ, List.map_append, List.sum_append, Nat.succ_mul]
    simp only [List.map_cons, List.map_nil, List.sum_cons, List.sum_nil]
    omega
theorem txt_len {rs : List (List Nat)} {n : Nat} (h : RT rs n 8) (h4 : n ≤ 4) : (txtW rs).length ≤ 60 := by
  have h1 := inter_len 10 (rowsW rs rs.length)
  have h2 := rowsW_sum h rs.length
  rw [rowsW_len] at h1
  have h3 := h.len
  unfold txtW
  omega
theorem row_free {x : List Nat} (h : AllL x) (i : Nat) : 10 ∉ rowW i x := by
  unfold rowW shownW
  intro q
  simp only [List.mem_append, List.mem_cons, List.not_mem_nil, or_false] at q
  rcases q with (q | q | q | q) | q
  · omega
  · omega
  · omega
  · omega
  · split at q
    · simp at q
    · have := h 10 q
      unfold isL at this
      omega
theorem rows_free {rs : List (List Nat)} {n M : Nat} (h : RT rs n M) (i : Nat) : ∀ z ∈ rowsW rs i, 10 ∉ z := by
  intro z hz
  unfold rowsW at hz
  obtain ⟨j, _, rfl⟩ := List.mem_map.mp hz
  exact row_free (h.getA j) j
theorem in_lstT (d : Nat) (sd : List Nat) : inV (.str (S [d])) (lstC sd) = decide (d ∈ sd) := by
  unfold inV lstC
  rw [Bool.eq_iff_iff, List.any_eq_true, decide_eq_true_iff]
  constructor
  · rintro ⟨v, hv, he⟩
    obtain ⟨e, hm, rfl⟩ := List.mem_map.mp hv
    have h2 : decide (S [e] = S [d]) = true := he
    have := S_inj (of_decide_eq_true h2)
    have h3 : e = d := by simpa using this
    rw [← h3]; exact hm
  · intro h
    refine ⟨_, List.mem_map.mpr ⟨d, h, rfl⟩, ?_⟩
    show decide (S [d] = S [d]) = true
    exact decide_eq_true rfl
theorem lstC_flatT (sd : List Nat) : (lstC sd).all flatV = true := by
  rw [List.all_eq_true]
  intro v hv
  obtain ⟨x, _, rfl⟩ := List.mem_map.mp hv
  rfl
theorem sum_S (zs : List (List Nat)) : ((zs.map S).map (·.length)).sum = (zs.map List.length).sum := by
  rw [List.map_map]
  exact congrArg List.sum (List.map_congr_left fun z _ => S_len z)
theorem letV_take {n : Nat} (h1 : 1 ≤ n) (h4 : n ≤ 4) : letV.take (2 * n) = lstC (letsN n) := by
  rcases n14 h1 h4 with rfl | rfl | rfl | rfl <;> rfl
def spHead : Sp := fun vs H Q _ => ∃ c : Nat, vs = [.str (S [c])] ∧ ∀ H', Same H H' → Q (.str (S [c, 32, 61, 32])) H'
def spShow (K : PySem.W.Frag) : Sp := fun vs H Q _ => ∃ (a : Addr) (rs : List (List Nat)) (n : Nat), vs = [.ref a] ∧ SqT K H a (wds rs) ∧ RT rs n 8 ∧ 1 ≤ n ∧ n ≤ 4 ∧ ∀ H', Same H H' → Q (.str (S (txtW rs))) H'
def spLetT (K : PySem.W.Frag) : Sp := fun vs H Q _ => ∃ n : Nat, vs = [.int (n : Nat)] ∧ 1 ≤ n ∧ n ≤ 4 ∧ ∀ (p : Addr) (H' : Hp), Same H H' → SqT K H' p (lstC (letsN n)) → Q (.ref p) H'
end Lw
namespace L2
open PySem PySem.Spec PyProof.Rows
section
variable {X : Cx}
end
end L2
namespace Lw
open PySem PySem.Spec PyProof.Rows L2 Ma MaR
theorem wds_app (xs ys : List (List Nat)) : wds (xs ++ ys) = wds xs ++ wds ys := by unfold wds; rw [List.map_append]
theorem cut_to (rs : List (List Nat)) (j : Nat) : cutV (wds rs) none (some (j : Int)) = wds (rs.take j) := by
  unfold cutV HT.sIx
  simp only
  rw [if_neg (by omega)]
  unfold wds
  rw [List.map_take]
  simp
theorem cut_from (rs : List (List Nat)) (j : Nat) : cutV (wds rs) (some (j : Int)) none = wds (rs.drop j) := by
  unfold cutV HT.sIx
  simp only
  rw [if_neg (by omega)]
  unfold wds
  rw [List.map_drop]
  simp
  rw [List.take_of_length_le (by simp)]
  rcases Nat.le_total j rs.length with h | h
  · rw [Nat.min_eq_left h]
  · rw [Nat.min_eq_right h, List.drop_of_length_le (by simp), List.drop_of_length_le (by simpa using h)]
end Lw
namespace L2
open PySem PySem.Spec PyProof.Rows
abbrev veM : List Value := [.type "ValueError", .type "Exception", .type "BaseException", .type "object"]
structure XCl (K : PySem.W.Frag) (C f : Addr) : Prop where
  ex : ∃ (nm q : Str) (N L : Addr) (bs : List Value) (sn : List Str) (sub : List Value) (ab : Bool) (col : Option Bool) (dd : Option Addr) (k0 k1 k2 k3 k5 : Option Value),
    K.lookup C = some (excClassObj nm q C N bs (.ref L :: veM) true sn sub ab col dd k0 k1 k2 k3 k5 "ValueError.__new__") ∧ PySem.W.tailIn K veM (.ref L :: veM) = true
  sa : PySem.W.findIn K (.ref C) "__setattr__" = some (some (.builtin "object.__setattr__"))
  ga : PySem.W.findIn K (.ref C) "__getattribute__" = some (some (.builtin "BaseException.__getattribute__"))
  gh : PySem.W.findIn K (.ref C) "__getattr__" = some none
  init : PySem.W.findIn K (.ref C) "__init__" = some (some (.ref f))
  fn : PySem.W.isFn K (.ref f) = true
  kp : PySem.W.keepIn K (.ref C) = true
section
variable {prog : Program} {w : World} {A : Around} {E : Value → Shared → Prop} {K : PySem.W.Frag} {C f : Addr} {h : Heap} {g : Array GenState} {d : Drawn} {t : Nat} {os : OsState}
abbrev xNew (C t : Addr) : Obj := { cls := .ref C, data := .fields #[.ref t, .none, .none, .none, .bool false, .none] }
abbrev xTup (rest : List Value) : Obj := { cls := .type "tuple", data := .seq rest.toArray }
abbrev xHeap (h : Heap) (C : Addr) (rest : List Value) : Heap := (h.push (xTup rest)).push (xNew C h.objs.size)
theorem xHeap_keep {rest : List Value} {b : Addr} {o : Obj} (e : h.get? b = some o) : (xHeap h C rest).get? b = some o := Heap.get?_push_of_some _ (Heap.get?_push_of_some _ e)
theorem xHeap_at {rest : List Value} : (xHeap h C rest).get? (h.objs.size + 1) = some (xNew C h.objs.size) := by
  have := Heap.get?_push_size (h.push (xTup rest)) (o := xNew C h.objs.size) rfl
  rwa [Heap.size_push] at this
theorem exc_entry (X : K.In h) (c : XCl K C f) {rest : List Value} {Q : Fin → Shared → Prop} (hrest : rest.length ≤ sizeLine)
    (hq : wpAny (model prog w) A (call (.ref f) (.ref (h.objs.size + 1) :: rest)) (fun r s' => r = .none ∧ Q (.done (.ret (.ref (h.objs.size + 1)))) s') E ⟨xHeap h C rest, g, d, t, os⟩) :
    wpAny (model prog w) A (Builtin.«type.__call__» ⟨.ref C :: rest, []⟩) Q E ⟨h, g, d, t, os⟩ := by
  obtain ⟨nm, q, N, L, bs, sn, sub, ab, col, dd, k0, k1, k2, k3, k5, hk, ht⟩ := c.ex
  have kC := X _ _ hk
  have T := PySem.W.tail_of_in X ht
  have X1 : K.In (xHeap h C rest) := X.keeps fun b o e => xHeap_keep e
  have kC1 := X1 _ _ hk
  have kG := xHeap_at (h := h) (C := C) (rest := rest)
  have hcC : (Value.ref C :: Value.ref L :: veM).contains (.ref C) = true := by simp
  have L1 := PySem.W.looks_findIn (M := model prog w) X1 c.init
  repeat (first | with_reducible refine wpAny_loadPart_at kC ?_ | with_reducible refine wpAny_madeBy_exc kC ?_ | wp_step)
  refine codeAny_call_builtin_code (Code.quiet_builtin _ PySem.F.excBase_ValueError.quiet) (wpAny_check_new_subT PySem.F.excBase_ValueError T kC ?_)
  refine codeAny_exc_new_subT PySem.F.excBase_ValueError T kC ?_ hrest
  show wpAny _ _ _ _ _ _
  unfold isInstance
  repeat (first | with_reducible refine wpAny_loadPart_at kG ?_ | (with_reducible refine wpAny_isSubtype_exc kC1 ?_; rw [hcC]) | wp_step)
  refine (show wpAny _ _ (typeLookup (.ref C) _) _ _ _ from L1 _ _ _ _ (fun _ _ e => e) ?_)
  refine wpAny_holding (wpAny_bind ((PySem.W.bind_fn X1 _ (beq_iff_eq.mp c.fn)).here ?_))
  refine wpAny_bind (wpAny_mono hq (fun r s' hr => ?_) fun _ _ z => z)
  obtain ⟨rfl, hQ⟩ := hr
  wp_walk
  exact hQ
theorem exc_call (X : K.In h) (c : XCl K C f) {rest : List Value} {Q : Value → Shared → Prop} (hrest : rest.length ≤ sizeLine)
    (hq : wpAny (model prog w) (A.under (.builtin "type.__call__" ⟨.ref C :: rest, []⟩)) (call (.ref f) (.ref (h.objs.size + 1) :: rest)) (fun r s' => r = .none ∧ Q (.ref (h.objs.size + 1)) s') E ⟨xHeap h C rest, g, d, t, os⟩) :
    wpAny (model prog w) A (call (.ref C) rest) Q E ⟨h, g, d, t, os⟩ := by
  obtain ⟨nm, q, N, L, bs, sn, sub, ab, col, dd, k0, k1, k2, k3, k5, hk, ht⟩ := c.ex
  have kC := X _ _ hk
  have f1 := tc_lookup
  have f2 := tc_bind (.ref C)
  have hT : (⟨h, g, d, t, os⟩ : Shared).TypeIs (.ref C) "type" := ⟨_, kC, rfl⟩
  refine wpAny_call (codeAny_of_tree (show wpAny _ _ (callAny (.ref C) _) _ _ _ from ?_))
  repeat (any_goals (first | assumption | with_reducible refine wpAny_loadPart_at kC ?_ | wp_step))
  refine ⟨rfl, ?_⟩
  exact codeAny_call_builtin_at (Code.quiet_builtin _ (by decide +kernel)) entry_typeCall (wpAny_check_type_call_sub kC (exc_entry X c hrest hq))
end
section
variable {prog : Program} {w : World} {A : Around} {E : Value → Shared → Prop} {K : PySem.W.Frag} {C f a : Addr} {s : Shared} {vs : Array Value} {sl : Array (Option Value)} {name : Str} {v : Value}
theorem osa_x {R : Result → Shared → Prop} {tk : Tok} (X : K.In s.heap) (c : XCl K C f) (hx : s.heap.get? a = some ⟨.ref C, none, .fields vs, sl⟩) (hn : PySem.W.findIn K (.ref C) name = some none)
    (hR : ∀ h' tk', h'.Ns1 s.heap.objs.size (fun y => if y = name then some v else none) → h'.get? a = some ⟨.ref C, some s.heap.objs.size, .fields vs, sl⟩ → (∀ b o, b ≠ a → s.heap.get? b = some o → h'.get? b = some o) →
      R (.ok (.ret .none)) { s with heap := h', toks := tk' }) : codeAny (model prog w) A (.call (.builtin "object.__setattr__") ⟨[.ref a, .str name tk, v], []⟩) R s := by
  have SF := PySem.F.store_object
  obtain ⟨nm, q, N, L, bs, sn, sub, ab, col, dd, k0, k1, k2, k3, k5, hk, ht⟩ := c.ex
  have kC := X _ _ hk
  have I : PySem.W.InstAt s.heap a ⟨.ref C, none, .fields vs, sl⟩ C none := ⟨hx, rfl, rfl, True.intro⟩
  have hc : PySem.W.clsIn K C = some { name := nm, bases := bs, mro := .ref C :: .ref L :: veM, ns := N, qualname := q, hasDict := true, slotNames := sn, subclasses := sub, abstract := ab, collection := col, hasDel := false } := by
    unfold PySem.W.clsIn
    rw [hk]
  have ls : PySem.W.Looks (model prog w) s.heap (isInstance (.ref a) (.type "object")) true := I.type.andThen (PySem.W.looks_mroIn X (by unfold PySem.W.mroIn; rw [hc]; rfl))
  refine codeAny_call_builtin SF.slot.plain SF.entry (@PySem.W.check_slot (model prog w) _ _ s "object.__setattr__" "object" "__setattr__" (.ref a) [.str name tk, v] [] _ SF.kind SF.split ls (SF.args (.ref a) (.str name tk) v) ?_)
  have hm : PySem.W.Looks (model prog w) s.heap (mroOf (.ref C)) (.ref C :: .ref L :: veM) := (PySem.W.looks_clsIn X hc).andThen .now
  rw [PySem.W.osa_eq, refuse_eq]
  refine wpAny_bind (wpAny_bind (I.type.here (wpAny_bind (hm.here ?_))))
  rw [refuseLoop_ref, refuseLoop_ref, PySem.F.store_ValueError.passes]
  refine wpAny_pure (wpAny_bind (I.type.here (wpAny_bind ((PySem.W.looks_findIn X hn).here (wpAny_bind (wpAny_pure ?_))))))
  refine wpAny_bind (wpAny_pure (wpAny_bind (wpAny_bind (wpAny_loadPart hx (wpAny_bind ((PySem.W.looks_clsIn X hc).here ?_))))))
  have hx1 : (s.heap.push { cls := .type "dict", data := .dict #[] }).get? a = some ⟨.ref C, none, .fields vs, sl⟩ := Heap.get?_push_of_some _ hx
  have hxs : a ≠ s.heap.objs.size := Nat.ne_of_lt (Heap.lt_size hx)
  refine wpAny_bind (wpAny_alloc ?_)
  refine wpAny_bind (wpAny_update hx1 (wpAny_pure (wpAny_bind (wpAny_pure (wpAny_bind ?_)))))
  have e1 := (Heap.get?_update_ne (s.heap.push { cls := .type "dict", data := .dict #[] }) s.heap.objs.size a (fun o => { o with dict := some s.heap.objs.size }) hxs.symm).trans (Heap.get?_push_at rfl rfl)
  have e2 : ((s.heap.push { cls := .type "dict", data := .dict #[] }).update a fun o => { o with dict := some s.heap.objs.size }).Ns s.heap.objs.size (fun _ => none) := ⟨_, #[], _, e1, rfl, fun e he => absurd he (by simp), fun _ => rfl⟩
  refine wpAny_nsSet1 (Heap.Ns1.of_empty e2) fun h' hn' hs => ?_
  obtain ⟨oD, es, ep, hoD, hdD, hcD⟩ := hn'.count (Within.cons name v Within.nil)
  refine wpAny_bind (wpAny_lookBehind hoD (by rw [hdD]; exact pastItsLine_dict (Nat.le_trans hcD (by rw [List.length_cons, List.length_nil, sizeLine_eq]; omega))) ?_)
  refine wpAny_pure (hR h' _ ?_ ?_ fun b o hb e => ?_)
  · obtain ⟨o', es', ep', q1, q2, q3, q4, q5⟩ := hn'
    exact ⟨o', es', ep', q1, q2, q3, q4, fun y => by rw [q5 y]⟩
  · exact (hs.2 a hxs).trans (Heap.get?_update_self _ hx1 rfl)
  · exact (hs.2 b (Nat.ne_of_lt (Heap.lt_size e))).trans ((Heap.get?_update_ne _ _ _ _ hb).trans (Heap.get?_push_of_some _ e))
end
def XA (C : Addr) (dx : Option Addr) (a : Addr) : HO := .ext fun h => ∃ vs sl, h.get? a = some ⟨.ref C, dx, .fields vs, sl⟩ ∧ vs[1]? = some Value.none
def XR (H : Hp) (a C : Addr) (dx : Option Addr) : Prop := ∃ φ, H a = some (.ext φ) ∧ ∀ h, φ h → ∃ vs sl, h.get? a = some ⟨.ref C, dx, .fields vs, sl⟩
theorem XR.of {H : Hp} {a C : Addr} {dx : Option Addr} (e : H a = some (XA C dx a)) : XR H a C dx := ⟨_, e, fun _ ⟨vs, sl, q, _⟩ => ⟨vs, sl, q⟩⟩
theorem XA.ok {P : Program} {w : World} {H : Hp} {h : Heap} {a C : Addr} {dx : Option Addr} {vs : Array Value} {sl : Array (Option Value)} (e : h.get? a = some ⟨.ref C, dx, .fields vs, sl⟩) (q : vs[1]? = some Value.none) : ObjOk P w H h a (XA C dx a) :=
  ⟨⟨vs, sl, e, q⟩, ⟨_, e⟩, fun h1 h2 ⟨vs', sl', e', q'⟩ k => ⟨vs', sl', k _ e', q'⟩⟩
theorem XA.ne {C a : Addr} {dx : Option Addr} : (∀ xs, XA C dx a ≠ .tup xs) ∧ (∀ x, XA C dx a ≠ .own x) := ⟨fun _ z => (by unfold XA at z; cases z), fun _ z => (by unfold XA at z; cases z)⟩
section
variable {X : Cx} {pins : List (Addr × Obj)} {σ : St} {H : Hp} {s : Shared} {C f a : Addr}
theorem Inv.xmade (I : Inv X pins σ H s) (C : Addr) (us : List Value) : Inv X pins σ (upd H (s.heap.objs.size + 1) (XA C none (s.heap.objs.size + 1))) { s with heap := xHeap s.heap C us } := by
  have I1 := I.kept (h' := s.heap.push (xTup us)) (t' := s.toks) fun b u q => Heap.get?_push_of_some _ q
  exact I1.laid (a := s.heap.objs.size + 1) (o := XA C none (s.heap.objs.size + 1)) (t' := s.toks) (fun b u q => Heap.get?_push_of_some _ q) (Nat.le_of_eq (Heap.size_push _ _)) (XA.ok xHeap_at rfl)
theorem Inv.xput {h' : Heap} {tk' : Nat} {name : Str} {y : V} {v : Value} {vs : Array Value} {sl : Array (Option Value)} (I : Inv X pins σ H s) (e : H a = some (XA C none a)) (ry : RelV y v)
    (n1 : h'.Ns1 s.heap.objs.size (fun z => if z = name then some v else none)) (n2 : h'.get? a = some ⟨.ref C, some s.heap.objs.size, .fields vs, sl⟩) (q1 : vs[1]? = some Value.none) (k : ∀ b o, b ≠ a → s.heap.get? b = some o → h'.get? b = some o) :
    Inv X pins σ (upd (upd H s.heap.objs.size (.xd [(name, y)])) a (XA C (some s.heap.objs.size) a)) { s with heap := h', toks := tk' } := by
  have hd := I.hok.fresh (Nat.le_refl s.heap.objs.size)
  have nd : s.heap.objs.size ≠ a := fun z => by rw [z] at hd; rw [hd] at e; cases e
  have na : ∀ b, H b = none → b ≠ a := fun b n z => by rw [z, e] at n; cases n
  have nb : ∀ b u, H b = some u → b ≠ s.heap.objs.size := fun b u q z => by rw [z, hd] at q; cases q
  have nt : ∀ b u, H b = some u → (∀ C dx, u ≠ XA C dx a) → b ≠ a := fun b u q z r => by rw [r, e] at q; cases q; exact z _ _ rfl
  have go : ∀ b u, H b = some u → b ≠ a → upd (upd H s.heap.objs.size (.xd [(name, y)])) a (XA C (some s.heap.objs.size) a) b = some u := fun b u q z => by rw [upd_ne z, upd_ne (nb b u q)]; exact q
  have tn : ∀ xs C' dx, (HO.tup xs) ≠ XA C' dx a := fun xs C' dx z => XA.ne.1 xs z.symm
  refine I.un ⟨fun b u q n _ _ => k b u (na b n) q, fun b u q n _ _ => ⟨u.slots, k b u (na b n) q⟩, fun b u q n _ => ?_, fun b u q _ => ?_, fun b xs q => go b _ q (nt b _ q fun _ _ z => tn xs _ _ z), fun b u xs q => go b _ q (nt b _ q fun _ _ z => (by unfold XA at z; cases z)),
    fun b ps q => ⟨#[], by rw [go b _ q (nt b _ q fun _ _ z => (by unfold XA at z; cases z))]; simp⟩⟩ ?_
  · rw [upd_ne (na b n), upd_ne (Nat.ne_of_lt (Heap.lt_size q))]; exact n
  · by_cases z : b = a
    · subst z; exact ⟨_, n2⟩
    · exact ⟨u, k b u z q⟩
  · intro b u q
    by_cases z : b = a
    · subst z; rw [upd_same] at q; cases q; exact XA.ok n2 q1
    · rw [upd_ne z] at q
      by_cases z2 : b = s.heap.objs.size
      · subst z2; rw [upd_same] at q; cases q
        refine ⟨_, n1, fun g => ?_⟩
        show RelO (List.lookup g [(name, y)]) (if g = name then some v else none)
        by_cases hg : g = name
        · subst hg; simp only [List.lookup, BEq.rfl, if_true]; exact ry
        · have : (g == name) = false := by simpa using hg
          simp only [List.lookup, this, if_neg hg]; exact True.intro
      · rw [upd_ne z2] at q
        refine (I.hok b u q).stay (fun c w' hc r => k c w' ?_ r) (fun c r => go c _ r (nt c _ r fun _ _ z => XA.ne.2 _ z.symm)) fun c xs r => go c _ r (nt c _ r fun _ _ z => tn xs _ _ z)
        rcases hc with hc | hc
        · rw [hc]; exact z
        · exact nt c _ hc fun _ _ z => XA.ne.2 _ z.symm
end
def tMakeX (C : Addr) (sp : Sp) (t : TA) : TE := fun σ H Q => t σ H fun vs H1 => vs.length ≤ 1000 ∧ ∀ x, H1 x = none → sp (.ref x :: vs) (upd H1 x (XA C none x)) (fun v H2 => v = .non ∧ Q (.ref x) H2) E0
def sFldX (K : PySem.W.Frag) (ta tv : TE) (f : Str) : TS := fun D σ H => tv σ H fun y H1 => ta σ H1 fun x H2 => ∃ a C g, x = .ref a ∧ H2 a = some (XA C none a) ∧ XCl K C g ∧ PySem.W.findIn K (.ref C) f = some none ∧
  ∀ dx, H2 dx = none → dx ≠ a → D.nx σ (upd (upd H2 dx (.xd [(f, y)])) a (XA C (some dx) a))
section
variable {X : Cx} {k : Nat} {f C : Addr} {fd : FuncData} {ps : List Str} {sp : Sp} {x m : Str} {p pos pos' apos : Pos} {e o value : Expr} {es : List Expr} {ta tv : TE} {t : TA}
theorem run_makeX {pins : List (Addr × Obj)} {σ : St} {H : Hp} {s : Shared} {Q : VK} {us : List Value} {vs : List V} (c : XCl X.K C f) (F : FnOk X.prog X.w X.K X.mg X.base CX0 k f fd ps sp) (hr : Room (k + 1) X.A) (hb : Binds X.K fd ps [])
    (I : Inv X pins σ H s) (r : Vals vs us) (hz : vs.length ≤ 1000) (h : ∀ x, H x = none → sp (.ref x :: vs) (upd H x (XA C none x)) (fun v H2 => v = .non ∧ Q (.ref x) H2) E0) :
    wpAny (model X.prog X.w) X.A (call (.ref C) us) (EP X pins σ Q) X.xe s := by
  have hq := h (s.heap.objs.size + 1) (I.hok.fresh (Nat.le_succ _))
  have I2 := I.xmade C us
  have r2 : Vals (V.ref (s.heap.objs.size + 1) :: vs) (Value.ref (s.heap.objs.size + 1) :: us) := .cons rfl r
  have hl : (Value.ref (s.heap.objs.size + 1) :: us ++ []).length = ps.length := by
    have e := r2.length
    rw [F.len _ _ _ _ hq] at e
    rw [List.append_nil]
    exact e.symm
  have hb2 := hb { s with heap := xHeap s.heap C us } (Value.ref (s.heap.objs.size + 1) :: us) I2.kIn hl
  rw [List.append_nil] at hb2
  obtain ⟨hh, g, d, tk, os⟩ := s
  refine exc_call (K := X.K) I.kIn c (by rw [← r.length, sizeLine_eq]; omega) (wpAny_call (codeAny_mono (F.run _ X.stack _ _ ⟨Value.ref (hh.objs.size + 1) :: us, []⟩ (Value.ref (hh.objs.size + 1) :: us) _ _ E0 (hr.make C us [])
    (I2.env0.make C us []) hb2 r2 hq) fun r s' hq' => ?_))
  cases r with
  | error e => exact False.elim hq'
  | ok fl =>
    cases fl with
    | ret u =>
      obtain ⟨v, H', I3, rv, ev, q3⟩ := I2.after hq'
      subst ev
      exact ⟨rv, ⟨V.ref _, H', I3, rfl, q3⟩⟩
    | next => exact False.elim hq'
    | brk => exact False.elim hq'
    | cont => exact False.elim hq'
theorem pe_makeX (c : XCl X.K C f) (F : FnOk X.prog X.w X.K X.mg X.base CX0 k f fd ps sp) (hr : Room (k + 1) X.A) (hg : Gl X x) (hm : X.mg x = some (.ref C)) (hb : Binds X.K fd ps [])
    (ha : PA X (e :: es) t) (hdb : (x == ("__debug__" : Str)) = false := by decide) (he : starEach (e :: es) X.env = (false, eval e X.env) :: starEach es X.env := by rfl) (hpl : (backTo pos (starEach es X.env)).any (·.1) = false := by rfl) :
    PE X (.Call (.Name x p) (e :: es) [] pos) (tMakeX C sp t) := by
  intro pins s σ H Q I h
  refine wpAny_Call_Name_kw (ld_glob I hg hm ?_ hdb)
  refine PySem.W.callWith_K (h₀ := X.base) I.ok.mod.kin c.kp (thn (ha pos pins s σ H _ I h) fun us s1 ⟨vs, H1, I1, r, hz, q⟩ => ⟨I1.kIn, ?_⟩) he hpl
  exact run_makeX c F hr hb I1 r hz q
theorem ps_fldX {nm : Str} (ha : PE X o ta) (hv : PE X value tv) (hs : swapsWith value (some (.Attribute o nm pos')) pos.line X.env = pure false) : PS X (.Assign [.Attribute o nm pos'] value pos) (sFldX X.K ta tv nm) := by
  intro pins s σ H D I h
  refine plainObj_wpAny_Assign_Attribute (thn (hv pins s σ H _ I h) fun u s1 ⟨y, H1, I1, ry, q⟩ => thn (ha pins s1 σ H1 _ I1 q) fun ov s2 ⟨x, H2, I2, rx, a, C, g, ex, ea, c, n, q2⟩ => ?_) hs
  subst ex
  obtain rfl : ov = Value.ref a := rx
  obtain ⟨⟨vs, sl, e1, e2⟩, _⟩ := I2.hok a _ ea
  have hd := I2.hok.fresh (Nat.le_refl s2.heap.objs.size)
  refine PySem.W.set_plain (od := none) I2.kIn (⟨e1, rfl, rfl, True.intro⟩ : PySem.W.InstAt s2.heap a _ C none) c.sa (osa_x I2.kIn c e1 n fun h' tk' k1 k2 k3 => ?_)
  exact ⟨σ, _, I2.xput ea ry k1 k2 e2 k3, q2 _ hd fun z => by rw [z, ea] at hd; cases hd⟩
end
section
variable {prog : Program} {w : World} {A : Around} {E : Value → Shared → Prop} {K : PySem.W.Frag} {C f a : Addr} {ox : Obj} {od : Option Obj} {s : Shared} {name : Str} {v : Value} {tk : Tok}
theorem x_base {M : Model} {h : Heap} (X : K.In h) (c : XCl K C f) (I : PySem.W.InstAt h a ox C od) : PySem.W.Looks M h (isInstance (.ref a) (.type "BaseException")) true := by
  obtain ⟨nm, q, N, L, bs, sn, sub, ab, col, dd, k0, k1, k2, k3, k5, hk, ht⟩ := c.ex
  have hc : PySem.W.clsIn K C = some { name := nm, bases := bs, mro := .ref C :: .ref L :: veM, ns := N, qualname := q, hasDict := true, slotNames := sn, subclasses := sub, abstract := ab, collection := col, hasDel := false } := by
    unfold PySem.W.clsIn; rw [hk]
  exact I.type.andThen (PySem.W.looks_mroIn X (by unfold PySem.W.mroIn; rw [hc]; rfl))
theorem x_slot {R : Result → Shared → Prop} (X : K.In s.heap) (c : XCl K C f) (I : PySem.W.InstAt s.heap a ox C od)
    (h : wpAny (model prog w) A.in1 (Builtin.«object.__getattribute__» ⟨[.ref a, .str name tk], []⟩) (fun fin s' => match fin with | .done f => R (.ok f) s' | .again c' => c'.quiet = true ∧ codeAny (model prog w) A c' R s') (fun e s' => R (.error e) s') s) :
    codeAny (model prog w) A (.call (.builtin "BaseException.__getattribute__") ⟨[.ref a, .str name tk], []⟩) R s :=
  codeAny_call_builtin PySem.F.excAttr_ValueError.ga.plain PySem.F.entry_bexc_ga (@PySem.W.check_slot (model prog w) _ _ s "BaseException.__getattribute__" "BaseException" "__getattribute__" (.ref a) [.str name tk] [] _ (by decide +kernel) (by decide +kernel) (x_base X c I) (PySem.F.args_bexc_ga (.ref a) (.str name tk)) h)
theorem x_val {R : Result → Shared → Prop} (X : K.In s.heap) (c : XCl K C f) (I : PySem.W.InstAt s.heap a ox C od) (hf : PySem.W.findObj K C od name = some (.value v)) (h : R (.ok (.ret v)) s) :
    codeAny (model prog w) A (.call (.builtin "BaseException.__getattribute__") ⟨[.ref a, .str name tk], []⟩) R s := by
  refine x_slot X c I ?_
  have L0 := I.type (M := model prog w)
  have L1 := PySem.W.looks_find (M := model prog w) X I hf
  unfold Builtin.«object.__getattribute__»
  refine wpAny_bind (wpAny_pure (wpAny_bind (wpAny_pure (wpAny_bind (L0.here (wpAny_bind (L1.here ?_)))))))
  exact wpAny_pure h
theorem x_cls {R : Result → Shared → Prop} (X : K.In s.heap) (c : XCl K C f) (I : PySem.W.InstAt s.heap a ox C od) (hf : PySem.W.findObj K C od "__class__" = some (.bind (.builtin "getset_descriptor.__get__") (.builtin "object.__class__")))
    (hm : PySem.W.mroIn K C (.type "object") = some true) (h : R (.ok (.ret (.ref C))) s) :
    codeAny (model prog w) A (.call (.builtin "BaseException.__getattribute__") ⟨[.ref a, .str "__class__" tk], []⟩) R s := by
  refine x_slot X c I ?_
  have L0 := I.type (M := model prog w)
  have L1 := PySem.W.looks_find (M := model prog w) X I hf
  unfold Builtin.«object.__getattribute__»
  refine wpAny_bind (wpAny_pure (wpAny_bind (wpAny_pure (wpAny_bind (L0.here (wpAny_bind (L1.here ?_)))))))
  show wpAny _ _ (holding [.builtin "object.__class__"] (call (.builtin "getset_descriptor.__get__") [.builtin "object.__class__", .ref a, .ref C]) >>= ret) _ _ _
  exact wpAny_bind (wpAny_holding (wpAny_call (PySem.W.class_get X I hm (wpAny_pure h))))
theorem x_by {fill expr : Bool} {Q : Value → Shared → Prop} (X : K.In s.heap) (c : XCl K C f) (I : PySem.W.InstAt s.heap a ox C od) (hv : PySem.W.handedIn v = true)
    (h : ∀ R : Result → Shared → Prop, R (.ok (.ret v)) s → codeAny (model prog w) A (.call (.builtin "BaseException.__getattribute__") ⟨[.ref a, .str name tk], []⟩) R s) (hq : Q v s) :
    wpAny (model prog w) A (getAttrBy (.ref a) (.str name tk) fill expr) Q E s := by
  have L0 := I.type (M := model prog w)
  have L1 := PySem.W.looks_findIn (M := model prog w) X c.ga
  have L2 := PySem.W.looks_findIn (M := model prog w) X c.gh
  have n0 : (Value.builtin "BaseException.__getattribute__" == Value.builtin "object.__getattribute__") = false := by decide +kernel
  have n1 : (onTheHeap (Value.ref C) && Value.builtin "BaseException.__getattribute__" == Value.builtin "object.__getattribute__") = false := by rw [n0, Bool.and_false]
  have n2 : (expr && onTheHeap (Value.builtin "BaseException.__getattribute__")) = false := by cases expr <;> rfl
  unfold getAttrBy
  refine wpAny_holding (wpAny_bind (L0.here (wpAny_bind (L1.here ?_))))
  dsimp only
  rw [if_neg (by rw [n1]; exact Bool.false_ne_true)]
  unfold getAttrByItsOwn hookBefore callGetattribute
  rw [n2]
  refine wpAny_bind (show wpAny _ _ (typeLookup (.ref C) "__getattr__") _ _ _ from L2.here (wpAny_bind (wpAny_attempt (wpAny_holding ?_))))
  show wpAny _ _ (boundAndCalled (.builtin "BaseException.__getattribute__") (.ref a) (.str name tk)) _ _ _
  unfold boundAndCalled
  rw [PySem.F.excAttr_ValueError.ga.bind]
  refine wpAny_bind (wpAny_pure (wpAny_call (h _ ?_)))
  show wpAny _ _ (handedOut v) _ _ _
  exact PySem.W.handed_on hv hq
theorem x_attr {expr : Bool} {Q : Value → Shared → Prop} (X : K.In s.heap) (c : XCl K C f) (I : PySem.W.InstAt s.heap a ox C od) (hf : PySem.W.findObj K C od name = some (.value v)) (hv : PySem.W.handedIn v = true) (hq : Q v { s with toks := s.toks + 1 }) :
    wpAny (model prog w) A (getAttr (.ref a) name expr) Q E s := by
  unfold getAttr
  exact wpAny_bind (wpAny_mkText (x_by (s := { s with toks := s.toks + 1 }) X c I hv (fun R r => x_val (s := { s with toks := s.toks + 1 }) X c I hf r) hq))
theorem x_class {Q : Option Value → Shared → Prop} (X : K.In s.heap) (c : XCl K C f) (I : PySem.W.InstAt s.heap a ox C od) (hf : PySem.W.findObj K C od "__class__" = some (.bind (.builtin "getset_descriptor.__get__") (.builtin "object.__class__")))
    (hm : PySem.W.mroIn K C (.type "object") = some true) (hq : Q (some (.ref C)) { s with toks := s.toks + 1 }) : wpAny (model prog w) A (getAttr? (.ref a) "__class__") Q E s := by
  unfold getAttr? getAttrBy?
  refine wpAny_bind (wpAny_mkText (wpAny_bind (wpAny_attempt (x_by (v := .ref C) (s := { s with toks := s.toks + 1 }) X c I rfl (fun R r => x_cls (s := { s with toks := s.toks + 1 }) X c I hf hm r) ?_))))
  exact wpAny_pure hq
structure XIs (K : PySem.W.Frag) (C : Addr) : Prop where
  ha : PySem.W.findIn K (.ref C) "__class__" = some (some (.builtin "object.__class__"))
  hn : PySem.W.specialIn K (.builtin "object.__class__") "__get__" = some (some (.builtin "getset_descriptor.__get__"))
  tk : PySem.W.takesIn K (.builtin "object.__class__") = some true
theorem kitx_x (c : XCl K C f) (i : XIs K C) : PySem.W.KitX K (.ref a) (.ref C) (fun h => ∃ ox od, PySem.W.InstAt h a ox C od) := by
  obtain ⟨nm, q, N, L, bs, sn, sub, ab, col, dd, k0, k1, k2, k3, k5, hk, ht⟩ := c.ex
  have hc : PySem.W.clsIn K C = some { name := nm, bases := bs, mro := .ref C :: .ref L :: veM, ns := N, qualname := q, hasDict := true, slotNames := sn, subclasses := sub, abstract := ab, collection := col, hasDel := false } := by
    unfold PySem.W.clsIn; rw [hk]
  have hm : PySem.W.mroIn K C (.type "object") = some true := by unfold PySem.W.mroIn; rw [hc]; rfl
  refine ⟨fun M h X I => ?_, fun M h X I => ?_, fun h tp d2 its n sl X htp => ?_, fun X I k => ?_⟩
  · obtain ⟨ox, od, I⟩ := I; exact I.type
  · intro A' Q' E' s' k z
    unfold isType loadHead
    exact wpAny_bind (wpAny_loadPart (k _ _ (X _ _ hk)) (wpAny_pure z))
  · refine Bool.eq_false_iff.mpr fun z => ?_
    have e : C = tp := Value.ref.inj (beq_iff_eq.mp z)
    subst e
    have z := congrArg Obj.data (Option.some.inj ((X _ _ hk).symm.trans htp))
    cases z
  · obtain ⟨ox, od, I⟩ := I
    refine x_class X c I ?_ hm k
    unfold PySem.W.findObj
    rw [hc, Option.bind_some, i.ha, Option.bind_some]
    simp [i.hn, i.tk]
end
section
variable {X : Cx} {pins : List (Addr × Obj)} {σ : St} {H : Hp} {s : Shared} {a C f dx : Addr} {D : Option Addr}
theorem XR.inst (I : Inv X pins σ H s) (r : XR H a C D) (hd : ∀ d, D = some d → ∃ o, s.heap.get? d = some o) : ∃ vs sl od, PySem.W.InstAt s.heap a ⟨.ref C, D, .fields vs, sl⟩ C od ∧ ∀ d, D = some d → s.heap.get? d = od := by
  obtain ⟨φ, e, k⟩ := r
  obtain ⟨p, _, _⟩ := I.hok a _ e
  obtain ⟨vs, sl, e1⟩ := k _ p
  cases D with
  | none => exact ⟨vs, sl, none, ⟨e1, rfl, rfl, True.intro⟩, fun _ z => nomatch z⟩
  | some d =>
    obtain ⟨o, ho⟩ := hd d rfl
    exact ⟨vs, sl, some o, ⟨e1, rfl, rfl, ho⟩, fun _ z => by cases z; exact ho⟩
def rIsX (K : PySem.W.Frag) : List V → Hp → VK → Prop := fun xs H Q => ∃ (a C f : Addr) (D : Option Addr) (y : V) (c : Value) (b : Bool), xs = [.ref a, y] ∧ RelV y c ∧ XR H a C D ∧ (∀ d, D = some d → ∃ fs, H d = some (.xd fs)) ∧ XCl K C f ∧ XIs K C ∧ PySem.W.kitOne K (.ref C) c = some b ∧ Q (.bl b) H
theorem call_isX : CallR X (.builtin "isinstance") (rIsX X.K) := by
  intro pins s σ H xs us Q I r h
  obtain ⟨a, C, f, D, y, c, b, rfl, ry, xr, xd, xc, xi, e, q⟩ := h
  obtain ⟨u, v, rfl, r1, r2⟩ := r.two
  cases (show u = Value.ref a from r1)
  have hd : ∀ d, D = some d → ∃ o, s.heap.get? d = some o := fun d z => by
    obtain ⟨fs, hf⟩ := xd d z
    obtain ⟨mA, ⟨o, _, _, e, _⟩, _⟩ := (show ObjOk X.prog X.w H s.heap d (.xd fs) from I.hok d _ hf)
    exact ⟨o, e⟩
  obtain ⟨vs, sl, od, J, _⟩ := xr.inst I hd
  have hcv : v = c := by cases y <;> first | exact (show v = _ from r2).trans (show c = _ from ry).symm | exact False.elim (by obtain ⟨t, z⟩ := ry; subst z; cases e)
  subst hcv
  exact PySem.W.kia_one (kitx_x xc xi) I.kIn ⟨_, _, J⟩ e (fun z => nomatch z) fun tk => ⟨.bl b, H, I.tok _, rfl, q⟩
def tFldX (K : PySem.W.Frag) (ta : TE) (nm : Str) : TE := fun σ H Q => ta σ H fun x H1 => ∃ a C f dx fs v, x = .ref a ∧ XR H1 a C (some dx) ∧ XCl K C f ∧ PySem.W.findIn K (.ref C) nm = some none ∧ H1 dx = some (.xd fs) ∧ fs.lookup nm = some v ∧ Q v H1
theorem pe_fldX {e : Expr} {nm : Str} {pos : Pos} {ta : TE} (he : PE X e ta) (hb : attributeBase e nm X.env (eval e X.env) = eval e X.env) : PE X (.Attribute e nm pos) (tFldX X.K ta nm) := by
  intro pins s σ H Q I h
  refine attr_of hb (thn (he pins s σ H _ I h) fun u s1 ⟨x, H1, I1, rx, a, C, f, dx, fs, v, ex, xr, xc, hn, hd, l, q⟩ => ?_)
  subst ex
  obtain rfl : u = Value.ref a := rx
  obtain ⟨mA, n1, rA⟩ := (show ObjOk X.prog X.w H1 s1.heap dx (.xd fs) from I1.hok dx _ hd)
  obtain ⟨od, ho, hl⟩ := lookIn_ns n1
  obtain ⟨vs, sl, od', J, hod⟩ := xr.inst I1 (fun d z => by cases z; exact ⟨od, ho⟩)
  have e1 : od' = some od := (hod dx rfl).symm.trans ho
  subst e1
  obtain ⟨w1, hu, ru⟩ := RelO.some_of (v := v) (o := mA nm) (by rw [← l]; exact rA nm)
  obtain ⟨nm', q', N, L, bs, sn, sub, ab, col, dd, k0, k1, k2, k3, k5, hk, ht⟩ := xc.ex
  have hh : PySem.W.hasDictIn X.K C = true := by unfold PySem.W.hasDictIn PySem.W.clsIn; rw [hk]; rfl
  exact x_attr I1.kIn xc J (PySem.W.findObj_own hh hn rfl (by rw [hl, hu])) (handed_of ru) ⟨v, H1, I1.tok _, ru, q⟩
end
def XB (C : Addr) (D : Option Addr) (a : Addr) : HO := .ext fun h => ∃ vs sl, h.get? a = some ⟨.ref C, D, .fields vs, sl⟩
theorem XR.ofB {H : Hp} {a C : Addr} {D : Option Addr} (e : H a = some (XB C D a)) : XR H a C D := ⟨_, e, fun _ q => q⟩
theorem mapF {o : Obj} {vs : Array Value} {f : Array Value → Array Value} (hd : o.data = .fields vs) : Obj.mapFields f o = { o with data := .fields (f vs) } := by
  cases o
  simp only at hd
  subst hd
  rfl
structure Noted (S : List Addr) (a : Addr) (oe : Obj) (fl : Value) (h h' : Heap) : Prop where
  at' : ∃ vs T oT ts, h'.get? a = some { oe with data := .fields vs } ∧ vs[1]? = some (.ref T) ∧ T ≠ a ∧ h.objs.size ≤ T ∧ h'.get? T = some oT ∧ oT.data = .fields ts ∧ ts[3]? = some fl
  keep : ∀ b o, b ≠ a → b ∉ S → h.get? b = some o → h'.get? b = some o
  slot : ∀ b o, b ≠ a → h.get? b = some o → ∃ sl, h'.get? b = some { o with slots := sl }
section
variable {M : Model} {A : Around} {E : Value → Shared → Prop} {s : Shared} {base : Heap} {env : Env} {outer : List Env} {L a : Addr} {oe : Obj} {vs : Array Value}
theorem note_new {head : Value} {hadNext : Bool} {Q : Unit → Shared → Prop} (hf : A.frames = some (env :: outer)) (ff : s.heap.FunFrames base (env :: outer)) (hL : env.frame = some L) (he : s.heap.get? a = some oe) (hd : oe.data = .fields vs) (h1 : 1 < vs.size)
    (hQ : ∀ h', Noted (frs (env :: outer)) a oe (rawInt L) s.heap h' → Q () { s with heap := h' }) :
    wpAny M A (do
      let x ← PySem.frameOf env
      let pl ← entryPlaceOf L hadNext
      let b ← EntryCells.newEntry head x .none (rawInt L) .none pl
      setField (.ref a) 1 b) Q E s := by
  have hna : a ∉ frs (env :: outer) := fun z => by
    obtain ⟨_, o, e, n⟩ := ff.mem z
    rw [he] at e
    cases e
    exact n _ hd
  refine wpAny_bind (wpAny_frameOf_fun hf ff hL fun h1' so => wpAny_bind (wpAny_entryPlaceOf fun pl hpl => ?_))
  have he1 : h1'.get? a = some oe := (so.2.1 a hna).trans he
  unfold EntryCells.newEntry newFields
  refine wpAny_bind (wpAny_newObj_type ?_ ?_)
  · have he2 : (h1'.push { cls := .type "traceback", data := .fields ([head, .ref L, .none, rawInt L, .none] ++ if pl.isEmpty = true then List.replicate 6 .none else pl).toArray }).get? a = some oe := Heap.get?_push_of_some _ he1
    refine wpAny_setField he2 hd h1 (hQ _ ?_)
    have hsz : h1'.objs.size = s.heap.objs.size := so.1
    have hne : h1'.objs.size ≠ a := Nat.ne_of_gt (Heap.lt_size he1)
    have hself := Heap.get?_update_self (Obj.mapFields fun x => x.setIfInBounds 1 (.ref h1'.objs.size)) he2 (by rw [mapF hd]; rfl)
    rw [mapF hd] at hself
    refine ⟨⟨vs.setIfInBounds 1 (.ref h1'.objs.size), h1'.objs.size, { cls := .type "traceback", data := .fields ([head, .ref L, .none, rawInt L, .none] ++ if pl.isEmpty = true then List.replicate 6 .none else pl).toArray }, _, ?_, ?_, hne, by omega, ?_, rfl, ?_⟩, fun b o hb hn e => ?_, fun b o hb e => ?_⟩
    · exact hself
    · simp [h1]
    · rw [Heap.get?_update_ne _ _ _ _ hne]
      exact Heap.get?_push_size _ rfl
    · simp
    · rw [Heap.get?_update_ne _ _ _ _ hb]
      exact Heap.get?_push_of_some _ ((so.2.1 b hn).trans e)
    · obtain ⟨sl, q⟩ := so.2.2 b o e
      exact ⟨sl, by rw [Heap.get?_update_ne _ _ _ _ hb]; exact Heap.get?_push_of_some _ q⟩
  · rcases hpl with rfl | ⟨x1, x2, x3, x4, c9, b10, _, rfl⟩ <;> simp [sizeOk, sizeLine_eq]
def Head (h : Heap) (a : Addr) (vs : Array Value) : Prop := vs[1]? = some .none ∨ ∃ T oT ts, vs[1]? = some (.ref T) ∧ T ≠ a ∧ h.get? T = some oT ∧ oT.data = .fields ts ∧ ts[3]? = some .none
theorem note_frame {Q : Unit → Shared → Prop} (hf : A.frames = some (env :: outer)) (ff : s.heap.FunFrames base (env :: outer)) (hL : env.frame = some L) (he : s.heap.get? a = some oe) (hd : oe.data = .fields vs) (hh : Head s.heap a vs)
    (hQ : ∀ h', Noted (frs (env :: outer)) a oe (rawInt L) s.heap h' → Q () { s with heap := h' }) : wpAny M A (noteFrame (.ref a) env) Q E s := by
  have h1 : 1 < vs.size := by
    rcases hh with q | ⟨T, oT, ts, q, _⟩ <;> exact (Array.getElem?_eq_some_iff.mp q).1
  unfold noteFrame
  rw [hL]
  dsimp only
  rcases hh with q | ⟨T, oT, ts, q, hT, hg, hdt, h3⟩
  · refine wpAny_bind (wpAny_field he hd q ?_)
    exact note_new hf ff hL he hd h1 hQ
  · refine wpAny_bind (wpAny_field he hd q ?_)
    refine wpAny_bind (wpAny_field hg hdt h3 ?_)
    refine wpAny_bind (wpAny_setField hg hdt (Array.getElem?_eq_some_iff.mp h3).1 ?_)
    have hs : ts.setIfInBounds 3 Value.none = ts := by
      obtain ⟨hl, he⟩ := Array.getElem?_eq_some_iff.mp h3
      refine Array.ext (by simp) fun i h1 h2 => ?_
      rw [Array.getElem_setIfInBounds]
      · split
        · rename_i z; subst z; exact he.symm
        · rfl
    have hself := Heap.get?_update_self (Obj.mapFields fun x => x.setIfInBounds 3 .none) hg (by rw [mapF hdt]; rfl)
    have hfx : Obj.mapFields (fun x => x.setIfInBounds 3 Value.none) oT = oT := by
      rw [mapF hdt, hs, ← hdt]
    rw [hfx] at hself
    have kp : ∀ b, (s.heap.update T (Obj.mapFields fun x => x.setIfInBounds 3 .none)).get? b = s.heap.get? b := fun b => by
      by_cases z : b = T
      · rw [z, hself, hg]
      · exact Heap.get?_update_ne _ _ _ _ z
    refine note_new (s := { s with heap := s.heap.update T (Obj.mapFields fun x => x.setIfInBounds 3 .none) }) (base := base) hf ?_ hL ((kp a).trans he) hd h1 fun h' n => hQ h' ?_
    · exact Heap.FunFrames.of_keeps (fun b o e _ => ⟨o, (kp b).trans e, rfl⟩) ff
    · obtain ⟨⟨vs', T', oT', ts', n1, n2, n3, n4, n5, n6, n7⟩, n8, n9⟩ := n
      refine ⟨⟨vs', T', oT', ts', n1, n2, n3, ?_, n5, n6, n7⟩, fun b o hb hn e => n8 b o hb hn ((kp b).trans e), fun b o hb e => n9 b o hb ((kp b).trans e)⟩
      have e := Heap.size_update s.heap T (Obj.mapFields fun x => x.setIfInBounds 3 Value.none)
      exact e ▸ n4
end
def XE (C : Addr) (D : Option Addr) (a : Addr) (u : HO) : Prop := u = XA C D a ∨ u = XB C D a
theorem XE.ext {C a : Addr} {D : Option Addr} {u : HO} (h : XE C D a u) : ∃ φ, u = .ext φ ∧ ∀ h, φ h → ∃ vs sl, h.get? a = some ⟨.ref C, D, .fields vs, sl⟩ := by
  rcases h with rfl | rfl
  · exact ⟨_, rfl, fun _ ⟨vs, sl, q, _⟩ => ⟨vs, sl, q⟩⟩
  · exact ⟨_, rfl, fun _ q => q⟩
theorem XB.ok {P : Program} {w : World} {H : Hp} {h : Heap} {a C : Addr} {D : Option Addr} {vs : Array Value} {sl : Array (Option Value)} (e : h.get? a = some ⟨.ref C, D, .fields vs, sl⟩) : ObjOk P w H h a (XB C D a) :=
  ⟨⟨vs, sl, e⟩, ⟨_, e⟩, fun h1 h2 ⟨vs', sl', e'⟩ k => ⟨vs', sl', k _ e'⟩⟩
section
variable {X : Cx} {pins : List (Addr × Obj)} {σ : St} {H : Hp} {s : Shared} {C f a : Addr} {D : Option Addr} {h' : Heap}
theorem Inv.xobj {u : HO} (I : Inv X pins σ H s) (e : H a = some u) (x : XE C D a u) : ∃ vs sl, s.heap.get? a = some ⟨.ref C, D, .fields vs, sl⟩ := by
  obtain ⟨φ, rfl, k⟩ := x.ext
  obtain ⟨p, _, _⟩ := I.hok a _ e
  exact k _ p
theorem Inv.noted {u : HO} {vs : Array Value} {sl : Array (Option Value)} {fl : Value} (I : Inv X pins σ H s) (e : H a = some u) (x : XE C D a u) (ho : s.heap.get? a = some ⟨.ref C, D, .fields vs, sl⟩) (n : Noted (frs X.stack) a ⟨.ref C, D, .fields vs, sl⟩ fl s.heap h') :
    Inv X pins σ (upd H a (XB C D a)) { s with heap := h' } := by
  obtain ⟨φ, rfl, _⟩ := x.ext
  obtain ⟨⟨vs', T, oT, ts, n1, n2, n3, n4, n5, n6, n7⟩, kp, sk⟩ := n
  have na : ∀ b, H b = none → b ≠ a := fun b n z => by rw [z, e] at n; cases n
  have nt : ∀ b u, H b = some u → (∀ φ, u ≠ .ext φ) → b ≠ a := fun b u q z r => by rw [r, e] at q; cases q; exact z _ rfl
  have go : ∀ b u, H b = some u → b ≠ a → upd H a (XB C D a) b = some u := fun b u q z => by rw [upd_ne z]; exact q
  refine I.call (g' := s.gens) (d' := s.drawn) (t' := s.toks) (ch := []) ⟨fun b o q n hb _ => kp b o (na b n) hb q, fun b o q n _ _ => sk b o (na b n) q, fun b o q n _ => by rw [upd_ne (na b n)]; exact n, fun b o q _ => ?_,
    fun b xs q => go b _ q (nt b _ q fun _ z => nomatch z), fun b o xs q => go b _ q (nt b _ q fun _ z => nomatch z), fun b ps q => ⟨#[], by rw [go b _ q (nt b _ q fun _ z => nomatch z)]; simp⟩⟩ ?_ I.bare (fun b z => absurd z (by simp))
  · by_cases z : b = a
    · subst z; exact ⟨_, n1⟩
    · obtain ⟨sl', q'⟩ := sk b o z q; exact ⟨_, q'⟩
  · intro b u q
    by_cases z : b = a
    · subst z; rw [upd_same] at q; cases q; exact XB.ok n1
    · rw [upd_ne z] at q
      refine (I.hok b u q).stay (fun c w' hc r => kp c w' ?_ (fun hm => ?_) r) (fun c r => go c _ r (nt c _ r fun _ z => nomatch z)) fun c xs r => go c _ r (nt c _ r fun _ z => nomatch z)
      · rcases hc with hc | hc
        · rw [hc]; exact z
        · exact nt c _ hc fun _ z => nomatch z
      · have := I.stkFree c hm
        rcases hc with hc | hc
        · rw [hc, q] at this; cases this
        · rw [hc] at this; cases this
def Flies (X : Cx) (pins : List (Addr × Obj)) (H : Hp) (h : Heap) (a : Addr) (fl : Value) : Prop :=
  ∃ o vs T oT ts, h.get? a = some o ∧ o.data = .fields vs ∧ vs[1]? = some (.ref T) ∧ T ≠ a ∧ FpOk X pins H T ∧ h.get? T = some oT ∧ oT.data = .fields ts ∧ ts[3]? = some fl
theorem Flies.head {h : Heap} (f : Flies X pins H h a .none) {o : Obj} {vs : Array Value} (e : h.get? a = some o) (d : o.data = .fields vs) : Head h a vs := by
  obtain ⟨o', vs', T, oT, ts, q1, q2, q3, q4, _, q5, q6, q7⟩ := f
  rw [e] at q1; cases q1
  rw [d] at q2; cases q2
  exact .inr ⟨T, oT, ts, q3, q4, q5, q6, q7⟩
theorem Inv.flown {Q : Unit → Shared → Prop} {M : Model} {A : Around} {E : Value → Shared → Prop} {fl : Value} (I : Inv X pins σ H s) (ff : Flies X pins H s.heap a fl)
    (hQ : ∀ s', Inv X pins σ H s' → Flies X pins H s'.heap a .none → s'.heap.objs.size = s.heap.objs.size → Q () s') : wpAny M A (setFlight (.ref a) none) Q E s := by
  obtain ⟨o, vs, T, oT, ts, q1, q2, q3, q4, fp, q5, q6, q7⟩ := ff
  refine wpAny_setFlight_none q1 q2 q3 q5 q6 (Array.getElem?_eq_some_iff.mp q7).1 ?_
  have hl := (Array.getElem?_eq_some_iff.mp q7).1
  obtain ⟨f0, f1, f2, f3, f4, f5⟩ := id fp
  refine hQ _ (I.turned (t' := s.toks) (it := T) (fun b o hb e => (Heap.get?_update_ne _ _ _ _ hb).trans e) f0 f1 f3 f4 f5) ⟨o, vs, T, { oT with data := .fields (ts.setIfInBounds 3 .none) }, ts.setIfInBounds 3 .none, (Heap.get?_update_ne _ _ _ _ q4.symm).trans q1, q2, q3, q4, fp, ?_, rfl, by simp [hl]⟩ (Heap.size_update _ _ _)
  rw [Heap.get?_update_self _ q5 (by rw [mapF q6]; rfl), mapF q6]
theorem Inv.note {Q : Unit → Shared → Prop} {M : Model} {E : Value → Shared → Prop} {u : HO} {L : Addr} {A : Around} (I : Inv X pins σ H s) (e : H a = some u) (x : XE C D a u) (hA : A.frames = some X.stack) (hst : X.stack = X.env :: X.outer) (hL : X.env.frame = some L)
    (hh : ∀ vs sl, s.heap.get? a = some ⟨.ref C, D, .fields vs, sl⟩ → Head s.heap a vs)
    (hQ : ∀ h', Inv X pins σ (upd H a (XB C D a)) { s with heap := h' } → (∃ o vs T oT ts, h'.get? a = some o ∧ o.data = .fields vs ∧ vs[1]? = some (.ref T) ∧ T ≠ a ∧ s.heap.objs.size ≤ T ∧ h'.get? T = some oT ∧ oT.data = .fields ts ∧ ts[3]? = some (rawInt L)) → Q () { s with heap := h' }) :
    wpAny M A (noteFrame (.ref a) X.env) Q E s := by
  obtain ⟨vs, sl, ho⟩ := I.xobj e x
  have st := I.stack
  rw [hst] at hA st
  refine note_frame hA st hL ho rfl (hh vs sl ho) fun h' n => hQ h' (I.noted e x ho (by rw [hst]; exact n)) ?_
  obtain ⟨⟨vs', T, oT, ts, n1, n2, n3, n4, n5, n6, n7⟩, _, _⟩ := n
  exact ⟨_, vs', T, oT, ts, n1, rfl, n2, n3, n4, n5, n6, n7⟩
end
def CX1 (P : Program) (w : World) : CXT := fun outer H s E e s' => ∃ (a C : Addr) (D : Option Addr) (H' : Hp), e = .ref a ∧ s'.os = s.os ∧ AllBare s'.gens ∧ Un (frs outer) [] H H' s.heap s'.heap ∧ HOk P w H' s'.heap ∧ H' a = some (XB C D a) ∧
  (∃ o vs T oT ts, s'.heap.get? a = some o ∧ o.data = .fields vs ∧ vs[1]? = some (.ref T) ∧ T ≠ a ∧ s.heap.objs.size ≤ T ∧ H' T = none ∧ s'.heap.get? T = some oT ∧ oT.data = .fields ts ∧ ts[3]? = some Value.none) ∧ E (.ref C) D H'
def Raises (X : Cx) (E : XK) : Prop := ∀ (pins : List (Addr × Obj)) (σ : St) (H : Hp) (s : Shared) (a C : Addr) (D : Option Addr), Inv X pins σ H s → H a = some (XA C D a) → E (.ref C) D (upd H a (XB C D a)) → X.xe (.ref a) s
theorem raises_out {P : Program} {w : World} {K : PySem.W.Frag} {mg : Str → Option Value} {base : Heap} {N : List Str} {qual : Str} {scope : Scope} {f : Addr} {cd : Value} {A : Around} {outer : List Env} {s0 : Shared} {H0 : Hp} {E : XK}
    : Raises (cxOf (CX1 P w) P w K mg base N qual scope f cd A outer s0 H0 E) E := by
  intro pins σ H s a C D I e q
  show wpAny (model P w) _ (leaving _ (.ref a)) _ _ s
  unfold leaving
  refine wpAny_bind (I.note e (.inl rfl) I.ok.frames rfl rfl (fun vs sl ho => ?_) fun h' J fl => ?_)
  · obtain ⟨⟨vs', sl', h1, h2⟩, _, _⟩ := I.hok a _ e
    rw [ho] at h1
    cases h1
    exact .inl h2
  · obtain ⟨o, vs, T, oT, ts, q1, q2, q3, q4, q5, q6, q7, q8⟩ := fl
    have hTn : upd H a (XB C D a) T = none := by rw [upd_ne q4]; exact I.hok.fresh q5
    refine J.flown ⟨o, vs, T, oT, ts, q1, q2, q3, q4, I.fpOk q5 hTn, q6, q7, q8⟩ fun s' J' fl' _ => ?_
    obtain ⟨o', vs', T', oT', ts', r1, r2, r3, r4, r5, r6, r7, r8⟩ := fl'
    exact ⟨a, C, D, _, rfl, J'.os, J'.bare, J'.base, J'.hok, upd_same, ⟨o', vs', T', oT', ts', r1, r2, r3, r4, r5.2.2.2.1.elim (fun z => nomatch z) id, r5.1, r6, r7, r8⟩, q⟩
def tRaise (K : PySem.W.Frag) (E : XK) (te : TE) : TS := fun D σ H => te σ H fun x H1 => ∃ (a C f : Addr) (d : Option Addr), x = .ref a ∧ H1 a = some (XA C d a) ∧ XCl K C f ∧ (∀ dx, d = some dx → ∃ fs, H1 dx = some (.xd fs)) ∧ E (.ref C) d (upd H1 a (XB C d a))
theorem ps_raise {X : Cx} {E : XK} {e : Expr} {te : TE} {pos : Pos} (hc : X.calm = true) (hr : Raises X E) (he : PE X e te) : PS X (.Raise (some e) none pos) (tRaise X.K E te) := by
  intro pins s σ H D I h
  rw [arm_exec_Raise]
  refine wpAny_bind (wpAny_standAt ?_)
  show wpAny _ _ (raiseStmt X.env (some (do let v ← eval e X.env; standAt pos; pure v)) none) _ _ s
  unfold raiseStmt
  refine wpAny_bind (wpAny_bind (thn (he pins s σ H _ I h) fun u s1 ⟨x, H1, I1, rx, a, C, f, d, ex, ea, c, xd, q⟩ => ?_))
  subst ex
  obtain rfl : u = Value.ref a := rx
  refine wpAny_bind (wpAny_standAt (wpAny_pure (wpAny_bind (wpAny_pure ?_))))
  have hd : ∀ dx, d = some dx → ∃ o, s1.heap.get? dx = some o := fun dx z => by
    obtain ⟨fs, hf⟩ := xd dx z
    obtain ⟨mA, ⟨o, _, _, e, _⟩, _⟩ := (show ObjOk X.prog X.w H1 s1.heap dx (.xd fs) from I1.hok dx _ hf)
    exact ⟨o, e⟩
  obtain ⟨vs, sl, od, J, _⟩ := (XR.of ea).inst I1 hd
  have ho := J.1
  obtain ⟨⟨vs', sl', h1, h2⟩, _, _⟩ := I1.hok a _ ea
  rw [ho] at h1
  cases h1
  have LI := x_base (M := model X.prog X.w) I1.kIn c J
  have LT := J.type (M := model X.prog X.w)
  have nty : ∀ {A : Around} {Q : Bool → Shared → Prop} {E : Value → Shared → Prop}, Q false s1 → wpAny (model X.prog X.w) A (isType (.ref a)) Q E s1 := fun q => by
    unfold isType loadHead
    exact wpAny_bind (wpAny_loadPart ho (wpAny_pure q))
  refine wpAny_bind (wpAny_holding ?_)
  unfold excFromValue
  refine wpAny_bind (show wpAny _ _ (isExcClass (.ref a)) _ _ _ from ?_)
  unfold isExcClass
  refine wpAny_bind (nty (wpAny_pure ?_))
  refine wpAny_bind (LI.here (wpAny_pure ?_))
  refine wpAny_bind (nty ?_)
  refine wpAny_bind (show wpAny _ _ (raisedInstance (.ref a)) _ _ _ from ?_)
  unfold raisedInstance
  obtain ⟨nm, q', N, L, bs, sn, sub, ab, col, dd, k0, k1, k2, k3, k5, hk, ht⟩ := c.ex
  have kC := I1.kIn _ _ hk
  refine wpAny_bind (LT.here (wpAny_bind (wpAny_typeOf (T := "type") ⟨_, kC, rfl⟩ ?_)))
  rw [if_pos (by first | exact BEq.rfl | decide +kernel)]
  refine wpAny_pure (wpAny_bind ?_)
  unfold setFlight
  refine wpAny_bind (wpAny_field ho rfl h2 (wpAny_pure ?_))
  exact wpAny_raiseNew_none (I1.ok.hd hc) (hr pins σ H1 s1 a C d I1 ea q)
section
variable {X : Cx} {pins : List (Addr × Obj)} {σ : St} {H : Hp} {s : Shared}
theorem unbind_ok {M : Model} {A : Around} {E : Value → Shared → Prop} {i : Nat} {x : Str} {v : V} {Q : Unit → Shared → Prop} (I : Inv X pins σ H s) (hN : X.N.Nodup) (hi : X.N[i]? = some x) (hk : X.env.scope.names.lookup x = some .local) (hv : σ[i]? = some (some v))
    (h : ∀ s', Inv X pins (σ.set i none) H s' → Q () s') : wpAny M A (unbindName X.env x) Q E s := by
  obtain ⟨m, hn, hl⟩ := id I.loc
  have hcls : (X.env.scope.kind == .class || (X.env.scope.kind == .module && X.env.locals != X.env.globals)) = false := by rw [I.ok.kind]; rfl
  have hiσ : i < σ.length := by rw [I.len]; exact (List.getElem?_eq_some_iff.mp hi).1
  obtain ⟨u, r, q⟩ := hl i x v hi hv (.inl hk)
  have hm : m x = some u := by
    rcases q with ⟨k, e⟩ | ⟨k, c, e, z⟩
    · exact e
    · rcases k with k | k <;> (have k' : X.env.scope.names.lookup x = _ := k; rw [hk] at k'; cases k')
  refine wpAny_unbindName_local hk hn hm hcls fun h' u' hn' hs => ?_
  obtain ⟨oL, _, _, hoL, _⟩ := id hn
  have tracked : HOk X.prog X.w H h' := fun b ob e => by
    refine (I.hok b ob e).stay (fun c w' hc q => (hs.2 c ?_).trans q) (fun _ q => q) fun _ _ q => q
    rintro rfl
    rcases hc with rfl | hc
    · rw [I.free] at e; cases e
    · rw [I.free] at hc; cases hc
  refine h _ ⟨I.ok, I.os, I.bare, ⟨fun b o e n hb hx => ?_, fun b o e n hb hx => ?_, I.base.free, fun b o e hx => ?_, I.base.tups, I.base.frzs, I.base.tbls⟩, ⟨_, hn', fun j y v' e1 e2 e3 => ?_⟩, fun y c e => ?_, I.free, I.freeC, fun p hp => ?_, tracked, by simpa using I.len⟩
  · exact (hs.2 b (Nat.ne_of_lt (Nat.lt_of_lt_of_le (Heap.lt_size e) I.ok.above))).trans (I.base.keep b o e n hb hx)
  · obtain ⟨sl, e1⟩ := I.base.slot b o e n hb hx
    exact ⟨sl, (hs.2 b (Nat.ne_of_lt (Nat.lt_of_lt_of_le (Heap.lt_size e) I.ok.above))).trans e1⟩
  · obtain ⟨o', e1⟩ := I.base.there b o e hx
    exact ⟨o', (hs.2 b (Nat.ne_of_lt (Nat.lt_of_lt_of_le (Heap.lt_size e) I.ok.above))).trans e1⟩
  · by_cases hj : j = i
    · subst hj
      rw [List.getElem?_set_self hiσ] at e2
      cases e2
    · rw [List.getElem?_set_ne (Ne.symm hj)] at e2
      obtain ⟨u', r', q⟩ := hl j y v' e1 e2 e3
      refine ⟨u', r', ?_⟩
      rcases q with ⟨k, e⟩ | ⟨k, c, e, z⟩
      · refine .inl ⟨k, ?_⟩
        have : y ≠ x := fun e => hj (nodup_ix hN e1 (e ▸ hi))
        simp [this, e]
      · exact .inr ⟨k, c, e, z.sameBut hs (I.cne y c e)⟩
  · obtain ⟨w', z⟩ := I.cell y c e
    exact ⟨w', z.sameBut hs (I.cne y c e)⟩
  · obtain ⟨e, n, ne, nf, d⟩ := I.pin p hp
    exact ⟨(hs.2 p.1 ne).trans e, n, ne, nf, d⟩
theorem upd_id {H : Hp} {a : Addr} {o : HO} (h : H a = some o) : upd H a o = H := by
  funext b
  by_cases z : b = a
  · rw [z, upd_same, h]
  · rw [upd_ne z]
def tryCx (X : Cx) (pins : List (Addr × Obj)) (xe : Value → Shared → Prop) : Cx := { X with pn := X.pn ++ pins, xe := xe }
theorem Inv.toTry {xe : Value → Shared → Prop} (I : Inv X pins σ H s) : Inv (tryCx X pins xe) [] σ H s :=
  ⟨⟨I.ok.mod, I.ok.kind, I.ok.glob, I.ok.blt, I.ok.above, I.ok.inj, I.ok.has, I.ok.cab, I.ok.hd, I.ok.frames, I.ok.stk, I.ok.exf, I.ok.bs, I.ok.bsz, I.ok.noex, I.ok.exfs, I.ok.funs, I.ok.frf⟩, I.os, I.bare, I.base, I.loc, I.cell, I.free, I.freeC,
    fun p hp => I.pin p (by simpa [tryCx] using hp), I.hok, I.len⟩
theorem Inv.ofTry {xe : Value → Shared → Prop} {ps : List (Addr × Obj)} (I : Inv (tryCx X pins xe) ps σ H s) : Inv X pins σ H s :=
  ⟨⟨I.ok.mod, I.ok.kind, I.ok.glob, I.ok.blt, I.ok.above, I.ok.inj, I.ok.has, I.ok.cab, I.ok.hd, I.ok.frames, I.ok.stk, I.ok.exf, I.ok.bs, I.ok.bsz, I.ok.noex, I.ok.exfs, I.ok.funs, I.ok.frf⟩, I.os, I.bare, I.base, I.loc, I.cell, I.free, I.freeC,
    fun p hp => I.pin p (List.mem_append_left _ hp), I.hok, I.len⟩
def markCx (X : Cx) (a : Addr) (xe : Value → Shared → Prop) : Cx := { X with A := X.A.mark (some (.ref a)), calm := false, xe := xe }
theorem Inv.toMark {a : Addr} {xe : Value → Shared → Prop} (I : Inv X pins σ H s) : Inv (markCx X a xe) pins σ H s :=
  ⟨⟨I.ok.mod, I.ok.kind, I.ok.glob, I.ok.blt, I.ok.above, I.ok.inj, I.ok.has, I.ok.cab, (fun z => nomatch z), I.ok.frames, I.ok.stk, I.ok.exf, I.ok.bs, I.ok.bsz, I.ok.noex, I.ok.exfs, I.ok.funs, I.ok.frf⟩, I.os, I.bare, I.base, I.loc, I.cell, I.free, I.freeC, I.pin, I.hok, I.len⟩
theorem Inv.ofMark {a : Addr} {xe : Value → Shared → Prop} (hd : X.calm = true → X.A.handled = none) (I : Inv (markCx X a xe) pins σ H s) : Inv X pins σ H s :=
  ⟨⟨I.ok.mod, I.ok.kind, I.ok.glob, I.ok.blt, I.ok.above, I.ok.inj, I.ok.has, I.ok.cab, hd, I.ok.frames, I.ok.stk, I.ok.exf, I.ok.bs, I.ok.bsz, I.ok.noex, I.ok.exfs, I.ok.funs, I.ok.frf⟩, I.os, I.bare, I.base, I.loc, I.cell, I.free, I.freeC, I.pin, I.hok, I.len⟩
end
def xeT (X : Cx) (pins : List (Addr × Obj)) (EX : St → XK) : Value → Shared → Prop := fun e s' => ∃ (σ : St) (H : Hp) (a C : Addr) (D : Option Addr), e = .ref a ∧ Inv X pins σ H s' ∧ H a = some (XB C D a) ∧ Flies X pins H s'.heap a .none ∧ EX σ (.ref C) D H
def PassesS (CX : CXT) (X : Cx) (EX : St → XK) : Prop := ∀ (pins : List (Addr × Obj)) (σ : St) (H : Hp) (s : Shared) (e : Value) (s' : Shared), Inv X pins σ H s → CX X.stack H s (EX σ) e s' → X.xe e s'
theorem passes_try {X : Cx} {pins : List (Addr × Obj)} {EX : St → XK} : PassesS (CX1 X.prog X.w) (tryCx X pins (xeT X pins EX)) EX := by
  rintro ps σ H s e s' I ⟨a, C, D, H', rfl, os, bare, un, hok, ea, ⟨o, vs, T, oT, ts, q1, q2, q3, q4, q5, q6, q7, q8, q9⟩, q⟩
  have J := I.call' (ch := []) os un hok bare (fun b z => absurd z (by simp))
  exact ⟨σ, H', a, C, D, rfl, J.ofTry, ea, ⟨o, vs, T, oT, ts, q1, q2, q3, q4, I.ofTry.fpOk q5 q6, q7, q8, q9⟩, q⟩
def tCallS (sp : Sp) (dvs : List V) (EX : St → XK) (t : TA) : TE := fun σ H Q => t σ H fun vs H1 => sp (vs ++ dvs) H1 Q (EX σ)
section
variable {X : Cx} {CX : CXT} {k : Nat} {f C : Addr} {fd : FuncData} {ps : List Str} {sp : Sp} {dvs : List V} {ds : List Value} {EX : St → XK} {x m : Str} {p pos apos : Pos} {e o : Expr} {es : List Expr} {ta : TE} {t : TA}
theorem run_fnS {pins : List (Addr × Obj)} {σ : St} {H : Hp} {s : Shared} {Q : VK} {us : List Value} {vs : List V} (F : FnOk X.prog X.w X.K X.mg X.base CX k f fd ps sp) (hr : Room k X.A) (hb : Binds X.K fd ps ds) (hd : Vals dvs ds) (hx : PassesS CX X EX)
    (I : Inv X pins σ H s) (r : Vals vs us) (h : sp (vs ++ dvs) H Q (EX σ)) : wpAny (model X.prog X.w) X.A (call (.ref f) us) (EP X pins σ Q) X.xe s := by
  have r2 : Vals (vs ++ dvs) (us ++ ds) := r.append hd
  have hl : (us ++ ds).length = ps.length := by rw [← r2.length]; exact F.len _ _ _ _ h
  refine wpAny_call (codeAny_mono (F.run X.A X.stack s H ⟨us, []⟩ (us ++ ds) (vs ++ dvs) Q (EX σ) hr I.env0 (hb s us I.kIn hl) r2 h) fun r s' hq => ?_)
  cases r with
  | error e => exact hx pins σ H s e s' I hq
  | ok fl =>
    cases fl with
    | ret u => exact I.after hq
    | next => exact False.elim hq
    | brk => exact False.elim hq
    | cont => exact False.elim hq
theorem pe_callS (F : FnOk X.prog X.w X.K X.mg X.base CX k f fd ps sp) (hr : Room k X.A) (hg : Gl X x) (hm : X.mg x = some (.ref f)) (hk : PySem.W.keepIn X.K (.ref f) = true) (hb : Binds X.K fd ps ds) (hd : Vals dvs ds) (hx : PassesS CX X EX)
    (ha : PA X (e :: es) t) (hdb : (x == ("__debug__" : Str)) = false := by decide) (he : starEach (e :: es) X.env = (false, eval e X.env) :: starEach es X.env := by rfl) (hpl : (backTo pos (starEach es X.env)).any (·.1) = false := by rfl) :
    PE X (.Call (.Name x p) (e :: es) [] pos) (tCallS sp dvs EX t) := by
  intro pins s σ H Q I h
  refine wpAny_Call_Name_kw (ld_glob I hg hm ?_ hdb)
  refine PySem.W.callWith_K (h₀ := X.base) I.ok.mod.kin hk (thn (ha pos pins s σ H _ I h) fun us s1 ⟨vs, H1, I1, r, q⟩ => ⟨I1.kIn, ?_⟩) he hpl
  exact run_fnS F hr hb hd hx I1 r q
end
structure XUn (K : PySem.W.Frag) (C L : Addr) : Prop where
  up : PySem.W.mroIn K C (.ref L) = some true
  ex : PySem.W.mroIn K L (.type "BaseException") = some true
  cl : ∃ cd dd sl, K.lookup L = some ⟨.type "type", dd, .cls cd, sl⟩
theorem x_match {prog : Program} {w : World} {A : Around} {E : Value → Shared → Prop} {K : PySem.W.Frag} {C L a : Addr} {ox : Obj} {od : Option Obj} {s : Shared} {Q : Bool → Shared → Prop} (X : K.In s.heap) (J : PySem.W.InstAt s.heap a ox C od) (u : XUn K C L) (hQ : Q true s) :
    wpAny (model prog w) A (excMatches (.ref a) (.ref L)) Q E s := by
  obtain ⟨cd, dd, sl, hk⟩ := u.cl
  have kL := X _ _ hk
  have LT := J.type (M := model prog w)
  have L1 := PySem.W.looks_mroIn (M := model prog w) X u.ex
  have L2 := PySem.W.looks_mroIn (M := model prog w) X u.up
  unfold excMatches
  refine wpAny_bind (wpAny_isInstance (T := "type") (b := false) ⟨_, kL, rfl⟩ (by first | rfl | with_unfolding_all rfl) ?_)
  refine wpAny_bind (wpAny_pure ?_)
  refine wpAny_bind ?_
  simp only [List.forIn_cons, List.forIn_nil]
  refine wpAny_bind ?_
  unfold isExcClass isType loadHead
  refine wpAny_bind (wpAny_bind (wpAny_bind (wpAny_loadPart kL (wpAny_pure (L1.here (wpAny_pure (wpAny_pure ?_)))))))
  refine wpAny_bind (LT.here (wpAny_bind (wpAny_bind (wpAny_bind (L2.here (wpAny_pure (wpAny_pure (wpAny_pure ?_))))))))
  exact hQ
def endsX (i : Nat) (D : Ends) : Ends := { nx := fun σ H => D.nx (σ.set i none) H, rt := D.rt, bk := fun σ H => D.bk (σ.set i none) H, ct := fun σ H => D.ct (σ.set i none) H }
def tTry (K : PySem.W.Frag) (L : Addr) (i : Nat) (tb : (St → XK) → TS) (ts : TS) : TS := fun D σ H => ∃ EX : St → XK, tb EX D σ H ∧
  ∀ (σ1 : St) (H1 : Hp) (a C : Addr) (d : Option Addr), H1 a = some (XB C d a) → EX σ1 (.ref C) d H1 → (∃ f, XCl K C f) ∧ XUn K C L ∧ (∀ dx, d = some dx → ∃ fs, H1 dx = some (.xd fs)) ∧ ts (endsX i D) (σ1.set i (some (.ref a))) H1
theorem ps_try {X : Cx} {L F : Addr} {i : Nat} {n x : Str} {body suite : List Stmt} {b₀ : Stmt} {hpos pos tpos : Pos} {tb : (St → XK) → TS} {ts : TS} (hst : X.stack = X.env :: X.outer) (hF : X.env.frame = some F) (hN : X.N.Nodup) (hi : X.N[i]? = some n)
    (hk : X.env.scope.names.lookup n = some .local) (hg : Gl X x) (hm : X.mg x = some (.ref L))
    (hb : ∀ (pins : List (Addr × Obj)) (xe : Value → Shared → Prop) (EX : St → XK), PassesS (CX1 X.prog X.w) (tryCx X pins xe) EX → PSs (tryCx X pins xe) body (tb EX))
    (hs : ∀ (a : Addr) (xe : Value → Shared → Prop), PSs (markCx X a xe) (b₀ :: suite) ts) (hdb : (x == ("__debug__" : Str)) = false := by decide) :
    PS X (.Try body [.ExceptHandler (some (.Name x tpos)) (some n) (b₀ :: suite) hpos] [] [] pos) (tTry X.K L i tb ts) := by
  intro pins s σ H D I h
  obtain ⟨EX, hb', hh⟩ := h
  refine wpAny_Try_except ?_
  have B := hb pins (xeT X pins EX) EX passes_try [] s σ H D I.toTry hb'
  refine wpAny_mono B (fun fl s1 q => ?_) (fun e s1 q => ?_)
  · cases fl with
    | next =>
      obtain ⟨σ', H', J, q⟩ := q
      exact wpAny_pure ⟨σ', H', J.ofTry, q⟩
    | brk =>
      obtain ⟨σ', H', J, q⟩ := q
      exact ⟨σ', H', J.ofTry, q⟩
    | cont =>
      obtain ⟨σ', H', J, q⟩ := q
      exact ⟨σ', H', J.ofTry, q⟩
    | ret u =>
      obtain ⟨v, σ', H', J, r, q⟩ := q
      exact ⟨v, σ', H', J.ofTry, r, q⟩
  · obtain ⟨σ1, H1, a, C, d, rfl, I1, ea, fl, q⟩ := q
    obtain ⟨⟨f, c⟩, un, xd, sq⟩ := hh σ1 H1 a C d ea q
    refine I1.note ea (.inr rfl) I1.ok.frames hst hF (fun vs sl ho => fl.head ho rfl) fun h' I2 nt => ?_
    rw [upd_id ea] at I2
    obtain ⟨o, vs, T, oT, ts', q1, q2, q3, q4, q5, q6, q7, q8⟩ := nt
    refine I2.flown ⟨o, vs, T, oT, ts', q1, q2, q3, q4, I1.fpOk q5 (I1.hok.fresh q5), q6, q7, q8⟩ fun s3 I3 fl3 _ => ?_
    refine wpAny_handleBy_cons ?_ (by intro z; cases z)
    refine codeAny_handlers_test ?_
    have hd : ∀ dx, d = some dx → ∃ o, s3.heap.get? dx = some o := fun dx z => by
      obtain ⟨fs, hf⟩ := xd dx z
      obtain ⟨mA, ⟨o, _, _, e, _⟩, _⟩ := (show ObjOk X.prog X.w H1 s3.heap dx (.xd fs) from I3.hok dx _ hf)
      exact ⟨o, e⟩
    obtain ⟨vs3, sl3, od, J, _⟩ := (XR.ofB ea).inst I3 hd
    refine ld_glob (X := markCx X a (fun _ _ => True)) I3.toMark hg hm ?_ hdb
    refine x_match I3.kIn J un ?_
    show codeAny _ _ _ _ _
    refine codeAny_handlers_suite_as ?_
    refine I3.flown fl3 fun s5 I5 fl5 _ => ?_
    refine store_ok I5 hN hi (.inl hk) (v := .ref a) rfl (fun s6 I6 => ?_) (.inr hk)
    refine wpAny_mono (hs a _ pins s6 _ H1 (endsX i D) I6.toMark sq) (fun fl s7 q => ?_) fun _ _ z => z
    have fin : ∀ (σ' : St) (H' : Hp) (Q' : Shared → Prop), Inv X pins σ' H' s7 → (∀ s9, Inv X pins (σ'.set i none) H' s9 → Q' s9) →
        wpAny (model X.prog X.w) X.A (do bindName X.env n .none; unbindBehindTheSuite X.env n hpos) (fun _ s9 => Q' s9) X.xe s7 := fun σ' H' Q' I7' k => by
      have hiσ : i < σ'.length := by rw [I7'.len]; exact (List.getElem?_eq_some_iff.mp hi).1
      refine wpAny_bind (wpAny_bindName (store_ok I7' hN hi (.inl hk) (v := .non) rfl (fun s8 I8 => ?_) (.inr hk)))
      unfold unbindBehindTheSuite
      refine wpAny_onRaise (unbind_ok I8 hN hi hk (v := .non) (by rw [List.getElem?_set_self hiσ]) fun s9 I9 => k s9 ?_)
      rw [List.set_set] at I9
      exact I9
    cases fl with
    | next =>
      obtain ⟨σ', H', J, q⟩ := q
      exact fin σ' H' _ (J.ofMark I.ok.hd) fun s9 I9 => ⟨_, H', I9, q⟩
    | brk =>
      obtain ⟨σ', H', J, q⟩ := q
      exact fin σ' H' _ (J.ofMark I.ok.hd) fun s9 I9 => ⟨_, H', I9, q⟩
    | cont =>
      obtain ⟨σ', H', J, q⟩ := q
      exact fin σ' H' _ (J.ofMark I.ok.hd) fun s9 I9 => ⟨_, H', I9, q⟩
    | ret u =>
      obtain ⟨v, σ', H', J, r, q⟩ := q
      exact fin σ' H' _ (J.ofMark I.ok.hd) fun s9 I9 => ⟨v, _, H', I9, r, q⟩
section
variable {X : Cx}
def rIsXT (K : PySem.W.Frag) : List V → Hp → VK → Prop := fun xs H Q => ∃ (a C f tp : Addr) (D : Option Addr) (ys : List V) (cs : List Value) (b : Bool), xs = [.ref a, .ref tp] ∧ H tp = some (.tup ys) ∧ Vals ys cs ∧ (∀ us, Vals ys us → us = cs) ∧ XR H a C D ∧ (∀ d, D = some d → ∃ fs, H d = some (.xd fs)) ∧ XCl K C f ∧ XIs K C ∧
  PySem.W.kitAny K (.ref C) cs = some b ∧ Q (.bl b) H
theorem call_isXT : CallR X (.builtin "isinstance") (rIsXT X.K) := by
  intro pins s σ H xs us Q I r h
  obtain ⟨a, C, f, tp, D, ys, cs, b, rfl, et, rc, uc, xr, xd, xc, xi, e, q⟩ := h
  obtain ⟨u, v, rfl, r1, r2⟩ := r.two
  cases (show u = Value.ref a from r1)
  cases (show v = Value.ref tp from r2)
  have hd : ∀ d, D = some d → ∃ o, s.heap.get? d = some o := fun d z => by
    obtain ⟨fs, hf⟩ := xd d z
    obtain ⟨mA, ⟨o, _, _, e, _⟩, _⟩ := (show ObjOk X.prog X.w H s.heap d (.xd fs) from I.hok d _ hf)
    exact ⟨o, e⟩
  obtain ⟨vs, sl, od, J, _⟩ := xr.inst I hd
  obtain ⟨_, its, ri, ht⟩ := (show ObjOk X.prog X.w H s.heap tp (.tup ys) from I.hok tp _ et)
  obtain rfl := uc its ri
  obtain ⟨⟨c0, d0, da, s0⟩, ho, hc, n, hdd⟩ := ht
  simp only at hc hdd
  subst hc hdd
  exact PySem.W.kia_tup (kitx_x xc xi) I.kIn ⟨_, _, J⟩ ho e (fun z => nomatch z) fun tk => ⟨.bl b, H, I.tok _, rfl, q⟩
theorem refs_vals : ∀ (l : List Addr), Vals (l.map V.ref) (l.map Value.ref) ∧ ∀ us, Vals (l.map V.ref) us → us = l.map Value.ref
  | [] => ⟨.nil, fun us r => by cases r; rfl⟩
  | a :: l => ⟨.cons rfl (refs_vals l).1, fun us r => by
    cases r with
    | cons h t =>
      obtain rfl := (refs_vals l).2 _ t
      rw [show _ = Value.ref a from h]
      rfl⟩
end
theorem Fun.okX {P : Program} {w : World} {K : PySem.W.Frag} {mg : Str → Option Value} {base : Heap} {x qual : Str} {st : Stmt} {f : Addr} {fd : FuncData} {N ps : List Str} {k : Nat} {sp : Sp} (F : Fun K x qual st f fd) (S : FnScope N ps (defScope st)) (len : ∀ vs H Q E, sp vs H Q E → vs.length = ps.length)
    (hbody : ∀ (cdv : Value) (A : Around) (outer : List Env) (s : Shared) (H : Hp) (vs : List V) (Q : VK) (E : XK), Room k (A.deeper (envOfC qual (defScope st) s.heap.objs.size f cdv)) → sp vs H Q E →
      ∃ t, PSs (cxOf (CX1 P w) P w K mg base N qual (defScope st) f cdv A outer s H E) (defBody st) t ∧ t { nx := fun _ H' => Q .non H', rt := Q } (start N vs) H) : FnOk P w K mg base (CX1 P w) (k + 1) f fd ps sp := by
  obtain ⟨oc, od, kV, doc, pm, an, cdv, ct, osl, rfl, lk, hcd⟩ := F.ex
  refine fn_of lk hcd S len fun A outer s H vs Q E hr hsp => ?_
  obtain ⟨t, h, q⟩ := hbody cdv A outer s H vs Q E hr hsp
  exact ⟨t, h, q⟩
theorem pass1 {X : Cx} {P : Program} {w : World} : Passes (CX1 P w) X E0 := by
  rintro _ _ _ _ _ _ _ ⟨a, C, D, H', _, _, _, _, _, _, _, z⟩
  exact z.elim
def spInit (C : Addr) (fld : Str) : Sp := fun vs H Q _ => ∃ (a : Addr) (v : V), vs = [.ref a, v] ∧ H a = some (XA C none a) ∧ ∀ dx, H dx = none → dx ≠ a → Q .non (upd (upd H dx (.xd [(fld, v)])) a (XA C (some dx) a))
section
variable {X : Cx} {K : PySem.W.Frag}
theorem call_isXTK (h : X.K = K) : CallR X (.builtin "isinstance") (rIsXT K) := by subst h; exact call_isXT
theorem call_isXK (h : X.K = K) : CallR X (.builtin "isinstance") (rIsX K) := by subst h; exact call_isX
theorem pe_fldXK {e : Expr} {nm : Str} {pos : Pos} {ta : TE} (h : X.K = K) (he : PE X e ta) (hb : attributeBase e nm X.env (eval e X.env) = eval e X.env) : PE X (.Attribute e nm pos) (tFldX K ta nm) := by subst h; exact pe_fldX he hb
theorem ps_raiseK {E : XK} {e : Expr} {te : TE} {pos : Pos} (h : X.K = K) (hc : X.calm = true) (hr : Raises X E) (he : PE X e te) : PS X (.Raise (some e) none pos) (tRaise K E te) := by subst h; exact ps_raise hc hr he
theorem ps_fldXK {nm : Str} {pos pos' : Pos} {o value : Expr} {ta tv : TE} (h : X.K = K) (ha : PE X o ta) (hv : PE X value tv) (hs : swapsWith value (some (.Attribute o nm pos')) pos.line X.env = pure false) : PS X (.Assign [.Attribute o nm pos'] value pos) (sFldX K ta tv nm) := by subst h; exact ps_fldX ha hv hs
theorem ps_tryK {L F : Addr} {i : Nat} {n x : Str} {body suite : List Stmt} {b₀ : Stmt} {hpos pos tpos : Pos} {tb : (St → XK) → TS} {ts : TS} (h : X.K = K) (hst : X.stack = X.env :: X.outer) (hF : X.env.frame = some F) (hN : X.N.Nodup) (hi : X.N[i]? = some n)
    (hk : X.env.scope.names.lookup n = some .local) (hg : Gl X x) (hm : X.mg x = some (.ref L))
    (hb : ∀ (pins : List (Addr × Obj)) (xe : Value → Shared → Prop) (EX : St → XK), PassesS (CX1 X.prog X.w) (tryCx X pins xe) EX → PSs (tryCx X pins xe) body (tb EX))
    (hs : ∀ (a : Addr) (xe : Value → Shared → Prop), PSs (markCx X a xe) (b₀ :: suite) ts) (hdb : (x == ("__debug__" : Str)) = false := by decide) :
    PS X (.Try body [.ExceptHandler (some (.Name x tpos)) (some n) (b₀ :: suite) hpos] [] [] pos) (tTry K L i tb ts) := by subst h; exact ps_try hst hF hN hi hk hg hm hb hs hdb
end
theorem tail_self {K : PySem.W.Frag} : PySem.W.tailIn K veM veM = true := by
  unfold PySem.W.tailIn
  rw [Bool.or_eq_true_iff]
  exact .inl (beq_iff_eq.mpr rfl)
theorem tail_mk {K : PySem.W.Frag} {nm q : Str} {L N : Addr} {bs bm : List Value} {hd : Bool} {sn : List Str} {sub : List Value} {ab : Bool} {col : Option Bool} {dd : Option Addr} {k0 k1 k2 k3 k5 : Option Value} {id : String}
    (h : K.lookup L = some (excClassObj nm q L N bs bm hd sn sub ab col dd k0 k1 k2 k3 k5 id)) (o : PySem.W.nsOkIn K N = true) (i : PySem.W.nsIn K N "__init__" = some none) : PySem.W.tailIn K veM (.ref L :: veM) = true := by
  unfold PySem.W.tailIn
  rw [Bool.or_eq_true_iff]
  right
  dsimp only
  rw [h]
  dsimp only
  rw [o, i, tail_self]
  rfl
def clsDef (s : Stmt) : Stmt := match s with
  | .ClassDef _ _ _ (d :: _) _ _ _ _ _ _ _ => d
  | _ => .Pass ⟨0, 0, 0, 0⟩
end L2
namespace Lw
open PySem PySem.Spec PyProof.Rows L2
def ClX (P : Program) (w : World) (K : PySem.W.Frag) (mg : Str → Option Value) (base : Heap) (x : Str) (ps : List Str) (n : Nat) (sp : Sp) : Prop :=
  ∃ f fd, FnOk P w K mg base (CX1 P w) n f fd ps sp ∧ mg x = some (.ref f) ∧ PySem.W.keepIn K (.ref f) = true ∧ Binds K fd ps []
theorem Df.clX {P : Program} {w : World} {K : PySem.W.Frag} {mg : Str → Option Value} {base : Heap} {x : Str} {st : Stmt} {ps : List Str} {f : Addr} {fd : FuncData} {n : Nat} {sp : Sp} (D : Df K mg x st ps f fd) (h : FnOk P w K mg base (CX1 P w) n f fd ps sp) : ClX P w K mg base x ps n sp :=
  ⟨f, fd, h, D.m, D.F.kp, D.b⟩
end Lw
namespace L2
open PySem PySem.Spec PyProof.Rows
end L2
namespace Lw
open PySem PySem.Spec PyProof.Rows L2
end Lw
namespace L2
open PySem PySem.Spec PyProof.Rows
theorem eqV_refl {x : V} (h : flatV x = true) : eqV x x = true := by
  cases x <;> first | (simp [eqV]; done) | exact absurd (show false = true from h) Bool.false_ne_true
theorem eqVs_refl : ∀ {xs : List V}, xs.all flatV = true → eqVs xs xs = true
  | [], _ => rfl
  | x :: xs, h => by
    rw [List.all_cons, Bool.and_eq_true] at h
    unfold eqVs
    rw [eqV_refl h.1, eqVs_refl h.2]
    rfl
section
variable {X : Cx}
open Classical in
end
end L2
namespace Lw
open PySem PySem.Spec PyProof.Rows L2 Ma MaR
def badW (n : Nat) (x : List Nat) (i : Nat) : Bool := decide (¬ x.getD i 0 ∈ letsN n) || (decide (0 < i) && decide (x.getD i 0 = con (x.getD (i - 1) 0)))
def faultT (n : Nat) (x : List Nat) : Option Nat := (List.range x.length).find? (badW n x)
theorem find_hit {p : Nat → Bool} {m i : Nat} (h1 : ∀ j, j < i → p j = false) (h2 : p i = true) (h3 : i < m) : (List.range m).find? p = some i := by
  rw [List.find?_range_eq_some]
  exact ⟨h2, by simpa using h3, fun j hj => by simp [h1 j hj]⟩
theorem find_no {p : Nat → Bool} {m : Nat} (h1 : ∀ j, j < m → p j = false) : (List.range m).find? p = none := by
  rw [List.find?_range_eq_none]
  exact fun j hj => by simp [h1 j hj]
def optI : Option Nat → V
  | none => .non
  | some i => .int (i : Nat)
def seenO (n : Nat) : Option (List Nat) → Option V
  | none => some .non
  | some x => (faultT n x).map fun i => .int (i : Nat)
end Lw
namespace Lw
open PySem PySem.Spec PyProof.Rows L2 Ma MaR
end Lw
namespace Lw
open PySem PySem.Spec PyProof.Rows L2 Ma MaR
inductive Lk (K : PySem.W.Frag) (H : Hp) : Nat → V → V → Prop where
  | flat {d : Nat} {v : V} (h : flatV v = true) : Lk K H d v v
  | tup {d : Nat} {a b : Addr} {xs ys : List V} (h1 : SqT K H a xs) (h2 : SqT K H b ys) (hl : xs.length = ys.length) (hm : xs.length ≤ 100) (h : ∀ (i : Nat) (x y : V), xs[i]? = some x → ys[i]? = some y → Lk K H d x y) : Lk K H (d + 1) (.ref a) (.ref b)
theorem Lk.same {K : PySem.W.Frag} {H H' : Hp} (s : Same H H') : ∀ {d : Nat} {x y : V}, Lk K H d x y → Lk K H' d x y := fun h => by
  induction h with
  | flat h => exact .flat h
  | tup h1 h2 hl hm _ ih => exact .tup (L2.SqT.same s h1) (L2.SqT.same s h2) hl hm ih
theorem flat_ty (K : PySem.W.Frag) (H : Hp) {v : V} (h : flatV v = true) : ∃ t, BTy K H v t ∧ subT t "list" = false ∧ subT t "tuple" = false := by
  cases v with
  | non => exact ⟨_, .non, by decide, by decide⟩
  | bl b => exact ⟨_, .bl b, by decide, by decide⟩
  | int i => exact ⟨_, .int i, by decide, by decide⟩
  | str x => exact ⟨_, .str x, by decide, by decide⟩
  | _ => exact absurd (show false = true from h) Bool.false_ne_true
def spLk (K : PySem.W.Frag) (d : Nat) : Sp := fun vs H Q _ => ∃ x y : V, vs = [x, y] ∧ Lk K H d x y ∧ ∀ H', Same H H' → Q (.bl true) H'
end Lw
namespace Lw
open PySem PySem.Spec PyProof.Rows L2 Ma MaR
theorem at_exL {l : List Nat} {d : Int} (h0 : 0 ≤ d) (h1 : d < (l.length : Nat)) : ∃ c, atI l d = some c := ⟨_, atI_of h0 (List.getElem?_eq_getElem (show d.toNat < l.length by omega))⟩
def signsZ : Str := Str.ofString " !\"#$&'()*+,-./0123456789:;<=>?@ABCDEFGHIJKLMNOPQRSTUVWXYZ" ++ Str.ofString "[\\]^_`abcdefghijklmnopqrstuvwxyz{|}~\n"
def spSigns : Sp := fun vs H Q _ => vs = [] ∧ ∀ H', Same H H' → Q (.str signsZ) H'
def spSignW : Sp := fun vs H Q _ => ∃ fl sc : Addr, vs = [.ref fl] ∧ IsFl H fl sc ∧ ∀ (c : Nat) (H' : Hp), IsFl H' fl sc → Kp fl H H' → Q (.str (S [c])) H'
end Lw
namespace Lw
open PySem PySem.Spec PyProof.Rows L2 Ma MaR
theorem plain_seen {n : Nat} {x : List Nat} (ho : OfN n x) (hp : Plain x) : seenO n (some x) = none := by
  show (faultT n x).map _ = _
  have : faultT n x = none := find_no fun j hj => by
    obtain ⟨c, hc⟩ : ∃ c, x[j]? = some c := ⟨_, List.getElem?_eq_getElem hj⟩
    have hgd : x.getD j 0 = c := by rw [List.getD_eq_getElem?_getD, hc]; rfl
    have hcn := ho c (List.mem_of_getElem? hc)
    unfold badW
    rw [hgd, decide_eq_false (fun z => z hcn)]
    by_cases h0 : 0 < j
    · obtain ⟨d, hd⟩ : ∃ d, x[j - 1]? = some d := ⟨_, List.getElem?_eq_getElem (by omega)⟩
      have hgd1 : x.getD (j - 1) 0 = d := by rw [List.getD_eq_getElem?_getD, hd]; rfl
      have hdL : isL d := letsN_isL (ho d (List.mem_of_getElem? hd))
      have hne : ¬ c = con d := fun e => plain_get hp hd (by rw [show j - 1 + 1 = j by omega]; exact hc) (by rw [e, con_con hdL])
      rw [hgd1, decide_eq_false hne]
      simp
    · rw [decide_eq_false h0]
      simp
  rw [this]
  rfl
end Lw
namespace L2
open PySem PySem.Spec PyProof.Rows
section
variable {X : Cx} {es : List Expr} {te : TE} {t : TA}
end
end L2
namespace Lw
open PySem PySem.Spec PyProof.Rows L2 Ma MaR
end Lw
namespace L2
open PySem PySem.Spec PyProof.Rows
section
variable {X : Cx} {es : List Expr} {te : TE} {t : TA}
end
end L2
namespace L2
open PySem PySem.Spec PyProof.Rows PySem.Calls
section
variable {X : Cx}
def PEb (X : Cx) (e : Expr) (t : TE) : Prop :=
  ∀ (pins : List (Addr × Obj)) (s : Shared) (σ : St) (H : Hp) (Q : VK), Inv X pins σ H s → t σ H Q → wpAny (model X.prog X.w) X.A (eval e X.env) (fun v s' => EP X pins σ Q v s' ∧ 0 < s'.toks) X.xe s
def PET (X : Cx) (e : Expr) (t : TE) : Prop :=
  ∀ (pins : List (Addr × Obj)) (s : Shared) (σ : St) (H : Hp) (Q : VK), Inv X pins σ H s → 0 < s.toks → t σ H Q → wpAny (model X.prog X.w) X.A (eval e X.env) (EP X pins σ Q) X.xe s
def PAT (X : Cx) (es : List Expr) (t : TA) : Prop :=
  ∀ (pos : Pos) (pins : List (Addr × Obj)) (s : Shared) (σ : St) (H : Hp) (Q : List V → Hp → Prop), Inv X pins σ H s → 0 < s.toks → t σ H Q → wpAny (model X.prog X.w) X.A (spliced (backTo pos (starEach es X.env))) (AP X pins σ Q) X.xe s
theorem peb_addc {a : Expr} {ta : TE} {op : Operator} {r : R2} {y : Str} {j : Nat} {p pos : Pos} (ho : OpR X (binaryOp op) r) (ha : PE X a ta) : PEb X (.BinOp a op (.Constant (.str y) j p) pos) (tOp r ta (tC (.str y))) := by
  intro pins s σ H Q I h
  refine wpAny_BinOp (thn (ha pins s σ H _ I h) fun v s1 ⟨x, H1, I1, r1, q1⟩ => ?_)
  refine Calls.Constant_str (wpAny_with_toks (n := 1) (Nat.le_add_left 1 _) ?_)
  exact wpAny_mono (ho pins _ σ H1 x (.str y) v _ Q (I1.tok _) r1 ⟨_, rfl⟩ q1) (fun u s2 q ht => ⟨q, ht⟩) (fun e s2 q _ => q)
theorem paT_one {e : Expr} {te : TE} (ha : PET X e te) (hs : starEach [e] X.env = (false, eval e X.env) :: starEach [] X.env := by rfl) : PAT X [e] (tCons te tNil) := by
  intro pos pins s σ H Q I ht h
  rw [hs]
  show wpAny _ _ (spliced ((false, eval e X.env) :: backTo pos (starEach [] X.env))) _ _ s
  refine Calls.spliced_cons (thn (ha pins s σ H _ I ht h) fun u s1 ⟨x, H1, I1, r1, q1⟩ => ?_)
  exact thn (pa_nil pos pins s1 σ H1 _ I1 q1) fun us s2 ⟨xs, H2, I2, r2, q2⟩ => ⟨x :: xs, H2, I2, .cons r1 r2, q2⟩
theorem pa_tok {e : Expr} {es : List Expr} {te : TE} {t : TA} (ha : PEb X e te) (hr : PAT X es t) (hs : starEach (e :: es) X.env = (false, eval e X.env) :: starEach es X.env := by rfl) : PA X (e :: es) (tCons te t) := by
  intro pos pins s σ H Q I h
  rw [hs]
  show wpAny _ _ (spliced ((false, eval e X.env) :: backTo pos (starEach es X.env))) _ _ s
  refine Calls.spliced_cons (thn (ha pins s σ H _ I h) fun u s1 ⟨⟨x, H1, I1, r1, q1⟩, ht⟩ => ?_)
  exact thn (hr pos pins s1 σ H1 _ I1 ht q1) fun us s2 ⟨xs, H2, I2, r2, q2⟩ => ⟨x :: xs, H2, I2, .cons r1 r2, q2⟩
def tRepl (y z : Str) (to : TE) : TE := fun σ H Q => to σ H fun x H1 => ∃ w, x = .str w ∧ (y == z) = false ∧ w.length + (w.length + 1) * z.length ≤ 16777216 ∧ Q (.str (Txt.replace w y z)) H1
theorem peT_repl {o : Expr} {to : TE} {y z : Str} {j1 j2 : Nat} {p1 p2 apos cpos : Pos} (ho : PE X o to)
    (hbase : attributeBase o "replace" X.env (eval o X.env) = eval o X.env := by rfl) (hline : (apos.endLine == cpos.line) = true := by rfl) :
    PET X (.Call (.Attribute o "replace" apos) [.Constant (.str y) j1 p1, .Constant (.str z) j2 p2] [] cpos) (tRepl y z to) := by
  intro pins s σ H Q I htk h
  refine wpAny_Call_method_late hbase (by rfl) hline rfl (wpAny_with_toks (n := 1) htk (wpAny_mono (ho pins s σ H _ I h) (fun v s1 ⟨x, H1, I1, r1, w, ex, hyz, hw, q1⟩ ht1 => ?_) (fun e s1 q _ => q)))
  subst ex
  obtain ⟨t, rfl⟩ := r1
  refine ⟨"str", "str.replace", PySem.F.plainAttrs_str, PySem.F.slot_str_replace, PySem.F.type_str_replace, typeIs_str _ _ _, (fun _ e => nomatch e), ?_⟩
  refine Calls.callWith_builtin rfl (Calls.evalArgs_plain ?_)
  refine Calls.spliced_cons (Calls.Constant_str (k := j1) (pos := p1) ?_)
  refine Calls.spliced_cons (Calls.Constant_str (k := j2) (pos := p2) ?_)
  refine Calls.spliced_nil ?_
  refine SC.replace (by show s1.toks ≠ 0; omega) (by show s1.toks + 1 ≠ 0; omega) (by show s1.toks ≠ s1.toks + 1; omega) hyz hw fun t' k => ?_
  exact ⟨.str _, H1, I1.tok _, ⟨_, rfl⟩, q1⟩
end
section
variable {prog : Program} {w : World} {A : Around} {E : Value → Shared → Prop} {s : Shared}
end
section
variable {X : Cx}
end
end L2
namespace Lw
open PySem PySem.Spec PyProof.Rows L2 Ma MaR
section
variable (c : Nat) (sd : List Nat)
end
section
variable {c : Nat} {sd : List Nat}
end
end Lw
namespace L2
open PySem PySem.Spec PyProof.Rows
end L2
namespace Lw
open PySem PySem.Spec PyProof.Rows L2 Ma MaR
end Lw
namespace Lw
open PySem PySem.Spec PyProof.Rows L2 Ma MaR
end Lw
namespace Lw
open PySem PySem.Spec PyProof.Rows L2 Ma MaR
end Lw
namespace Lw
open PySem PySem.Spec PyProof.Rows L2 Ma MaR
theorem upper_le (x : List Nat) : (Txt.upper (S x)).length ≤ 3 * x.length := by
  have h := placed_le3 (S x) (fun _ c => Unicode.upperOf c) fun _ c => StrLaws.upperOf_le3 c
  rw [S_len] at h
  exact h
theorem lower_le (x : List Nat) : (Txt.lower (S x)).length ≤ 3 * x.length := by
  have h := placed_le3 (S x) (fun i _ => Unicode.lowerAt (S x).cps i) fun i _ => StrLaws.lowerAt_le3 _ i
  rw [S_len] at h
  exact h
theorem fits_le {z : Str} {m : Nat} (h : z.length ≤ m) (hm : m ≤ 1000) : Builtin.Str.tooLong z.length = false := by
  unfold Builtin.Str.tooLong
  have h10 : (1000 : Nat) ≤ sizeLine := len_1000 (by decide)
  exact decide_eq_false (by omega)
end Lw
namespace Lw
open PySem PySem.Spec PyProof.Rows L2 Ma MaR
theorem at_ex {l : List Nat} {d : Int} (h0 : 0 ≤ d) (h1 : d < (l.length : Nat)) : ∃ c, atI l d = some c := ⟨_, atI_of h0 (List.getElem?_eq_getElem (show d.toNat < l.length by omega))⟩
end Lw
namespace Lw
open PySem PySem.Spec PyProof.Rows L2 Ma MaR
end Lw
namespace Lw
open PySem PySem.Spec PyProof.Rows L2 Ma MaR
end Lw
namespace Lw
open PySem PySem.Spec PyProof.Rows L2 Ma MaR
end Lw
namespace Lw
open PySem PySem.Spec PyProof.Rows L2 Ma MaR
def spFaultB : Sp := fun vs H Q _ => ∃ (n : Nat) (x : List Nat), vs = [.int (n : Nat), .str (S x)] ∧ 1 ≤ n ∧ n ≤ 4 ∧ x.length ≤ 5000 ∧ ∀ H', Same H H' → Q (optI (faultT n x)) H'
def readT (n : Nat) (x : List Nat) : Option (List Nat) := if x = [46] then some [] else if x = [] then none else if faultT n x = none then some x else none
def optS : Option (List Nat) → V
  | none => .non
  | some x => .str (S x)
def spRdG : Sp := fun vs H Q _ => ∃ (n : Nat) (x : List Nat), vs = [.int (n : Nat), .str (S x)] ∧ 1 ≤ n ∧ n ≤ 4 ∧ x.length ≤ 5000 ∧ ∀ H', Same H H' → Q (optS (readT n x)) H'
theorem fault_none {n : Nat} {x : List Nat} : faultT n x = none ↔ OfN n x ∧ Plain x := by
  constructor
  · intro h
    have hb : ∀ j, j < x.length → badW n x j = false := by
      unfold faultT at h
      rw [List.find?_range_eq_none] at h
      intro j hj
      have := h j hj
      simpa using this
    have ho : OfN n x := by
      intro c hc
      obtain ⟨j, hj, rfl⟩ := List.getElem_of_mem hc
      have := hb j hj
      unfold badW at this
      rw [Bool.or_eq_false_iff] at this
      have h1 := Decidable.of_not_not (of_decide_eq_false this.1)
      rwa [List.getD_eq_getElem?_getD, List.getElem?_eq_getElem hj] at h1
    refine ⟨ho, plain_of_noadj ?_⟩
    rintro k ⟨a, b, h1, h2, e⟩
    have l2 := (List.getElem?_eq_some_iff.mp h2).1
    have := hb (k + 1) l2
    unfold badW at this
    rw [Bool.or_eq_false_iff] at this
    have h3 := this.2
    rw [List.getD_eq_getElem?_getD, h2, show k + 1 - 1 = k by omega, List.getD_eq_getElem?_getD, h1] at h3
    have hb' : isL b := letsN_isL (ho b (List.mem_of_getElem? h2))
    simp at h3
    exact h3 (by rw [e, con_con hb'])
  · rintro ⟨ho, hp⟩
    have : (faultT n x).map (fun i => V.int (i : Nat)) = none := plain_seen (n := n) ho hp
    cases hq : faultT n x with
    | none => rfl
    | some i => rw [hq] at this; cases this
def partsT (c : Nat) (t : List Nat) : List (List Nat) := (Txt.split (S t) (S [c])).map fun z => z.cps.toList
theorem parts_map (c : Nat) (t : List Nat) : Txt.split (S t) (S [c]) = (partsT c t).map S := by
  unfold partsT
  rw [List.map_map]
  conv => lhs; rw [← List.map_id (Txt.split (S t) (S [c]))]
  exact List.map_congr_left fun z _ => S_toList z
theorem parts_ne (c : Nat) (t : List Nat) : partsT c t ≠ [] := by
  have hp := split_pos (S t) (S [c])
  intro q
  unfold partsT at q
  rw [List.map_eq_nil_iff] at q
  rw [q] at hp
  simp at hp
theorem parts_inter (c : Nat) (t : List Nat) : inter c (partsT c t) = t := by
  have hj := StrLaws.join_split (S t) (S [c])
  rw [parts_map, join_inter] at hj
  exact S_inj hj
theorem parts_free (c : Nat) (t : List Nat) : ∀ z ∈ partsT c t, c ∉ z := by
  intro z hz
  unfold partsT at hz
  obtain ⟨y, hy, rfl⟩ := List.mem_map.mp hz
  exact StrLaws.split_free (S t) c y hy
theorem parts_of {c : Nat} {zs : List (List Nat)} (h0 : zs ≠ []) (h : ∀ z ∈ zs, c ∉ z) : partsT c (inter c zs) = zs := by
  have h1 := parts_map c (inter c zs)
  rw [split_inter h0 h] at h1
  exact (List.map_inj_right (fun a b e => S_inj e)).mp h1.symm
theorem inter_lenE (c : Nat) : ∀ {zs : List (List Nat)}, zs ≠ [] → (inter c zs).length + 1 = (zs.map List.length).sum + zs.length
  | [], h => absurd rfl h
  | [z], _ => by simp [inter]
  | z :: y :: r, _ => by
    have ih := inter_lenE c (zs := y :: r) (by simp)
    unfold inter
    simp only [List.length_append, List.length_cons, List.map_cons, List.sum_cons] at ih ⊢
    omega
theorem mem_sum : ∀ {zs : List (List Nat)} {z : List Nat}, z ∈ zs → z.length ≤ (zs.map List.length).sum
  | y :: r, z, h => by
    rcases List.mem_cons.mp h with rfl | h
    · simp
    · have := mem_sum h
      simp only [List.map_cons, List.sum_cons]
      omega
theorem parts_len (c : Nat) (t : List Nat) : (partsT c t).length ≤ t.length + 1 ∧ ∀ z ∈ partsT c t, z.length ≤ t.length := by
  have h := inter_lenE c (parts_ne c t)
  rw [parts_inter] at h
  have hp := List.length_pos_iff.mpr (parts_ne c t)
  exact ⟨by omega, fun z hz => by have := mem_sum hz; omega⟩
open Classical in
theorem repl_len (x y z : Str) : (Txt.replace x y z).length ≤ x.length + (x.length + 1) * z.length := by
  unfold Txt.replace
  split
  · exact Nat.le_add_right _ _
  · have h1 := StrLaws.occ_length_le x y 0 x.length (x.length + 1)
    have hy : (Builtin.Str.glued y (Builtin.Str.partsBetween x (Builtin.Str.occurrences x y 0 x.length (x.length + 1)) y.length)).length = x.length := by rw [StrLaws.glued_between_self]
    rw [size_glued, length_partsBetween, Nat.add_sub_cancel] at hy
    rw [size_glued, length_partsBetween, Nat.add_sub_cancel]
    have h2 : (Builtin.Str.occurrences x y 0 x.length (x.length + 1)).length * z.length ≤ (x.length + 1) * z.length := Nat.mul_le_mul_right _ h1
    omega
theorem tsum_cut (zs : List (List Nat)) (j : Nat) : ((zs.take j).map List.length).sum + ((zs.drop j).map List.length).sum = (zs.map List.length).sum := by
  rw [← List.sum_append, ← List.map_append, List.take_append_drop]
theorem tsum_set : ∀ (zs : List (List Nat)) (j : Nat) (y : List Nat), ((zs.set j y).map List.length).sum ≤ (zs.map List.length).sum + y.length
  | [], _, _ => by simp
  | z :: r, 0, y => by simp only [List.set_cons_zero, List.map_cons, List.sum_cons]; omega
  | z :: r, j + 1, y => by
    have := tsum_set r j y
    simp only [List.set_cons_succ, List.map_cons, List.sum_cons]
    omega
theorem wds_set (zs : List (List Nat)) (j : Nat) (y : List Nat) : (wds zs).set j (.str (S y)) = wds (zs.set j y) := by
  unfold wds
  rw [List.map_set]
theorem ixN_nat {n m : Nat} (h : m < n) : ixN n (m : Int) = some m := by
  unfold ixN
  rw [if_pos (by omega), if_pos (by omega)]
  simp
end Lw
namespace L2
open PySem PySem.Spec PyProof.Rows PySem.Calls
open Builtin Builtin.Str
theorem gives_replace1 (x y z : Str) (t u v k : Tok)
    (hf : ((occurrences x y 0 x.length 1).isEmpty || (y.length == 0 && z.length == 0)) = false →
      (u == 0 || v == 0) = false ∧ (u == v) = false ∧ (y == z) = false ∧ tooLong (x.length + (occurrences x y 0 x.length 1).length * z.length) = false) :
    Gives («str.replace» ⟨[.str x t, .str y u, .str z v, .int 1 k], []⟩) (if ((occurrences x y 0 x.length 1).isEmpty || (y.length == 0 && z.length == 0)) = true then .val (.str x t) else .str (glued z (partsBetween x (occurrences x y 0 x.length 1) y.length))) := by
  have e : «str.replace» ⟨[.str x t, .str y u, .str z v, .int 1 k], []⟩ = (if ((occurrences x y 0 x.length 1).isEmpty || (y.length == 0 && z.length == 0)) = true then (do rule "str.replace.nothing"; ret (.str x t)) else
          (do let same ← isSame (.str y u) (.str z v)
              if same = true then (do rule "str.replace.old-is-new"; ret (.str x t)) else
              if tooLong (x.length + (occurrences x y 0 x.length 1).length * z.length) = true then unsupported "str.replace:memory" else
              retStr (glued z (partsBetween x (occurrences x y 0 x.length 1) y.length)))) := by
    show (do let limit ← countLimit "str.replace" (some (.int 1 k)) (x.length + 1); _) = _
    rw [countLimit_int "str.replace" 1 k (x.length + 1) (by decide)]
    rfl
  rw [e]
  cases hc : ((occurrences x y 0 x.length 1).isEmpty || (y.length == 0 && z.length == 0))
  · obtain ⟨h0, huv, hyz, hl⟩ := hf hc
    rw [isSame_str_other y z u v h0 huv hyz, hl]
    exact .of_eq rfl
  · exact .rule (.of_eq rfl)
theorem glued1_len (x y z : Str) : (glued z (partsBetween x (occurrences x y 0 x.length 1) y.length)).length ≤ x.length + z.length := by
  have h1 := StrLaws.occ_length_le x y 0 x.length 1
  have hy : (glued y (partsBetween x (occurrences x y 0 x.length 1) y.length)).length = x.length := by rw [StrLaws.glued_between_self]
  rw [size_glued, length_partsBetween, Nat.add_sub_cancel] at hy
  rw [size_glued, length_partsBetween, Nat.add_sub_cancel]
  have h2 : (occurrences x y 0 x.length 1).length * z.length ≤ 1 * z.length := Nat.mul_le_mul_right _ h1
  omega
theorem call_replace1 {prog : Program} {w : World} {A : Around} {E : Value → Shared → Prop} {s : Shared} {x y z : Str} {t u v k : Tok} {Q : Value → Shared → Prop} (hu : u ≠ 0) (hv : v ≠ 0) (huv : u ≠ v) (hyz : (y == z) = false) (hb : x.length + z.length ≤ 16777216)
    (hq : ∀ (w' : Str) t' k, w'.length ≤ x.length + z.length → Q (.str w' t') { s with toks := k }) : wpAny (model prog w) A (call (.builtin "str.replace") [.str x t, .str y u, .str z v, .int 1 k]) Q E s := by
  have gl := glued1_len x y z
  have hl : tooLong (x.length + (occurrences x y 0 x.length 1).length * z.length) = false := by
    have h1 := StrLaws.occ_length_le x y 0 x.length 1
    have h2 : (occurrences x y 0 x.length 1).length * z.length ≤ 1 * z.length := Nat.mul_le_mul_right _ h1
    unfold tooLong sizeLine
    exact decide_eq_false (by omega)
  refine call_gives F.slot_str_replace (typeIs_str _ _ _) F.entry_str_replace (F.args_str_replace_4 _ _ _ _)
    (gives_replace1 x y z t u v k fun _ => ⟨by simp [hu, hv], by simp [huv], hyz, hl⟩) ?_
  cases hc : ((occurrences x y 0 x.length 1).isEmpty || (y.length == 0 && z.length == 0))
  · simp only [Bool.false_eq_true, if_false]
    exact ⟨by rw [sizeLine_eq]; omega, hq _ _ _ gl⟩
  · simp only [if_true]
    exact hq x t s.toks (Nat.le_add_right _ _)
section
variable {X : Cx}
theorem paT_cons {e : Expr} {es : List Expr} {te : TE} {t : TA} (ha : PET X e te) (hr : PAT X es t) (hs : starEach (e :: es) X.env = (false, eval e X.env) :: starEach es X.env := by rfl) : PAT X (e :: es) (tCons te t) := by
  intro pos pins s σ H Q I ht h
  rw [hs]
  show wpAny _ _ (spliced ((false, eval e X.env) :: backTo pos (starEach es X.env))) _ _ s
  refine Calls.spliced_cons (wpAny_with_toks (n := 1) ht (wpAny_mono (ha pins s σ H _ I ht h) (fun u s1 ⟨x, H1, I1, r1, q1⟩ ht1 => ?_) (fun _ _ q _ => q)))
  exact thn (hr pos pins s1 σ H1 _ I1 ht1 q1) fun us s2 ⟨xs, H2, I2, r2, q2⟩ => ⟨x :: xs, H2, I2, .cons r1 r2, q2⟩
def tRepl1 (y z : Str) (to : TE) : TE := fun σ H Q => to σ H fun x H1 => ∃ w, x = .str w ∧ (y == z) = false ∧ w.length + z.length ≤ 16777216 ∧ ∀ w' : Str, w'.length ≤ w.length + z.length → Q (.str w') H1
theorem peT_repl1 {o : Expr} {to : TE} {y z : Str} {j1 j2 j3 : Nat} {p1 p2 p3 apos cpos : Pos} (ho : PE X o to)
    (hbase : attributeBase o "replace" X.env (eval o X.env) = eval o X.env := by rfl) (hline : (apos.endLine == cpos.line) = true := by rfl) :
    PET X (.Call (.Attribute o "replace" apos) [.Constant (.str y) j1 p1, .Constant (.str z) j2 p2, .Constant (.int 1) j3 p3] [] cpos) (tRepl1 y z to) := by
  intro pins s σ H Q I htk h
  refine wpAny_Call_method_late hbase (by rfl) hline rfl (wpAny_with_toks (n := 1) htk (wpAny_mono (ho pins s σ H _ I h) (fun v s1 ⟨x, H1, I1, r1, w, ex, hyz, hw, q1⟩ ht1 => ?_) (fun e s1 q _ => q)))
  subst ex
  obtain ⟨t, rfl⟩ := r1
  refine ⟨"str", "str.replace", PySem.F.plainAttrs_str, PySem.F.slot_str_replace, PySem.F.type_str_replace, typeIs_str _ _ _, (fun _ e => nomatch e), ?_⟩
  refine Calls.callWith_builtin rfl (Calls.evalArgs_plain ?_)
  refine Calls.spliced_cons (Calls.Constant_str (k := j1) (pos := p1) ?_)
  refine Calls.spliced_cons (Calls.Constant_str (k := j2) (pos := p2) ?_)
  refine Calls.spliced_cons (wpAny_Constant_int (k := j3) (pos := p3) ?_)
  refine Calls.spliced_nil ?_
  refine call_replace1 (by show s1.toks ≠ 0; omega) (by show s1.toks + 1 ≠ 0; omega) (by show s1.toks ≠ s1.toks + 1; omega) hyz hw fun w' t' k hl => ?_
  exact ⟨.str _, H1, I1.tok _, ⟨_, rfl⟩, q1 w' hl⟩
theorem Inv.push {pins : List (Addr × Obj)} {σ : St} {H : Hp} {s : Shared} {o : Obj} {t' : Nat} (I : Inv X pins σ H s) : Inv X pins σ H { s with heap := s.heap.push o, toks := t' } :=
  I.un (Un.kept fun b u q => Heap.get?_push_of_some _ q) fun b u e => (I.hok b u e).stay (fun c w' _ q => Heap.get?_push_of_some _ q) (fun _ q => q) fun _ _ q => q
def tRepl4 (y : Str) (zs : List Str) (to ti : TE) : TE := fun σ H Q => to σ H fun x H1 => ∃ w, x = .str w ∧ w.length ≤ 100000 ∧ (∀ z ∈ zs, (y == z) = false ∧ z.length ≤ 10) ∧ ti σ H1 fun i H2 => ∃ k : Int, i = .int k ∧ 0 ≤ k ∧ k < zs.length ∧ ∀ w' : Str, w'.length ≤ w.length + 10 → Q (.str w') H2
theorem peT_repl4 {o ix : Expr} {to ti : TE} {y z1 z2 z3 z4 : Str} {j0 j1 j2 j3 j4 j5 : Nat} {p0 p1 p2 p3 p4 p5 lp sp apos cpos : Pos} (ho : PE X o to) (hi : PE X ix ti) (hx : PlainIx ix)
    (hbase : attributeBase o "replace" X.env (eval o X.env) = eval o X.env := by rfl) (hline : (apos.endLine == cpos.line) = true := by rfl) :
    PET X (.Call (.Attribute o "replace" apos) [.Constant (.str y) j0 p0, .Subscript (.List [.Constant (.str z1) j1 p1, .Constant (.str z2) j2 p2, .Constant (.str z3) j3 p3, .Constant (.str z4) j4 p4] lp) ix sp, .Constant (.int 1) j5 p5] [] cpos) (tRepl4 y [z1, z2, z3, z4] to ti) := by
  intro pins s σ H Q I htk h
  refine wpAny_Call_method_late hbase (by rfl) hline rfl (wpAny_with_toks (n := 1) htk (wpAny_mono (ho pins s σ H _ I h) (fun v s1 ⟨x, H1, I1, r1, w, ex, hw, hzs, q1⟩ ht1 => ?_) (fun e s1 q _ => q)))
  subst ex
  obtain ⟨t, rfl⟩ := r1
  refine ⟨"str", "str.replace", PySem.F.plainAttrs_str, PySem.F.slot_str_replace, PySem.F.type_str_replace, typeIs_str _ _ _, (fun _ e => nomatch e), ?_⟩
  refine Calls.callWith_builtin rfl (Calls.evalArgs_plain ?_)
  refine Calls.spliced_cons (Calls.Constant_str (k := j0) (pos := p0) ?_)
  refine Calls.spliced_cons (x := eval (.Subscript (.List [.Constant (.str z1) j1 p1, .Constant (.str z2) j2 p2, .Constant (.str z3) j3 p3, .Constant (.str z4) j4 p4] lp) ix sp) X.env) (Subscript_ (wpAny_List_spliced ?_))
  refine Calls.spliced_cons (Calls.Constant_str (k := j1) (pos := p1) ?_)
  refine Calls.spliced_cons (Calls.Constant_str (k := j2) (pos := p2) ?_)
  refine Calls.spliced_cons (Calls.Constant_str (k := j3) (pos := p3) ?_)
  refine Calls.spliced_cons (Calls.Constant_str (k := j4) (pos := p4) ?_)
  refine Calls.spliced_nil ⟨by simp only [List.length_cons, List.length_nil]; exact Nat.le_trans (by decide) (Nat.le_of_lt (small1000 (Nat.le_refl 1000))), ?_⟩
  have J := I1.push (o := { cls := .type "list", data := .seq [Value.str z1 (s1.toks + 1), .str z2 (s1.toks + 1 + 1), .str z3 (s1.toks + 1 + 1 + 1), .str z4 (s1.toks + 1 + 1 + 1 + 1)].toArray }) (t' := s1.toks + 1 + 1 + 1 + 1 + 1)
  have eL := Heap.get?_push_size s1.heap (o := { cls := .type "list", data := .seq [Value.str z1 (s1.toks + 1), .str z2 (s1.toks + 1 + 1), .str z3 (s1.toks + 1 + 1 + 1), .str z4 (s1.toks + 1 + 1 + 1 + 1)].toArray }) rfl
  have fp : FpOk X pins H1 s1.heap.objs.size := I1.fpOk (Nat.le_refl _) (I1.hok.fresh (Nat.le_refl _))
  have JP := J.pinned (fp := [s1.heap.objs.size]) (fun b hb => by rw [List.mem_singleton.mp hb]; exact fp) (fun b hb => by rw [List.mem_singleton.mp hb]; exact ⟨_, eL, fun v z => nomatch z⟩)
  refine wpAny_with_toks (n := s1.toks + 1) (by show s1.toks + 1 ≤ s1.toks + 1 + 1 + 1 + 1 + 1; omega) (wpAny_mono (hi _ _ σ H1 _ JP q1) (fun u s2 ⟨i, H2, I2, r2, k, ek, k0, k4, q2⟩ ht2 => ?_) (fun e s2 q _ => q))
  subst ek
  obtain ⟨ti', rfl⟩ := r2
  have eL2 := (I2.pin (s1.heap.objs.size, _) (List.mem_append_right _ (List.mem_append_right _ (mem_pinsAt (List.mem_singleton.mpr rfl) eL)))).1
  have I3 := I2.unpinned
  obtain ⟨z, tz, hz, tz1, hget⟩ : ∃ z tz, z ∈ [z1, z2, z3, z4] ∧ s1.toks < tz ∧ ([Value.str z1 (s1.toks + 1), .str z2 (s1.toks + 1 + 1), .str z3 (s1.toks + 1 + 1 + 1), .str z4 (s1.toks + 1 + 1 + 1 + 1)].toArray)[k.toNat]? = some (.str z tz) := by
    have : k = 0 ∨ k = 1 ∨ k = 2 ∨ k = 3 := by
      have : k < 4 := k4
      omega
    rcases this with rfl | rfl | rfl | rfl
    · exact ⟨z1, _, by simp, by omega, rfl⟩
    · exact ⟨z2, _, by simp, by omega, rfl⟩
    · exact ⟨z3, _, by simp, by omega, rfl⟩
    · exact ⟨z4, _, by simp, by omega, rfl⟩
  obtain ⟨hyz, hzl⟩ := hzs z hz
  refine item_listR (x := .str z tz) ⟨_, eL2, rfl, _, rfl⟩ k0 ?_ hget ?_ (hx _ _)
  · have : k < 4 := k4
    have := line63
    omega
  refine Calls.spliced_cons (wpAny_Constant_int (k := j5) (pos := p5) ?_)
  refine Calls.spliced_nil ?_
  refine call_replace1 (by show s1.toks ≠ 0; omega) (by show tz ≠ 0; omega) (by show s1.toks ≠ tz; omega) hyz (by omega) fun w' t' k hl => ?_
  exact ⟨.str _, H2, I3.tok _, ⟨_, rfl⟩, q2 w' (by omega)⟩
end
end L2
namespace L2
open PySem PySem.Spec PyProof.Rows PySem.Calls
section
variable {X : Cx}
def PTb (X : Cx) (e : Expr) (t : TT) : Prop :=
  ∀ (pins : List (Addr × Obj)) (s : Shared) (σ : St) (H : Hp) (Q : Bool → Hp → Prop), Inv X pins σ H s → t σ H Q → wpAny (model X.prog X.w) X.A (isTrue e X.env (eval e X.env)) (fun b s' => TP X pins σ Q b s' ∧ 0 < s'.toks) X.xe s
def PSsT (X : Cx) (st : List Stmt) (t : TS) : Prop :=
  ∀ (pins : List (Addr × Obj)) (s : Shared) (σ : St) (H : Hp) (D : Ends), Inv X pins σ H s → 0 < s.toks → t D σ H → wpAny (model X.prog X.w) X.A (execs st X.env) (SP X pins D) X.xe s
theorem ptb_cmp {a : Expr} {ta : TE} {op : CmpOp} {r : R2} {i : Int} {j : Nat} {p pos : Pos} (ho : OpR X (compareOp op) r) (ha : PE X a ta) (hm : behindInMarks op (.Constant (.int i) j p) = false) : PTb X (.Compare a [op] [.Constant (.int i) j p] pos) (tTest (tOp r ta (tC (.int i)))) := by
  intro pins s σ H Q I h
  refine wpAny_isTrue_Compare1 (thn (ha pins s σ H _ I h) fun v s1 ⟨x, H1, I1, r1, q1⟩ => wpAny_Constant_int (wpAny_with_toks (n := 1) (Nat.le_add_left 1 _) (wpAny_mono (ho pins _ σ H1 x (.int i) v _ _ (I1.tok _) r1 ⟨_, rfl⟩ q1) (fun c s3 ⟨z, H3, I3, r3, k, e, q3⟩ ht => ?_) (fun _ _ q _ => q)))) hm
  subst e
  cases r3
  exact wpAny_truthy_bool ⟨⟨H3, I3, q3⟩, ht⟩
theorem pssT_ret {e : Expr} {te : TE} {pos : Pos} (he : PET X e te) : PSsT X [.Return (some e) pos] (tRet te) := by
  intro pins s σ H D I ht h
  refine wpAny_execs_cons (wpAny_Return_some (thn (he pins s σ H _ I ht h) fun v s1 ⟨x, H1, I1, r1, q1⟩ => ?_))
  exact ⟨x, σ, H1, I1, r1, q1⟩
theorem pss_ifT {c : Expr} {a rest : List Stmt} {tc : TT} {t u : TS} {pos : Pos} (hc : PTb X c tc) (ha : PSs X a t) (hr : PSsT X rest u) : PSs X (.If c a [] pos :: rest) (tSeq (tIfS tc t tNext) u) := by
  intro pins s σ H D I h
  refine wpAny_execs_cons (wpAny_If (thn (hc pins s σ H _ I h) fun d s1 ⟨⟨H1, I1, q1⟩, ht⟩ => ?_))
  have fin : ∀ (b : List Stmt), wpAny (model X.prog X.w) X.A (execs b X.env) (SP X pins { D with nx := u D }) X.xe s1 → wpAny (model X.prog X.w) X.A (execs b X.env) (fun f s2 => 1 ≤ s2.toks ∧ SP X pins { D with nx := u D } f s2) X.xe s1 := fun b hb => wpAny_with_toks (n := 1) ht (wpAny_mono hb (fun f s2 q ht2 => ⟨ht2, q⟩) (fun _ _ q _ => q))
  cases d with
  | true =>
    refine thn (fin _ (ha pins s1 σ H1 { D with nx := u D } I1 q1)) fun f s2 ⟨ht2, q⟩ => ?_
    cases f with
    | next =>
      obtain ⟨σ', H', I', q⟩ := q
      exact hr pins s2 σ' H' D I' ht2 q
    | ret v => exact q
    | brk => exact q
    | cont => exact q
  | false =>
    refine thn (fin _ (pss_nil pins s1 σ H1 { D with nx := u D } I1 q1)) fun f s2 ⟨ht2, q⟩ => ?_
    cases f with
    | next =>
      obtain ⟨σ', H', I', q⟩ := q
      exact hr pins s2 σ' H' D I' ht2 q
    | ret v => exact q
    | brk => exact q
    | cont => exact q
end
section
variable {X : Cx} {K : PySem.W.Frag}
theorem call_maxL (hK : X.K = K) (hc : X.calm = true) : CallR X (.builtin "max") (fun xs H Q => ∃ (a : Addr) (ns : List Int), xs = [.ref a] ∧ SqL K H a (ns.map V.int) ∧ 0 < ns.length ∧ ∀ m : Int, Q (.int m) H) := by
  subst hK
  intro pins s σ H xs us Q I r h
  obtain ⟨a, ns, rfl, hq, hn0, q⟩ := h
  obtain ⟨u, rfl, ru⟩ := r.one
  cases ru
  obtain ⟨its, rv, pl, _⟩ := I.list hq
  have hl := pl.isList
  obtain ⟨hn, hi⟩ := ints_of rv
  obtain ⟨ps, hps⟩ := AllInts.items (vs := its.toArray) (fun v hv => by
    obtain ⟨i, hi', rfl⟩ := List.getElem_of_mem (List.mem_toArray.mp hv)
    obtain ⟨t, e⟩ := hi i _ (List.getElem?_eq_getElem hi')
    exact ⟨_, t, e⟩)
  rw [hps] at hl
  have hsz : 0 < ps.size := by
    have := congrArg Array.size hps
    simp [intItems] at this
    omega
  refine max_intList (I.ok.hd hc) hl hsz fun v h' tk hv hk => ?_
  obtain ⟨t, rfl⟩ := intItems_at hv
  exact ⟨.int _, H, I.kept (t' := tk) hk, ⟨_, rfl⟩, q _⟩
end
end L2
namespace Lw
open PySem PySem.Spec PyProof.Rows L2 Ma MaR
def headW (i : Nat) : List Nat := [97 + i, 32, 61, 32]
def rowT (n i : Nat) (r : List Nat) : Option (List Nat) := if r.take 4 = headW i then readT n (r.drop 4) else none
theorem starts_iff (h r : List Nat) : (decide (0 + (S h).length ≤ (S r).length) && Builtin.Str.subAt (S r) (S h) 0) = decide (r.take h.length = h) := by
  rw [StrLaws.subAt_eq, S_len, S_len]
  rw [Bool.eq_iff_iff, Bool.and_eq_true, decide_eq_true_iff, decide_eq_true_iff]
  constructor
  · rintro ⟨h1, h2⟩
    simpa using h2
  · intro e
    have hl := congrArg List.length e
    rw [List.length_take] at hl
    exact ⟨by omega, by simpa using e⟩
theorem not32 (n : Nat) : 32 ∉ letsN n := fun h => by
  have := letsN_isL h
  unfold isL at this
  omega
theorem row_split {i : Nat} {r w : List Nat} : partsT 32 r = [[97 + i], [61], w] ↔ r = headW i ++ w ∧ 32 ∉ w := by
  constructor
  · intro h
    have h1 := parts_inter 32 r
    have h2 := parts_free 32 r
    rw [h] at h1 h2
    exact ⟨h1.symm, h2 w (by simp)⟩
  · rintro ⟨rfl, hw⟩
    refine parts_of (c := 32) (zs := [[97 + i], [61], w]) (by simp) ?_
    intro z hz
    simp only [List.mem_cons, List.not_mem_nil, or_false] at hz
    rcases hz with rfl | rfl | rfl
    · simp; omega
    · decide
    · exact hw
theorem rowT_good {n i : Nat} {r w : List Nat} (h : partsT 32 r = [[97 + i], [61], w]) : rowT n i r = readT n w := by
  obtain ⟨rfl, hw⟩ := row_split.mp h
  unfold rowT
  rw [if_pos (show List.take 4 (headW i ++ w) = headW i from rfl)]
  rfl
theorem rowT_bad {n i : Nat} {r : List Nat} (h : ∀ w, partsT 32 r ≠ [[97 + i], [61], w]) : rowT n i r = none := by
  unfold rowT
  split
  · rename_i e
    have er : r = headW i ++ r.drop 4 := by conv => lhs; rw [← List.take_append_drop 4 r, e]
    have hm : 32 ∈ r.drop 4 := Classical.byContradiction fun c => h _ (row_split.mpr ⟨er, c⟩)
    unfold readT
    rw [if_neg (fun e => by rw [e] at hm; simp at hm), if_neg (fun e => by rw [e] at hm; simp at hm), if_neg (fun e => not32 n ((fault_none.mp e).1 32 hm))]
  · rfl
def badX (n : Nat) (zs : List (List Nat)) (i : Nat) : Bool := decide (4 ≤ i) || (rowT n i (zs.getD i [])).isNone
def firstX (zs : List (List Nat)) : Option Nat := (List.range zs.length).find? (badX (min zs.length 4) zs)
def wordsX (n : Nat) (zs : List (List Nat)) (k : Nat) : List (List Nat) := (List.range k).map fun i => (rowT n i (zs.getD i [])).getD []
theorem wordsX_succ (n : Nat) (zs : List (List Nat)) (k : Nat) : wordsX n zs (k + 1) = wordsX n zs k ++ [(rowT n k (zs.getD k [])).getD []] := by
  unfold wordsX
  rw [List.range_succ, List.map_append]
  rfl
theorem wordsX_len (n : Nat) (zs : List (List Nat)) (k : Nat) : (wordsX n zs k).length = k := by unfold wordsX; rw [List.length_map, List.length_range]
theorem firstX_len {zs : List (List Nat)} (h : firstX zs = none) : zs.length ≤ 4 := by
  unfold firstX at h
  rw [List.find?_range_eq_none] at h
  refine Classical.byContradiction fun c => ?_
  have := h 4 (by omega)
  simp [badX] at this
theorem readT_shown {n : Nat} {w : List Nat} (ho : OfN n w) (hp : Plain w) : readT n (shownW w) = some w := by
  unfold readT
  by_cases hw : w = []
  · subst hw; rfl
  · have e1 : shownW w = w := by unfold shownW; rw [if_neg hw]
    have e2 : w ≠ [46] := fun z => by
      have := ho.all 46 (by rw [z]; simp)
      unfold isL at this
      omega
    rw [e1, if_neg e2, if_neg hw, if_pos (fault_none.mpr ⟨ho, hp⟩)]
theorem good_txt {rs : List (List Nat)} {n : Nat} (h : GoodR n 8 rs) (h1 : 1 ≤ n) (h4 : n ≤ 4) : partsT 10 (txtW rs) = rowsW rs n ∧ firstX (rowsW rs n) = none ∧ wordsX n (rowsW rs n) n = rs := by
  have hl := h.rt.len
  have hrow : ∀ i, i < n → rowT n i ((rowsW rs n).getD i []) = some (rs.getD i []) := by
    intro i hi
    have e : (rowsW rs n).getD i [] = rowW i (rs.getD i []) := by
      unfold rowsW
      rw [List.getD_eq_getElem?_getD, List.getElem?_map, List.getElem?_range hi]
      rfl
    have hm : rs.getD i [] ∈ rs := by
      rw [List.getD_eq_getElem?_getD, List.getElem?_eq_getElem (by omega)]
      exact List.getElem_mem _
    rw [e]
    unfold rowT rowW
    rw [if_pos (show List.take 4 ([97 + i, 32, 61, 32] ++ shownW (rs.getD i [])) = headW i from rfl)]
    exact readT_shown (h.ofn _ hm) (h.plain _ hm)
  refine ⟨?_, ?_, ?_⟩
  · unfold txtW
    rw [hl]
    refine parts_of ?_ (rows_free h.rt n)
    intro q
    have := congrArg List.length q
    rw [rowsW_len] at this
    simp at this
    omega
  · unfold firstX
    rw [rowsW_len, Nat.min_eq_left h4]
    refine find_no fun j hj => ?_
    unfold badX
    rw [hrow j hj, decide_eq_false (by omega)]
    rfl
  · unfold wordsX
    refine List.ext_getElem? fun i => ?_
    rw [List.getElem?_map]
    by_cases hi : i < n
    · rw [List.getElem?_range hi]
      show some ((rowT n i ((rowsW rs n).getD i [])).getD []) = _
      rw [hrow i hi, List.getD_eq_getElem?_getD, List.getElem?_eq_getElem (by omega)]
      rfl
    · rw [List.getElem?_eq_none (by simpa using hi), List.getElem?_eq_none (by omega)]
      rfl
theorem mul_len (z : Str) (n : Int) : (Txt.mul z n).length ≤ z.length * n.toNat := by
  unfold Txt.mul
  split
  · exact Nat.zero_le _
  · split
    · rename_i h1 h2
      rw [Bool.or_eq_true] at h2
      rcases h2 with h2 | h2
      · have : n = 1 := by simpa using h2
        rw [this]; simp
      · have : z.length = 0 := by simpa using h2
        rw [this]; exact Nat.zero_le _
    · have : ∀ (k : Nat) (acc : Array Nat), ((List.replicate k z.cps).foldl (· ++ ·) acc).size = acc.size + z.length * k := by
        intro k
        induction k with
        | zero => intro acc; simp
        | succ k ih =>
          intro acc
          rw [List.replicate_succ, List.foldl_cons, ih, Array.size_append, Nat.mul_succ]
          show acc.size + z.length + _ = _
          omega
      show ((List.replicate n.toNat z.cps).foldl (· ++ ·) #[]).size ≤ _
      rw [this]
      simp
theorem mul_okB {z : Str} {n : Int} (hz : z.length ≤ 1000) (h0 : -1000 ≤ n) (h1 : n ≤ 1000) : MulOk z n := by
  refine ⟨?_, fun a _ => ?_, fun a _ => ?_⟩
  · rw [Bool.or_eq_false_iff]
    exact ⟨decide_eq_false (by omega), decide_eq_false (by omega)⟩
  · have hp : 0 < n := by omega
    have h2 : (1000 : Int) ≤ (2 ^ 63 - 1) / n := Int.le_ediv_of_mul_le hp (by omega)
    omega
  · have : z.length * n.toNat ≤ 1000 * 1000 := Nat.mul_le_mul hz (by omega)
    unfold Builtin.Str.tooLong sizeLine
    exact decide_eq_false (by omega)
def spInRowG : Sp := fun vs H Q _ => ∃ (n i : Nat) (r : List Nat), vs = [.int (n : Nat), .str (S [97 + i]), .str (S r)] ∧ 1 ≤ n ∧ n ≤ 4 ∧ r.length ≤ 5000 ∧ ∀ H', Same H H' → Q (optS (rowT n i r)) H'
def spRdX (C : Addr) : Sp := fun vs H Q E => ∃ t : List Nat, vs = [.str (S t)] ∧ t.length ≤ 890 ∧ (firstX (partsT 10 t) = none → ∀ (p : Addr) (H' : Hp), Same H H' → H' p = some (.tup (wds (wordsX (partsT 10 t).length (partsT 10 t) (partsT 10 t).length))) → Q (.ref p) H') ∧
  (∀ (i : Nat) (dx : Addr) (H' : Hp), firstX (partsT 10 t) = some i → Same H H' → H' dx = some (.xd [("row", .int (i : Nat))]) → E (.ref C) (some dx) H')
def spWr : Sp := fun vs H Q _ => ∃ t : List Nat, vs = [.str (S t)] ∧ t.length ≤ 890 ∧ (firstX (partsT 10 t) = none → ∀ (p q : Addr) (H' : Hp), Same H H' → H' p = some (.tup [.str (Str.ofString "read"), .ref q]) → H' q = some (.tup (wds (wordsX (partsT 10 t).length (partsT 10 t) (partsT 10 t).length))) → Q (.ref p) H') ∧
  (∀ (i : Nat) (p : Addr) (H' : Hp), firstX (partsT 10 t) = some i → Same H H' → H' p = some (.tup [.str (Str.ofString "refused"), .int (i : Nat)]) → Q (.ref p) H')
def spFits : Sp := fun vs H Q _ => ∃ t : List Nat, vs = [.str (S t)] ∧ t.length ≤ 890 ∧ ∀ (b : Bool) (H' : Hp), Same H H' → Q (.bl b) H'
def spChR : Sp := fun vs H Q _ => ∃ (fl sc : Addr) (x : List Nat), vs = [.ref fl, .str (S x)] ∧ IsFl H fl sc ∧ x.length ≤ 300 ∧ ∀ (y : List Nat) (H' : Hp), y.length ≤ 2 * x.length + 10 → IsFl H' fl sc → Kp fl H H' → Q (.str (S y)) H'
def spChT : Sp := fun vs H Q _ => ∃ (fl sc : Addr) (t : List Nat), vs = [.ref fl, .str (S t)] ∧ IsFl H fl sc ∧ t.length ≤ 250 ∧ ∀ (y : List Nat) (H' : Hp), y.length ≤ 3 * t.length + 20 → IsFl H' fl sc → Kp fl H H' → Q (.str (S y)) H'
def spLong : Sp := fun vs H Q _ => ∃ (fl sc : Addr) (t : List Nat), vs = [.ref fl, .str (S t)] ∧ IsFl H fl sc ∧ t.length ≤ 60 ∧ ∀ (y : List Nat) (H' : Hp), y.length ≤ 890 → IsFl H' fl sc → Kp fl H H' → Q (.str (S y)) H'
end Lw
namespace Lw
open PySem PySem.Spec PyProof.Rows L2 Ma MaR
theorem slice_last (w : List Nat) : ∃ y : List Nat, Txt.slice (S w) (some (-1)) none = S y ∧ y.length ≤ 1 := by
  by_cases c : w = []
  · subst c; exact ⟨[], rfl, by simp⟩
  · have hl : 0 < w.length := List.length_pos_iff.mpr c
    have e : Txt.slice (S w) (some (-1)) none = Txt.slice (S w) (some (-1 + ((S w).length : Int))) none := by
      unfold Txt.slice
      rw [StrLaws.sliceIdx_neg_lo none (i := -1) (S w).length (by decide) (by rw [S_len]; omega)]
    rw [e, S_len, slice_from w (by omega) (by omega)]
    exact ⟨_, rfl, by rw [List.length_drop]; omega⟩
end Lw
namespace Lw
open PySem PySem.Spec PyProof.Rows L2 Ma
def top (i : Nat) : Stmt := PySem.Challenge.pw_newletters_k13_texts_of_no_retelling.main.body.getD i (.Pass ⟨0, 0, 0, 0⟩)
abbrev fnX (x : Str) (st : Stmt) (kV dc pm : Value) (an : Option Addr) (cd ct : Value) : FuncData := PySem.W.fnOf x x (defArgs st) (defBody st) (defScope st) .none kV dc pm an cd ct
theorem dmk {K : PySem.W.Frag} {mg : Str → Option Value} {x : Str} {st : Stmt} {ps : List Str} {f : Addr} {oc : Value} {od an : Option Addr} {osl : Array (Option Value)} {kV doc pm cdv ct : Value} (l : K.lookup f = some ⟨oc, od, .func (fnX x st kV doc pm an cdv ct), osl⟩)
    (c : PySem.W.codeIn K cdv x = true) (k : PySem.W.keepIn K (.ref f) = true) (m : mg x = some (.ref f)) (h : ∀ (kV doc pm : Value) (an : Option Addr) (cdv ct : Value) (us : List Value), us.length = ps.length → bindArgs (fnX x st kV doc pm an cdv ct) ⟨us, []⟩ = pure (ps.zip us)) : Df K mg x st ps f (fnX x st kV doc pm an cdv ct) :=
  ⟨fun_mk l c k, (fun_mk l c k).binds h, m⟩
abbrev s_letters_of : Stmt := top 13
theorem sc_letters_of : FnScope ["n"] ["n"] (defScope s_letters_of) := ⟨rfl, rfl, rfl, by decide +kernel, rfl, by decide +kernel, by decide +kernel⟩
abbrev s_first_letters : Stmt := top 14
theorem sc_first_letters : FnScope ["n"] ["n"] (defScope s_first_letters) := ⟨rfl, rfl, rfl, by decide +kernel, rfl, by decide +kernel, by decide +kernel⟩
abbrev s_contrary : Stmt := top 15
theorem sc_contrary : FnScope ["letter"] ["letter"] (defScope s_contrary) := ⟨rfl, rfl, rfl, by decide +kernel, rfl, by decide +kernel, by decide +kernel⟩
abbrev s_first_fault : Stmt := top 17
theorem sc_first_fault : FnScope ["n", "text", "letters", "place", "sign"] ["n", "text"] (defScope s_first_fault) := ⟨rfl, rfl, rfl, by decide +kernel, rfl, by decide +kernel, by decide +kernel⟩
abbrev s_read_word : Stmt := top 20
theorem sc_read_word : FnScope ["n", "shown"] ["n", "shown"] (defScope s_read_word) := ⟨rfl, rfl, rfl, by decide +kernel, rfl, by decide +kernel, by decide +kernel⟩
abbrev s_row_head : Stmt := top 22
theorem sc_row_head : FnScope ["letter"] ["letter"] (defScope s_row_head) := ⟨rfl, rfl, rfl, by decide +kernel, rfl, by decide +kernel, by decide +kernel⟩
abbrev s_word_in_row : Stmt := top 23
theorem sc_word_in_row : FnScope ["n", "letter", "row", "head"] ["n", "letter", "row"] (defScope s_word_in_row) := ⟨rfl, rfl, rfl, by decide +kernel, rfl, by decide +kernel, by decide +kernel⟩
abbrev s_read_retelling : Stmt := top 24
theorem sc_read_retelling : FnScope ["text", "rows", "n", "words", "letter", "row", "word"] ["text"] (defScope s_read_retelling) := ⟨rfl, rfl, rfl, by decide +kernel, rfl, by decide +kernel, by decide +kernel⟩
abbrev s_law_flow : Stmt := top 26
theorem sc_law_flow : FnScope ["_law_script"] ["_law_script"] (defScope s_law_flow) := ⟨rfl, rfl, rfl, by decide +kernel, rfl, by decide +kernel, by decide +kernel⟩
abbrev s_law_pick : Stmt := top 27
theorem sc_law_pick : FnScope ["_law_flow_here", "_law_many", "_law_cell", "_law_digit"] ["_law_flow_here", "_law_many"] (defScope s_law_pick) := ⟨rfl, rfl, rfl, by decide +kernel, rfl, by decide +kernel, by decide +kernel⟩
abbrev s_law_alike : Stmt := top 28
theorem sc_law_alike : FnScope ["_law_found", "_law_due"] ["_law_found", "_law_due"] (defScope s_law_alike) := ⟨rfl, rfl, rfl, by decide +kernel, rfl, by decide +kernel, by decide +kernel⟩
abbrev s_law_letters : Stmt := top 29
theorem sc_law_letters : FnScope ["_law_n"] ["_law_n"] (defScope s_law_letters) := ⟨rfl, rfl, rfl, by decide +kernel, rfl, by decide +kernel, by decide +kernel⟩
abbrev s_law_contrary : Stmt := top 30
theorem sc_law_contrary : FnScope ["_law_letter"] ["_law_letter"] (defScope s_law_contrary) := ⟨rfl, rfl, rfl, by decide +kernel, rfl, by decide +kernel, by decide +kernel⟩
abbrev s_law_laid : Stmt := top 31
theorem sc_law_laid : FnScope ["_law_text", "_law_found", "_law_letter"] ["_law_text"] (defScope s_law_laid) := ⟨rfl, rfl, rfl, by decide +kernel, rfl, by decide +kernel, by decide +kernel⟩
abbrev s_law_word : Stmt := top 32
theorem sc_law_word : FnScope ["_law_flow_here", "_law_n", "_law_most", "_law_found", "_law_letters_here", "_law_k", "_law_some"] ["_law_flow_here", "_law_n", "_law_most"] (defScope s_law_word) := ⟨rfl, rfl, rfl, by decide +kernel, rfl, by decide +kernel, by decide +kernel⟩
abbrev s_law_signs : Stmt := top 33
theorem sc_law_signs : FnScope ["_law_printed"] [] (defScope s_law_signs) := ⟨rfl, rfl, rfl, by decide +kernel, rfl, by decide +kernel, by decide +kernel⟩
abbrev s_law_sign : Stmt := top 34
theorem sc_law_sign : FnScope ["_law_flow_here", "_law_some"] ["_law_flow_here"] (defScope s_law_sign) := ⟨rfl, rfl, rfl, by decide +kernel, rfl, by decide +kernel, by decide +kernel⟩
abbrev s_law_retelling : Stmt := top 35
theorem sc_law_retelling : FnScope ["_law_flow_here", "_law_n"] ["_law_flow_here", "_law_n"] (defScope s_law_retelling) := ⟨rfl, rfl, rfl, by decide +kernel, rfl, by decide +kernel, by decide +kernel⟩
abbrev s_law_retelling_text : Stmt := top 36
theorem sc_law_retelling_text : FnScope ["_law_retelling_here", "_law_lines", "_law_k"] ["_law_retelling_here"] (defScope s_law_retelling_text) := ⟨rfl, rfl, rfl, by decide +kernel, rfl, by decide +kernel, by decide +kernel⟩
abbrev s_law_changed_row : Stmt := top 37
theorem sc_law_changed_row : FnScope ["_law_flow_here", "_law_row", "_law_form", "_law_at"] ["_law_flow_here", "_law_row"] (defScope s_law_changed_row) := ⟨rfl, rfl, rfl, by decide +kernel, rfl, by decide +kernel, by decide +kernel⟩
abbrev s_law_changed : Stmt := top 38
theorem sc_law_changed : FnScope ["_law_flow_here", "_law_text", "_law_rows", "_law_at", "_law_other", "_law_form", "_law_kept"] ["_law_flow_here", "_law_text"] (defScope s_law_changed) := ⟨rfl, rfl, rfl, by decide +kernel, rfl, by decide +kernel, by decide +kernel⟩
abbrev s_law_writes : Stmt := top 39
theorem sc_law_writes : FnScope ["_law_text", "_law_rows", "_law_n", "_law_found", "_law_at", "_law_words", "_law_word_here"] ["_law_text"] (defScope s_law_writes) := ⟨rfl, rfl, rfl, by decide +kernel, rfl, by decide +kernel, by decide +kernel⟩
abbrev s_law_fits : Stmt := top 40
theorem sc_law_fits : FnScope ["_law_text", "_law_rows"] ["_law_text"] (defScope s_law_fits) := ⟨rfl, rfl, rfl, by decide +kernel, rfl, by decide +kernel, by decide +kernel⟩
abbrev s_law_heard : Stmt := top 41
theorem sc_law_heard : FnScope ["_law_text", "_law_found", "e", "_law_others"] ["_law_text"] (defScope s_law_heard) := ⟨rfl, rfl, rfl, by decide +kernel, rfl, by decide +kernel, by decide +kernel⟩
abbrev s_law_long : Stmt := top 42
theorem sc_law_long : FnScope ["_law_flow_here", "_law_good", "_law_many", "_law_form"] ["_law_flow_here", "_law_good"] (defScope s_law_long) := ⟨rfl, rfl, rfl, by decide +kernel, rfl, by decide +kernel, by decide +kernel⟩
abbrev s_law : Stmt := top 43
theorem sc_law : FnScope ["_law_script", "_law_flow_here", "_law_retelling_here", "_law_good", "_law_texts", "_law_k", "_law_text", "_law_j", "_law_due"] ["_law_script"] (defScope s_law) := ⟨rfl, rfl, rfl, by decide +kernel, rfl, by decide +kernel, by decide +kernel⟩
abbrev s_init_NoText : Stmt := clsDef (top 3)
theorem sc_init_NoText : FnScope ["self", "row"] ["self", "row"] (defScope s_init_NoText) := ⟨rfl, rfl, rfl, by decide +kernel, rfl, by decide +kernel, by decide +kernel⟩
structure Txt (P : Program) (w : World) (K : PySem.W.Frag) (mg : Str → Option Value) (a_CONTRARIES : Addr) (a_LETTERS : Addr) (a_MOST_LETTERS : Addr) (a_NO_LETTERS : Addr) (a_LetterError : Addr) (a_NoWord : Addr) (a_NoText : Addr) (a_NoAlphabet : Addr) (a_NoChange : Addr) (a_NoPaper : Addr) (a_TooMany : Addr) (a_NoRow : Addr) (f_NoText : Addr) (fd_NoText : FuncData) : Prop where
  m_LetterError : mg "LetterError" = some (.ref a_LetterError)
  m_NoWord : mg "NoWord" = some (.ref a_NoWord)
  m_NoText : mg "NoText" = some (.ref a_NoText)
  m_NoAlphabet : mg "NoAlphabet" = some (.ref a_NoAlphabet)
  m_NoChange : mg "NoChange" = some (.ref a_NoChange)
  m_NoPaper : mg "NoPaper" = some (.ref a_NoPaper)
  m_TooMany : mg "TooMany" = some (.ref a_TooMany)
  m_NoRow : mg "NoRow" = some (.ref a_NoRow)
  x_NoText : XCl K a_NoText f_NoText
  is_NoText : XIs K a_NoText
  u_NoText : XUn K a_NoText a_LetterError
  n_NoText : PySem.W.findIn K (.ref a_NoText) "row" = some none
  F_NoText : Fun K "__init__" "NoText.__init__" s_init_NoText f_NoText fd_NoText
  b_iNoText : Binds K fd_NoText ["self", "row"] []
  k_else : PySem.W.kitAny K (.ref a_NoText) [.ref a_NoAlphabet, .ref a_NoChange, .ref a_NoPaper, .ref a_NoRow, .ref a_NoWord, .ref a_TooMany] = some false
  k_this : PySem.W.kitOne K (.ref a_NoText) (.ref a_NoText) = some true
  k_ve : PySem.W.kitOne K (.ref a_NoText) (.type "ValueError") = some true
  b_ValueError : mg "ValueError" = none
  b_all : mg "all" = none
  b_bool : mg "bool" = none
  b_enumerate : mg "enumerate" = none
  b_int : mg "int" = none
  b_isinstance : mg "isinstance" = none
  b_len : mg "len" = none
  b_list : mg "list" = none
  b_max : mg "max" = none
  b_min : mg "min" = none
  b_range : mg "range" = none
  b_tuple : mg "tuple" = none
  b_zip : mg "zip" = none
  m_CONTRARIES : mg "CONTRARIES" = some (.ref a_CONTRARIES)
  t_CONTRARIES : ∀ h, K.In h → StrTab P w h a_CONTRARIES conTab
  m_LETTERS : mg "LETTERS" = some (.ref a_LETTERS)
  t_LETTERS : ∀ H, SqT K H a_LETTERS letV
  m_MOST_LETTERS : ∃ t, mg "MOST_LETTERS" = some (.int 4 t)
  m_NO_LETTERS : ∃ t, mg "NO_LETTERS" = some (.str (Str.ofString ".") t)
section
variable {P : Program} {w : World} {K : PySem.W.Frag} {mg : Str → Option Value} {base : Heap} {a_CONTRARIES : Addr} {a_LETTERS : Addr} {a_MOST_LETTERS : Addr} {a_NO_LETTERS : Addr} {a_LetterError : Addr} {a_NoWord : Addr} {a_NoText : Addr} {a_NoAlphabet : Addr} {a_NoChange : Addr} {a_NoPaper : Addr} {a_TooMany : Addr} {a_NoRow : Addr} {f_NoText : Addr} {fd_NoText : FuncData}
theorem ok_init_NoText (T : Txt P w K mg a_CONTRARIES a_LETTERS a_MOST_LETTERS a_NO_LETTERS a_LetterError a_NoWord a_NoText a_NoAlphabet a_NoChange a_NoPaper a_TooMany a_NoRow f_NoText fd_NoText) : FnOk P w K mg base CX0 1 f_NoText fd_NoText ["self", "row"] (spInit a_NoText "row") := by
  refine T.F_NoText.ok sc_init_NoText (fun vs H Q E h => ?_) (fun cdv A outer s H vs Q E hr h => ?_)
  · obtain ⟨a, v, rfl, _⟩ := h
    rfl
  · obtain ⟨a, v, rfl, ha, k⟩ := h
    exact ⟨_, pss_one (ps_fldXK (K := K) rfl (pv 0) (pv 1) rfl), _, rfl, _, rfl, a, a_NoText, f_NoText, rfl, ha, T.x_NoText, T.n_NoText, fun dx h n => k dx h n⟩
theorem ok_law_flow {f : Addr} {fd : FuncData} (D : Df K mg "_law_flow" s_law_flow ["_law_script"] f fd) (T : Txt P w K mg a_CONTRARIES a_LETTERS a_MOST_LETTERS a_NO_LETTERS a_LetterError a_NoWord a_NoText a_NoAlphabet a_NoChange a_NoPaper a_TooMany a_NoRow f_NoText fd_NoText) : Cl P w K mg base "_law_flow" ["_law_script"] 1 (spFlow K) := by
  refine D.cl (D.F.ok sc_law_flow (fun vs H Q E h => ?_) (fun cdv A outer s H vs Q E hr h => ?_))
  · obtain ⟨a, ns, rfl, _⟩ := h
    rfl
  · obtain ⟨a, ns, rfl, hs, hl, k⟩ := h
    refine ⟨_, (pss_one (ps_ret (pe_lst (pa_cons (pe_callTy (call_listK (K := K) rfl) (by rfl) T.b_list boot_list (pa_cons (pv 0) pa_nil)) (pa_cons pe_int (pa_cons pe_int (pa_cons pe_int (pa_cons pe_int pa_nil)))))))), ?_⟩
    refine ⟨_, rfl, a, _, rfl, .inl hs, fun l hl0 => ⟨len_1000 (by simp), fun fl hf => ?_⟩⟩
    have ne : l ≠ fl := (ne_of_none (upd_same (H := H) (a := l) (o := HO.lst (ns.map V.int))) hf)
    have hH : H fl = none := by rw [upd_ne ne.symm] at hf; exact hf
    refine k fl l _ hH ((Same.new hl0).upd' hf) ⟨ns, 0, 0, 1, 0, upd_same, ?_, hl, by decide, by decide, by decide⟩
    rw [upd_ne ne, upd_same]
theorem ok_law_pick {f : Addr} {fd : FuncData} (D : Df K mg "_law_pick" s_law_pick ["_law_flow_here", "_law_many"] f fd) (T : Txt P w K mg a_CONTRARIES a_LETTERS a_MOST_LETTERS a_NO_LETTERS a_LetterError a_NoWord a_NoText a_NoAlphabet a_NoChange a_NoPaper a_TooMany a_NoRow f_NoText fd_NoText) : Cl P w K mg base "_law_pick" ["_law_flow_here", "_law_many"] 1 spPick := by
  refine D.cl (D.F.ok sc_law_pick (fun vs H Q E h => ?_) (fun cdv A outer s H vs Q E hr h => ?_))
  · obtain ⟨fl, sc, m, rfl, _⟩ := h
    rfl
  · obtain ⟨fl, sc, m, rfl, hf, h0, hm, k⟩ := h
    obtain ⟨ns, i, a, b, c, h1, h2, hl, hi, ha, hb⟩ := id hf
    have hne : sc ≠ fl := ne_of h2 h1 (by intro z; cases ns with | nil => cases z | cons n ns => cases z)
    refine ⟨_, (pss_mid (ps_if (pw_and (pt_cmpR op_eq (pe_ix (ix_listK (K := K) rfl) (pv 0) pe_int (fun _ _ => rfl)) pe_int (nomark _)) (pw_and1 (pt_cmpR op_lt (pe_ix (ix_listK (K := K) rfl) (pv 0) pe_int (fun _ _ => rfl)) (pe_callB (call_lenK (K := K) rfl) (by rfl) T.b_len PySem.boot_len (pa_cons (pe_ix (ix_listK (K := K) rfl) (pv 0) pe_int (fun _ _ => rfl)) pa_nil)) (nomark _)))).pt (pss_cons (ps_set (i := 2) sc_law_pick.nd rfl (Or.inl rfl) (pe_ix (ix_listK (K := K) rfl) (pe_ix (ix_listK (K := K) rfl) (pv 0) pe_int (fun _ _ => rfl)) (pe_ix (ix_listK (K := K) rfl) (pv 0) pe_int (fun _ _ => rfl)) (fun _ _ => rfl)))
      (pss_cons (ps_asg (pe_op op_add (pe_ix (ix_listK (K := K) rfl) (pv 0) pe_int (fun _ _ => rfl)) pe_int) (pg_sub (pv 0) pe_int set_list))
      (pss_one (ps_if (pt_cmpR op_ge (pv 2) (pe_op op_pow pe_int pe_int) (nomark _)) (pss_one (ps_asg (pv 2) (pg_sub (pv 0) pe_int set_list))) (pss_one (ps_asg (pe_op op_mod (pe_op op_add (pe_op op_add (pe_op op_mul (pe_ix (ix_listK (K := K) rfl) (pv 0) pe_int (fun _ _ => rfl)) pe_int) (pe_op op_mod (pv 2) pe_int)) pe_int) pe_int) (pg_sub (pv 0) pe_int set_list))))))) pss_nil)
      (pss_cons (ps_if (pt_cmpR op_gt (pe_ix (ix_listK (K := K) rfl) (pv 0) pe_int (fun _ _ => rfl)) pe_int (nomark _)) (pss_cons (ps_set (i := 3) sc_law_pick.nd rfl (Or.inl rfl) (pe_op op_mod (pe_ix (ix_listK (K := K) rfl) (pv 0) pe_int (fun _ _ => rfl)) (pv 1)))
      (pss_cons (ps_asg (pe_op op_fdiv (pe_ix (ix_listK (K := K) rfl) (pv 0) pe_int (fun _ _ => rfl)) (pv 1)) (pg_sub (pv 0) pe_int set_list))
      (pss_one (ps_ret (pv 3))))) pss_nil)
      (pss_cons (ps_asg (pe_op op_add (pe_ix (ix_listK (K := K) rfl) (pv 0) pe_int (fun _ _ => rfl)) pe_int) (pg_sub (pv 0) pe_int set_list))
      (pss_cons (ps_asg (pe_op op_mod (pe_op op_add (pe_op op_add (pe_op op_mul (pe_ix (ix_listK (K := K) rfl) (pv 0) pe_int (fun _ _ => rfl)) pe_int) pe_int) (pe_ix (ix_listK (K := K) rfl) (pv 0) pe_int (fun _ _ => rfl))) pe_int) (pg_sub (pv 0) pe_int set_list))
      (pss_one (ps_ret (pe_op op_mod (pe_op op_fdiv (pe_op op_mod (pe_op op_mul (pe_op op_add (pe_op op_mod (pe_ix (ix_listK (K := K) rfl) (pv 0) pe_int (fun _ _ => rfl)) pe_int) pe_int) (pe_op op_add (pe_op op_fdiv (pe_ix (ix_listK (K := K) rfl) (pv 0) pe_int (fun _ _ => rfl)) pe_int) pe_int)) pe_int) pe_int) (pv 1)))))))), ?_⟩
    refine ⟨fun σ H1 => (∃ v, σ = [some (.ref fl), some (.int m), v, none]) ∧ IsFl H1 fl sc ∧ Kp fl H H1, ?_, ?_⟩
    · refine ⟨_, rfl, fl, _, 2, _, rfl, rfl, SqL.of h1, rfl, rfl, _, rfl, ite2 (fun e => ?_) (fun _ => iteF ⟨⟨none, rfl⟩, hf, Kp.refl _ _⟩)⟩
      refine ⟨_, rfl, fl, _, 1, _, rfl, rfl, SqL.of h1, rfl, _, rfl, fl, _, 0, _, rfl, rfl, SqL.of h1, rfl, sc, _, rfl, .inl (SqL.of h2), _, _, rfl, rfl, _, rfl, ite2 (fun e2 => ?_) (fun _ => ⟨⟨none, rfl⟩, hf, Kp.refl _ _⟩)⟩
      have hlt : i < ((ns.map V.int).length : Int) := of_decide_eq_true e2
      rw [List.length_map] at hlt
      have hil : i.toNat < ns.length := by omega
      have hat : atI (ns.map V.int) i = some (.int ns[i.toNat]) := by
        have q : (ns.map V.int)[i.toNat]? = some (.int ns[i.toNat]) := by rw [List.getElem?_map, List.getElem?_eq_getElem hil]; rfl
        have q2 := atI_nat q
        rwa [Int.toNat_of_nonneg hi] at q2
      refine ⟨_, rfl, fl, _, 0, _, rfl, rfl, SqL.of h1, rfl, _, rfl, fl, _, 1, _, rfl, rfl, SqL.of h1, rfl, sc, _, i, _, rfl, rfl, SqL.of h2, hat, ?_⟩
      refine ⟨_, rfl, fl, _, 1, _, rfl, rfl, SqL.of h1, rfl, _, _, rfl, rfl, _, rfl, fl, _, 1, 1, rfl, rfl, h1, rfl, ?_⟩
      refine ⟨_, rfl, _, _, rfl, rfl, ⟨by decide, by decide, by decide⟩, _, _, rfl, rfl, _, rfl, ite2 (fun e3 => ?_) (fun _ => ?_)⟩
      · have hc : (10 : Int) ^ (18 : Int).toNat ≤ ns[i.toNat] := of_decide_eq_true e3
        have hp : (0 : Int) ≤ 10 ^ (18 : Int).toNat := by decide
        refine ⟨_, rfl, _, rfl, fl, _, 2, 2, rfl, rfl, upd_same, rfl, ⟨_, rfl⟩, ⟨ns, i + 1, ns[i.toNat], b, c, upd_same, ?_, hl, by omega, by omega, hb⟩, ((Kp.refl fl H).self).self⟩
        rw [upd_ne hne, upd_ne hne]; exact h2
      · refine ⟨_, rfl, fl, _, 3, _, rfl, rfl, SqL.of upd_same, rfl, _, _, rfl, rfl, .inr ⟨by decide, by decide⟩, _, rfl, _, _, rfl, rfl, (by show (0 : Int) < 1000003; decide), _, _, rfl, rfl, _, _, rfl, rfl, _, _, rfl, rfl, (by show (0 : Int) < 2147483647; decide), _, rfl, fl, _, 3, 3, rfl, rfl, upd_same, rfl, ⟨_, rfl⟩, ⟨ns, i + 1, a, _, c, upd_same, ?_, hl, by omega, ha, Int.emod_nonneg _ (by decide)⟩, ((Kp.refl fl H).self).self⟩
        rw [upd_ne hne, upd_ne hne]; exact h2
    · rintro _ H1 ⟨⟨v, rfl⟩, ⟨ns, i, a, b, c, h1, h2, hl, hi, ha, hb⟩, kp⟩
      have hne : sc ≠ fl := ne_of h2 h1 (by intro z; cases ns with | nil => cases z | cons n ns => cases z)
      refine ⟨_, rfl, fl, _, 2, _, rfl, rfl, SqL.of h1, rfl, _, _, rfl, rfl, _, rfl, ite2 (fun e => ?_) (fun _ => ?_)⟩
      · refine ⟨_, rfl, fl, _, 2, _, rfl, rfl, SqL.of h1, rfl, _, rfl, _, _, rfl, rfl, h0, ?_⟩
        refine ⟨_, rfl, fl, _, 2, _, rfl, rfl, SqL.of h1, rfl, _, rfl, _, _, rfl, rfl, ⟨h0, hm⟩, _, rfl, fl, _, 2, 2, rfl, rfl, h1, rfl, ?_⟩
        refine ⟨_, rfl, k _ _ (Int.emod_nonneg _ (by omega)) (Int.emod_lt_of_pos _ h0) ⟨ns, i, a / m, b, c, upd_same, ?_, hl, hi, Int.ediv_nonneg ha (by omega), hb⟩ kp.self⟩
        rw [upd_ne hne]; exact h2
      · refine ⟨_, rfl, fl, _, 4, _, rfl, rfl, SqL.of h1, rfl, _, _, rfl, rfl, _, rfl, fl, _, 4, 4, rfl, rfl, h1, rfl, ?_⟩
        refine ⟨_, rfl, fl, _, 3, _, rfl, rfl, SqL.of upd_same, rfl, _, _, rfl, rfl, .inr ⟨by decide, by decide⟩, _, _, rfl, rfl, _, rfl, fl, _, 4, _, rfl, rfl, SqL.of upd_same, rfl, _, _, rfl, rfl, _, _, rfl, rfl, (by show (0 : Int) < 2147483647; decide), _, rfl, fl, _, 3, 3, rfl, rfl, upd_same, rfl, ?_⟩
        have hb3 : ∀ x : Int, 0 ≤ x % 2147483647 ∧ x % 2147483647 < 2147483647 := fun x => ⟨Int.emod_nonneg _ (by decide), Int.emod_lt_of_pos _ (by decide)⟩
        refine ⟨_, rfl, fl, _, 3, _, rfl, rfl, SqL.of upd_same, rfl, _, _, rfl, rfl, (by show (0 : Int) < 65521; decide), _, _, rfl, rfl, _, rfl, fl, _, 3, _, rfl, rfl, SqL.of upd_same, rfl, _, _, rfl, rfl, ⟨by decide, by decide⟩, _, _, rfl, rfl, _, _, rfl, rfl, .inl ⟨?_, ?_⟩, _, _, rfl, rfl, (by show (0 : Int) < 1000003; decide), _, _, rfl, rfl, ⟨by decide, by decide⟩, _, rfl, _, _, rfl, rfl, h0, ?_⟩
        · have := Int.emod_nonneg ((b * 48271 + 12820163 + (c + 1)) % 2147483647) (show (65521 : Int) ≠ 0 by decide); omega
        · have := Int.emod_lt_of_pos ((b * 48271 + 12820163 + (c + 1)) % 2147483647) (show (0 : Int) < 65521 by decide); omega
        · refine k _ _ (Int.emod_nonneg _ (by omega)) (Int.emod_lt_of_pos _ h0) ⟨ns, i, a, _, c + 1, upd_same, ?_, hl, hi, ha, (hb3 _).1⟩ kp.self.self
          rw [upd_ne hne, upd_ne hne]; exact h2
theorem ok_law_contrary {f : Addr} {fd : FuncData} (D : Df K mg "_law_contrary" s_law_contrary ["_law_letter"] f fd) (T : Txt P w K mg a_CONTRARIES a_LETTERS a_MOST_LETTERS a_NO_LETTERS a_LetterError a_NoWord a_NoText a_NoAlphabet a_NoChange a_NoPaper a_TooMany a_NoRow f_NoText fd_NoText) : Cl P w K mg base "_law_contrary" ["_law_letter"] 1 spCon := by
  refine D.cl (D.F.ok sc_law_contrary (fun vs H Q E h => ?_) (fun cdv A outer s H vs Q E hr h => ?_))
  · obtain ⟨c, rfl, _⟩ := h
    rfl
  · obtain ⟨c, rfl, hc, k⟩ := h
    refine ⟨_, (pss_cons (ps_if (pt_val (pe_bm0K (K := K) rfl PySem.F.plainAttrs_str PySem.F.slot_str_islower PySem.F.type_str_islower mt_islower (pv 0))) (pss_one (ps_ret (pe_bm0K (K := K) rfl PySem.F.plainAttrs_str PySem.F.slot_str_upper PySem.F.type_str_upper mt_upper (pv 0)))) pss_nil)
      (pss_one (ps_ret (pe_bm0K (K := K) rfl PySem.F.plainAttrs_str PySem.F.slot_str_lower PySem.F.type_str_lower mt_lower (pv 0))))), ?_⟩
    refine ⟨_, rfl, rfl, _, rfl, rfl, _, rfl, ?_⟩
    dsimp only
    rw [islower_S hc]
    refine ite2 (fun e => ?_) (fun e => ?_)
    · refine ⟨_, rfl, rfl, _, rfl, rfl, ?_, ?_⟩
      · rw [upper_S hc e]; exact short1 _
      · rw [upper_S hc e]; exact k H (Same.refl H)
    · have e' : isLow c = false := by simpa using e
      refine ⟨_, rfl, rfl, _, rfl, rfl, ?_, ?_⟩
      · rw [lower_S hc e']; exact short1 _
      · rw [lower_S hc e']; exact k H (Same.refl H)
theorem ok_law_letters {f : Addr} {fd : FuncData} (D : Df K mg "_law_letters" s_law_letters ["_law_n"] f fd) (T : Txt P w K mg a_CONTRARIES a_LETTERS a_MOST_LETTERS a_NO_LETTERS a_LetterError a_NoWord a_NoText a_NoAlphabet a_NoChange a_NoPaper a_TooMany a_NoRow f_NoText fd_NoText) : Cl P w K mg base "_law_letters" ["_law_n"] 1 spLetters := by
  refine D.cl (D.F.ok sc_law_letters (fun vs H Q E h => ?_) (fun cdv A outer s H vs Q E hr h => ?_))
  · obtain ⟨n, rfl, _⟩ := h
    rfl
  · obtain ⟨n, rfl, h1, h4, k⟩ := h
    refine ⟨_, (pss_one (ps_ret (pe_callTy (call_listStr rfl) (by rfl) T.b_list boot_list (pa_cons (pe_slice sl_str pe_str po_none (po_some (pe_op op_mul pe_int (pv 0)))) pa_nil)))), ?_⟩
    have e : Txt.slice (Str.ofString "aAbBcCdD") none (some (2 * n)) = S (letsN n) := by
      rw [show Str.ofString "aAbBcCdD" = S lets by decide +kernel, slice_to lets (by omega) (by show (2 * n) ≤ (8 : Int); omega)]
      rfl
    refine ⟨_, rfl, _, _, rfl, rfl, .inl ⟨by decide, by decide⟩, _, rfl, _, rfl, by decide +kernel, letsN n, by rw [e], ?_, fun l hl => k l _ hl (Same.new hl) upd_same⟩
    rw [letsN_len h1 h4]; omega
theorem ok_law_laid {f : Addr} {fd : FuncData} (D : Df K mg "_law_laid" s_law_laid ["_law_text"] f fd) (T : Txt P w K mg a_CONTRARIES a_LETTERS a_MOST_LETTERS a_NO_LETTERS a_LetterError a_NoWord a_NoText a_NoAlphabet a_NoChange a_NoPaper a_TooMany a_NoRow f_NoText fd_NoText) (c_law_contrary : Cl P w K mg base "_law_contrary" ["_law_letter"] 1 spCon) : Cl P w K mg base "_law_laid" ["_law_text"] 2 spLay := by
  obtain ⟨f_law_contrary, fd_law_contrary, G_law_contrary, m_law_contrary, k_law_contrary, b_law_contrary⟩ := c_law_contrary
  refine D.cl (D.F.ok sc_law_laid (fun vs H Q E h => ?_) (fun cdv A outer s H vs Q E hr h => ?_))
  · obtain ⟨x, rfl, _⟩ := h
    rfl
  · obtain ⟨x, rfl, hx, hlen, k⟩ := h
    refine ⟨_, (pss_cons (ps_set (i := 1) sc_law_laid.nd rfl (Or.inl rfl) (pe_lst pa_nil))
      (pss_cons (ps_for PassesOwn.never rfl (pi_str (pv 0)) (pg_name (i := 2) sc_law_laid.nd rfl (Or.inl rfl)) (pss_one (ps_if (pw_and (pt_cmpR op_gt (pe_callB (call_lenK (K := K) rfl) (by rfl) T.b_len PySem.boot_len (pa_cons (pv 1) pa_nil)) pe_int (nomark _)) (pw_and1 (pt_cmpR op_eq (pe_ix (ix_listK (K := K) rfl) (pv 1) (pe_un un_neg pe_int) (fun _ _ => rfl)) (pe_call G_law_contrary (hr.mono (by decide)) (by rfl) m_law_contrary k_law_contrary b_law_contrary .nil pass0 (pa_cons (pv 2) pa_nil)) (nomark _)))).pt (pss_one (ps_expr (pe_bm0K (K := K) rfl PySem.F.plainAttrs_list PySem.F.slot_list_pop PySem.F.type_list_pop mt_pop (pv 1)))) (pss_one (ps_expr (pe_bmK (K := K) rfl PySem.F.plainAttrs_list PySem.F.slot_list_append PySem.F.type_list_append mt_append (pv 1) (pa_cons (pv 2) pa_nil)))))))
      (pss_one (ps_ret (pe_bmK (K := K) rfl PySem.F.plainAttrs_str PySem.F.slot_str_join PySem.F.type_str_join (mt_joinK (K := K) rfl) pe_str (pa_cons (pv 1) pa_nil)))))), ?_⟩
    refine ⟨len_1000 (by simp), fun l hl => ?_⟩
    refine ⟨_, rfl, S x, rfl, for_str (w := x) (fun i σ H1 => (∃ v, σ = [some (.str (S x)), some (.ref l), v]) ∧ Same H H1 ∧ H1 l = some (.lst (lstC (act [] (x.take i)).reverse))) ⟨⟨none, rfl⟩, Same.new hl, upd_same⟩ ?_ ?_⟩
    · rintro i c σ H1 hc ⟨⟨v, rfl⟩, s1, e1⟩
      have hi : i < x.length := (List.getElem?_eq_some_iff.mp hc).1
      have hcL : isL c := hx c (List.mem_of_getElem? hc)
      have hn : act [] (x.take (i + 1)) = push (act [] (x.take i)) c := by rw [take_snoc hc, act_snoc]
      have hsz : (act [] (x.take i)).length ≤ 10000 := by
        have := act_len (x.take i) []
        rw [List.length_take] at this
        simp at this
        omega
      refine ⟨_, rfl, l, _, rfl, .inl (SqL.of e1), _, _, rfl, rfl, _, rfl, ite2 (fun e => ?_) (fun e => ?_)⟩
      · have hne : 0 < (act [] (x.take i)).length := by
          have e' := of_decide_eq_true e
          rw [lstC_len, List.length_reverse] at e'
          omega
        obtain ⟨y, r, hk⟩ : ∃ y r, act [] (x.take i) = y :: r := by
          cases hq : act [] (x.take i) with
          | nil => rw [hq] at hne; simp at hne
          | cons y r => exact ⟨y, r, rfl⟩
        rw [hk] at e1 hn hsz
        have e2 : H1 l = some (.lst (lstC r.reverse ++ [.str (S [y])])) := by rw [e1, List.reverse_cons, lstC_snoc]
        refine ⟨_, rfl, _, rfl, l, _, _, _, rfl, rfl, SqL.of e2, atI_last _ _, _, rfl, c, rfl, hcL, fun H2 s2 => ⟨rfl, _, rfl, ite2 (fun q => ?_) (fun q => ?_)⟩⟩
        · rw [VS_dec] at q
          have q' : y = con c := by simpa using q
          have hp : push (y :: r) c = r := by unfold push; dsimp only; rw [if_pos q']
          rw [hp] at hn
          refine ⟨_, rfl, .inl ⟨rfl, _, SqL.of (s2 _ _ e2)⟩, l, _, _, rfl, rfl, s2 _ _ e2, by simp; rfl, ⟨_, rfl⟩, (s1.trans s2).upd hl, ?_⟩
          rw [upd_same, hn]
          simp
        · rw [VS_dec] at q
          have q' : ¬ y = con c := by simpa using q
          have hp : push (y :: r) c = c :: y :: r := by unfold push; dsimp only; rw [if_neg q']
          rw [hp] at hn
          refine ⟨_, rfl, .inl ⟨rfl, _, SqL.of (s2 _ _ e2)⟩, _, rfl, l, _, _, rfl, rfl, s2 _ _ e2, ?_, ⟨_, rfl⟩, (s1.trans s2).upd hl, ?_⟩
          · rw [List.length_append, lstC_len, List.length_reverse]
            rw [List.length_cons] at hsz
            have h9 : r.length + 1 ≤ 100000 := by omega
            exact Nat.lt_of_le_of_lt h9 (by decide)
          · rw [upd_same, hn, List.reverse_cons, List.reverse_cons, lstC_snoc, lstC_snoc]
      · have hk : act [] (x.take i) = [] := by
          cases hq : act [] (x.take i) with
          | nil => rfl
          | cons y r =>
            exfalso
            apply e
            apply decide_eq_true
            rw [lstC_len, List.length_reverse, hq]
            simp
        rw [hk] at e1 hn
        refine iteF ⟨_, rfl, .inl ⟨rfl, _, SqL.of e1⟩, _, rfl, l, _, _, rfl, rfl, e1, ?_, ⟨_, rfl⟩, s1.upd hl, ?_⟩
        · show (0 : Nat) < sizeLine; decide
        · rw [upd_same, hn]
          rfl
    · rintro σ H1 ⟨⟨v, rfl⟩, s1, e1⟩
      rw [List.take_length] at e1
      have e2 : SqL K H1 l ((lay x).map (fun c => S [c]) |>.map V.str) := by
        rw [← lstC_eq]; exact SqL.of e1
      refine ⟨rfl, _, rfl, _, l, _, rfl, rfl, e2, join_letsB _ (Nat.le_trans (lay_len x) (by omega)), ?_⟩
      rw [join_lets]
      exact k H1 s1
theorem ok_law_word {f : Addr} {fd : FuncData} (D : Df K mg "_law_word" s_law_word ["_law_flow_here", "_law_n", "_law_most"] f fd) (T : Txt P w K mg a_CONTRARIES a_LETTERS a_MOST_LETTERS a_NO_LETTERS a_LetterError a_NoWord a_NoText a_NoAlphabet a_NoChange a_NoPaper a_TooMany a_NoRow f_NoText fd_NoText) (c_law_pick : Cl P w K mg base "_law_pick" ["_law_flow_here", "_law_many"] 1 spPick) (c_law_letters : Cl P w K mg base "_law_letters" ["_law_n"] 1 spLetters) (c_law_contrary : Cl P w K mg base "_law_contrary" ["_law_letter"] 1 spCon) : Cl P w K mg base "_law_word" ["_law_flow_here", "_law_n", "_law_most"] 2 spWord := by
  obtain ⟨f_law_pick, fd_law_pick, G_law_pick, m_law_pick, k_law_pick, b_law_pick⟩ := c_law_pick
  obtain ⟨f_law_letters, fd_law_letters, G_law_letters, m_law_letters, k_law_letters, b_law_letters⟩ := c_law_letters
  obtain ⟨f_law_contrary, fd_law_contrary, G_law_contrary, m_law_contrary, k_law_contrary, b_law_contrary⟩ := c_law_contrary
  refine D.cl (D.F.ok sc_law_word (fun vs H Q E h => ?_) (fun cdv A outer s H vs Q E hr h => ?_))
  · obtain ⟨fl, sc, n, most, rfl, _⟩ := h
    rfl
  · obtain ⟨fl, sc, n, most, rfl, hf, h1, h4, hm, hm2, k⟩ := h
    refine ⟨_, (pss_cons (ps_set (i := 3) sc_law_word.nd rfl (Or.inr rfl) pe_str)
      (pss_cons (ps_set (i := 4) sc_law_word.nd rfl (Or.inl rfl) (pe_call G_law_letters (hr.mono (by decide)) (by rfl) m_law_letters k_law_letters b_law_letters .nil pass0 (pa_cons (pv 1) pa_nil)))
      (pss_cons (ps_for PassesOwn.never rfl (pi_range1 (by rfl) T.b_range (pa_cons (pe_call G_law_pick (hr.mono (by decide)) (by rfl) m_law_pick k_law_pick b_law_pick .nil pass0 (pa_cons (pv 0) (pa_cons (pe_op op_add (pv 2) pe_int) pa_nil))) pa_nil)) (pg_name (i := 5) sc_law_word.nd rfl (Or.inl rfl)) (pss_cons (ps_setcc (i := 6) (sc0 := defScope s_law_word) (N := ["_law_flow_here", "_law_n", "_law_most", "_law_found", "_law_letters_here", "_law_k", "_law_some"]) (ix := [3]) sc_law_word.nd rfl rfl (by decide +kernel) rfl rfl rfl (pi_listK (K := K) rfl (pv 4)) (fun _ _ _ => pifs_one (pw_or (pt_cmpR op_eq (pv 1) pe_str (nomark _)) (pw_or1 (pt_cmpR op_ne (pv 0) (pe_call G_law_contrary (hr.mono (by decide)) (by rfl) m_law_contrary k_law_contrary b_law_contrary .nil pass0 (pa_cons (pe_ix ix_str (pv 1) (pe_un un_neg pe_int) (fun _ _ => rfl)) pa_nil)) (nomark _)))).pt) (fun _ _ _ => (pv 0)))
      (pss_one (ps_set (i := 3) sc_law_word.nd rfl (Or.inr rfl) (pe_op op_add_str (pv 3) (pe_ix (ix_listK (K := K) rfl) (pv 6) (pe_call G_law_pick (hr.mono (by decide)) (by rfl) m_law_pick k_law_pick b_law_pick .nil pass0 (pa_cons (pv 0) (pa_cons (pe_callB (call_lenK (K := K) rfl) (by rfl) T.b_len PySem.boot_len (pa_cons (pv 6) pa_nil)) pa_nil))) (fun _ _ => rfl)))))))
      (pss_one (ps_ret (pv 3)))))), ?_⟩
    refine ⟨_, rfl, n, rfl, h1, h4, fun l H1 hl s1 e1 => ?_⟩
    have hlf : l ≠ fl := hf.ne hl
    refine ⟨_, rfl, _, rfl, _, _, rfl, rfl, fl, sc, most + 1, rfl, hf.same s1, by omega, by omega, fun d H2 d0 d1 f2 k2 => ⟨d, rfl, by omega, by omega, ?_⟩⟩
    refine for_range (lo := 0) (n := d.toNat) (fun i σ H3 => ∃ (x : List Nat) (v5 v6 : Option V), σ = [some (.ref fl), some (.int n), some (.int most), some (.str (S x)), some (.ref l), v5, v6] ∧ OfN n x ∧ Plain x ∧ x.length = i ∧ IsFl H3 fl sc ∧ Kp fl H H3 ∧ H3 l = some (.lst (lstC (letsN n)))) ?_ ?_ ?_
    · refine ⟨[], none, none, ?_, fun c hc => (nomatch hc), trivial, rfl, f2, (s1.kp).trans k2, k2 _ _ e1 hlf⟩
      rw [← S_nil]; rfl
    · rintro i _ H3 hi ⟨x, v5, v6, rfl, ho, hp, hxl, f3, k3, e3⟩
      have hxd : (x.length : Int) < most + 1 := by omega
      refine ⟨_, rfl, l, rfl, ⟨_, SqL.of e3⟩, fun Dd hD => comp_listIf (xs := lstC (letsN n)) (fun j H4 => Same H3 H4 ∧ H4 Dd = some (.lst (lstC (((letsN n).take j).filter (okc x))))) ⟨Same.new hD, upd_same⟩ (fun j H4 _ p => SqL.of (p.1 _ _ e3)) ?_ ?_⟩
      · rintro j y H4 hy ⟨s4, e4⟩
        obtain ⟨c, hc, rfl⟩ : ∃ c, (letsN n)[j]? = some c ∧ y = .str (S [c]) := by
          unfold lstC at hy
          rw [List.getElem?_map] at hy
          cases hq : (letsN n)[j]? with
          | none => rw [hq] at hy; cases hy
          | some c => rw [hq] at hy; exact ⟨c, rfl, (Option.some.inj hy).symm⟩
        have hcL : isL c := letsN_isL (List.mem_of_getElem? hc)
        have ht : ((letsN n).take (j + 1)).filter (okc x) = ((letsN n).take j).filter (okc x) ++ (if okc x c then [c] else []) := take_succ_filter (okc x) (letsN n) j c hc
        have hsz : (((letsN n).take j).filter (okc x)).length ≤ 100 := by
          have q1 := List.length_filter_le (okc x) ((letsN n).take j)
          have q2 : ((letsN n).take j).length ≤ (letsN n).length := by rw [List.length_take]; omega
          rw [letsN_len h1 h4] at q2
          omega
        have app : okc x c = true → ∀ H5, Same H4 H5 → ∃ ys, H5 Dd = some (.lst ys) ∧ ys.length < sizeLine ∧ Same H3 (upd H5 Dd (.lst (ys ++ [.str (S [c])]))) ∧ upd H5 Dd (.lst (ys ++ [.str (S [c])])) Dd = some (.lst (lstC (((letsN n).take (j + 1)).filter (okc x)))) := fun ok H5 s5 => by
          refine ⟨_, s5 _ _ e4, ?_, (s4.trans s5).upd hD, ?_⟩
          · rw [lstC_len]; exact small1000 (by omega)
          · rw [upd_same, ht, ok]
            show some (HO.lst _) = some (HO.lst (lstC (_ ++ [c])))
            rw [lstC_snoc]
        refine ⟨_, rfl, rfl, _, rfl, ite2 (fun e => ?_) (fun e => ?_)⟩
        · rw [S_nil, VS_dec] at e
          have e' : x = [] := by simpa using e
          refine iteT ⟨_, rfl, app (by rw [e']; rfl) H4 (Same.refl _)⟩
        · rw [S_nil, VS_dec] at e
          have e' : x ≠ [] := by simpa using e
          obtain ⟨u, z, rfl⟩ : ∃ u z, x = u ++ [z] := ⟨x.dropLast, x.getLast e', (List.dropLast_concat_getLast e').symm⟩
          have hz : isL z := letsN_isL (ho z (by simp))
          refine ⟨_, rfl, _, rfl, _, rfl, _, _, z, rfl, rfl, by rw [S_len]; exact len_1000 (by simp at hxd ⊢; omega), by rw [S_at]; exact atI_last u z, z, rfl, hz, fun H5 s5 => ⟨rfl, _, rfl, ?_⟩⟩
          rw [VS_dec]
          have ok : okc (u ++ [z]) c = !decide ([c] = [con z]) := by
            unfold okc
            simp
          rw [← ok]
          refine ite2 (fun q => ⟨_, rfl, app q H5 s5⟩) (fun q => ⟨s4.trans s5, ?_⟩)
          have q' : okc (u ++ [z]) c = false := by simpa using q
          rw [s5 _ _ e4, ht, q']
          simp
      · rintro H4 ⟨s4, e4⟩
        rw [lstC_len, List.take_length] at e4
        have hpos := okc_pos (x := x) h1 h4
        have hsz : ((letsN n).filter (okc x)).length ≤ 8 := by
          have q1 := List.length_filter_le (okc x) (letsN n)
          rw [letsN_len h1 h4] at q1
          omega
        have hDf : Dd ≠ fl := f3.ne hD
        refine ⟨_, rfl, _, rfl, _, rfl, _, rfl, Dd, _, rfl, .inl (SqL.of e4), fl, sc, _, rfl, f3.same s4, ?_, ?_, fun g H5 g0 g1 f5 k5 => ?_⟩
        · rw [lstC_len]; omega
        · rw [lstC_len]; omega
        rw [lstC_len] at g1
        have hg : g.toNat < ((letsN n).filter (okc x)).length := by omega
        have hmem := List.getElem_mem hg
        have hat : atI (lstC ((letsN n).filter (okc x))) g = some (.str (S [((letsN n).filter (okc x))[g.toNat]])) := atI_of g0 (lstC_get (List.getElem?_eq_getElem hg))
        generalize ((letsN n).filter (okc x))[g.toNat] = c at hat hmem
        obtain ⟨hm1, hm2⟩ := List.mem_filter.mp hmem
        refine ⟨Dd, _, g, _, rfl, rfl, SqL.of (k5 _ _ e4 hDf), hat, _, _, rfl, rfl, ?_, ?_⟩
        · rw [S_len, S_len]; exact len_1000 (by simp; omega)
        · rw [S_app]
          refine ⟨x ++ [c], _, _, rfl, ?_, okc_plain (OfN.all ho) (letsN_isL hm1) hp hm2, ?_, f5, (k3.trans s4.kp).trans k5, k5 _ _ (s4 _ _ e3) hlf⟩
          · intro c' hc'
            rcases List.mem_append.mp hc' with q | q
            · exact ho c' q
            · rw [List.mem_singleton.mp q]; exact hm1
          · rw [List.length_append, hxl]; rfl
    · rintro _ H3 ⟨x, v5, v6, rfl, ho, hp, hxl, f3, k3, e3⟩
      exact ⟨_, rfl, k x H3 ho hp (by omega) f3 k3⟩
theorem ok_contrary {f : Addr} {fd : FuncData} (D : Df K mg "contrary" s_contrary ["letter"] f fd) (T : Txt P w K mg a_CONTRARIES a_LETTERS a_MOST_LETTERS a_NO_LETTERS a_LetterError a_NoWord a_NoText a_NoAlphabet a_NoChange a_NoPaper a_TooMany a_NoRow f_NoText fd_NoText) : Cl P w K mg base "contrary" ["letter"] 1 spCon := by
  refine D.cl (D.F.ok sc_contrary (fun vs H Q E h => ?_) (fun cdv A outer s H vs Q E hr h => ?_))
  · obtain ⟨c, rfl, _⟩ := h
    rfl
  · obtain ⟨c, rfl, hc, k⟩ := h
    refine ⟨_, (pss_one (ps_ret (pe_ix (ix_tab T.t_CONTRARIES) (pe_glob (v := .ref a_CONTRARIES) (by rfl) T.m_CONTRARIES rfl) (pv 0) (fun _ _ => rfl)))), ?_⟩
    exact ⟨_, rfl, rfl, _, rfl, .inl ⟨_, conTab_look hc, k H (Same.refl H)⟩⟩
theorem ok_first_letters {f : Addr} {fd : FuncData} (D : Df K mg "first_letters" s_first_letters ["n"] f fd) (T : Txt P w K mg a_CONTRARIES a_LETTERS a_MOST_LETTERS a_NO_LETTERS a_LetterError a_NoWord a_NoText a_NoAlphabet a_NoChange a_NoPaper a_TooMany a_NoRow f_NoText fd_NoText) : Cl P w K mg base "first_letters" ["n"] 1 spFirst := by
  refine D.cl (D.F.ok sc_first_letters (fun vs H Q E h => ?_) (fun cdv A outer s H vs Q E hr h => ?_))
  · obtain ⟨n, rfl, _⟩ := h
    rfl
  · obtain ⟨n, rfl, h1, h4, k⟩ := h
    refine ⟨_, (pss_one (ps_ret (pe_slice3 (sl3_tupK (K := K) rfl) (pe_glob (v := .ref a_LETTERS) (by rfl) T.m_LETTERS rfl) po_none (po_some (pe_op op_mul pe_int (pv 0))) (po_some pe_int)))), ?_⟩
    refine ⟨_, rfl, _, _, rfl, rfl, .inl ⟨by decide, by decide⟩, _, rfl, _, rfl, a_LETTERS, letV, 2 * n, rfl, T.t_LETTERS _, rfl, ?_, rfl, ?_, fun p hp => ?_⟩
    · show some (2 * ((n : Nat) : Int)) = _; congr 1
    · rw [letV_len]; omega
    · rw [picks_low h1 h4]
      exact k p _ hp (Same.new hp) upd_same
theorem ok_law_retelling {f : Addr} {fd : FuncData} (D : Df K mg "_law_retelling" s_law_retelling ["_law_flow_here", "_law_n"] f fd) (T : Txt P w K mg a_CONTRARIES a_LETTERS a_MOST_LETTERS a_NO_LETTERS a_LetterError a_NoWord a_NoText a_NoAlphabet a_NoChange a_NoPaper a_TooMany a_NoRow f_NoText fd_NoText) (c_law_word : Cl P w K mg base "_law_word" ["_law_flow_here", "_law_n", "_law_most"] 2 spWord) : Cl P w K mg base "_law_retelling" ["_law_flow_here", "_law_n"] 3 spRetelling := by
  obtain ⟨f_law_word, fd_law_word, G_law_word, m_law_word, k_law_word, b_law_word⟩ := c_law_word
  refine D.cl (D.F.ok sc_law_retelling (fun vs H Q E h => ?_) (fun cdv A outer s H vs Q E hr h => ?_))
  · obtain ⟨fl, sc, n, rfl, _⟩ := h
    rfl
  · obtain ⟨fl, sc, n, rfl, hf, h1, h4, k⟩ := h
    refine ⟨_, (pss_one (ps_ret (pe_callTy (call_tupleK (K := K) rfl) (by rfl) T.b_tuple boot_tuple (pa_cons (pe_compc (sc0 := defScope s_law_retelling) (N := ["_law_flow_here", "_law_n"]) (ix := [0, 1]) (by decide +kernel) rfl rfl rfl (pi_range1 (by rfl) T.b_range (pa_cons (pv 1) pa_nil)) (fun _ _ _ => pifs_nil) (fun _ _ _ => (pe_call G_law_word (hr.mono (by decide)) (by rfl) m_law_word k_law_word b_law_word .nil pass0 (pa_cons (pv 1) (pa_cons (pv 2) (pa_cons (pe_ix (ix_listK (K := K) rfl) (pe_lst (pa_cons pe_int (pa_cons pe_int (pa_cons pe_int (pa_cons pe_int pa_nil))))) (pe_op op_sub (pv 2) pe_int) (fun _ _ => rfl)) pa_nil)))))) pa_nil)))), ?_⟩
    refine ⟨_, rfl, (n : Nat), rfl, by omega, by omega, fun Dd hD => ?_⟩
    have hDf : Dd ≠ fl := hf.ne hD
    have hDs : Dd ≠ sc := hf.ne2 hD
    refine comp_range (lo := 0) (n := ((n : Nat) : Int).toNat) (fun i H1 => IsFl H1 fl sc ∧ Kp fl H H1 ∧ ∃ ws : List (List Nat), ws.length = i ∧ (∀ x ∈ ws, GoodW n 8 x) ∧ H1 Dd = some (.lst (wds ws))) ⟨hf.upd hD, (Kp.refl fl H).upd hD, [], rfl, fun x hx => (nomatch hx), upd_same⟩ ?_ ?_
    · rintro i H1 hi ⟨f1, k1, ws, hwl, hws, eD⟩
      obtain ⟨m, hm, hm0, hm8⟩ : ∃ m : Int, atI [V.int 8, V.int 8, V.int 8, V.int 5] (((n : Nat) : Int) - 1) = some (.int m) ∧ 0 ≤ m ∧ m ≤ 8 := by
        rcases n14 h1 h4 with rfl | rfl | rfl | rfl
        · exact ⟨8, rfl, by decide, by decide⟩
        · exact ⟨8, rfl, by decide, by decide⟩
        · exact ⟨8, rfl, by decide, by decide⟩
        · exact ⟨5, rfl, by decide, by decide⟩
      refine ⟨_, rfl, _, rfl, len_1000 (by simp), fun q hq => ⟨_, rfl, _, _, rfl, rfl, q, _, _, .int m, rfl, rfl, SqL.of upd_same, hm, fl, sc, (n : Nat), m, rfl, f1.upd hq, by omega, by omega, hm0, by omega, fun x H2 ho hp hxl f2 k2 => ?_⟩⟩
      have hqD : Dd ≠ q := ne_of_none eD hq
      have eD2 : H2 Dd = some (.lst (wds ws)) := k2 _ _ (by rw [upd_ne hqD]; exact eD) hDf
      refine ⟨_, eD2, ?_, f2.set hDf hDs, ?_, ws ++ [x], ?_, ?_, ?_⟩
      · rw [wds_len]; exact small1000 (by omega)
      · exact ((k1.upd (k1.free hq (f1.ne hq))).trans k2).upd hD
      · rw [List.length_append, hwl]; rfl
      · intro y hy
        rcases List.mem_append.mp hy with z | z
        · exact hws y z
        · rw [List.mem_singleton.mp z]; exact ⟨ho, hp, by omega⟩
      · rw [upd_same]
        unfold wds
        rw [List.map_append]
        rfl
    · rintro H1 ⟨f1, k1, ws, hwl, hws, eD⟩
      rw [Int.toNat_natCast] at hwl
      refine ⟨Dd, _, rfl, .inl ⟨SqL.of eD, fun q hq => k q ws _ (k1.free hq (f1.ne hq)) ⟨hwl, fun x hx => (hws x hx).all, fun x hx => (hws x hx).le⟩ (fun x hx => ⟨(hws x hx).ofn, (hws x hx).plain⟩) (f1.upd hq) (k1.upd (k1.free hq (f1.ne hq))) upd_same⟩⟩
theorem ok_letters_of {f : Addr} {fd : FuncData} (D : Df K mg "letters_of" s_letters_of ["n"] f fd) (T : Txt P w K mg a_CONTRARIES a_LETTERS a_MOST_LETTERS a_NO_LETTERS a_LetterError a_NoWord a_NoText a_NoAlphabet a_NoChange a_NoPaper a_TooMany a_NoRow f_NoText fd_NoText) : Cl P w K mg base "letters_of" ["n"] 1 (spLetT K) := by
  refine D.cl (D.F.ok sc_letters_of (fun vs H Q E h => ?_) (fun cdv A outer s H vs Q E hr h => ?_))
  · obtain ⟨n, rfl, _⟩ := h
    rfl
  · obtain ⟨n, rfl, h1, h4, k⟩ := h
    refine ⟨_, (pss_one (ps_ret (pe_slice (sl_tupB (K := K) rfl) (pe_glob (v := .ref a_LETTERS) (by rfl) T.m_LETTERS rfl) po_none (po_some (pe_op op_mul pe_int (pv 0)))))), ?_⟩
    refine ⟨_, rfl, _, _, rfl, rfl, .inl ⟨by decide, by decide⟩, _, rfl, a_LETTERS, letV, 2 * n, rfl, T.t_LETTERS _, rfl, ?_, ?_, fun _ p hp => ?_, fun e => ?_⟩
    · show some (2 * ((n : Nat) : Int)) = _; congr 1
    · rw [letV_len]; omega
    · exact k p _ (Same.new hp) (by rw [← letV_take h1 h4]; exact SqT.of upd_same)
    · refine k _ _ (Same.refl H) ?_
      rw [← letV_take h1 h4, List.take_of_length_le (by omega)]
      exact T.t_LETTERS _
theorem ok_law_signs {f : Addr} {fd : FuncData} (D : Df K mg "_law_signs" s_law_signs [] f fd) (T : Txt P w K mg a_CONTRARIES a_LETTERS a_MOST_LETTERS a_NO_LETTERS a_LetterError a_NoWord a_NoText a_NoAlphabet a_NoChange a_NoPaper a_TooMany a_NoRow f_NoText fd_NoText) : Cl P w K mg base "_law_signs" [] 1 spSigns := by
  refine D.cl (D.F.ok sc_law_signs (fun vs H Q E h => ?_) (fun cdv A outer s H vs Q E hr h => ?_))
  · obtain ⟨rfl, _⟩ := h
    rfl
  · obtain ⟨rfl, k⟩ := h
    refine ⟨_, (pss_cons (ps_set (i := 0) sc_law_signs.nd rfl (Or.inl rfl) pe_str)
      (pss_one (ps_ret (pe_op op_add_str (pv 0) pe_str)))), ?_⟩
    exact ⟨_, rfl, _, _, rfl, rfl, by decide +kernel, k H (Same.refl H)⟩
theorem ok_law_sign {f : Addr} {fd : FuncData} (D : Df K mg "_law_sign" s_law_sign ["_law_flow_here"] f fd) (T : Txt P w K mg a_CONTRARIES a_LETTERS a_MOST_LETTERS a_NO_LETTERS a_LetterError a_NoWord a_NoText a_NoAlphabet a_NoChange a_NoPaper a_TooMany a_NoRow f_NoText fd_NoText) (c_law_pick : Cl P w K mg base "_law_pick" ["_law_flow_here", "_law_many"] 1 spPick) (c_law_signs : Cl P w K mg base "_law_signs" [] 1 spSigns) : Cl P w K mg base "_law_sign" ["_law_flow_here"] 2 spSignW := by
  obtain ⟨f_law_pick, fd_law_pick, G_law_pick, m_law_pick, k_law_pick, b_law_pick⟩ := c_law_pick
  obtain ⟨f_law_signs, fd_law_signs, G_law_signs, m_law_signs, k_law_signs, b_law_signs⟩ := c_law_signs
  refine D.cl (D.F.ok sc_law_sign (fun vs H Q E h => ?_) (fun cdv A outer s H vs Q E hr h => ?_))
  · obtain ⟨fl, sc, rfl, _⟩ := h
    rfl
  · obtain ⟨fl, sc, rfl, hf, k⟩ := h
    refine ⟨_, (pss_cons (ps_set (i := 1) sc_law_sign.nd rfl (Or.inl rfl) (pe_call0 G_law_signs (hr.mono (by decide)) (by rfl) m_law_signs k_law_signs b_law_signs .nil pass0))
      (pss_cons (ps_if (pt_cmpR op_eq (pe_call G_law_pick (hr.mono (by decide)) (by rfl) m_law_pick k_law_pick b_law_pick .nil pass0 (pa_cons (pv 0) (pa_cons pe_int pa_nil))) pe_int (nomark _)) (pss_one (ps_ret (pe_ix ix_str (pv 1) (pe_call G_law_pick (hr.mono (by decide)) (by rfl) m_law_pick k_law_pick b_law_pick .nil pass0 (pa_cons (pv 0) (pa_cons (pe_callB call_len_str (by rfl) T.b_len PySem.boot_len (pa_cons (pv 1) pa_nil)) pa_nil))) (fun _ _ => rfl)))) pss_nil)
      (pss_one (ps_ret (pe_ix ix_str pe_str (pe_call G_law_pick (hr.mono (by decide)) (by rfl) m_law_pick k_law_pick b_law_pick .nil pass0 (pa_cons (pv 0) (pa_cons pe_int pa_nil))) (fun _ _ => rfl)))))), ?_⟩
    have zl : signsZ.length = 95 := by decide +kernel
    refine ⟨rfl, fun H0 s0 => ?_⟩
    refine ⟨_, rfl, fl, sc, 2, rfl, hf.same s0, by decide, by decide, fun d H1 d0 d1 f1 k1 => ⟨rfl, _, rfl, ite2 (fun e => ?_) (fun e => ?_)⟩⟩
    · refine ⟨_, rfl, _, rfl, _, rfl, _, rfl, by rw [zl]; exact len_1000 (by decide), fl, sc, _, rfl, f1, by rw [zl]; decide, by rw [zl]; decide, fun d H2 d0 d1 f2 k2 => ?_⟩
      obtain ⟨c, hc⟩ := at_exL (l := signsZ.cps.toList) d0 (by rw [Array.length_toList]; exact d1)
      exact ⟨_, _, c, rfl, rfl, by rw [zl]; exact len_1000 (by decide), hc, k c H2 f2 ((s0.kp.trans k1).trans k2)⟩
    · refine ⟨_, rfl, fl, sc, 10, rfl, f1, by decide, by decide, fun d H2 d0 d1 f2 k2 => ?_⟩
      obtain ⟨c, hc⟩ := at_exL (l := (Str.ofString "aAbBcCdDeE").cps.toList) d0 (by rw [show ((Str.ofString "aAbBcCdDeE").cps.toList.length : Nat) = 10 from by decide +kernel]; exact d1)
      exact ⟨_, _, c, rfl, rfl, by decide +kernel, hc, k c H2 f2 ((s0.kp.trans k1).trans k2)⟩
theorem ok_row_head {f : Addr} {fd : FuncData} (D : Df K mg "row_head" s_row_head ["letter"] f fd) (T : Txt P w K mg a_CONTRARIES a_LETTERS a_MOST_LETTERS a_NO_LETTERS a_LetterError a_NoWord a_NoText a_NoAlphabet a_NoChange a_NoPaper a_TooMany a_NoRow f_NoText fd_NoText) : Cl P w K mg base "row_head" ["letter"] 1 spHead := by
  refine D.cl (D.F.ok sc_row_head (fun vs H Q E h => ?_) (fun cdv A outer s H vs Q E hr h => ?_))
  · obtain ⟨c, rfl, _⟩ := h
    rfl
  · obtain ⟨c, rfl, k⟩ := h
    refine ⟨_, (pss_one (ps_ret (pe_fstr (pv 0)))), ?_⟩
    refine ⟨_, rfl, S [c], rfl, ?_, ?_⟩
    · show (1 : Nat) + (Str.ofString " = ").length ≤ 1000
      decide
    · rw [show (Str.ofString " = ") = S [32, 61, 32] from by decide +kernel, S_app]
      exact k H (Same.refl H)
theorem ok_law_retelling_text {f : Addr} {fd : FuncData} (D : Df K mg "_law_retelling_text" s_law_retelling_text ["_law_retelling_here"] f fd) (T : Txt P w K mg a_CONTRARIES a_LETTERS a_MOST_LETTERS a_NO_LETTERS a_LetterError a_NoWord a_NoText a_NoAlphabet a_NoChange a_NoPaper a_TooMany a_NoRow f_NoText fd_NoText) : Cl P w K mg base "_law_retelling_text" ["_law_retelling_here"] 1 (spShow K) := by
  refine D.cl (D.F.ok sc_law_retelling_text (fun vs H Q E h => ?_) (fun cdv A outer s H vs Q E hr h => ?_))
  · obtain ⟨a, rs, n, rfl, _⟩ := h
    rfl
  · obtain ⟨a, rs, n, rfl, hq, hr0, h1, h4, k⟩ := h
    refine ⟨_, (pss_cons (ps_set (i := 1) sc_law_retelling_text.nd rfl (Or.inl rfl) (pe_lst pa_nil))
      (pss_cons (ps_for PassesOwn.never rfl (pi_range1 (by rfl) T.b_range (pa_cons (pe_callB (call_lenK (K := K) rfl) (by rfl) T.b_len PySem.boot_len (pa_cons (pv 0) pa_nil)) pa_nil)) (pg_name (i := 2) sc_law_retelling_text.nd rfl (Or.inl rfl)) (pss_one (ps_expr (pe_bmK (K := K) rfl PySem.F.plainAttrs_list PySem.F.slot_list_append PySem.F.type_list_append mt_append (pv 1) (pa_cons (pe_op op_add_str (pe_op op_add_str (pe_ix ix_str pe_str (pv 2) (fun _ _ => rfl)) pe_str) (pe_ix (ix_listK (K := K) rfl) (pe_lst (pa_cons (pe_ix (ix_tupK (K := K) rfl) (pv 0) (pv 2) (fun _ _ => rfl)) (pa_cons pe_str pa_nil))) (pe_callTy call_int1 (by rfl) T.b_int boot_int (pa_cons (pe_cmpR op_eq (pe_ix (ix_tupK (K := K) rfl) (pv 0) (pv 2) (fun _ _ => rfl)) pe_str (nomark _)) pa_nil)) (fun _ _ => rfl))) pa_nil)))))
      (pss_one (ps_ret (pe_bmK (K := K) rfl PySem.F.plainAttrs_str PySem.F.slot_str_join PySem.F.type_str_join (mt_joinK (K := K) rfl) pe_str (pa_cons (pv 1) pa_nil)))))), ?_⟩
    have hl := hr0.len
    refine ⟨len_1000 (by simp), fun l hl0 => ?_⟩
    refine ⟨_, rfl, a, _, rfl, .inr (Lw.SqT.new hq hl0), (n : Nat), by rw [wds_len, hl], by omega, by omega, for_range (lo := 0) (n := ((n : Nat) : Int).toNat) (fun i σ H1 => ∃ v2 : Option V, σ = [some (.ref a), some (.ref l), v2] ∧ Same H H1 ∧ H1 l = some (.lst (wds (rowsW rs i)))) ⟨none, rfl, Same.new hl0, upd_same⟩ ?_ ?_⟩
    · rintro i _ H1 hi ⟨v2, rfl, s1, e1⟩
      have hi4 : i < n := by omega
      have hrl := hr0.getL i
      have sl := shown_len (rs.getD i [])
      have ei : (0 : Int) + (i : Nat) = ((i : Nat) : Int) := by omega
      rw [ei]
      have hg : atI (wds rs) ((i : Nat) : Int) = some (.str (S (rs.getD i []))) := atI_nat (wds_at (get_getDL (by omega)))
      have hx4 : atI (Str.ofString "abcd").cps.toList ((i : Nat) : Int) = some (97 + i) := by
        have : i = 0 ∨ i = 1 ∨ i = 2 ∨ i = 3 := by omega
        rcases this with rfl | rfl | rfl | rfl <;> decide +kernel
      have hq1 := L2.SqT.same s1 hq
      refine ⟨_, rfl, .inl ⟨rfl, _, SqL.of e1⟩, _, rfl, _, _, 97 + i, rfl, rfl, by decide +kernel, hx4, ?_⟩
      refine ⟨S [97 + i], _, rfl, rfl, by rw [S_len]; show 1 + (Str.ofString " = ").length ≤ sizeLine; decide +kernel, ?_⟩
      rw [show (Str.ofString " = ") = S [32, 61, 32] from by decide +kernel, S_app]
      refine ⟨_, rfl, _, rfl, a, _, _, _, rfl, rfl, hq1, hg, len_1000 (by simp), fun q hq2 => ?_⟩
      have s2 : Same H1 (upd H1 q (.lst [.str (S (rs.getD i [])), .str (Str.ofString ".")])) := Same.new hq2
      have eq2 : upd H1 q (.lst [.str (S (rs.getD i [])), .str (Str.ofString ".")]) q = some (.lst [.str (S (rs.getD i [])), .str (Str.ofString ".")]) := upd_same
      generalize upd H1 q (.lst [.str (S (rs.getD i [])), .str (Str.ofString ".")]) = H2 at s2 eq2
      refine ⟨_, rfl, _, rfl, a, _, _, _, rfl, rfl, L2.SqT.same s2 hq1, hg, rfl, .inr ⟨_, rfl, ?_⟩⟩
      refine ⟨q, _, _, .str (S (shownW (rs.getD i []))), rfl, rfl, SqL.of eq2, ?_, ?_⟩
      · rw [S_nil, VS_dec]
        unfold shownW
        by_cases z : rs.getD i [] = []
        · rw [z]; decide +kernel
        · rw [decide_eq_false z, if_neg z]; rfl
      · refine ⟨_, _, rfl, rfl, by rw [S_len, S_len]; exact len_1000 (by simp only [List.length_append, List.length_cons, List.length_nil]; omega), ?_⟩
        rw [S_app]
        refine ⟨l, _, _, rfl, rfl, s2 _ _ e1, by rw [wds_len, rowsW_len]; exact small1000 (by omega), _, rfl, (s1.trans s2).upd hl0, ?_⟩
        rw [upd_same, rowsW_succ]
        unfold wds
        rw [List.map_append]
        rfl
    · rintro _ H1 ⟨v2, rfl, s1, e1⟩
      rw [Int.toNat_natCast] at e1
      refine ⟨rfl, _, rfl, _, l, (rowsW rs n).map S, rfl, rfl, ?_, ?_, ?_⟩
      · rw [List.map_map]; exact SqL.of e1
      · have h3 := rowsW_sum hr0 n
        have h5 := Nat.mul_le_mul_right (8 + 5) h4
        rw [sum_S, List.length_map, rowsW_len]
        show _ + n * 1 ≤ _
        omega
      · rw [join10]
        have := k H1 s1
        unfold txtW at this
        rw [hl] at this
        exact this
theorem ok_first_fault {f : Addr} {fd : FuncData} (D : Df K mg "first_fault" s_first_fault ["n", "text"] f fd) (T : Txt P w K mg a_CONTRARIES a_LETTERS a_MOST_LETTERS a_NO_LETTERS a_LetterError a_NoWord a_NoText a_NoAlphabet a_NoChange a_NoPaper a_TooMany a_NoRow f_NoText fd_NoText) (c_letters_of : Cl P w K mg base "letters_of" ["n"] 1 (spLetT K)) (c_contrary : Cl P w K mg base "contrary" ["letter"] 1 spCon) : Cl P w K mg base "first_fault" ["n", "text"] 2 spFaultB := by
  obtain ⟨f_letters_of, fd_letters_of, G_letters_of, m_letters_of, k_letters_of, b_letters_of⟩ := c_letters_of
  obtain ⟨f_contrary, fd_contrary, G_contrary, m_contrary, k_contrary, b_contrary⟩ := c_contrary
  refine D.cl (D.F.ok sc_first_fault (fun vs H Q E h => ?_) (fun cdv A outer s H vs Q E hr h => ?_))
  · obtain ⟨n, x, rfl, _⟩ := h
    rfl
  · obtain ⟨n, x, rfl, h1, h4, hl, k⟩ := h
    refine ⟨_, (pss_cons (ps_set (i := 2) sc_first_fault.nd rfl (Or.inl rfl) (pe_call G_letters_of (hr.mono (by decide)) (by rfl) m_letters_of k_letters_of b_letters_of .nil pass0 (pa_cons (pv 0) pa_nil)))
      (pss_cons (ps_for PassesOwn.never rfl (pi_enum (by rfl) T.b_enumerate (pa_cons (pv 1) pa_nil)) (pg_seq (K := K) rfl rfl (pgs_cons (pg_name (i := 3) sc_first_fault.nd rfl (Or.inl rfl)) (pgs_cons (pg_name (i := 4) sc_first_fault.nd rfl (Or.inl rfl)) pgs_nil))) (pss_cons (ps_if (pt_cmpR (op_notinK (K := K) rfl) (pv 4) (pv 2) (by rfl)) (pss_one (ps_ret (pv 3))) pss_nil)
      (pss_one (ps_if (pw_and (pt_cmpR op_gt (pv 3) pe_int (nomark _)) (pw_and1 (pt_cmpR op_eq (pv 4) (pe_call G_contrary (hr.mono (by decide)) (by rfl) m_contrary k_contrary b_contrary .nil pass0 (pa_cons (pe_ix ix_str (pv 1) (pe_op op_sub (pv 3) pe_int) (fun _ _ => rfl)) pa_nil)) (nomark _)))).pt (pss_one (ps_ret (pv 3))) pss_nil))))
      (pss_one (ps_ret pe_non)))), ?_⟩
    refine ⟨_, rfl, n, rfl, h1, h4, fun p H1 s1 hq => ?_⟩
    refine ⟨_, rfl, S x, rfl, for_enum (w := x) (fun i σ H2 => ∃ v3 v4 : Option V, σ = [some (.int (n : Nat)), some (.str (S x)), some (.ref p), v3, v4] ∧ Same H1 H2 ∧ ∀ j, j < i → badW n x j = false) ⟨none, none, rfl, Same.refl _, fun j hj => absurd hj (Nat.not_lt_zero _)⟩ ?_ ?_⟩
    · rintro i c q _ H2 hc hq2 ⟨v3, v4, rfl, s2, hb⟩
      have hi : i < x.length := (List.getElem?_eq_some_iff.mp hc).1
      have hgd : x.getD i 0 = c := by rw [List.getD_eq_getElem?_getD, hc]; rfl
      have s3 : Same H1 (upd H2 q (.tup [.int (i : Nat), .str (S [c])])) := s2.upd' hq2
      refine ⟨q, _, rfl, .inr (SqT.of upd_same), rfl, _, _, rfl, _, _, rfl, rfl, ?_⟩
      generalize upd H2 q (.tup [.int (i : Nat), .str (S [c])]) = H3 at s3
      refine ⟨_, rfl, _, rfl, p, lstC (letsN n), rfl, .inr (L2.SqT.same s3 hq), rfl, lstC_flatT _, _, rfl, ?_⟩
      show if (!inV (.str (S [c])) (lstC (letsN n))) = true then _ else _
      rw [in_lstT]
      by_cases hcn : c ∈ letsN n
      · rw [decide_eq_true hcn]
        refine iteF ?_
        refine ⟨_, rfl, _, _, rfl, rfl, _, rfl, ite2 (fun z => ?_) (fun z => ?_)⟩
        · have hi0 : 0 < i := by have := of_decide_eq_true z; omega
          obtain ⟨d, hd⟩ : ∃ d, x[i - 1]? = some d := ⟨_, List.getElem?_eq_getElem (by omega)⟩
          have hgd1 : x.getD (i - 1) 0 = d := by rw [List.getD_eq_getElem?_getD, hd]; rfl
          have hdn : d ∈ letsN n := by
            have := hb (i - 1) (by omega)
            unfold badW at this
            rw [hgd1, Bool.or_eq_false_iff] at this
            have := of_decide_eq_false this.1
            exact Decidable.of_not_not this
          have hdL : isL d := letsN_isL hdn
          refine ⟨_, rfl, _, rfl, _, rfl, _, _, rfl, rfl, _, _, d, rfl, rfl, by rw [S_len]; exact len_1000 (by omega), ?_, ?_⟩
          · show atI x (((i : Nat) : Int) - 1) = some d
            rw [show (((i : Nat) : Int) - 1) = ((i - 1 : Nat) : Int) by omega]
            exact atI_nat hd
          · refine ⟨d, rfl, hdL, fun H4 s4 => ⟨rfl, _, rfl, ?_⟩⟩
            rw [VS_dec]
            by_cases he : c = con d
            · rw [decide_eq_true (by rw [he])]
              have kk := k H4 (s1.trans (s3.trans s4))
              have : faultT n x = some i := find_hit hb (by unfold badW; rw [hgd, hgd1, decide_eq_true he, decide_eq_true hi0]; simp) hi
              rw [this] at kk
              exact iteT ⟨_, rfl, kk⟩
            · rw [decide_eq_false (fun e => he (by simpa using e))]
              refine iteF ⟨_, _, rfl, s3.trans s4, fun j hj => ?_⟩
              by_cases hji : j = i
              · subst hji
                unfold badW
                rw [hgd, hgd1, decide_eq_false he, decide_eq_false (fun z => z hcn)]
                simp
              · exact hb j (by omega)
        · refine ⟨_, _, rfl, s3, fun j hj => ?_⟩
          have hi0 : i = 0 := by
            have : ¬ ((i : Nat) : Int) > 0 := fun q => z (decide_eq_true q)
            omega
          have hji : j = i := by omega
          subst hji
          unfold badW
          rw [hgd, decide_eq_false (fun z => z hcn), hi0]
          simp
      · rw [decide_eq_false hcn]
        have kk := k H3 (s1.trans s3)
        have : faultT n x = some i := find_hit hb (by unfold badW; rw [hgd, decide_eq_true hcn]; simp) hi
        rw [this] at kk
        exact iteT ⟨_, rfl, kk⟩
    · rintro _ H2 ⟨v3, v4, rfl, s2, hb⟩
      have kk := k H2 (s1.trans s2)
      have : faultT n x = none := find_no hb
      rw [this] at kk
      exact kk
theorem ok_read_word {f : Addr} {fd : FuncData} (D : Df K mg "read_word" s_read_word ["n", "shown"] f fd) (T : Txt P w K mg a_CONTRARIES a_LETTERS a_MOST_LETTERS a_NO_LETTERS a_LetterError a_NoWord a_NoText a_NoAlphabet a_NoChange a_NoPaper a_TooMany a_NoRow f_NoText fd_NoText) (c_first_fault : Cl P w K mg base "first_fault" ["n", "text"] 2 spFaultB) : Cl P w K mg base "read_word" ["n", "shown"] 3 spRdG := by
  obtain ⟨f_first_fault, fd_first_fault, G_first_fault, m_first_fault, k_first_fault, b_first_fault⟩ := c_first_fault
  refine D.cl (D.F.ok sc_read_word (fun vs H Q E h => ?_) (fun cdv A outer s H vs Q E hr h => ?_))
  · obtain ⟨n, x, rfl, _⟩ := h
    rfl
  · obtain ⟨n, x, rfl, h1, h4, hl, k⟩ := h
    refine ⟨_, (pss_cons (ps_if (pt_cmpR op_eq (pv 1) (pe_globT (z := Str.ofString ".") (by rfl) T.m_NO_LETTERS) (nomark _)) (pss_one (ps_ret pe_str)) pss_nil)
      (pss_cons (ps_if (pw_or (pt_cmpR op_eq (pv 1) pe_str (nomark _)) (pw_or1 (pt_cmpR op_notN (pe_call G_first_fault (hr.mono (by decide)) (by rfl) m_first_fault k_first_fault b_first_fault .nil pass0 (pa_cons (pv 0) (pa_cons (pv 1) pa_nil))) pe_non (nomark _)))).pt (pss_one (ps_ret pe_non)) pss_nil)
      (pss_one (ps_ret (pv 1))))), ?_⟩
    refine ⟨_, rfl, rfl, _, rfl, ?_⟩
    rw [show (Str.ofString ".") = S [46] from by decide +kernel, VS_dec]
    refine ite2 (fun z => ?_) (fun z => ?_)
    · have kk := k H (Same.refl H)
      unfold readT at kk
      rw [if_pos (of_decide_eq_true z)] at kk
      show Q (.str (Str.ofString "")) H
      rw [S_nil]
      exact kk
    · have nx : ¬ x = [46] := fun c => z (decide_eq_true c)
      refine ⟨_, rfl, rfl, _, rfl, ?_⟩
      rw [S_nil, VS_dec]
      refine ite2 (fun z2 => ?_) (fun z2 => ?_)
      · have kk := k H (Same.refl H)
        unfold readT at kk
        rw [if_neg nx, if_pos (of_decide_eq_true z2)] at kk
        exact iteT kk
      · have n0 : ¬ x = [] := fun c => z2 (decide_eq_true c)
        refine ⟨_, rfl, _, rfl, n, x, rfl, h1, h4, hl, fun H2 s2 => ?_⟩
        refine ⟨rfl, _, rfl, ?_⟩
        have kk := k H2 s2
        unfold readT at kk
        rw [if_neg nx, if_neg n0] at kk
        cases hf : faultT n x with
        | none =>
          rw [hf, if_pos rfl] at kk
          exact iteF ⟨_, rfl, kk⟩
        | some i =>
          rw [hf, if_neg (fun e => by cases e)] at kk
          exact iteT kk
theorem ok_law_alike {f : Addr} {fd : FuncData} (D : Df K mg "_law_alike" s_law_alike ["_law_found", "_law_due"] f fd) (T : Txt P w K mg a_CONTRARIES a_LETTERS a_MOST_LETTERS a_NO_LETTERS a_LetterError a_NoWord a_NoText a_NoAlphabet a_NoChange a_NoPaper a_TooMany a_NoRow f_NoText fd_NoText) : Cl P w K mg base "_law_alike" ["_law_found", "_law_due"] 1 (spLk K 0) := by
  refine D.cl (D.F.ok sc_law_alike (fun vs H Q E h => ?_) (fun cdv A outer s H vs Q E hr h => ?_))
  · obtain ⟨x, y, rfl, _⟩ := h
    rfl
  · obtain ⟨x, y, rfl, hk, k⟩ := h
    cases hk with
    | flat hfl =>
      refine ⟨_, (pss_cons (ps_if (pt_val (pe_callB (call_isiK (K := K) rfl) (by rfl) T.b_isinstance boot_isinstance (pa_cons (pv 1) (pa_cons (pe_tup (pa_cons (pe_ty (by rfl) T.b_list boot_list) (pa_cons (pe_ty (by rfl) T.b_tuple boot_tuple) pa_nil))) pa_nil)))) pss_never pss_nil)
      (pss_one (ps_ret (pe_and (pe_cmpR op_eq (pe_callB (call_isiK (K := K) rfl) (by rfl) T.b_isinstance boot_isinstance (pa_cons (pv 0) (pa_cons (pe_ty (by rfl) T.b_bool boot_bool) pa_nil))) (pe_callB (call_isiK (K := K) rfl) (by rfl) T.b_isinstance boot_isinstance (pa_cons (pv 1) (pa_cons (pe_ty (by rfl) T.b_bool boot_bool) pa_nil))) (nomark _)) (pe_one (pe_cmpR op_eq (pv 0) (pv 1) (nomark _))))))), ?_⟩
      obtain ⟨t, ty, t1, t2⟩ := flat_ty K H hfl
      refine ⟨_, rfl, len_1000 (by simp), fun p hp => ?_⟩
      have s1 : Same H (upd H p (.tup [.ty "list", .ty "tuple"])) := Same.new hp
      have e1 : upd H p (.tup [.ty "list", .ty "tuple"]) p = some (.tup [.ty "list", .ty "tuple"]) := upd_same
      generalize upd H p (.tup [.ty "list", .ty "tuple"]) = H1 at s1 e1
      obtain ⟨t', ty', t1', t2'⟩ := flat_ty K H1 hfl
      refine ⟨x, t', ty', .inr ⟨"list", "tuple", p, rfl, e1, by decide, by decide, _, rfl, ?_⟩⟩
      rw [t1', t2']
      refine iteF ?_
      refine ⟨_, rfl, x, t', ty', .inl ⟨"bool", rfl, by decide, _, rfl, x, t', ty', .inl ⟨"bool", rfl, by decide, rfl, _, rfl, ?_⟩⟩⟩
      rw [decide_eq_true rfl]
      refine iteT ⟨_, rfl, _, rfl, ?_, ?_⟩
      · cases x <;> first | rfl | exact absurd (show false = true from hfl) Bool.false_ne_true
      · rw [decide_eq_true rfl]; exact k H1 s1
theorem ok_law_alike_X {f : Addr} {fd : FuncData} (D : Df K mg "_law_alike" s_law_alike ["_law_found", "_law_due"] f fd) (T : Txt P w K mg a_CONTRARIES a_LETTERS a_MOST_LETTERS a_NO_LETTERS a_LetterError a_NoWord a_NoText a_NoAlphabet a_NoChange a_NoPaper a_TooMany a_NoRow f_NoText fd_NoText) (c_law_alike : Cl P w K mg base "_law_alike" ["_law_found", "_law_due"] 1 (spLk K 0)) : Cl P w K mg base "_law_alike" ["_law_found", "_law_due"] 2 (spLk K 1) := by
  obtain ⟨f_law_alike, fd_law_alike, G_law_alike, m_law_alike, k_law_alike, b_law_alike⟩ := c_law_alike
  refine D.cl (D.F.ok sc_law_alike (fun vs H Q E h => ?_) (fun cdv A outer s H vs Q E hr h => ?_))
  · obtain ⟨x, y, rfl, _⟩ := h
    rfl
  · obtain ⟨x, y, rfl, hk, k⟩ := h
    cases hk with
    | flat hfl =>
      refine ⟨_, (pss_cons (ps_if (pt_val (pe_callB (call_isiK (K := K) rfl) (by rfl) T.b_isinstance boot_isinstance (pa_cons (pv 1) (pa_cons (pe_tup (pa_cons (pe_ty (by rfl) T.b_list boot_list) (pa_cons (pe_ty (by rfl) T.b_tuple boot_tuple) pa_nil))) pa_nil)))) pss_never pss_nil)
      (pss_one (ps_ret (pe_and (pe_cmpR op_eq (pe_callB (call_isiK (K := K) rfl) (by rfl) T.b_isinstance boot_isinstance (pa_cons (pv 0) (pa_cons (pe_ty (by rfl) T.b_bool boot_bool) pa_nil))) (pe_callB (call_isiK (K := K) rfl) (by rfl) T.b_isinstance boot_isinstance (pa_cons (pv 1) (pa_cons (pe_ty (by rfl) T.b_bool boot_bool) pa_nil))) (nomark _)) (pe_one (pe_cmpR op_eq (pv 0) (pv 1) (nomark _))))))), ?_⟩
      obtain ⟨t, ty, t1, t2⟩ := flat_ty K H hfl
      refine ⟨_, rfl, len_1000 (by simp), fun p hp => ?_⟩
      have s1 : Same H (upd H p (.tup [.ty "list", .ty "tuple"])) := Same.new hp
      have e1 : upd H p (.tup [.ty "list", .ty "tuple"]) p = some (.tup [.ty "list", .ty "tuple"]) := upd_same
      generalize upd H p (.tup [.ty "list", .ty "tuple"]) = H1 at s1 e1
      obtain ⟨t', ty', t1', t2'⟩ := flat_ty K H1 hfl
      refine ⟨x, t', ty', .inr ⟨"list", "tuple", p, rfl, e1, by decide, by decide, _, rfl, ?_⟩⟩
      rw [t1', t2']
      refine iteF ?_
      refine ⟨_, rfl, x, t', ty', .inl ⟨"bool", rfl, by decide, _, rfl, x, t', ty', .inl ⟨"bool", rfl, by decide, rfl, _, rfl, ?_⟩⟩⟩
      rw [decide_eq_true rfl]
      refine iteT ⟨_, rfl, _, rfl, ?_, ?_⟩
      · cases x <;> first | rfl | exact absurd (show false = true from hfl) Bool.false_ne_true
      · rw [decide_eq_true rfl]; exact k H1 s1
    | @tup _ a b xs ys h1 h2 hl hm hall =>
      refine ⟨_, (pss_cons (ps_if (pt_val (pe_callB (call_isiK (K := K) rfl) (by rfl) T.b_isinstance boot_isinstance (pa_cons (pv 1) (pa_cons (pe_tup (pa_cons (pe_ty (by rfl) T.b_list boot_list) (pa_cons (pe_ty (by rfl) T.b_tuple boot_tuple) pa_nil))) pa_nil)))) (pss_cons (ps_if (PW.pt (pw_or (pt_cmpR op_ne (pe_callB (call_isiK (K := K) rfl) (by rfl) T.b_isinstance boot_isinstance (pa_cons (pv 0) (pa_cons (pe_ty (by rfl) T.b_list boot_list) pa_nil))) (pe_callB (call_isiK (K := K) rfl) (by rfl) T.b_isinstance boot_isinstance (pa_cons (pv 1) (pa_cons (pe_ty (by rfl) T.b_list boot_list) pa_nil))) (nomark _)) (pw_or1 (pt_cmpR op_ne (pe_callB (call_isiK (K := K) rfl) (by rfl) T.b_isinstance boot_isinstance (pa_cons (pv 0) (pa_cons (pe_ty (by rfl) T.b_tuple boot_tuple) pa_nil))) (pe_callB (call_isiK (K := K) rfl) (by rfl) T.b_isinstance boot_isinstance (pa_cons (pv 1) (pa_cons (pe_ty (by rfl) T.b_tuple boot_tuple) pa_nil))) (nomark _))))) (pss_one (ps_ret pe_bl)) pss_nil)
      (pss_one (ps_ret (pe_and (pe_cmpR op_eq (pe_callB (call_lenK (K := K) rfl) (by rfl) T.b_len PySem.boot_len (pa_cons (pv 0) pa_nil)) (pe_callB (call_lenK (K := K) rfl) (by rfl) T.b_len PySem.boot_len (pa_cons (pv 1) pa_nil)) (nomark _)) (pe_one (pe_callB (call_allK (K := K) rfl rfl) (by rfl) T.b_all boot_all (pa_cons (pe_compc (sc0 := defScope s_law_alike) (N := ["_law_found", "_law_due"]) (ix := [0, 1]) (by decide +kernel) rfl rfl rfl (pi_range1 (by rfl) T.b_range (pa_cons (pe_callB (call_lenK (K := K) rfl) (by rfl) T.b_len PySem.boot_len (pa_cons (pv 1) pa_nil)) pa_nil)) (fun _ _ _ => pifs_nil) (fun _ _ _ => (pe_call G_law_alike (hr.mono (by decide)) (by rfl) m_law_alike k_law_alike b_law_alike .nil pass0 (pa_cons (pe_ix (ix_tupK (K := K) rfl) (pv 1) (pv 0) (fun _ _ => rfl)) (pa_cons (pe_ix (ix_tupK (K := K) rfl) (pv 2) (pv 0) (fun _ _ => rfl)) pa_nil))))) pa_nil))))))) pss_nil)
      (pss_one (ps_ret (pe_and (pe_cmpR op_eq (pe_callB (call_isiK (K := K) rfl) (by rfl) T.b_isinstance boot_isinstance (pa_cons (pv 0) (pa_cons (pe_ty (by rfl) T.b_bool boot_bool) pa_nil))) (pe_callB (call_isiK (K := K) rfl) (by rfl) T.b_isinstance boot_isinstance (pa_cons (pv 1) (pa_cons (pe_ty (by rfl) T.b_bool boot_bool) pa_nil))) (nomark _)) (pe_one (pe_cmpR (op_eqLK (K := K) rfl hr.units0) (pv 0) (pv 1) (nomark _))))))), ?_⟩
      refine ⟨_, rfl, len_1000 (by simp), fun p hp => ?_⟩
      have s1 : Same H (upd H p (.tup [.ty "list", .ty "tuple"])) := Same.new hp
      have e1 : upd H p (.tup [.ty "list", .ty "tuple"]) p = some (.tup [.ty "list", .ty "tuple"]) := upd_same
      have ha1 := L2.SqT.same s1 h1
      have hb1 := L2.SqT.same s1 h2
      generalize upd H p (.tup [.ty "list", .ty "tuple"]) = H1 at s1 e1 ha1 hb1
      refine ⟨.ref b, "tuple", .tup hb1, .inr ⟨"list", "tuple", p, rfl, e1, by decide, by decide, _, rfl, ite2 (fun _ => ?_) (fun e => absurd (by decide) e)⟩⟩
      refine ⟨_, rfl, .ref a, "tuple", .tup ha1, .inl ⟨"list", rfl, by decide, _, rfl, .ref b, "tuple", .tup hb1, .inl ⟨"list", rfl, by decide, rfl, _, rfl, ite2 (fun e => absurd e (by decide)) (fun _ => ?_)⟩⟩⟩
      refine ⟨_, rfl, .ref a, "tuple", .tup ha1, .inl ⟨"tuple", rfl, by decide, _, rfl, .ref b, "tuple", .tup hb1, .inl ⟨"tuple", rfl, by decide, rfl, _, rfl, ite2 (fun e => absurd e (by decide)) (fun _ => ?_)⟩⟩⟩
      refine ⟨_, rfl, a, _, rfl, .inr ha1, _, rfl, b, _, rfl, .inr hb1, rfl, _, rfl, ?_⟩
      rw [hl, decide_eq_true rfl]
      refine iteT ?_
      refine ⟨_, rfl, b, _, rfl, .inr hb1, (ys.length : Nat), rfl, by omega, by omega, fun Dd hD => ?_⟩
      refine comp_range (lo := 0) (n := ((ys.length : Nat) : Int).toNat) (fun i H2 => Same H1 H2 ∧ H2 Dd = some (.lst ((List.replicate i true).map V.bl))) ⟨Same.new hD, upd_same⟩ ?_ ?_
      · rintro i H2 hi ⟨s2, e2⟩
        have hi' : i < ys.length := by omega
        obtain ⟨x, hx⟩ : ∃ x, xs[i]? = some x := ⟨_, List.getElem?_eq_getElem (by omega)⟩
        obtain ⟨y, hy⟩ : ∃ y, ys[i]? = some y := ⟨_, List.getElem?_eq_getElem hi'⟩
        refine ⟨_, rfl, _, rfl, a, xs, _, x, rfl, rfl, L2.SqT.same s2 ha1, atI_of (by omega) (by rw [show ((0 : Int) + (i : Nat)).toNat = i by omega]; exact hx), _, rfl, _, rfl, b, ys, _, y, rfl, rfl, L2.SqT.same s2 hb1, atI_of (by omega) (by rw [show ((0 : Int) + (i : Nat)).toNat = i by omega]; exact hy), x, y, rfl, (hall i x y hx hy).same (s1.trans s2), fun H3 s3 => ⟨_, s3 _ _ e2, ?_, (s2.trans s3).upd hD, ?_⟩⟩
        · rw [List.length_map, List.length_replicate]; exact small1000 (by omega)
        · rw [upd_same, List.replicate_succ', List.map_append]; rfl
      · rintro H2 ⟨s2, e2⟩
        refine ⟨Dd, _, rfl, SqL.of e2, ?_⟩
        rw [show (List.replicate ((ys.length : Nat) : Int).toNat true).all id = true by rw [List.all_eq_true]; intro b hb; exact (List.mem_replicate.mp hb).2]
        exact k H2 (s1.trans s2)
theorem ok_law_alike_Y {f : Addr} {fd : FuncData} (D : Df K mg "_law_alike" s_law_alike ["_law_found", "_law_due"] f fd) (T : Txt P w K mg a_CONTRARIES a_LETTERS a_MOST_LETTERS a_NO_LETTERS a_LetterError a_NoWord a_NoText a_NoAlphabet a_NoChange a_NoPaper a_TooMany a_NoRow f_NoText fd_NoText) (c_law_alike : Cl P w K mg base "_law_alike" ["_law_found", "_law_due"] 2 (spLk K 1)) : Cl P w K mg base "_law_alike" ["_law_found", "_law_due"] 3 (spLk K 2) := by
  obtain ⟨f_law_alike, fd_law_alike, G_law_alike, m_law_alike, k_law_alike, b_law_alike⟩ := c_law_alike
  refine D.cl (D.F.ok sc_law_alike (fun vs H Q E h => ?_) (fun cdv A outer s H vs Q E hr h => ?_))
  · obtain ⟨x, y, rfl, _⟩ := h
    rfl
  · obtain ⟨x, y, rfl, hk, k⟩ := h
    cases hk with
    | flat hfl =>
      refine ⟨_, (pss_cons (ps_if (pt_val (pe_callB (call_isiK (K := K) rfl) (by rfl) T.b_isinstance boot_isinstance (pa_cons (pv 1) (pa_cons (pe_tup (pa_cons (pe_ty (by rfl) T.b_list boot_list) (pa_cons (pe_ty (by rfl) T.b_tuple boot_tuple) pa_nil))) pa_nil)))) pss_never pss_nil)
      (pss_one (ps_ret (pe_and (pe_cmpR op_eq (pe_callB (call_isiK (K := K) rfl) (by rfl) T.b_isinstance boot_isinstance (pa_cons (pv 0) (pa_cons (pe_ty (by rfl) T.b_bool boot_bool) pa_nil))) (pe_callB (call_isiK (K := K) rfl) (by rfl) T.b_isinstance boot_isinstance (pa_cons (pv 1) (pa_cons (pe_ty (by rfl) T.b_bool boot_bool) pa_nil))) (nomark _)) (pe_one (pe_cmpR op_eq (pv 0) (pv 1) (nomark _))))))), ?_⟩
      obtain ⟨t, ty, t1, t2⟩ := flat_ty K H hfl
      refine ⟨_, rfl, len_1000 (by simp), fun p hp => ?_⟩
      have s1 : Same H (upd H p (.tup [.ty "list", .ty "tuple"])) := Same.new hp
      have e1 : upd H p (.tup [.ty "list", .ty "tuple"]) p = some (.tup [.ty "list", .ty "tuple"]) := upd_same
      generalize upd H p (.tup [.ty "list", .ty "tuple"]) = H1 at s1 e1
      obtain ⟨t', ty', t1', t2'⟩ := flat_ty K H1 hfl
      refine ⟨x, t', ty', .inr ⟨"list", "tuple", p, rfl, e1, by decide, by decide, _, rfl, ?_⟩⟩
      rw [t1', t2']
      refine iteF ?_
      refine ⟨_, rfl, x, t', ty', .inl ⟨"bool", rfl, by decide, _, rfl, x, t', ty', .inl ⟨"bool", rfl, by decide, rfl, _, rfl, ?_⟩⟩⟩
      rw [decide_eq_true rfl]
      refine iteT ⟨_, rfl, _, rfl, ?_, ?_⟩
      · cases x <;> first | rfl | exact absurd (show false = true from hfl) Bool.false_ne_true
      · rw [decide_eq_true rfl]; exact k H1 s1
    | @tup _ a b xs ys h1 h2 hl hm hall =>
      refine ⟨_, (pss_cons (ps_if (pt_val (pe_callB (call_isiK (K := K) rfl) (by rfl) T.b_isinstance boot_isinstance (pa_cons (pv 1) (pa_cons (pe_tup (pa_cons (pe_ty (by rfl) T.b_list boot_list) (pa_cons (pe_ty (by rfl) T.b_tuple boot_tuple) pa_nil))) pa_nil)))) (pss_cons (ps_if (PW.pt (pw_or (pt_cmpR op_ne (pe_callB (call_isiK (K := K) rfl) (by rfl) T.b_isinstance boot_isinstance (pa_cons (pv 0) (pa_cons (pe_ty (by rfl) T.b_list boot_list) pa_nil))) (pe_callB (call_isiK (K := K) rfl) (by rfl) T.b_isinstance boot_isinstance (pa_cons (pv 1) (pa_cons (pe_ty (by rfl) T.b_list boot_list) pa_nil))) (nomark _)) (pw_or1 (pt_cmpR op_ne (pe_callB (call_isiK (K := K) rfl) (by rfl) T.b_isinstance boot_isinstance (pa_cons (pv 0) (pa_cons (pe_ty (by rfl) T.b_tuple boot_tuple) pa_nil))) (pe_callB (call_isiK (K := K) rfl) (by rfl) T.b_isinstance boot_isinstance (pa_cons (pv 1) (pa_cons (pe_ty (by rfl) T.b_tuple boot_tuple) pa_nil))) (nomark _))))) (pss_one (ps_ret pe_bl)) pss_nil)
      (pss_one (ps_ret (pe_and (pe_cmpR op_eq (pe_callB (call_lenK (K := K) rfl) (by rfl) T.b_len PySem.boot_len (pa_cons (pv 0) pa_nil)) (pe_callB (call_lenK (K := K) rfl) (by rfl) T.b_len PySem.boot_len (pa_cons (pv 1) pa_nil)) (nomark _)) (pe_one (pe_callB (call_allK (K := K) rfl rfl) (by rfl) T.b_all boot_all (pa_cons (pe_compc (sc0 := defScope s_law_alike) (N := ["_law_found", "_law_due"]) (ix := [0, 1]) (by decide +kernel) rfl rfl rfl (pi_range1 (by rfl) T.b_range (pa_cons (pe_callB (call_lenK (K := K) rfl) (by rfl) T.b_len PySem.boot_len (pa_cons (pv 1) pa_nil)) pa_nil)) (fun _ _ _ => pifs_nil) (fun _ _ _ => (pe_call G_law_alike (hr.mono (by decide)) (by rfl) m_law_alike k_law_alike b_law_alike .nil pass0 (pa_cons (pe_ix (ix_tupK (K := K) rfl) (pv 1) (pv 0) (fun _ _ => rfl)) (pa_cons (pe_ix (ix_tupK (K := K) rfl) (pv 2) (pv 0) (fun _ _ => rfl)) pa_nil))))) pa_nil))))))) pss_nil)
      (pss_one (ps_ret (pe_and (pe_cmpR op_eq (pe_callB (call_isiK (K := K) rfl) (by rfl) T.b_isinstance boot_isinstance (pa_cons (pv 0) (pa_cons (pe_ty (by rfl) T.b_bool boot_bool) pa_nil))) (pe_callB (call_isiK (K := K) rfl) (by rfl) T.b_isinstance boot_isinstance (pa_cons (pv 1) (pa_cons (pe_ty (by rfl) T.b_bool boot_bool) pa_nil))) (nomark _)) (pe_one (pe_cmpR (op_eqLK (K := K) rfl hr.units0) (pv 0) (pv 1) (nomark _))))))), ?_⟩
      refine ⟨_, rfl, len_1000 (by simp), fun p hp => ?_⟩
      have s1 : Same H (upd H p (.tup [.ty "list", .ty "tuple"])) := Same.new hp
      have e1 : upd H p (.tup [.ty "list", .ty "tuple"]) p = some (.tup [.ty "list", .ty "tuple"]) := upd_same
      have ha1 := L2.SqT.same s1 h1
      have hb1 := L2.SqT.same s1 h2
      generalize upd H p (.tup [.ty "list", .ty "tuple"]) = H1 at s1 e1 ha1 hb1
      refine ⟨.ref b, "tuple", .tup hb1, .inr ⟨"list", "tuple", p, rfl, e1, by decide, by decide, _, rfl, ite2 (fun _ => ?_) (fun e => absurd (by decide) e)⟩⟩
      refine ⟨_, rfl, .ref a, "tuple", .tup ha1, .inl ⟨"list", rfl, by decide, _, rfl, .ref b, "tuple", .tup hb1, .inl ⟨"list", rfl, by decide, rfl, _, rfl, ite2 (fun e => absurd e (by decide)) (fun _ => ?_)⟩⟩⟩
      refine ⟨_, rfl, .ref a, "tuple", .tup ha1, .inl ⟨"tuple", rfl, by decide, _, rfl, .ref b, "tuple", .tup hb1, .inl ⟨"tuple", rfl, by decide, rfl, _, rfl, ite2 (fun e => absurd e (by decide)) (fun _ => ?_)⟩⟩⟩
      refine ⟨_, rfl, a, _, rfl, .inr ha1, _, rfl, b, _, rfl, .inr hb1, rfl, _, rfl, ?_⟩
      rw [hl, decide_eq_true rfl]
      refine iteT ?_
      refine ⟨_, rfl, b, _, rfl, .inr hb1, (ys.length : Nat), rfl, by omega, by omega, fun Dd hD => ?_⟩
      refine comp_range (lo := 0) (n := ((ys.length : Nat) : Int).toNat) (fun i H2 => Same H1 H2 ∧ H2 Dd = some (.lst ((List.replicate i true).map V.bl))) ⟨Same.new hD, upd_same⟩ ?_ ?_
      · rintro i H2 hi ⟨s2, e2⟩
        have hi' : i < ys.length := by omega
        obtain ⟨x, hx⟩ : ∃ x, xs[i]? = some x := ⟨_, List.getElem?_eq_getElem (by omega)⟩
        obtain ⟨y, hy⟩ : ∃ y, ys[i]? = some y := ⟨_, List.getElem?_eq_getElem hi'⟩
        refine ⟨_, rfl, _, rfl, a, xs, _, x, rfl, rfl, L2.SqT.same s2 ha1, atI_of (by omega) (by rw [show ((0 : Int) + (i : Nat)).toNat = i by omega]; exact hx), _, rfl, _, rfl, b, ys, _, y, rfl, rfl, L2.SqT.same s2 hb1, atI_of (by omega) (by rw [show ((0 : Int) + (i : Nat)).toNat = i by omega]; exact hy), x, y, rfl, (hall i x y hx hy).same (s1.trans s2), fun H3 s3 => ⟨_, s3 _ _ e2, ?_, (s2.trans s3).upd hD, ?_⟩⟩
        · rw [List.length_map, List.length_replicate]; exact small1000 (by omega)
        · rw [upd_same, List.replicate_succ', List.map_append]; rfl
      · rintro H2 ⟨s2, e2⟩
        refine ⟨Dd, _, rfl, SqL.of e2, ?_⟩
        rw [show (List.replicate ((ys.length : Nat) : Int).toNat true).all id = true by rw [List.all_eq_true]; intro b hb; exact (List.mem_replicate.mp hb).2]
        exact k H2 (s1.trans s2)
theorem ok_word_in_row {f : Addr} {fd : FuncData} (D : Df K mg "word_in_row" s_word_in_row ["n", "letter", "row"] f fd) (T : Txt P w K mg a_CONTRARIES a_LETTERS a_MOST_LETTERS a_NO_LETTERS a_LetterError a_NoWord a_NoText a_NoAlphabet a_NoChange a_NoPaper a_TooMany a_NoRow f_NoText fd_NoText) (c_read_word : Cl P w K mg base "read_word" ["n", "shown"] 3 spRdG) (c_row_head : Cl P w K mg base "row_head" ["letter"] 1 spHead) : Cl P w K mg base "word_in_row" ["n", "letter", "row"] 4 spInRowG := by
  obtain ⟨f_read_word, fd_read_word, G_read_word, m_read_word, k_read_word, b_read_word⟩ := c_read_word
  obtain ⟨f_row_head, fd_row_head, G_row_head, m_row_head, k_row_head, b_row_head⟩ := c_row_head
  refine D.cl (D.F.ok sc_word_in_row (fun vs H Q E h => ?_) (fun cdv A outer s H vs Q E hr h => ?_))
  · obtain ⟨n, i, r, rfl, _⟩ := h
    rfl
  · obtain ⟨n, i, r, rfl, h1, h4, hl, k⟩ := h
    refine ⟨_, (pss_cons (ps_set (i := 3) sc_word_in_row.nd rfl (Or.inl rfl) (pe_call G_row_head (hr.mono (by decide)) (by rfl) m_row_head k_row_head b_row_head .nil pass0 (pa_cons (pv 1) pa_nil)))
      (pss_one (ps_ret (pe_ifExp (pt_val (pe_bmK (K := K) rfl PySem.F.plainAttrs_str PySem.F.slot_str_startswith PySem.F.type_str_startswith mt_startswith (pv 2) (pa_cons (pv 3) pa_nil))) (pe_call G_read_word (hr.mono (by decide)) (by rfl) m_read_word k_read_word b_read_word .nil pass0 (pa_cons (pv 0) (pa_cons (pe_slice sl_str (pv 2) (po_some (pe_callB call_len_str (by rfl) T.b_len PySem.boot_len (pa_cons (pv 3) pa_nil))) po_none) pa_nil))) pe_non)))), ?_⟩
    refine ⟨_, rfl, 97 + i, rfl, fun H1 s1 => ?_⟩
    refine ⟨_, rfl, rfl, _, rfl, _, _, rfl, rfl, _, rfl, ?_⟩
    rw [starts_iff]
    have kk : ∀ H', Same H1 H' → Q (optS (rowT n i r)) H' := fun H' s => k H' (s1.trans s)
    unfold rowT at kk
    refine ite2 (fun z => ?_) (fun z => ?_)
    · have z' : r.take 4 = headW i := of_decide_eq_true z
      rw [if_pos z'] at kk
      have rl : 4 ≤ r.length := by
        have := congrArg List.length z'
        rw [List.length_take] at this
        have e4 : (headW i).length = 4 := rfl
        omega
      refine ⟨_, rfl, _, rfl, _, rfl, _, rfl, by rw [S_len]; exact len_1000 (by simp), _, rfl, _, rfl, by rw [S_len]; exact len_1000 (by omega), ?_⟩
      have e : Txt.slice (S r) (some ((S [97 + i, 32, 61, 32]).length : Int)) none = S (r.drop 4) := by
        rw [S_len, slice_from _ (by simp) (by simp; omega)]
        rfl
      rw [e]
      exact ⟨n, r.drop 4, rfl, h1, h4, by rw [List.length_drop]; omega, fun H2 s2 => kk H2 s2⟩
    · have z' : ¬ r.take 4 = headW i := fun c => z (decide_eq_true c)
      rw [if_neg z'] at kk
      exact kk H1 (Same.refl _)
theorem ok_read_retelling {f : Addr} {fd : FuncData} (D : Df K mg "read_retelling" s_read_retelling ["text"] f fd) (T : Txt P w K mg a_CONTRARIES a_LETTERS a_MOST_LETTERS a_NO_LETTERS a_LetterError a_NoWord a_NoText a_NoAlphabet a_NoChange a_NoPaper a_TooMany a_NoRow f_NoText fd_NoText) (c_first_letters : Cl P w K mg base "first_letters" ["n"] 1 spFirst) (c_word_in_row : Cl P w K mg base "word_in_row" ["n", "letter", "row"] 4 spInRowG) : ClX P w K mg base "read_retelling" ["text"] 5 (spRdX a_NoText) := by
  obtain ⟨f_first_letters, fd_first_letters, G_first_letters, m_first_letters, k_first_letters, b_first_letters⟩ := c_first_letters
  obtain ⟨f_word_in_row, fd_word_in_row, G_word_in_row, m_word_in_row, k_word_in_row, b_word_in_row⟩ := c_word_in_row
  refine D.clX (D.F.okX sc_read_retelling (fun vs H Q E h => ?_) (fun cdv A outer s H vs Q E hr h => ?_))
  · obtain ⟨t, rfl, _⟩ := h
    rfl
  · obtain ⟨t, rfl, hl, k, kE⟩ := h
    refine ⟨_, (pss_cons (ps_set (i := 1) sc_read_retelling.nd rfl (Or.inl rfl) (pe_bmK (K := K) rfl PySem.F.plainAttrs_str PySem.F.slot_str_split PySem.F.type_str_split mt_split (pv 0) (pa_cons pe_str pa_nil)))
      (pss_cons (ps_set (i := 2) sc_read_retelling.nd rfl (Or.inl rfl) (pe_callB (call_min2 rfl) (by rfl) T.b_min boot_min (pa_cons (pe_callB (call_lenK (K := K) rfl) (by rfl) T.b_len PySem.boot_len (pa_cons (pv 1) pa_nil)) (pa_cons (pe_globI (z := 4) (by rfl) T.m_MOST_LETTERS) pa_nil))))
      (pss_cons (ps_set (i := 3) sc_read_retelling.nd rfl (Or.inl rfl) (pe_lst pa_nil))
      (pss_cons (ps_for PassesOwn.leaving rfl (pi_zipL (K := K) rfl (by rfl) T.b_zip (pa_cons (pe_call G_first_letters (hr.mono (by decide)) (by rfl) m_first_letters k_first_letters b_first_letters .nil pass0 (pa_cons (pv 2) pa_nil)) (pa_cons (pv 1) pa_nil))) (pg_seq (K := K) rfl rfl (pgs_cons (pg_name (i := 4) sc_read_retelling.nd rfl (Or.inl rfl)) (pgs_cons (pg_name (i := 5) sc_read_retelling.nd rfl (Or.inl rfl)) pgs_nil))) (pss_cons (ps_set (i := 6) sc_read_retelling.nd rfl (Or.inl rfl) (pe_call G_word_in_row (hr.mono (by decide)) (by rfl) m_word_in_row k_word_in_row b_word_in_row .nil pass0 (pa_cons (pv 2) (pa_cons (pv 4) (pa_cons (pv 5) pa_nil)))))
      (pss_cons (ps_if (pt_cmpR op_isN (pv 6) pe_non (nomark _)) (pss_one (ps_raiseK (K := K) (E := E) rfl rfl raises_out (pe_makeX T.x_NoText (ok_init_NoText T) (hr.mono (by decide)) (by rfl) T.m_NoText T.b_iNoText (pa_cons (pe_callB (call_lenK (K := K) rfl) (by rfl) T.b_len PySem.boot_len (pa_cons (pv 3) pa_nil)) pa_nil)))) pss_nil)
      (pss_one (ps_expr (pe_bmK (K := K) rfl PySem.F.plainAttrs_list PySem.F.slot_list_append PySem.F.type_list_append mt_append (pv 3) (pa_cons (pv 6) pa_nil)))))))
      (pss_cons (ps_if (pt_cmpR op_gt (pe_callB (call_lenK (K := K) rfl) (by rfl) T.b_len PySem.boot_len (pa_cons (pv 1) pa_nil)) (pv 2) (nomark _)) (pss_one (ps_raiseK (K := K) (E := E) rfl rfl raises_out (pe_makeX T.x_NoText (ok_init_NoText T) (hr.mono (by decide)) (by rfl) T.m_NoText T.b_iNoText (pa_cons (pv 2) pa_nil)))) pss_nil)
      (pss_one (ps_ret (pe_callTy (call_tupleK (K := K) rfl) (by rfl) T.b_tuple boot_tuple (pa_cons (pv 3) pa_nil))))))))), ?_⟩
    obtain ⟨pl, pz⟩ := parts_len 10 t
    have pm := parts_map 10 t
    have p0 := List.length_pos_iff.mpr (parts_ne 10 t)
    refine ⟨_, rfl, rfl, _, _, rfl, rfl, by decide +kernel, by rw [S_len]; omega, fun p hp => ?_⟩
    have ep : upd H p (.lst ((Txt.split (S t) (Str.ofString "\n")).map V.str)) p = some (.lst (wds (partsT 10 t))) := by
      rw [upd_same, show (Str.ofString "\n") = S [10] from by decide +kernel, pm, List.map_map]
      rfl
    have s1 : Same H (upd H p (.lst ((Txt.split (S t) (Str.ofString "\n")).map V.str))) := Same.new hp
    generalize upd H p (.lst ((Txt.split (S t) (Str.ofString "\n")).map V.str)) = H1 at ep s1
    clear pm
    generalize partsT 10 t = zs at k kE pl pz ep p0
    refine ⟨_, rfl, p, _, rfl, .inl (SqL.of ep), _, _, rfl, ?_⟩
    obtain ⟨n, hn⟩ : ∃ n, min zs.length 4 = n := ⟨_, rfl⟩
    have n1 : 1 ≤ n := by omega
    have n4 : n ≤ 4 := by omega
    have eN : (if (4 : Int) < ((wds zs).length : Nat) then (4 : Int) else ((wds zs).length : Nat)) = ((n : Nat) : Int) := by
      rw [wds_len]
      split <;> omega
    rw [eN]
    refine ⟨len_1000 (by simp), fun l hl0 => ?_⟩
    have e2 : upd H1 l (.lst []) p = some (.lst (wds zs)) := by rw [upd_ne (ne_of_none ep hl0)]; exact ep
    have s2 : Same H (upd H1 l (.lst [])) := s1.upd' hl0
    have el : upd H1 l (.lst []) l = some (.lst (wds (wordsX n zs 0))) := upd_same
    have hlp : p ≠ l := ne_of_none ep hl0
    have hl1 : H l = none := s1.free hl0
    generalize upd H1 l (.lst []) = H2 at e2 s2 el
    refine ⟨_, rfl, n, rfl, n1, n4, fun t3 H3 ht3 s3 et => ⟨_, rfl, t3, p, rfl, ⟨_, SqT.of et⟩, ⟨_, SqL.of (s3 _ _ e2)⟩, ?_⟩⟩
    have ll : (lowW n).length = n := (lowW_rt n1 n4).len
    have htl : t3 ≠ l := (ne_of_none el ht3).symm
    have htp : t3 ≠ p := (ne_of_none e2 ht3).symm
    have em : min (wds (lowW n)).length (wds zs).length = n := by rw [wds_len, wds_len, ll]; omega
    refine for_zipL (K := K) (t := t3) (u := p) (xs := wds (lowW n)) (ys := wds zs) (fun i σ H4 => ∃ v4 v5 v6 : Option V, σ = [some (.str (S t)), some (.ref p), some (.int (n : Nat)), some (.ref l), v4, v5, v6] ∧ Same H H4 ∧ H4 p = some (.lst (wds zs)) ∧ H4 t3 = some (.tup (wds (lowW n))) ∧ H4 l = some (.lst (wds (wordsX n zs i))) ∧ ∀ j, j < i → badX n zs j = false) ⟨none, none, none, rfl, s2.trans s3, s3 _ _ e2, et, s3 _ _ el, fun j hj => absurd hj (Nat.not_lt_zero _)⟩ ?_ ?_ ?_
    · rintro i _ H4 _ ⟨_, _, _, _, _, e3, t3', _⟩
      exact ⟨SqT.of t3', SqL.of e3⟩
    · rintro i x y q _ H4 hx hy hq4 ⟨v4, v5, v6, rfl, s4, e4, t4, l4, hb⟩
      obtain ⟨rfl, hi⟩ := low_get n4 hx
      obtain ⟨r, hri, rfl⟩ := wds_get hy
      have hrl := pz r (List.mem_of_getElem? hri)
      have hiz : i < zs.length := (List.getElem?_eq_some_iff.mp hri).1
      have hgd : zs.getD i [] = r := by rw [List.getD_eq_getElem?_getD, hri]; rfl
      have s5 : Same H (upd H4 q (.tup [.str (S [97 + i]), .str (S r)])) := s4.upd' hq4
      have e5 : upd H4 q (.tup [.str (S [97 + i]), .str (S r)]) p = _ := (upd_ne (ne_of_none e4 hq4)).trans e4
      have t5 : upd H4 q (.tup [.str (S [97 + i]), .str (S r)]) t3 = _ := (upd_ne (ne_of_none t4 hq4)).trans t4
      have l5 : upd H4 q (.tup [.str (S [97 + i]), .str (S r)]) l = _ := (upd_ne (ne_of_none l4 hq4)).trans l4
      refine ⟨q, _, rfl, .inr (SqT.of upd_same), rfl, _, _, rfl, _, _, rfl, rfl, ?_⟩
      generalize upd H4 q (.tup [.str (S [97 + i]), .str (S r)]) = H5 at s5 e5 t5 l5
      refine ⟨_, rfl, _, rfl, _, rfl, n, i, r, rfl, n1, n4, by omega, fun H6 s6 => ?_⟩
      refine ⟨_, rfl, rfl, _, rfl, ?_⟩
      cases hq : rowT n i r with
      | none =>
        have hbad : firstX zs = some i := by
          unfold firstX
          rw [hn]
          exact find_hit hb (by unfold badX; rw [hgd, hq]; simp) hiz
        refine iteT ⟨_, rfl, l, _, rfl, .inl (SqL.of (s6 _ _ l5)), by simp, fun a ha => ⟨a, .int (i : Nat), by rw [wds_len, wordsX_len], upd_same, fun dx hdx hne => ⟨rfl, a, a_NoText, f_NoText, some dx, rfl, upd_same, T.x_NoText, (fun d' e => by cases e; exact ⟨_, by rw [upd_ne hne]; exact upd_same⟩), ?_⟩⟩⟩
        have s56 := s5.trans s6
        refine kE i dx _ hbad ?_ ?_
        · exact (((s56.upd' ha).upd' hdx).upd (s56.free ha)).upd (s56.free ha)
        · rw [upd_ne hne, upd_ne hne]; exact upd_same
      | some w =>
        refine iteF ?_
        refine ⟨_, rfl, .inl ⟨rfl, _, SqL.of (s6 _ _ l5)⟩, _, rfl, l, _, _, rfl, rfl, s6 _ _ l5, by rw [wds_len, wordsX_len]; exact small1000 (by omega), _, _, _, rfl, (s5.trans s6).upd hl1, by rw [upd_ne hlp]; exact s6 _ _ e5, by rw [upd_ne htl]; exact s6 _ _ t5, ?_, ?_⟩
        · rw [upd_same, wordsX_succ, hgd, hq, wds_app]
          rfl
        · intro j hj
          by_cases hji : j = i
          · subst hji
            unfold badX
            rw [hgd, hq, decide_eq_false (by omega)]
            rfl
          · exact hb j (by omega)
    · rintro _ H4 ⟨v4, v5, v6, rfl, s4, e4, t4, l4, hb⟩
      rw [em] at l4 hb
      refine ⟨_, rfl, p, _, rfl, .inl (SqL.of e4), _, rfl, _, _, rfl, rfl, _, rfl, ite2 (fun z => ?_) (fun z => ?_)⟩
      · have hgt : n < zs.length := by have := of_decide_eq_true z; rw [wds_len] at this; omega
        have hn4 : n = 4 := by omega
        have hbad : firstX zs = some n := by
          unfold firstX
          rw [hn]
          exact find_hit hb (by unfold badX; rw [decide_eq_true (by omega)]; rfl) hgt
        refine ⟨_, rfl, by simp, fun a ha => ⟨a, .int (n : Nat), rfl, upd_same, fun dx hdx hne => ⟨rfl, a, a_NoText, f_NoText, some dx, rfl, upd_same, T.x_NoText, (fun d' e => by cases e; exact ⟨_, by rw [upd_ne hne]; exact upd_same⟩), ?_⟩⟩⟩
        refine kE n dx _ hbad ?_ ?_
        · exact (((s4.upd' ha).upd' hdx).upd (s4.free ha)).upd (s4.free ha)
        · rw [upd_ne hne, upd_ne hne]; exact upd_same
      · have hle : zs.length = n := by
          have : ¬ ((wds zs).length : Int) > n := fun c => z (decide_eq_true c)
          rw [wds_len] at this
          omega
        have hgood : firstX zs = none := by
          unfold firstX
          rw [hn, hle]
          exact find_no hb
        exact ⟨_, rfl, l, _, rfl, .inl ⟨SqL.of l4, fun z hz => k hgood z _ (s4.upd' hz) (by rw [upd_same, hle])⟩⟩
theorem ok_law_writes {f : Addr} {fd : FuncData} (D : Df K mg "_law_writes" s_law_writes ["_law_text"] f fd) (T : Txt P w K mg a_CONTRARIES a_LETTERS a_MOST_LETTERS a_NO_LETTERS a_LetterError a_NoWord a_NoText a_NoAlphabet a_NoChange a_NoPaper a_TooMany a_NoRow f_NoText fd_NoText) (c_law_letters : Cl P w K mg base "_law_letters" ["_law_n"] 1 spLetters) (c_law_laid : Cl P w K mg base "_law_laid" ["_law_text"] 2 spLay) : Cl P w K mg base "_law_writes" ["_law_text"] 3 spWr := by
  obtain ⟨f_law_letters, fd_law_letters, G_law_letters, m_law_letters, k_law_letters, b_law_letters⟩ := c_law_letters
  obtain ⟨f_law_laid, fd_law_laid, G_law_laid, m_law_laid, k_law_laid, b_law_laid⟩ := c_law_laid
  refine D.cl (D.F.ok sc_law_writes (fun vs H Q E h => ?_) (fun cdv A outer s H vs Q E hr h => ?_))
  · obtain ⟨t, rfl, _⟩ := h
    rfl
  · obtain ⟨t, rfl, hl, k, kR⟩ := h
    refine ⟨_, (pss_cons (ps_set (i := 1) sc_law_writes.nd rfl (Or.inl rfl) (pe_bmK (K := K) rfl PySem.F.plainAttrs_str PySem.F.slot_str_split PySem.F.type_str_split mt_split (pv 0) (pa_cons pe_str pa_nil)))
      (pss_cons (ps_set (i := 2) sc_law_writes.nd rfl (Or.inr rfl) (pe_callB (call_min2 rfl) (by rfl) T.b_min boot_min (pa_cons pe_int (pa_cons (pe_callB (call_lenK (K := K) rfl) (by rfl) T.b_len PySem.boot_len (pa_cons (pv 1) pa_nil)) pa_nil))))
      (pss_cons (ps_set (i := 3) sc_law_writes.nd rfl (Or.inl rfl) (pe_lst pa_nil))
      (pss_cons (ps_for PassesOwn.never rfl (pi_range1 (by rfl) T.b_range (pa_cons (pe_callB (call_lenK (K := K) rfl) (by rfl) T.b_len PySem.boot_len (pa_cons (pv 1) pa_nil)) pa_nil)) (pg_name (i := 4) sc_law_writes.nd rfl (Or.inl rfl)) (pss_cons (ps_set (i := 5) sc_law_writes.nd rfl (Or.inl rfl) (pe_bmK (K := K) rfl PySem.F.plainAttrs_str PySem.F.slot_str_split PySem.F.type_str_split mt_split (pe_ix (ix_listK (K := K) rfl) (pv 1) (pv 4) (fun _ _ => rfl)) (pa_cons pe_str pa_nil)))
      (pss_cons (ps_if (PW.pt (pw_or (pt_cmpR op_gt (pv 4) pe_int (nomark _)) (pw_or (pt_cmpR op_ne (pe_callB (call_lenK (K := K) rfl) (by rfl) T.b_len PySem.boot_len (pa_cons (pv 5) pa_nil)) pe_int (nomark _)) (pw_or (pt_cmpR op_ne (pe_ix (ix_listK (K := K) rfl) (pv 5) pe_int (fun _ _ => rfl)) (pe_ix ix_str pe_str (pv 4) (fun _ _ => rfl)) (nomark _)) (pw_or1 (pt_cmpR op_ne (pe_ix (ix_listK (K := K) rfl) (pv 5) pe_int (fun _ _ => rfl)) pe_str (nomark _))))))) (pss_one (ps_ret (pe_tup (pa_cons pe_str (pa_cons (pv 4) pa_nil))))) pss_nil)
      (pss_cons (ps_set (i := 6) sc_law_writes.nd rfl (Or.inl rfl) (pe_ix (ix_listK (K := K) rfl) (pv 5) pe_int (fun _ _ => rfl)))
      (pss_mid (ps_if (pt_cmpR op_eq (pv 6) pe_str (nomark _)) (pss_one (ps_set (i := 6) sc_law_writes.nd rfl (Or.inl rfl) pe_str)) (pss_one (ps_if (PW.pt (pw_or (pt_cmpR op_eq (pv 6) pe_str (nomark _)) (pw_or1 (pt_cmpR (op_neLK (K := K) rfl hr.units0) (pe_compc (sc0 := defScope s_law_writes) (N := ["_law_text", "_law_rows", "_law_n", "_law_found", "_law_at", "_law_words", "_law_word_here"]) (ix := [2]) (by decide +kernel) rfl rfl rfl (pi_str (pv 6)) (fun _ _ _ => pifs_one (pt_cmpR (op_notinK (K := K) rfl) (pv 0) (pe_call G_law_letters (hr.mono (by decide)) (by rfl) m_law_letters k_law_letters b_law_letters .nil pass0 (pa_cons (pv 1) pa_nil)) (by rfl))) (fun _ _ _ => (pv 0))) (pe_lst pa_nil) (nomark _))))) (pss_one (ps_ret (pe_tup (pa_cons pe_str (pa_cons (pv 4) pa_nil))))) pss_nil)))
      (pss_cons (ps_if (pt_cmpR op_ne (pe_call G_law_laid (hr.mono (by decide)) (by rfl) m_law_laid k_law_laid b_law_laid .nil pass0 (pa_cons (pv 6) pa_nil)) (pv 6) (nomark _)) (pss_one (ps_ret (pe_tup (pa_cons pe_str (pa_cons (pv 4) pa_nil))))) pss_nil)
      (pss_one (ps_expr (pe_bmK (K := K) rfl PySem.F.plainAttrs_list PySem.F.slot_list_append PySem.F.type_list_append mt_append (pv 3) (pa_cons (pv 6) pa_nil))))))))))
      (pss_one (ps_ret (pe_tup (pa_cons pe_str (pa_cons (pe_callTy (call_tupleK (K := K) rfl) (by rfl) T.b_tuple boot_tuple (pa_cons (pv 3) pa_nil)) pa_nil))))))))), ?_⟩
    obtain ⟨pl, pz⟩ := parts_len 10 t
    have pm := parts_map 10 t
    have p0 := List.length_pos_iff.mpr (parts_ne 10 t)
    refine ⟨_, rfl, rfl, _, _, rfl, rfl, by decide +kernel, by rw [S_len]; omega, fun p hp => ?_⟩
    have ep : upd H p (.lst ((Txt.split (S t) (Str.ofString "\n")).map V.str)) p = some (.lst (wds (partsT 10 t))) := by
      rw [upd_same, show (Str.ofString "\n") = S [10] from by decide +kernel, pm, List.map_map]
      rfl
    have s1 : Same H (upd H p (.lst ((Txt.split (S t) (Str.ofString "\n")).map V.str))) := Same.new hp
    generalize upd H p (.lst ((Txt.split (S t) (Str.ofString "\n")).map V.str)) = H1 at ep s1
    clear pm
    generalize partsT 10 t = zs at k kR pl pz ep p0
    refine ⟨_, rfl, p, _, rfl, .inl (SqL.of ep), _, _, rfl, ?_⟩
    obtain ⟨n, hn⟩ : ∃ n, min zs.length 4 = n := ⟨_, rfl⟩
    have n1 : 1 ≤ n := by omega
    have n4 : n ≤ 4 := by omega
    have eN : (if ((wds zs).length : Int) < (4 : Int) then ((wds zs).length : Int) else (4 : Int)) = ((n : Nat) : Int) := by
      rw [wds_len]
      split <;> omega
    rw [eN]
    refine ⟨len_1000 (by simp), fun l hl0 => ?_⟩
    have e2 : upd H1 l (.lst []) p = some (.lst (wds zs)) := by rw [upd_ne (ne_of_none ep hl0)]; exact ep
    have s2 : Same H (upd H1 l (.lst [])) := s1.upd' hl0
    have el : upd H1 l (.lst []) l = some (.lst (wds (wordsX n zs 0))) := upd_same
    have hlp : p ≠ l := ne_of_none ep hl0
    have hl1 : H l = none := s1.free hl0
    generalize upd H1 l (.lst []) = H2 at e2 s2 el
    refine ⟨_, rfl, p, _, rfl, .inl (SqL.of e2), (zs.length : Nat), by rw [wds_len], by omega, by omega, ?_⟩
    refine for_range (lo := 0) (n := ((zs.length : Nat) : Int).toNat) (fun i σ H3 => ∃ v4 v5 v6 : Option V, σ = [some (.str (S t)), some (.ref p), some (.int (n : Nat)), some (.ref l), v4, v5, v6] ∧ Same H H3 ∧ H3 p = some (.lst (wds zs)) ∧ H3 l = some (.lst (wds (wordsX n zs i))) ∧ ∀ j, j < i → badX n zs j = false) ⟨none, none, none, rfl, s2, e2, el, fun j hj => absurd hj (Nat.not_lt_zero _)⟩ ?_ ?_
    · rintro i _ H3 hi ⟨v4, v5, v6, rfl, s3, e3, l3, hb⟩
      have hi' : i < zs.length := by omega
      have ei : (0 : Int) + (i : Nat) = ((i : Nat) : Int) := by omega
      rw [ei]
      obtain ⟨r, hr⟩ : ∃ r, zs[i]? = some r := ⟨_, List.getElem?_eq_getElem hi'⟩
      have hrl := pz r (List.mem_of_getElem? hr)
      have hgd : zs.getD i [] = r := by rw [List.getD_eq_getElem?_getD, hr]; rfl
      obtain ⟨wl, wz⟩ := parts_len 32 r
      have wm := parts_map 32 r
      refine ⟨_, rfl, _, rfl, p, _, _, _, rfl, rfl, SqL.of e3, atI_nat (wds_at hr), rfl, _, _, rfl, rfl, by decide +kernel, by rw [S_len]; omega, fun q hq => ?_⟩
      have eq : upd H3 q (.lst ((Txt.split (S r) (Str.ofString " ")).map V.str)) q = some (.lst (wds (partsT 32 r))) := by
        rw [upd_same, show (Str.ofString " ") = S [32] from by decide +kernel, wm, List.map_map]
        rfl
      have s4 : Same H3 (upd H3 q (.lst ((Txt.split (S r) (Str.ofString " ")).map V.str))) := Same.new hq
      generalize upd H3 q (.lst ((Txt.split (S r) (Str.ofString " ")).map V.str)) = H4 at eq s4
      clear wm
      have bad : ∀ (H' : Hp), Same H4 H' → (4 ≤ i ∨ rowT n i r = none) → ∀ z, H' z = none → Q (.ref z) (upd H' z (.tup [.str (Str.ofString "refused"), .int (i : Nat)])) := fun H' s' hc z hz => by
        refine kR i z _ ?_ (((s3.trans s4).trans s').upd' hz) upd_same
        unfold firstX
        rw [hn]
        refine find_hit hb ?_ hi'
        unfold badX
        rw [hgd]
        rcases hc with hc | hc
        · rw [decide_eq_true hc]; rfl
        · rw [hc]; simp
      refine ⟨_, rfl, _, _, rfl, rfl, _, rfl, ite2 (fun z1 => ?_) (fun z1 => ?_)⟩
      · exact iteT ⟨_, rfl, len_1000 (by simp), fun z hz => bad H4 (Same.refl _) (.inl (by have := of_decide_eq_true z1; omega)) z hz⟩
      have hi4 : i < 4 := by
        have : ¬ ((i : Nat) : Int) > 3 := fun c => z1 (decide_eq_true c)
        omega
      refine ⟨_, rfl, q, _, rfl, .inl (SqL.of eq), rfl, _, rfl, ?_⟩
      have eqn : ∀ a : Nat, (V.int ((a : Nat) : Int) = V.int 3) ↔ a = 3 := fun a => ⟨fun e => by have := V.int.inj e; omega, fun e => by rw [e]; rfl⟩
      rw [wds_len]
      by_cases hw3 : (partsT 32 r).length = 3
      rotate_left
      · rw [decide_eq_false (fun e => hw3 ((eqn _).mp e))]
        exact iteT (iteT ⟨_, rfl, len_1000 (by simp), fun z hz => bad H4 (Same.refl _) (.inr (rowT_bad fun w e => hw3 (by rw [e]; rfl))) z hz⟩)
      rw [decide_eq_true ((eqn _).mpr hw3)]
      refine iteF ?_
      obtain ⟨w0, w1, w2, hws⟩ : ∃ a b c, partsT 32 r = [a, b, c] := by
        match partsT 32 r, hw3 with
        | [a, b, c], _ => exact ⟨a, b, c, rfl⟩
      have w2l : w2.length ≤ r.length := wz w2 (by rw [hws]; simp)
      rw [hws] at eq
      have hx4 : atI (Str.ofString "abcd").cps.toList ((i : Nat) : Int) = some (97 + i) := by
        have : i = 0 ∨ i = 1 ∨ i = 2 ∨ i = 3 := by omega
        rcases this with rfl | rfl | rfl | rfl <;> decide +kernel
      refine ⟨_, rfl, q, _, _, .str (S w0), rfl, rfl, SqL.of eq, rfl, _, rfl, _, _, 97 + i, rfl, rfl, by decide +kernel, hx4, rfl, _, rfl, ?_⟩
      rw [show V.str (⟨#[97 + i]⟩ : Str) = V.str (S [97 + i]) from rfl, VS_dec]
      by_cases hw0 : w0 = [97 + i]
      rotate_left
      · rw [decide_eq_false hw0]
        exact iteT (iteT ⟨_, rfl, len_1000 (by simp), fun z hz => bad H4 (Same.refl _) (.inr (rowT_bad fun w e => hw0 (by rw [hws] at e; exact (List.cons.inj e).1))) z hz⟩)
      rw [decide_eq_true hw0]
      refine iteF ?_
      refine ⟨_, rfl, q, _, _, .str (S w1), rfl, rfl, SqL.of eq, rfl, rfl, _, rfl, ?_⟩
      rw [show (Str.ofString "=") = S [61] from by decide +kernel, VS_dec]
      by_cases hw1 : w1 = [61]
      rotate_left
      · rw [decide_eq_false hw1]
        exact iteT ⟨_, rfl, len_1000 (by simp), fun z hz => bad H4 (Same.refl _) (.inr (rowT_bad fun w e => hw1 (by rw [hws] at e; exact (List.cons.inj (List.cons.inj e).2).1))) z hz⟩
      rw [decide_eq_true hw1]
      refine iteF ?_
      have hform : partsT 32 r = [[97 + i], [61], w2] := by rw [hws, hw0, hw1]
      have hrow : rowT n i r = readT n w2 := rowT_good hform
      refine ⟨_, rfl, q, _, _, .str (S w2), rfl, rfl, SqL.of eq, rfl, ?_⟩
      refine ⟨fun σ' H' => ∃ y, (readT n w2 = if lay y = y then some y else none) ∧ AllL y ∧ y.length ≤ 890 ∧ σ' = [some (.str (S t)), some (.ref p), some (.int (n : Nat)), some (.ref l), some (.int (i : Nat)), some (.ref q), some (.str (S y))] ∧ Same H4 H', ?_, ?_⟩
      · refine ⟨_, rfl, rfl, _, rfl, ?_⟩
        rw [show (Str.ofString ".") = S [46] from by decide +kernel, VS_dec]
        refine ite2 (fun z2 => ?_) (fun z2 => ?_)
        · refine ⟨[], ?_, (fun c hc => nomatch hc), by simp, by rw [S_nil]; rfl, Same.refl _⟩
          unfold readT
          rw [if_pos (of_decide_eq_true z2), if_pos (by rfl)]
        have x46 : ¬ w2 = [46] := fun e => z2 (decide_eq_true e)
        refine ⟨_, rfl, rfl, _, rfl, ?_⟩
        rw [S_nil, VS_dec]
        refine ite2 (fun z3 => ?_) (fun z3 => ?_)
        · refine iteT ⟨_, rfl, len_1000 (by simp), fun z hz => bad H4 (Same.refl _) (.inr ?_) z hz⟩
          rw [hrow]
          unfold readT
          rw [if_neg x46, if_pos (of_decide_eq_true z3)]
        have x0 : ¬ w2 = [] := fun e => z3 (decide_eq_true e)
        refine ⟨_, rfl, S w2, rfl, fun Dd hD => ?_⟩
        refine comp_strIf (w := w2) (fun j H5 => Same H4 H5 ∧ H5 Dd = some (.lst (lstC ((w2.take j).filter fun c => decide (¬ c ∈ letsN n))))) ⟨Same.new hD, by rw [upd_same]; rfl⟩ ?_ ?_
        · rintro j c H5 hc ⟨s5, e5⟩
          have hj : j < w2.length := (List.getElem?_eq_some_iff.mp hc).1
          refine ⟨_, rfl, _, rfl, (n : Nat), rfl, by omega, by omega, fun l6 H6 hl6 s6 e6 => ⟨l6, lstC (letsN n), rfl, .inl (SqL.of e6), rfl, lstC_flatT _, _, rfl, ?_⟩⟩
          show if (!inV (.str (S [c])) (lstC (letsN n))) = true then _ else _
          rw [in_lstT]
          by_cases hcn : c ∈ letsN n
          · rw [decide_eq_true hcn]
            refine iteF ⟨s5.trans s6, ?_⟩
            rw [take_snoc hc, List.filter_append, s6 _ _ e5]
            simp [hcn]
          · rw [decide_eq_false hcn]
            refine iteT ⟨_, rfl, _, s6 _ _ e5, ?_, (s5.trans s6).upd hD, ?_⟩
            · rw [lstC_len]
              refine small1000 ?_
              have := List.length_filter_le (fun c => decide (¬ c ∈ letsN n)) (w2.take j)
              rw [List.length_take] at this
              omega
            · rw [upd_same, take_snoc hc, List.filter_append, ← lstC_snoc]
              simp [hcn]
        rintro H5 ⟨s5, e5⟩
        rw [List.take_length] at e5
        refine ⟨len_1000 (by simp), fun l6 hl6 => ?_⟩
        have s6 : Same H5 (upd H5 l6 (.lst [])) := Same.new hl6
        have e6 : upd H5 l6 (.lst []) l6 = some (.lst []) := upd_same
        generalize upd H5 l6 (.lst []) = H6 at s6 e6
        refine ⟨Dd, l6, _, _, rfl, rfl, .inl ⟨SqL.of (s6 _ _ e5), SqL.of e6⟩, lstC_flatT _, by rfl, _, rfl, ?_⟩
        have s46 := s5.trans s6
        by_cases ho : OfN n w2
        · have ef : (w2.filter fun c => decide (¬ c ∈ letsN n)) = [] := by
            rw [List.filter_eq_nil_iff]
            intro c hc
            simp [ho c hc]
          rw [ef]
          refine iteF ⟨w2, ?_, ho.all, by omega, rfl, s46⟩
          unfold readT
          rw [if_neg x46, if_neg x0]
          by_cases hp : Plain w2
          · rw [if_pos (fault_none.mpr ⟨ho, hp⟩), if_pos (lay_id hp)]
          · rw [if_neg (fun e => hp (fault_none.mp e).2), if_neg (fun e => hp (by rw [← e]; exact lay_plain w2))]
        · have hne : (w2.filter fun c => decide (¬ c ∈ letsN n)) ≠ [] := by
            intro e
            rw [List.filter_eq_nil_iff] at e
            exact ho fun c hc => Classical.byContradiction fun q => e c hc (by simp [q])
          have hcmp : eqVs (lstC (w2.filter fun c => decide (¬ c ∈ letsN n))) [] = false := by
            cases hq : (w2.filter fun c => decide (¬ c ∈ letsN n)) with
            | nil => exact absurd hq hne
            | cons a b => rfl
          rw [if_pos rfl, hcmp]
          refine iteT ⟨_, rfl, len_1000 (by simp), fun z hz => bad H6 s46 (.inr ?_) z hz⟩
          rw [hrow]
          unfold readT
          rw [if_neg x46, if_neg x0, if_neg (fun e => ho (fault_none.mp e).1)]
      · rintro _ H5 ⟨y, hy, hya, hyl, rfl, s5⟩
        refine ⟨_, rfl, y, rfl, hya, by omega, fun H6 s6 => ⟨_, rfl, rfl, _, rfl, ?_⟩⟩
        rw [VS_dec]
        by_cases hp : lay y = y
        · rw [if_pos hp] at hy
          rw [decide_eq_true hp]
          refine iteF ?_
          have s36 := (s4.trans s5).trans s6
          refine ⟨_, rfl, .inl ⟨rfl, _, SqL.of (s36 _ _ l3)⟩, _, rfl, l, _, _, rfl, rfl, s36 _ _ l3, by rw [wds_len, wordsX_len]; exact small1000 (by omega), _, _, _, rfl, (s3.trans s36).upd hl1, by rw [upd_ne hlp]; exact s36 _ _ e3, ?_, ?_⟩
          · rw [upd_same, wordsX_succ, hgd, hrow, hy, wds_app]
            rfl
          · intro j hj
            by_cases hji : j = i
            · subst hji
              unfold badX
              rw [hgd, hrow, hy, decide_eq_false (by omega)]
              rfl
            · exact hb j (by omega)
        · rw [if_neg hp] at hy
          rw [decide_eq_false hp]
          exact iteT ⟨_, rfl, len_1000 (by simp), fun z hz => bad H6 (s5.trans s6) (.inr (by rw [hrow]; exact hy)) z hz⟩
    · rintro _ H3 ⟨v4, v5, v6, rfl, s3, e3, l3, hb⟩
      rw [Int.toNat_natCast] at l3 hb
      have hgood : firstX zs = none := by
        unfold firstX
        rw [hn]
        exact find_no hb
      have hzn : zs.length = n := by have := firstX_len hgood; omega
      refine ⟨_, rfl, l, _, rfl, .inl ⟨SqL.of l3, fun z hz => ?_⟩⟩
      have s4 : Same H3 (upd H3 z (.tup (wds (wordsX n zs zs.length)))) := Same.new hz
      have e4 : upd H3 z (.tup (wds (wordsX n zs zs.length))) z = some (.tup (wds (wordsX zs.length zs zs.length))) := by rw [upd_same, hzn]
      generalize upd H3 z (.tup (wds (wordsX n zs zs.length))) = H4 at s4 e4
      refine ⟨len_1000 (by simp), fun w hw => k hgood w z _ ((s3.trans s4).upd' hw) upd_same ?_⟩
      rw [upd_ne (ne_of_none e4 hw)]
      exact e4
theorem ok_law_fits {f : Addr} {fd : FuncData} (D : Df K mg "_law_fits" s_law_fits ["_law_text"] f fd) (T : Txt P w K mg a_CONTRARIES a_LETTERS a_MOST_LETTERS a_NO_LETTERS a_LetterError a_NoWord a_NoText a_NoAlphabet a_NoChange a_NoPaper a_TooMany a_NoRow f_NoText fd_NoText) : Cl P w K mg base "_law_fits" ["_law_text"] 1 spFits := by
  refine D.cl (D.F.ok sc_law_fits (fun vs H Q E h => ?_) (fun cdv A outer s H vs Q E hr h => ?_))
  · obtain ⟨t, rfl, _⟩ := h
    rfl
  · obtain ⟨t, rfl, hl, k⟩ := h
    refine ⟨_, (pss_cons (ps_set (i := 1) sc_law_fits.nd rfl (Or.inl rfl) (pe_bmK (K := K) rfl PySem.F.plainAttrs_str PySem.F.slot_str_split PySem.F.type_str_split mt_split (pv 0) (pa_cons pe_str pa_nil)))
      (pss_one (ps_ret (pe_cmpR op_le (pe_callB (call_maxL (K := K) rfl rfl) (by rfl) T.b_max boot_max (pa_cons (pe_compc (sc0 := defScope s_law_fits) (N := ["_law_text", "_law_rows"]) (ix := []) (by decide +kernel) rfl rfl rfl (pi_listK (K := K) rfl (pv 1)) (fun _ _ _ => pifs_nil) (fun _ _ _ => (pe_callB call_len_str (by rfl) T.b_len PySem.boot_len (pa_cons (pv 0) pa_nil)))) pa_nil)) (pe_op op_sub pe_int (pe_op op_mul pe_int (pe_callTy call_int1 (by rfl) T.b_int boot_int (pa_cons (pe_cmpR op_gt (pe_callB (call_lenK (K := K) rfl) (by rfl) T.b_len PySem.boot_len (pa_cons (pv 1) pa_nil)) pe_int (nomark _)) pa_nil)))) (nomark _))))), ?_⟩
    obtain ⟨pl, pz⟩ := parts_len 10 t
    have pm := parts_map 10 t
    have p0 := List.length_pos_iff.mpr (parts_ne 10 t)
    refine ⟨_, rfl, rfl, _, _, rfl, rfl, by decide +kernel, by rw [S_len]; omega, fun p hp => ?_⟩
    have ep : upd H p (.lst ((Txt.split (S t) (Str.ofString "\n")).map V.str)) p = some (.lst (wds (partsT 10 t))) := by
      rw [upd_same, show (Str.ofString "\n") = S [10] from by decide +kernel, pm, List.map_map]
      rfl
    have s1 : Same H (upd H p (.lst ((Txt.split (S t) (Str.ofString "\n")).map V.str))) := Same.new hp
    generalize upd H p (.lst ((Txt.split (S t) (Str.ofString "\n")).map V.str)) = H1 at ep s1
    clear pm
    generalize partsT 10 t = zs at pl pz ep p0
    refine ⟨_, rfl, p, rfl, ⟨_, SqL.of ep⟩, fun Dd hD => ?_⟩
    refine comp_listIf (K := K) (a := p) (xs := wds zs) (fun i H2 => Same H1 H2 ∧ ∃ ns : List Int, ns.length = i ∧ H2 Dd = some (.lst (ns.map V.int))) ⟨Same.new hD, [], rfl, upd_same⟩ (fun i H2 _ pr => SqL.of (pr.1 _ _ ep)) ?_ ?_
    · rintro i v H2 hv ⟨s2, ns, hnl, e2⟩
      obtain ⟨r, hr, rfl⟩ := wds_get hv
      have hi : i < zs.length := (List.getElem?_eq_some_iff.mp hr).1
      have hrl := pz r (List.mem_of_getElem? hr)
      refine ⟨_, rfl, _, rfl, by rw [S_len]; exact len_1000 (by omega), _, e2, ?_, s2.upd hD, ns ++ [((S r).length : Int)], ?_, ?_⟩
      · rw [List.length_map, hnl]; exact small1000 (by omega)
      · rw [List.length_append, hnl]; rfl
      · rw [upd_same, List.map_append]; rfl
    · rintro H2 ⟨s2, ns, hnl, e2⟩
      rw [wds_len] at hnl
      refine ⟨Dd, ns, rfl, SqL.of e2, by omega, fun m => ?_⟩
      refine ⟨_, rfl, p, _, rfl, .inl (SqL.of (s2 _ _ ep)), _, _, rfl, rfl, .inr ⟨_, rfl, ?_⟩⟩
      exact ⟨_, _, rfl, rfl, .inl ⟨by decide, by decide⟩, _, _, rfl, rfl, _, _, rfl, rfl, k _ H2 (s1.trans s2)⟩
theorem ok_law_heard {f : Addr} {fd : FuncData} (D : Df K mg "_law_heard" s_law_heard ["_law_text"] f fd) (T : Txt P w K mg a_CONTRARIES a_LETTERS a_MOST_LETTERS a_NO_LETTERS a_LetterError a_NoWord a_NoText a_NoAlphabet a_NoChange a_NoPaper a_TooMany a_NoRow f_NoText fd_NoText) (c_read_retelling : ClX P w K mg base "read_retelling" ["text"] 5 (spRdX a_NoText)) : Cl P w K mg base "_law_heard" ["_law_text"] 6 spWr := by
  obtain ⟨f_read_retelling, fd_read_retelling, G_read_retelling, m_read_retelling, k_read_retelling, b_read_retelling⟩ := c_read_retelling
  refine D.cl (D.F.ok sc_law_heard (fun vs H Q E h => ?_) (fun cdv A outer s H vs Q E hr h => ?_))
  · obtain ⟨t, rfl, _⟩ := h
    rfl
  · obtain ⟨t, rfl, hl, k, kR⟩ := h
    refine ⟨_, (pss_cons (ps_set (i := 1) sc_law_heard.nd rfl (Or.inl rfl) (pe_tup (pa_cons pe_str (pa_cons pe_int pa_nil))))
      (pss_cons (ps_tryK (K := K) (i := 2) rfl rfl rfl sc_law_heard.nd rfl rfl (by rfl) T.m_LetterError (fun pins xe EX hp => (pss_one (ps_set (i := 1) sc_law_heard.nd rfl (Or.inl rfl) (pe_tup (pa_cons pe_str (pa_cons (pe_callS G_read_retelling (hr.mono (by decide)) (by rfl) m_read_retelling k_read_retelling b_read_retelling .nil hp (pa_cons (pv 0) pa_nil)) pa_nil)))))) (fun a xe => (pss_cons (ps_set (i := 3) sc_law_heard.nd rfl (Or.inl rfl) (pe_callB (call_isXTK (K := K) rfl) (by rfl) T.b_isinstance boot_isinstance (pa_cons (pv 2) (pa_cons (pe_tup (pa_cons (pe_glob (v := .ref a_NoAlphabet) (by rfl) T.m_NoAlphabet rfl) (pa_cons (pe_glob (v := .ref a_NoChange) (by rfl) T.m_NoChange rfl) (pa_cons (pe_glob (v := .ref a_NoPaper) (by rfl) T.m_NoPaper rfl) (pa_cons (pe_glob (v := .ref a_NoRow) (by rfl) T.m_NoRow rfl) (pa_cons (pe_glob (v := .ref a_NoWord) (by rfl) T.m_NoWord rfl) (pa_cons (pe_glob (v := .ref a_TooMany) (by rfl) T.m_TooMany rfl) pa_nil))))))) pa_nil))))
      (pss_one (ps_if (PW.pt (pw_and (pt_val (pe_callB (call_isXK (K := K) rfl) (by rfl) T.b_isinstance boot_isinstance (pa_cons (pv 2) (pa_cons (pe_glob (v := .ref a_NoText) (by rfl) T.m_NoText rfl) pa_nil)))) (pw_and (pt_val (pe_callB (call_isXK (K := K) rfl) (by rfl) T.b_isinstance boot_isinstance (pa_cons (pv 2) (pa_cons (pe_ty (by rfl) T.b_ValueError (by first | rfl | decide +kernel)) pa_nil)))) (pw_and1 (pt_not (pt_val (pv 3))))))) (pss_one (ps_set (i := 1) sc_law_heard.nd rfl (Or.inl rfl) (pe_tup (pa_cons pe_str (pa_cons (pe_fldXK (K := K) rfl (pv 2) rfl) pa_nil))))) pss_nil)))))
      (pss_one (ps_ret (pv 1))))), ?_⟩
    refine ⟨len_1000 (by simp), fun p0 hp0 => ?_⟩
    have s0 : Same H (upd H p0 (.tup [.str (Str.ofString "else"), .int 0])) := Same.new hp0
    generalize upd H p0 (.tup [.str (Str.ofString "else"), .int 0]) = H0 at s0
    refine ⟨fun σ1 u d H1 => u = .ref a_NoText ∧ σ1 = [some (.str (S t)), some (.ref p0), none, none] ∧ Same H H1 ∧ ∃ i dx, firstX (partsT 10 t) = some i ∧ d = some dx ∧ H1 dx = some (.xd [("row", .int (i : Nat))]), ?_, ?_⟩
    · refine ⟨_, rfl, t, rfl, hl, fun hb p H1 s1 e1 => ⟨len_1000 (by simp), fun z hz => ⟨_, rfl, k hb z p _ ((s0.trans s1).upd' hz) upd_same ?_⟩⟩, fun i dx H1 hb s1 e1 => ⟨rfl, rfl, s0.trans s1, i, dx, hb, rfl, e1⟩⟩
      rw [upd_ne (ne_of_none e1 hz)]
      exact e1
    · rintro σ1 H1 a C d hB ⟨hC, rfl, s1, i, dx, hf, rfl, e1⟩
      obtain rfl : C = a_NoText := Value.ref.inj hC
      refine ⟨⟨_, T.x_NoText⟩, T.u_NoText, (fun d' e => by cases e; exact ⟨_, e1⟩), ?_⟩
      refine ⟨_, rfl, len_1000 (by simp), fun tp htp => ?_⟩
      have s2 : Same H1 (upd H1 tp (.tup [V.ref a_NoAlphabet, V.ref a_NoChange, V.ref a_NoPaper, V.ref a_NoRow, V.ref a_NoWord, V.ref a_TooMany])) := Same.new htp
      have e2 : upd H1 tp (.tup [V.ref a_NoAlphabet, V.ref a_NoChange, V.ref a_NoPaper, V.ref a_NoRow, V.ref a_NoWord, V.ref a_TooMany]) tp = some (.tup [V.ref a_NoAlphabet, V.ref a_NoChange, V.ref a_NoPaper, V.ref a_NoRow, V.ref a_NoWord, V.ref a_TooMany]) := upd_same
      generalize upd H1 tp (.tup [V.ref a_NoAlphabet, V.ref a_NoChange, V.ref a_NoPaper, V.ref a_NoRow, V.ref a_NoWord, V.ref a_TooMany]) = H2 at s2 e2
      have xr2 : XR H2 a C (some dx) := XR.ofB (s2 _ _ hB)
      have xd2 : ∀ d, some dx = some d → ∃ fs, H2 d = some (.xd fs) := fun d e => by cases e; exact ⟨_, s2 _ _ e1⟩
      have rv1 : Vals [V.ref a_NoAlphabet, V.ref a_NoChange, V.ref a_NoPaper, V.ref a_NoRow, V.ref a_NoWord, V.ref a_TooMany] [.ref a_NoAlphabet, .ref a_NoChange, .ref a_NoPaper, .ref a_NoRow, .ref a_NoWord, .ref a_TooMany] := (refs_vals [a_NoAlphabet, a_NoChange, a_NoPaper, a_NoRow, a_NoWord, a_TooMany]).1
      have rv2 : ∀ us, Vals [V.ref a_NoAlphabet, V.ref a_NoChange, V.ref a_NoPaper, V.ref a_NoRow, V.ref a_NoWord, V.ref a_TooMany] us → us = [.ref a_NoAlphabet, .ref a_NoChange, .ref a_NoPaper, .ref a_NoRow, .ref a_NoWord, .ref a_TooMany] := (refs_vals [a_NoAlphabet, a_NoChange, a_NoPaper, a_NoRow, a_NoWord, a_TooMany]).2
      refine ⟨a, C, _, tp, some dx, _, _, false, rfl, e2, rv1, rv2, xr2, xd2, T.x_NoText, T.is_NoText, T.k_else, ?_⟩
      refine ⟨_, rfl, a, C, _, some dx, _, _, true, rfl, rfl, xr2, xd2, T.x_NoText, T.is_NoText, T.k_this, _, rfl, iteT ?_⟩
      refine ⟨_, rfl, a, C, _, some dx, _, _, true, rfl, rfl, xr2, xd2, T.x_NoText, T.is_NoText, T.k_ve, _, rfl, iteT ?_⟩
      refine ⟨_, rfl, _, rfl, iteT ?_⟩
      refine ⟨_, rfl, a, C, _, dx, _, _, rfl, xr2, T.x_NoText, T.n_NoText, s2 _ _ e1, rfl, len_1000 (by simp), fun z hz => ?_⟩
      exact ⟨_, rfl, kR i z _ hf ((s1.trans s2).upd' hz) upd_same⟩
theorem ok_law_changed_row {f : Addr} {fd : FuncData} (D : Df K mg "_law_changed_row" s_law_changed_row ["_law_flow_here", "_law_row"] f fd) (T : Txt P w K mg a_CONTRARIES a_LETTERS a_MOST_LETTERS a_NO_LETTERS a_LetterError a_NoWord a_NoText a_NoAlphabet a_NoChange a_NoPaper a_TooMany a_NoRow f_NoText fd_NoText) (c_law_pick : Cl P w K mg base "_law_pick" ["_law_flow_here", "_law_many"] 1 spPick) (c_law_sign : Cl P w K mg base "_law_sign" ["_law_flow_here"] 2 spSignW) : Cl P w K mg base "_law_changed_row" ["_law_flow_here", "_law_row"] 3 spChR := by
  obtain ⟨f_law_pick, fd_law_pick, G_law_pick, m_law_pick, k_law_pick, b_law_pick⟩ := c_law_pick
  obtain ⟨f_law_sign, fd_law_sign, G_law_sign, m_law_sign, k_law_sign, b_law_sign⟩ := c_law_sign
  refine D.cl (D.F.ok sc_law_changed_row (fun vs H Q E h => ?_) (fun cdv A outer s H vs Q E hr h => ?_))
  · obtain ⟨fl, sc, x, rfl, _⟩ := h
    rfl
  · obtain ⟨fl, sc, x, rfl, hf, hx, k⟩ := h
    refine ⟨_, (pss_cons (ps_set (i := 2) sc_law_changed_row.nd rfl (Or.inl rfl) (pe_call G_law_pick (hr.mono (by decide)) (by rfl) m_law_pick k_law_pick b_law_pick .nil pass0 (pa_cons (pv 0) (pa_cons pe_int pa_nil))))
      (pss_cons (ps_set (i := 3) sc_law_changed_row.nd rfl (Or.inl rfl) (pe_call G_law_pick (hr.mono (by decide)) (by rfl) m_law_pick k_law_pick b_law_pick .nil pass0 (pa_cons (pv 0) (pa_cons (pe_op op_add (pe_callB call_len_str (by rfl) T.b_len PySem.boot_len (pa_cons (pv 1) pa_nil)) pe_int) pa_nil))))
      (pss_cons (ps_if (pt_cmpR op_eq (pv 2) pe_int (nomark _)) (pss_one (ps_ret (pe_op op_add_str (pe_slice sl_str (pv 1) po_none (po_some (pv 3))) (pe_slice sl_str (pv 1) (po_some (pe_op op_add (pv 3) pe_int)) po_none)))) pss_nil)
      (pss_cons (ps_if (pt_cmpR op_eq (pv 2) pe_int (nomark _)) (pss_one (ps_ret (pe_op op_add_str (pe_op op_add_str (pe_slice sl_str (pv 1) po_none (po_some (pv 3))) (pe_call G_law_sign (hr.mono (by decide)) (by rfl) m_law_sign k_law_sign b_law_sign .nil pass0 (pa_cons (pv 0) pa_nil))) (pe_slice sl_str (pv 1) (po_some (pv 3)) po_none)))) pss_nil)
      (pss_cons (ps_if (pt_cmpR op_eq (pv 2) pe_int (nomark _)) (pss_one (ps_ret (pe_op op_add_str (pe_op op_add_str (pe_slice sl_str (pv 1) po_none (po_some (pv 3))) (pe_call G_law_sign (hr.mono (by decide)) (by rfl) m_law_sign k_law_sign b_law_sign .nil pass0 (pa_cons (pv 0) pa_nil))) (pe_slice sl_str (pv 1) (po_some (pe_op op_add (pv 3) pe_int)) po_none)))) pss_nil)
      (pss_cons (ps_if (pt_cmpR op_eq (pv 2) pe_int (nomark _)) (pss_one (ps_ret (pe_op op_add_str (pe_ix ix_str pe_str (pe_call G_law_pick (hr.mono (by decide)) (by rfl) m_law_pick k_law_pick b_law_pick .nil pass0 (pa_cons (pv 0) (pa_cons pe_int pa_nil))) (fun _ _ => rfl)) (pe_slice sl_str (pv 1) (po_some pe_int) po_none)))) pss_nil)
      (pss_cons (ps_if (pt_cmpR op_eq (pv 2) pe_int (nomark _)) (pss_one (ps_ret (pe_op op_add_str (pe_op op_add_str (pv 1) (pe_bm0K (K := K) rfl PySem.F.plainAttrs_str PySem.F.slot_str_upper PySem.F.type_str_upper mt_upper (pe_slice sl_str (pv 1) (po_some (pe_un un_neg pe_int)) po_none))) (pe_bm0K (K := K) rfl PySem.F.plainAttrs_str PySem.F.slot_str_lower PySem.F.type_str_lower mt_lower (pe_slice sl_str (pv 1) (po_some (pe_un un_neg pe_int)) po_none))))) pss_nil)
      (pss_cons (ps_if (pt_cmpR op_eq (pv 2) pe_int (nomark _)) (pss_one (ps_ret (pe_op op_add_str (pv 1) (pe_ix ix_str pe_str (pe_call G_law_pick (hr.mono (by decide)) (by rfl) m_law_pick k_law_pick b_law_pick .nil pass0 (pa_cons (pv 0) (pa_cons pe_int pa_nil))) (fun _ _ => rfl))))) pss_nil)
      (pss_cons (ps_if (pt_cmpR op_eq (pv 2) pe_int (nomark _)) (pss_one (ps_ret (pe_ix (ix_listK (K := K) rfl) (pe_lst (pa_cons (pe_op op_add_str pe_str (pv 1)) (pa_tok (peb_addc op_add_str (pv 1)) (paT_cons (peT_repl1 (pv 1)) (paT_one (peT_repl (pv 1))))))) (pe_call G_law_pick (hr.mono (by decide)) (by rfl) m_law_pick k_law_pick b_law_pick .nil pass0 (pa_cons (pv 0) (pa_cons pe_int pa_nil))) (fun _ _ => rfl)))) pss_nil)
      (pss_ifT (ptb_cmp op_eq (pv 2) (nomark _)) (pss_one (ps_ret (pe_op op_add_str (pe_slice sl_str (pv 1) po_none (po_some pe_int)) (pe_ix (ix_listK (K := K) rfl) (pe_lst (pa_cons pe_str (pa_cons pe_str (pa_cons pe_str (pa_cons pe_str (pa_cons pe_str (pa_cons pe_str pa_nil))))))) (pe_call G_law_pick (hr.mono (by decide)) (by rfl) m_law_pick k_law_pick b_law_pick .nil pass0 (pa_cons (pv 0) (pa_cons pe_int pa_nil))) (fun _ _ => rfl))))) (pssT_ret (peT_repl4 (pv 1) (pe_call G_law_pick (hr.mono (by decide)) (by rfl) m_law_pick k_law_pick b_law_pick .nil pass0 (pa_cons (pv 0) (pa_cons pe_int pa_nil))) (fun _ _ => rfl))))))))))))), ?_⟩
    refine ⟨_, rfl, fl, sc, 9, rfl, hf, by decide, by decide, fun d H1 d0 d1 f1 k1 => ?_⟩
    refine ⟨_, rfl, _, rfl, _, rfl, by rw [S_len]; exact len_1000 (by omega), _, _, rfl, rfl, fl, sc, _, rfl, f1, by rw [S_len]; omega, by rw [S_len]; omega, fun g H3 g0 g1 f3 k2 => ?_⟩
    have k13 := k1.trans k2
    have tl : (x.take g.toNat).length ≤ x.length := by rw [List.length_take]; omega
    have tdl : (x.take g.toNat).length + (x.drop g.toNat).length = x.length := by rw [List.length_take, List.length_drop]; omega
    have dl1 : (x.drop (g + 1).toNat).length ≤ (x.drop g.toNat).length := by rw [List.length_drop, List.length_drop]; omega
    have fx : (S x).length ≤ sizeLine := by rw [S_len]; exact len_1000 (by omega)
    have eT : Txt.slice (S x) none (some g) = S (x.take g.toNat) := slice_toA _ g0
    have eD : Txt.slice (S x) (some g) none = S (x.drop g.toNat) := slice_fromA _ g0
    have eD1 : Txt.slice (S x) (some (g + 1)) none = S (x.drop (g + 1).toNat) := slice_fromA _ (by omega)
    generalize x.take g.toNat = x1 at tl tdl eT
    generalize x.drop g.toNat = x2 at tdl dl1 eD
    generalize x.drop (g + 1).toNat = x3 at dl1 eD1
    refine ⟨_, rfl, rfl, _, rfl, ite2 (fun e => ?_) (fun e => ?_)⟩
    · refine ⟨_, rfl, _, rfl, _, rfl, _, rfl, fx, ?_⟩
      rw [eT]
      refine ⟨_, rfl, _, rfl, _, _, rfl, rfl, _, rfl, _, rfl, fx, ?_⟩
      rw [eD1]
      refine ⟨_, _, rfl, rfl, by rw [S_len, S_len]; exact len_1000 (by omega), ?_⟩
      rw [S_app]
      exact k _ H3 (by rw [List.length_append]; omega) f3 k13
    refine ⟨_, rfl, rfl, _, rfl, ite2 (fun e => ?_) (fun e => ?_)⟩
    · refine ⟨_, rfl, _, rfl, _, rfl, _, rfl, fx, _, rfl, fl, sc, rfl, f3, fun c2 H4 f4 k4 => ?_⟩
      rw [eT]
      refine ⟨_, _, rfl, rfl, by rw [S_len, S_len]; exact len_1000 (by simp; omega), ?_⟩
      rw [S_app]
      refine ⟨_, rfl, _, rfl, _, rfl, _, rfl, fx, ?_⟩
      rw [eD]
      refine ⟨_, _, rfl, rfl, by rw [S_len, S_len]; exact len_1000 (by simp; omega), ?_⟩
      rw [S_app]
      exact k _ H4 (by simp; omega) f4 (k13.trans k4)
    refine ⟨_, rfl, rfl, _, rfl, ite2 (fun e => ?_) (fun e => ?_)⟩
    · refine ⟨_, rfl, _, rfl, _, rfl, _, rfl, fx, _, rfl, fl, sc, rfl, f3, fun c2 H4 f4 k4 => ?_⟩
      rw [eT]
      refine ⟨_, _, rfl, rfl, by rw [S_len, S_len]; exact len_1000 (by simp; omega), ?_⟩
      rw [S_app]
      refine ⟨_, rfl, _, rfl, _, _, rfl, rfl, _, rfl, _, rfl, fx, ?_⟩
      rw [eD1]
      refine ⟨_, _, rfl, rfl, by rw [S_len, S_len]; exact len_1000 (by simp; omega), ?_⟩
      rw [S_app]
      exact k _ H4 (by simp; omega) f4 (k13.trans k4)
    refine ⟨_, rfl, rfl, _, rfl, ite2 (fun e => ?_) (fun e => ?_)⟩
    · refine ⟨_, rfl, fl, sc, 10, rfl, f3, by decide, by decide, fun b H4 b0 b1 f4 k4 => ?_⟩
      obtain ⟨c, hc⟩ := at_ex (l := (Str.ofString "abcdeABCD.").cps.toList) b0 (by rw [show ((Str.ofString "abcdeABCD.").cps.toList.length : Nat) = 10 from by decide +kernel]; exact b1)
      refine ⟨_, _, c, rfl, rfl, by decide +kernel, hc, ?_⟩
      refine ⟨_, rfl, _, rfl, _, rfl, fx, ?_⟩
      rw [slice_fromA _ (by decide)]
      have dl : (x.drop (1 : Int).toNat).length ≤ x.length := by rw [List.length_drop]; omega
      generalize x.drop (1 : Int).toNat = x4 at dl
      refine ⟨S [c], _, rfl, rfl, by rw [S_len, S_len]; exact len_1000 (by simp; omega), ?_⟩
      rw [S_app]
      exact k _ H4 (by simp; omega) f4 (k13.trans k4)
    refine ⟨_, rfl, rfl, _, rfl, ite2 (fun e => ?_) (fun e => ?_)⟩
    · obtain ⟨y, ey, yl⟩ := slice_last x
      refine ⟨_, rfl, _, rfl, _, rfl, _, rfl, _, rfl, fx, ?_⟩
      rw [ey]
      refine ⟨rfl, _, rfl, rfl, fits_le (upper_le y) (by omega), ?_⟩
      have ul := upper_le y
      rw [S_toList (Txt.upper (S y))]
      rw [S_toList (Txt.upper (S y)), S_len] at ul
      generalize (Txt.upper (S y)).cps.toList = yu at ul
      refine ⟨_, _, rfl, rfl, by rw [S_len, S_len]; exact len_1000 (by omega), ?_⟩
      rw [S_app]
      refine ⟨_, rfl, _, rfl, _, rfl, _, rfl, fx, ?_⟩
      rw [ey]
      refine ⟨rfl, _, rfl, rfl, fits_le (lower_le y) (by omega), ?_⟩
      have ll := lower_le y
      rw [S_toList (Txt.lower (S y))]
      rw [S_toList (Txt.lower (S y)), S_len] at ll
      generalize (Txt.lower (S y)).cps.toList = yl2 at ll
      refine ⟨_, _, rfl, rfl, by rw [S_len, S_len]; exact len_1000 (by simp; omega), ?_⟩
      rw [S_app]
      exact k _ H3 (by simp; omega) f3 k13
    refine ⟨_, rfl, rfl, _, rfl, ite2 (fun e => ?_) (fun e => ?_)⟩
    · refine ⟨_, rfl, _, rfl, fl, sc, 11, rfl, f3, by decide, by decide, fun b H4 b0 b1 f4 k4 => ?_⟩
      obtain ⟨c, hc⟩ := at_ex (l := (Str.ofString "aAbBcCdDe.=").cps.toList) b0 (by rw [show ((Str.ofString "aAbBcCdDe.=").cps.toList.length : Nat) = 11 from by decide +kernel]; exact b1)
      refine ⟨_, _, c, rfl, rfl, by decide +kernel, hc, ?_⟩
      refine ⟨_, S [c], rfl, rfl, by rw [S_len, S_len]; exact len_1000 (by simp; omega), ?_⟩
      rw [S_app]
      exact k _ H4 (by simp; omega) f4 (k13.trans k4)
    refine ⟨_, rfl, rfl, _, rfl, ite2 (fun e => ?_) (fun e => ?_)⟩
    · have l1 : (Str.ofString " ").length = 1 := by decide +kernel
      have l2 : (Str.ofString "  ").length = 2 := by decide +kernel
      have l3 : (Str.ofString "=").length = 1 := by decide +kernel
      have lt := S_len x
      have rl := repl_len (S x) (Str.ofString " = ") (Str.ofString "=")
      refine ⟨_, rfl, _, _, rfl, rfl, len_1000 (by omega), _, rfl, _, _, rfl, rfl, len_1000 (by omega), _, rfl, _, rfl, by decide +kernel, by rw [l2, lt]; omega, fun w6 hw6 => ?_⟩
      refine ⟨_, rfl, _, rfl, by decide +kernel, by rw [l3, lt]; omega, len_1000 (by simp), fun L hL => ?_⟩
      have hzs : ∀ z ∈ [(Str.ofString " " ++ S x), (S x ++ Str.ofString " "), w6, (Txt.replace (S x) (Str.ofString " = ") (Str.ofString "="))], z.length ≤ 2 * x.length + 10 := by
        intro z hz
        simp only [List.mem_cons, List.not_mem_nil, or_false] at hz
        rcases hz with rfl | rfl | rfl | rfl
        · rw [strLen_append]; omega
        · rw [strLen_append]; omega
        · omega
        · rw [l3, lt] at rl; omega
      have s5 : Same H3 (upd H3 L (.lst [V.str (Str.ofString " " ++ S x), V.str (S x ++ Str.ofString " "), V.str w6, V.str (Txt.replace (S x) (Str.ofString " = ") (Str.ofString "="))])) := Same.new hL
      have e5 : upd H3 L (.lst [V.str (Str.ofString " " ++ S x), V.str (S x ++ Str.ofString " "), V.str w6, V.str (Txt.replace (S x) (Str.ofString " = ") (Str.ofString "="))]) L = some (.lst ([(Str.ofString " " ++ S x), (S x ++ Str.ofString " "), w6, (Txt.replace (S x) (Str.ofString " = ") (Str.ofString "="))].map V.str)) := upd_same
      have f5 := f3.same s5
      have hLf : L ≠ fl := f3.ne hL
      generalize upd H3 L (.lst [V.str (Str.ofString " " ++ S x), V.str (S x ++ Str.ofString " "), V.str w6, V.str (Txt.replace (S x) (Str.ofString " = ") (Str.ofString "="))]) = H5 at s5 e5 f5
      have hzN : [(Str.ofString " " ++ S x), (S x ++ Str.ofString " "), w6, (Txt.replace (S x) (Str.ofString " = ") (Str.ofString "="))].length = 4 := rfl
      generalize [(Str.ofString " " ++ S x), (S x ++ Str.ofString " "), w6, (Txt.replace (S x) (Str.ofString " = ") (Str.ofString "="))] = ss at hzs hzN e5
      refine ⟨_, rfl, fl, sc, 4, rfl, f5, by decide, by decide, fun b H6 b0 b1 f6 k6 => ?_⟩
      obtain ⟨z, hz⟩ : ∃ z, ss[b.toNat]? = some z := ⟨_, List.getElem?_eq_getElem (by omega)⟩
      refine ⟨L, _, _, .str z, rfl, rfl, SqL.of (k6 _ _ e5 hLf), atI_of b0 (by rw [List.getElem?_map, hz]; rfl), ?_⟩
      have hzl := hzs z (List.mem_of_getElem? hz)
      rw [S_of z]
      exact k _ H6 (by rw [Array.length_toList]; exact hzl) f6 ((k13.trans s5.kp).trans k6)
    refine ⟨_, rfl, rfl, _, rfl, ite2 (fun e => ?_) (fun e => ?_)⟩
    · refine ⟨_, rfl, _, rfl, _, rfl, fx, ?_⟩
      rw [slice_toA _ (by decide)]
      have dl : (x.take (4 : Int).toNat).length ≤ x.length := by rw [List.length_take]; omega
      generalize x.take (4 : Int).toNat = x4 at dl
      refine ⟨len_1000 (by simp), fun L hL => ?_⟩
      have hzs : ∀ z ∈ [(Str.ofString ""), (Str.ofString "."), (Str.ofString ".."), (Str.ofString "aA"), (Str.ofString ". a"), (Str.ofString "e")], z.length ≤ 3 := by
        intro z hz
        simp only [List.mem_cons, List.not_mem_nil, or_false] at hz
        rcases hz with rfl | rfl | rfl | rfl | rfl | rfl <;> decide +kernel
      have s5 : Same H3 (upd H3 L (.lst [V.str (Str.ofString ""), V.str (Str.ofString "."), V.str (Str.ofString ".."), V.str (Str.ofString "aA"), V.str (Str.ofString ". a"), V.str (Str.ofString "e")])) := Same.new hL
      have e5 : upd H3 L (.lst [V.str (Str.ofString ""), V.str (Str.ofString "."), V.str (Str.ofString ".."), V.str (Str.ofString "aA"), V.str (Str.ofString ". a"), V.str (Str.ofString "e")]) L = some (.lst ([(Str.ofString ""), (Str.ofString "."), (Str.ofString ".."), (Str.ofString "aA"), (Str.ofString ". a"), (Str.ofString "e")].map V.str)) := upd_same
      have f5 := f3.same s5
      have hLf : L ≠ fl := f3.ne hL
      generalize upd H3 L (.lst [V.str (Str.ofString ""), V.str (Str.ofString "."), V.str (Str.ofString ".."), V.str (Str.ofString "aA"), V.str (Str.ofString ". a"), V.str (Str.ofString "e")]) = H5 at s5 e5 f5
      have hzN : [(Str.ofString ""), (Str.ofString "."), (Str.ofString ".."), (Str.ofString "aA"), (Str.ofString ". a"), (Str.ofString "e")].length = 6 := rfl
      generalize [(Str.ofString ""), (Str.ofString "."), (Str.ofString ".."), (Str.ofString "aA"), (Str.ofString ". a"), (Str.ofString "e")] = ss at hzs hzN e5
      refine ⟨_, rfl, fl, sc, 6, rfl, f5, by decide, by decide, fun b H6 b0 b1 f6 k6 => ?_⟩
      obtain ⟨z, hz⟩ : ∃ z, ss[b.toNat]? = some z := ⟨_, List.getElem?_eq_getElem (by omega)⟩
      refine ⟨L, _, _, .str z, rfl, rfl, SqL.of (k6 _ _ e5 hLf), atI_of b0 (by rw [List.getElem?_map, hz]; rfl), ?_⟩
      have hzl := hzs z (List.mem_of_getElem? hz)
      refine ⟨_, _, rfl, rfl, by rw [S_len]; exact len_1000 (by omega), ?_⟩
      rw [S_of z, S_app]
      exact k _ H6 (by have : z.cps.toList.length = z.length := Array.length_toList; rw [List.length_append]; omega) f6 ((k13.trans s5.kp).trans k6)
    refine ⟨_, rfl, _, rfl, by rw [S_len]; omega, ?_, _, rfl, fl, sc, 4, rfl, f3, by decide, by decide, fun b H4 b0 b1 f4 k4 => ⟨b, rfl, b0, b1, fun w' hw' => ?_⟩⟩
    · intro z hz
      simp only [List.mem_cons, List.not_mem_nil, or_false] at hz
      rcases hz with rfl | rfl | rfl | rfl <;> exact ⟨by decide +kernel, by decide +kernel⟩
    · have hS := S_len x
      have hW : w'.cps.toList.length = w'.length := Array.length_toList
      rw [S_of w']
      exact k _ H4 (by omega) f4 (k13.trans k4)
theorem ok_law_long {f : Addr} {fd : FuncData} (D : Df K mg "_law_long" s_law_long ["_law_flow_here", "_law_good"] f fd) (T : Txt P w K mg a_CONTRARIES a_LETTERS a_MOST_LETTERS a_NO_LETTERS a_LetterError a_NoWord a_NoText a_NoAlphabet a_NoChange a_NoPaper a_TooMany a_NoRow f_NoText fd_NoText) (c_law_pick : Cl P w K mg base "_law_pick" ["_law_flow_here", "_law_many"] 1 spPick) : Cl P w K mg base "_law_long" ["_law_flow_here", "_law_good"] 2 spLong := by
  obtain ⟨f_law_pick, fd_law_pick, G_law_pick, m_law_pick, k_law_pick, b_law_pick⟩ := c_law_pick
  refine D.cl (D.F.ok sc_law_long (fun vs H Q E h => ?_) (fun cdv A outer s H vs Q E hr h => ?_))
  · obtain ⟨fl, sc, t, rfl, _⟩ := h
    rfl
  · obtain ⟨fl, sc, t, rfl, hf, ht, k⟩ := h
    refine ⟨_, (pss_cons (ps_set (i := 2) sc_law_long.nd rfl (Or.inl rfl) (pe_call G_law_pick (hr.mono (by decide)) (by rfl) m_law_pick k_law_pick b_law_pick .nil pass0 (pa_cons (pv 0) (pa_cons pe_int pa_nil))))
      (pss_cons (ps_set (i := 3) sc_law_long.nd rfl (Or.inl rfl) (pe_call G_law_pick (hr.mono (by decide)) (by rfl) m_law_pick k_law_pick b_law_pick .nil pass0 (pa_cons (pv 0) (pa_cons pe_int pa_nil))))
      (pss_cons (ps_if (pt_cmpR op_eq (pv 3) pe_int (nomark _)) (pss_one (ps_ret (pe_slice sl_str (pe_op op_mul_str (pe_op op_add_str (pv 1) pe_str) pe_int) po_none (po_some (pe_op op_add (pv 2) pe_int))))) pss_nil)
      (pss_cons (ps_if (pt_cmpR op_eq (pv 3) pe_int (nomark _)) (pss_one (ps_ret (pe_op op_add_str (pe_op op_add_str (pv 1) (pe_op op_mul_str pe_str (pe_op op_sub (pv 2) pe_int))) pe_str))) pss_nil)
      (pss_cons (ps_if (pt_cmpR op_eq (pv 3) pe_int (nomark _)) (pss_one (ps_ret (pe_op op_add_str (pe_op op_add_str pe_str (pe_op op_mul_str pe_str (pv 2))) pe_str))) pss_nil)
      (pss_cons (ps_if (pt_cmpR op_eq (pv 3) pe_int (nomark _)) (pss_one (ps_ret (pe_op op_add_str (pv 1) (pe_op op_mul_str pe_str (pe_op op_sub (pv 2) pe_int))))) pss_nil)
      (pss_one (ps_ret (pe_op op_mul_str pe_str (pv 2)))))))))), ?_⟩
    have lt := S_len t
    have l1 : (Str.ofString "\n").length = 1 := by decide +kernel
    have l2 : (Str.ofString " ").length = 1 := by decide +kernel
    have l3 : (Str.ofString ".").length = 1 := by decide +kernel
    have l4 : (Str.ofString "a = ").length = 4 := by decide +kernel
    have l5 : (Str.ofString "a").length = 1 := by decide +kernel
    have l6 : (Str.ofString "A").length = 1 := by decide +kernel
    have fin : ∀ (z : Str) (H' : Hp), z.length ≤ 890 → IsFl H' fl sc → Kp fl H H' → Q (.str z) H' := fun z H' hz f' k' => by
      rw [S_of z]
      exact k _ H' (by have : z.cps.toList.length = z.length := Array.length_toList; omega) f' k'
    refine ⟨_, rfl, fl, sc, 780, rfl, hf, by decide, by decide, fun m H1 m0 m1 f1 k1 => ?_⟩
    refine ⟨_, rfl, fl, sc, 5, rfl, f1, by decide, by decide, fun d H2 d0 d1 f2 k2 => ?_⟩
    have k12 := k1.trans k2
    refine ⟨_, rfl, rfl, _, rfl, ite2 (fun e => ?_) (fun e => ?_)⟩
    · refine ⟨_, rfl, _, _, rfl, rfl, len_1000 (by omega), ?_⟩
      have hm := mul_len (S t ++ Str.ofString "\n") 200
      have hz : (S t ++ Str.ofString "\n").length ≤ 61 := by rw [strLen_append]; omega
      refine ⟨_, _, rfl, rfl, mul_okB (by omega) (by decide) (by decide), ?_⟩
      have hm2 : (Txt.mul (S t ++ Str.ofString "\n") 200).length ≤ 12200 := Nat.le_trans hm (show _ * 200 ≤ 61 * 200 from Nat.mul_le_mul_right 200 hz)
      refine ⟨_, rfl, _, _, rfl, rfl, _, rfl, _, rfl, len_1000 (by omega), ?_⟩
      rw [S_of (Txt.mul (S t ++ Str.ofString "\n") 200), slice_toA _ (by omega)]
      exact fin _ H2 (by rw [S_len, List.length_take]; omega) f2 k12
    refine ⟨_, rfl, rfl, _, rfl, ite2 (fun e => ?_) (fun e => ?_)⟩
    · have hm := mul_len (Str.ofString " ") (m - 60)
      rw [l2] at hm
      refine ⟨_, rfl, _, rfl, _, _, rfl, rfl, _, _, rfl, rfl, mul_okB (by omega) (by omega) (by omega), _, _, rfl, rfl, len_1000 (by omega), _, _, rfl, rfl, len_1000 (by rw [strLen_append]; omega), ?_⟩
      exact fin _ H2 (by rw [strLen_append, strLen_append]; omega) f2 k12
    refine ⟨_, rfl, rfl, _, rfl, ite2 (fun e => ?_) (fun e => ?_)⟩
    · have hm := mul_len (Str.ofString "a") m
      rw [l5] at hm
      refine ⟨_, rfl, _, _, rfl, rfl, mul_okB (by omega) (by omega) (by omega), _, _, rfl, rfl, len_1000 (by omega), _, _, rfl, rfl, len_1000 (by rw [strLen_append]; omega), ?_⟩
      exact fin _ H2 (by rw [strLen_append, strLen_append]; omega) f2 k12
    refine ⟨_, rfl, rfl, _, rfl, ite2 (fun e => ?_) (fun e => ?_)⟩
    · have hm := mul_len (Str.ofString "\n") (m - 60)
      rw [l1] at hm
      refine ⟨_, rfl, _, rfl, _, _, rfl, rfl, _, _, rfl, rfl, mul_okB (by omega) (by omega) (by omega), _, _, rfl, rfl, len_1000 (by omega), ?_⟩
      exact fin _ H2 (by rw [strLen_append]; omega) f2 k12
    · have hm := mul_len (Str.ofString " ") m
      rw [l2] at hm
      refine ⟨_, rfl, _, _, rfl, rfl, mul_okB (by omega) (by omega) (by omega), ?_⟩
      exact fin _ H2 (by omega) f2 k12
theorem ok_law_changed {f : Addr} {fd : FuncData} (D : Df K mg "_law_changed" s_law_changed ["_law_flow_here", "_law_text"] f fd) (T : Txt P w K mg a_CONTRARIES a_LETTERS a_MOST_LETTERS a_NO_LETTERS a_LetterError a_NoWord a_NoText a_NoAlphabet a_NoChange a_NoPaper a_TooMany a_NoRow f_NoText fd_NoText) (c_law_pick : Cl P w K mg base "_law_pick" ["_law_flow_here", "_law_many"] 1 spPick) (c_law_changed_row : Cl P w K mg base "_law_changed_row" ["_law_flow_here", "_law_row"] 3 spChR) : Cl P w K mg base "_law_changed" ["_law_flow_here", "_law_text"] 4 spChT := by
  obtain ⟨f_law_pick, fd_law_pick, G_law_pick, m_law_pick, k_law_pick, b_law_pick⟩ := c_law_pick
  obtain ⟨f_law_changed_row, fd_law_changed_row, G_law_changed_row, m_law_changed_row, k_law_changed_row, b_law_changed_row⟩ := c_law_changed_row
  refine D.cl (D.F.ok sc_law_changed (fun vs H Q E h => ?_) (fun cdv A outer s H vs Q E hr h => ?_))
  · obtain ⟨fl, sc, t, rfl, _⟩ := h
    rfl
  · obtain ⟨fl, sc, t, rfl, hf, ht, k⟩ := h
    refine ⟨_, (pss_cons (ps_set (i := 2) sc_law_changed.nd rfl (Or.inl rfl) (pe_bmK (K := K) rfl PySem.F.plainAttrs_str PySem.F.slot_str_split PySem.F.type_str_split mt_split (pv 1) (pa_cons pe_str pa_nil)))
      (pss_cons (ps_set (i := 3) sc_law_changed.nd rfl (Or.inl rfl) (pe_call G_law_pick (hr.mono (by decide)) (by rfl) m_law_pick k_law_pick b_law_pick .nil pass0 (pa_cons (pv 0) (pa_cons (pe_callB (call_lenK (K := K) rfl) (by rfl) T.b_len PySem.boot_len (pa_cons (pv 2) pa_nil)) pa_nil))))
      (pss_cons (ps_set (i := 4) sc_law_changed.nd rfl (Or.inl rfl) (pe_call G_law_pick (hr.mono (by decide)) (by rfl) m_law_pick k_law_pick b_law_pick .nil pass0 (pa_cons (pv 0) (pa_cons (pe_callB (call_lenK (K := K) rfl) (by rfl) T.b_len PySem.boot_len (pa_cons (pv 2) pa_nil)) pa_nil))))
      (pss_cons (ps_set (i := 5) sc_law_changed.nd rfl (Or.inl rfl) (pe_call G_law_pick (hr.mono (by decide)) (by rfl) m_law_pick k_law_pick b_law_pick .nil pass0 (pa_cons (pv 0) (pa_cons pe_int pa_nil))))
      (pss_mid (ps_if (pt_cmpR op_eq (pv 5) pe_int (nomark _)) (pss_one (ps_set (i := 2) sc_law_changed.nd rfl (Or.inl rfl) (pe_op op_cat (pe_slice (sl_listK (K := K) rfl) (pv 2) po_none (po_some (pv 3))) (pe_slice (sl_listK (K := K) rfl) (pv 2) (po_some (pe_op op_add (pv 3) pe_int)) po_none)))) (pss_one (ps_if (pt_cmpR op_eq (pv 5) pe_int (nomark _)) (pss_one (ps_set (i := 2) sc_law_changed.nd rfl (Or.inl rfl) (pe_op op_cat (pe_slice (sl_listK (K := K) rfl) (pv 2) po_none (po_some (pe_op op_add (pv 3) pe_int))) (pe_slice (sl_listK (K := K) rfl) (pv 2) (po_some (pv 3)) po_none)))) (pss_one (ps_if (pt_cmpR op_eq (pv 5) pe_int (nomark _)) (pss_cons (ps_set (i := 6) sc_law_changed.nd rfl (Or.inl rfl) (pe_ix (ix_listK (K := K) rfl) (pv 2) (pv 3) (fun _ _ => rfl)))
      (pss_cons (ps_asg (pe_ix (ix_listK (K := K) rfl) (pv 2) (pv 4) (fun _ _ => rfl)) (pg_sub (pv 2) (pv 3) set_list))
      (pss_one (ps_asg (pv 6) (pg_sub (pv 2) (pv 4) set_list))))) (pss_one (ps_if (pt_cmpR op_eq (pv 5) pe_int (nomark _)) (pss_one (ps_set (i := 2) sc_law_changed.nd rfl (Or.inl rfl) (pe_op op_cat (pe_op op_cat (pe_slice (sl_listK (K := K) rfl) (pv 2) po_none (po_some (pv 3))) (pe_lst (pa_cons (pe_ix (ix_listK (K := K) rfl) (pe_lst (pa_cons pe_str (pa_cons pe_str (pa_cons pe_str pa_nil)))) (pe_call G_law_pick (hr.mono (by decide)) (by rfl) m_law_pick k_law_pick b_law_pick .nil pass0 (pa_cons (pv 0) (pa_cons pe_int pa_nil))) (fun _ _ => rfl)) pa_nil))) (pe_slice (sl_listK (K := K) rfl) (pv 2) (po_some (pv 3)) po_none)))) (pss_one (ps_if (pt_cmpR op_eq (pv 5) pe_int (nomark _)) (pss_one (ps_set (i := 2) sc_law_changed.nd rfl (Or.inl rfl) (pe_op op_cat (pv 2) (pe_lst (pa_cons (pe_ix (ix_listK (K := K) rfl) (pe_lst (pa_cons pe_str (pa_cons pe_str (pa_cons pe_str (pa_cons pe_str pa_nil))))) (pe_call G_law_pick (hr.mono (by decide)) (by rfl) m_law_pick k_law_pick b_law_pick .nil pass0 (pa_cons (pv 0) (pa_cons pe_int pa_nil))) (fun _ _ => rfl)) pa_nil))))) (pss_one (ps_asg (pe_call G_law_changed_row (hr.mono (by decide)) (by rfl) m_law_changed_row k_law_changed_row b_law_changed_row .nil pass0 (pa_cons (pv 0) (pa_cons (pe_ix (ix_listK (K := K) rfl) (pv 2) (pv 3) (fun _ _ => rfl)) pa_nil))) (pg_sub (pv 2) (pv 3) set_list))))))))))))
      (pss_one (ps_ret (pe_bmK (K := K) rfl PySem.F.plainAttrs_str PySem.F.slot_str_join PySem.F.type_str_join (mt_joinK (K := K) rfl) pe_str (pa_cons (pv 2) pa_nil))))))))), ?_⟩
    have pm := parts_map 10 t
    have pe := inter_lenE 10 (parts_ne 10 t)
    rw [parts_inter] at pe
    have p0 := List.length_pos_iff.mpr (parts_ne 10 t)
    obtain ⟨pl, pz⟩ := parts_len 10 t
    refine ⟨_, rfl, rfl, _, _, rfl, rfl, by decide +kernel, by rw [S_len]; omega, fun p hp => ?_⟩
    have ep : upd H p (.lst ((Txt.split (S t) (Str.ofString "\n")).map V.str)) p = some (.lst (wds (partsT 10 t))) := by
      rw [upd_same, show (Str.ofString "\n") = S [10] from by decide +kernel, pm, List.map_map]
      rfl
    have s1 : Same H (upd H p (.lst ((Txt.split (S t) (Str.ofString "\n")).map V.str))) := Same.new hp
    have hpf : p ≠ fl := hf.ne hp
    have hps : p ≠ sc := hf.ne2 hp
    generalize upd H p (.lst ((Txt.split (S t) (Str.ofString "\n")).map V.str)) = H1 at ep s1
    clear pm
    generalize partsT 10 t = zs at pe p0 pl pz ep
    refine ⟨_, rfl, _, rfl, p, _, rfl, .inl (SqL.of ep), fl, sc, _, rfl, hf.same s1, by rw [wds_len]; omega, by rw [wds_len]; omega, fun g H2 g0 g1 f2 k2 => ?_⟩
    rw [wds_len] at g1
    have e2 := k2 _ _ ep hpf
    refine ⟨_, rfl, _, rfl, p, _, rfl, .inl (SqL.of e2), fl, sc, _, rfl, f2, by rw [wds_len]; omega, by rw [wds_len]; omega, fun g' H2' g0' g1' f2' k2' => ?_⟩
    rw [wds_len] at g1'
    have e2' := k2' _ _ e2 hpf
    refine ⟨_, rfl, fl, sc, 12, rfl, f2', by decide, by decide, fun d H3 d0 d1 f3 k3 => ?_⟩
    have e3 := k3 _ _ e2' hpf
    have k13 := ((s1.kp.trans k2).trans k2').trans k3
    obtain ⟨m, rfl⟩ : ∃ m : Nat, g = (m : Int) := ⟨g.toNat, by omega⟩
    obtain ⟨m', rfl⟩ : ∃ m : Nat, g' = (m : Int) := ⟨g'.toNat, by omega⟩
    have hm : m < zs.length := by omega
    have hm' : m' < zs.length := by omega
    obtain ⟨x, hx⟩ : ∃ x, zs[m]? = some x := ⟨_, List.getElem?_eq_getElem hm⟩
    obtain ⟨x', hx'⟩ : ∃ x, zs[m']? = some x := ⟨_, List.getElem?_eq_getElem hm'⟩
    have hxl := mem_sum (List.mem_of_getElem? hx)
    have hxl' := mem_sum (List.mem_of_getElem? hx')
    have hcut := tsum_cut zs m
    have hcut1 := tsum_cut zs (m + 1)
    have m1 : ((m : Nat) : Int) + 1 = ((m + 1 : Nat) : Int) := by omega
    have c1 : cutV (wds zs) none (some (((m : Nat) : Int) + 1)) = wds (zs.take (m + 1)) := by rw [m1, cut_to]
    have c2 : cutV (wds zs) (some ((m : Nat) : Int)) none = wds (zs.drop m) := cut_from zs m
    have c3 : cutV (wds zs) none (some ((m : Nat) : Int)) = wds (zs.take m) := cut_to zs m
    have c4 : cutV (wds zs) (some (((m : Nat) : Int) + 1)) none = wds (zs.drop (m + 1)) := by rw [m1, cut_from]
    refine ⟨fun σ' H' => ∃ (l : Addr) (ys : List (List Nat)) (v6 : Option V), σ' = [some (.ref fl), some (.str (S t)), some (.ref l), some (.int (m : Nat)), some (.int (m' : Nat)), some (.int d), v6] ∧ H' l = some (.lst (wds ys)) ∧ (ys.map List.length).sum + ys.length ≤ 3 * t.length + 20 ∧ IsFl H' fl sc ∧ Kp fl H H', ?_, ?_⟩
    · refine ⟨_, rfl, rfl, _, rfl, ite2 (fun q => ?_) (fun q => ?_)⟩
      · refine ⟨_, rfl, _, rfl, _, rfl, p, _, rfl, SqL.of e3, fun q1 hq1 => ?_⟩
        have s4 : Same H3 (upd H3 q1 (.lst (cutV (wds zs) none (some ((m : Nat) : Int))))) := Same.new hq1
        have e4 : upd H3 q1 (.lst (cutV (wds zs) none (some ((m : Nat) : Int)))) q1 = some (.lst (wds (zs.take m))) := by rw [upd_same, c3]
        generalize upd H3 q1 (.lst (cutV (wds zs) none (some ((m : Nat) : Int)))) = H4 at s4 e4
        refine ⟨_, rfl, _, rfl, _, _, rfl, rfl, _, rfl, p, _, rfl, SqL.of (s4 _ _ e3), fun q2 hq2 => ?_⟩
        have s5 : Same H4 (upd H4 q2 (.lst (cutV (wds zs) (some (((m : Nat) : Int) + 1)) none))) := Same.new hq2
        have e5 : upd H4 q2 (.lst (cutV (wds zs) (some (((m : Nat) : Int) + 1)) none)) q2 = some (.lst (wds (zs.drop (m + 1)))) := by rw [upd_same, c4]
        generalize upd H4 q2 (.lst (cutV (wds zs) (some (((m : Nat) : Int) + 1)) none)) = H5 at s5 e5
        refine ⟨q1, q2, _, _, rfl, rfl, s5 _ _ e4, e5, len_1000 (by rw [wds_len, wds_len, List.length_take, List.length_drop]; omega), fun L hL => ⟨L, zs.take m ++ zs.drop (m + 1), none, rfl, by rw [upd_same, wds_app], ?_, ((f3.same s4).same s5).upd hL, ((k13.trans s4.kp).trans s5.kp).trans (Same.new hL).kp⟩⟩
        rw [List.map_append, List.sum_append, List.length_append, List.length_take, List.length_drop]
        omega
      refine ⟨_, rfl, rfl, _, rfl, ite2 (fun q => ?_) (fun q => ?_)⟩
      · refine ⟨_, rfl, _, rfl, _, _, rfl, rfl, _, rfl, p, _, rfl, SqL.of e3, fun q1 hq1 => ?_⟩
        have s4 : Same H3 (upd H3 q1 (.lst (cutV (wds zs) none (some (((m : Nat) : Int) + 1))))) := Same.new hq1
        have e4 : upd H3 q1 (.lst (cutV (wds zs) none (some (((m : Nat) : Int) + 1)))) q1 = some (.lst (wds (zs.take (m + 1)))) := by rw [upd_same, c1]
        generalize upd H3 q1 (.lst (cutV (wds zs) none (some (((m : Nat) : Int) + 1)))) = H4 at s4 e4
        refine ⟨_, rfl, _, rfl, _, rfl, p, _, rfl, SqL.of (s4 _ _ e3), fun q2 hq2 => ?_⟩
        have s5 : Same H4 (upd H4 q2 (.lst (cutV (wds zs) (some ((m : Nat) : Int)) none))) := Same.new hq2
        have e5 : upd H4 q2 (.lst (cutV (wds zs) (some ((m : Nat) : Int)) none)) q2 = some (.lst (wds (zs.drop m))) := by rw [upd_same, c2]
        generalize upd H4 q2 (.lst (cutV (wds zs) (some ((m : Nat) : Int)) none)) = H5 at s5 e5
        refine ⟨q1, q2, _, _, rfl, rfl, s5 _ _ e4, e5, len_1000 (by rw [wds_len, wds_len, List.length_take, List.length_drop]; omega), fun L hL => ⟨L, zs.take (m + 1) ++ zs.drop m, none, rfl, by rw [upd_same, wds_app], ?_, ((f3.same s4).same s5).upd hL, ((k13.trans s4.kp).trans s5.kp).trans (Same.new hL).kp⟩⟩
        rw [List.map_append, List.sum_append, List.length_append, List.length_take, List.length_drop]
        omega
      refine ⟨_, rfl, rfl, _, rfl, ite2 (fun q => ?_) (fun q => ?_)⟩
      · refine ⟨_, rfl, _, rfl, p, _, _, _, rfl, rfl, SqL.of e3, atI_nat (wds_at hx), ?_⟩
        refine ⟨_, rfl, _, rfl, p, _, _, _, rfl, rfl, SqL.of e3, atI_nat (wds_at hx'), _, rfl, _, rfl, p, _, _, m, rfl, rfl, e3, ixN_nat (by rw [wds_len]; exact hm), ?_⟩
        rw [wds_set]
        refine ⟨_, rfl, _, rfl, _, rfl, p, _, _, m', rfl, rfl, upd_same, ixN_nat (by rw [wds_len, List.length_set]; exact hm'), ?_⟩
        rw [wds_set]
        refine ⟨p, _, _, rfl, upd_same, ?_, (f3.set hpf hps).set hpf hps, (k13.upd hp).upd hp⟩
        have h1 := tsum_set zs m x'
        have h2 := tsum_set (zs.set m x') m' x
        rw [List.length_set, List.length_set]
        omega
      refine ⟨_, rfl, rfl, _, rfl, ite2 (fun q => ?_) (fun q => ?_)⟩
      · refine ⟨_, rfl, _, rfl, _, rfl, p, _, rfl, SqL.of e3, fun q1 hq1 => ?_⟩
        have s4 : Same H3 (upd H3 q1 (.lst (cutV (wds zs) none (some ((m : Nat) : Int))))) := Same.new hq1
        have e4 : upd H3 q1 (.lst (cutV (wds zs) none (some ((m : Nat) : Int)))) q1 = some (.lst (wds (zs.take m))) := by rw [upd_same, c3]
        have f4 := f3.same s4
        have hq1f : q1 ≠ fl := f3.ne hq1
        generalize upd H3 q1 (.lst (cutV (wds zs) none (some ((m : Nat) : Int)))) = H4 at s4 e4 f4
        refine ⟨len_1000 (by simp), fun L hL => ?_⟩
        have hzs : ∀ z ∈ [(Str.ofString ""), (Str.ofString " "), (Str.ofString ".")], z.length ≤ 1 := by
          intro z hz
          simp only [List.mem_cons, List.not_mem_nil, or_false] at hz
          rcases hz with rfl | rfl | rfl <;> decide +kernel
        have s5 : Same H4 (upd H4 L (.lst [V.str (Str.ofString ""), V.str (Str.ofString " "), V.str (Str.ofString ".")])) := Same.new hL
        have e5 : upd H4 L (.lst [V.str (Str.ofString ""), V.str (Str.ofString " "), V.str (Str.ofString ".")]) L = some (.lst ([(Str.ofString ""), (Str.ofString " "), (Str.ofString ".")].map V.str)) := upd_same
        have f5 := f4.same s5
        have hLf : L ≠ fl := f4.ne hL
        generalize upd H4 L (.lst [V.str (Str.ofString ""), V.str (Str.ofString " "), V.str (Str.ofString ".")]) = H5 at s5 e5 f5
        have hzN : [(Str.ofString ""), (Str.ofString " "), (Str.ofString ".")].length = 3 := rfl
        generalize [(Str.ofString ""), (Str.ofString " "), (Str.ofString ".")] = ss at hzs hzN e5
        refine ⟨_, rfl, fl, sc, 3, rfl, f5, by decide, by decide, fun b H6 b0 b1 f6 k6 => ?_⟩
        obtain ⟨z, hz⟩ : ∃ z, ss[b.toNat]? = some z := ⟨_, List.getElem?_eq_getElem (by omega)⟩
        refine ⟨L, _, _, .str z, rfl, rfl, SqL.of (k6 _ _ e5 hLf), atI_of b0 (by rw [List.getElem?_map, hz]; rfl), len_1000 (by simp), fun L2 hL2 => ?_⟩
        have hzl := hzs z (List.mem_of_getElem? hz)
        have hzc : z.cps.toList.length = z.length := Array.length_toList
        have s7 : Same H6 (upd H6 L2 (.lst [.str z])) := Same.new hL2
        have e7 : upd H6 L2 (.lst [.str z]) L2 = some (.lst (wds [z.cps.toList])) := by rw [upd_same]; show _ = some (HO.lst [V.str (S z.cps.toList)]); rw [← S_of z]
        have e7' := s7 _ _ (k6 _ _ (s5 _ _ e4) hq1f)
        have e7p := s7 _ _ (k6 _ _ (s5 _ _ (s4 _ _ e3)) hpf)
        have f7 := f6.same s7
        generalize upd H6 L2 (.lst [.str z]) = H7 at s7 e7 e7' e7p f7
        refine ⟨q1, L2, _, _, rfl, rfl, e7', e7, len_1000 (by rw [wds_len, wds_len, List.length_take]; simp; omega), fun L3 hL3 => ?_⟩
        have s8 : Same H7 (upd H7 L3 (.lst (wds (zs.take m) ++ wds [z.cps.toList]))) := Same.new hL3
        have e8 : upd H7 L3 (.lst (wds (zs.take m) ++ wds [z.cps.toList])) L3 = some (.lst (wds (zs.take m ++ [z.cps.toList]))) := by rw [upd_same, wds_app]
        have e8p := s8 _ _ e7p
        have f8 := f7.same s8
        generalize upd H7 L3 (.lst (wds (zs.take m) ++ wds [z.cps.toList])) = H8 at s8 e8 e8p f8
        refine ⟨_, rfl, _, rfl, _, rfl, p, _, rfl, SqL.of e8p, fun q2 hq2 => ?_⟩
        have s9 : Same H8 (upd H8 q2 (.lst (cutV (wds zs) (some ((m : Nat) : Int)) none))) := Same.new hq2
        have e9 : upd H8 q2 (.lst (cutV (wds zs) (some ((m : Nat) : Int)) none)) q2 = some (.lst (wds (zs.drop m))) := by rw [upd_same, c2]
        have f9 := f8.same s9
        generalize upd H8 q2 (.lst (cutV (wds zs) (some ((m : Nat) : Int)) none)) = H9 at s9 e9 f9
        refine ⟨L3, q2, _, _, rfl, rfl, s9 _ _ e8, e9, len_1000 (by rw [wds_len, wds_len, List.length_append, List.length_take, List.length_drop]; simp; omega), fun L4 hL4 => ⟨L4, zs.take m ++ [z.cps.toList] ++ zs.drop m, none, rfl, by rw [upd_same, ← wds_app], ?_, f9.upd hL4, ((((((k13.trans s4.kp).trans s5.kp).trans k6).trans s7.kp).trans s8.kp).trans s9.kp).trans (Same.new hL4).kp⟩⟩
        simp only [List.map_append, List.sum_append, List.length_append, List.length_take, List.length_drop, List.map_cons, List.map_nil, List.sum_cons, List.sum_nil, List.length_cons, List.length_nil]
        omega
      refine ⟨_, rfl, rfl, _, rfl, ite2 (fun q => ?_) (fun q => ?_)⟩
      · refine ⟨_, rfl, len_1000 (by simp), fun L hL => ?_⟩
        have hzs : ∀ z ∈ [(Str.ofString ""), (Str.ofString "e = a"), (Str.ofString "d = a"), (Str.ofString "a = a")], z.length ≤ 5 := by
          intro z hz
          simp only [List.mem_cons, List.not_mem_nil, or_false] at hz
          rcases hz with rfl | rfl | rfl | rfl <;> decide +kernel
        have s5 : Same H3 (upd H3 L (.lst [V.str (Str.ofString ""), V.str (Str.ofString "e = a"), V.str (Str.ofString "d = a"), V.str (Str.ofString "a = a")])) := Same.new hL
        have e5 : upd H3 L (.lst [V.str (Str.ofString ""), V.str (Str.ofString "e = a"), V.str (Str.ofString "d = a"), V.str (Str.ofString "a = a")]) L = some (.lst ([(Str.ofString ""), (Str.ofString "e = a"), (Str.ofString "d = a"), (Str.ofString "a = a")].map V.str)) := upd_same
        have f5 := f3.same s5
        have hLf : L ≠ fl := f3.ne hL
        generalize upd H3 L (.lst [V.str (Str.ofString ""), V.str (Str.ofString "e = a"), V.str (Str.ofString "d = a"), V.str (Str.ofString "a = a")]) = H5 at s5 e5 f5
        have hzN : [(Str.ofString ""), (Str.ofString "e = a"), (Str.ofString "d = a"), (Str.ofString "a = a")].length = 4 := rfl
        generalize [(Str.ofString ""), (Str.ofString "e = a"), (Str.ofString "d = a"), (Str.ofString "a = a")] = ss at hzs hzN e5
        refine ⟨_, rfl, fl, sc, 4, rfl, f5, by decide, by decide, fun b H6 b0 b1 f6 k6 => ?_⟩
        obtain ⟨z, hz⟩ : ∃ z, ss[b.toNat]? = some z := ⟨_, List.getElem?_eq_getElem (by omega)⟩
        refine ⟨L, _, _, .str z, rfl, rfl, SqL.of (k6 _ _ e5 hLf), atI_of b0 (by rw [List.getElem?_map, hz]; rfl), len_1000 (by simp), fun L2 hL2 => ?_⟩
        have hzl := hzs z (List.mem_of_getElem? hz)
        have hzc : z.cps.toList.length = z.length := Array.length_toList
        have s7 : Same H6 (upd H6 L2 (.lst [.str z])) := Same.new hL2
        have e7 : upd H6 L2 (.lst [.str z]) L2 = some (.lst (wds [z.cps.toList])) := by rw [upd_same]; show _ = some (HO.lst [V.str (S z.cps.toList)]); rw [← S_of z]
        have e7p := s7 _ _ (k6 _ _ (s5 _ _ e3) hpf)
        have f7 := f6.same s7
        generalize upd H6 L2 (.lst [.str z]) = H7 at s7 e7 e7p f7
        refine ⟨p, L2, _, _, rfl, rfl, e7p, e7, len_1000 (by rw [wds_len, wds_len]; simp; omega), fun L3 hL3 => ⟨L3, zs ++ [z.cps.toList], none, rfl, by rw [upd_same, wds_app], ?_, f7.upd hL3, (((k13.trans s5.kp).trans k6).trans s7.kp).trans (Same.new hL3).kp⟩⟩
        simp only [List.map_append, List.sum_append, List.length_append, List.map_cons, List.map_nil, List.sum_cons, List.sum_nil, List.length_cons, List.length_nil]
        omega
      · refine ⟨_, rfl, _, rfl, _, rfl, p, _, _, _, rfl, rfl, SqL.of e3, atI_nat (wds_at hx), fl, sc, x, rfl, f3, by omega, fun y H4 hy f4 k4 => ?_⟩
        have e4 := k4 _ _ e3 hpf
        refine ⟨_, rfl, _, rfl, p, _, _, m, rfl, rfl, e4, ixN_nat (by rw [wds_len]; exact hm), p, zs.set m y, none, rfl, by rw [upd_same, wds_set], ?_, f4.set hpf hps, (k13.trans k4).upd hp⟩
        have := tsum_set zs m y
        rw [List.length_set]
        omega
    · rintro _ H4 ⟨l, ys, v6, rfl, e4, hy, f4, k4⟩
      refine ⟨rfl, _, rfl, _, l, ys.map S, rfl, rfl, ?_, ?_, ?_⟩
      · rw [List.map_map]; exact SqL.of e4
      · rw [sum_S, List.length_map, show (Str.ofString "\n").length = 1 from by decide +kernel]
        omega
      · rw [join10]
        refine k _ H4 ?_ f4 k4
        have := inter_len 10 ys
        omega
theorem ok_law {f : Addr} {fd : FuncData} (D : Df K mg "law" s_law ["_law_script"] f fd) (T : Txt P w K mg a_CONTRARIES a_LETTERS a_MOST_LETTERS a_NO_LETTERS a_LetterError a_NoWord a_NoText a_NoAlphabet a_NoChange a_NoPaper a_TooMany a_NoRow f_NoText fd_NoText) (c_read_retelling : ClX P w K mg base "read_retelling" ["text"] 5 (spRdX a_NoText)) (c_law_flow : Cl P w K mg base "_law_flow" ["_law_script"] 1 (spFlow K)) (c_law_pick : Cl P w K mg base "_law_pick" ["_law_flow_here", "_law_many"] 1 spPick) (c_law_alike : Cl P w K mg base "_law_alike" ["_law_found", "_law_due"] 3 (spLk K 2)) (c_law_retelling : Cl P w K mg base "_law_retelling" ["_law_flow_here", "_law_n"] 3 spRetelling) (c_law_retelling_text : Cl P w K mg base "_law_retelling_text" ["_law_retelling_here"] 1 (spShow K)) (c_law_changed : Cl P w K mg base "_law_changed" ["_law_flow_here", "_law_text"] 4 spChT) (c_law_writes : Cl P w K mg base "_law_writes" ["_law_text"] 3 spWr) (c_law_fits : Cl P w K mg base "_law_fits" ["_law_text"] 1 spFits) (c_law_heard : Cl P w K mg base "_law_heard" ["_law_text"] 6 spWr) (c_law_long : Cl P w K mg base "_law_long" ["_law_flow_here", "_law_good"] 2 spLong) : FnOk P w K mg base CX0 7 f fd ["_law_script"] (spLaw K) := by
  obtain ⟨f_read_retelling, fd_read_retelling, G_read_retelling, m_read_retelling, k_read_retelling, b_read_retelling⟩ := c_read_retelling
  obtain ⟨f_law_flow, fd_law_flow, G_law_flow, m_law_flow, k_law_flow, b_law_flow⟩ := c_law_flow
  obtain ⟨f_law_pick, fd_law_pick, G_law_pick, m_law_pick, k_law_pick, b_law_pick⟩ := c_law_pick
  obtain ⟨f_law_alike, fd_law_alike, G_law_alike, m_law_alike, k_law_alike, b_law_alike⟩ := c_law_alike
  obtain ⟨f_law_retelling, fd_law_retelling, G_law_retelling, m_law_retelling, k_law_retelling, b_law_retelling⟩ := c_law_retelling
  obtain ⟨f_law_retelling_text, fd_law_retelling_text, G_law_retelling_text, m_law_retelling_text, k_law_retelling_text, b_law_retelling_text⟩ := c_law_retelling_text
  obtain ⟨f_law_changed, fd_law_changed, G_law_changed, m_law_changed, k_law_changed, b_law_changed⟩ := c_law_changed
  obtain ⟨f_law_writes, fd_law_writes, G_law_writes, m_law_writes, k_law_writes, b_law_writes⟩ := c_law_writes
  obtain ⟨f_law_fits, fd_law_fits, G_law_fits, m_law_fits, k_law_fits, b_law_fits⟩ := c_law_fits
  obtain ⟨f_law_heard, fd_law_heard, G_law_heard, m_law_heard, k_law_heard, b_law_heard⟩ := c_law_heard
  obtain ⟨f_law_long, fd_law_long, G_law_long, m_law_long, k_law_long, b_law_long⟩ := c_law_long
  refine D.F.ok sc_law (fun vs H Q E h => ?_) (fun cdv A outer s H vs Q E hr h => ?_)
  · obtain ⟨a, ns, rfl, _⟩ := h
    rfl
  · obtain ⟨a, ns, rfl, hs, hl, k⟩ := h
    refine ⟨_, (pss_cons (ps_set (i := 1) sc_law.nd rfl (Or.inl rfl) (pe_call G_law_flow (hr.mono (by decide)) (by rfl) m_law_flow k_law_flow b_law_flow .nil pass0 (pa_cons (pv 0) pa_nil)))
      (pss_cons (ps_set (i := 2) sc_law.nd rfl (Or.inl rfl) (pe_call G_law_retelling (hr.mono (by decide)) (by rfl) m_law_retelling k_law_retelling b_law_retelling .nil pass0 (pa_cons (pv 1) (pa_cons (pe_op op_add pe_int (pe_call G_law_pick (hr.mono (by decide)) (by rfl) m_law_pick k_law_pick b_law_pick .nil pass0 (pa_cons (pv 1) (pa_cons pe_int pa_nil)))) pa_nil))))
      (pss_cons (ps_set (i := 3) sc_law.nd rfl (Or.inl rfl) (pe_call G_law_retelling_text (hr.mono (by decide)) (by rfl) m_law_retelling_text k_law_retelling_text b_law_retelling_text .nil pass0 (pa_cons (pv 2) pa_nil)))
      (pss_cons (ps_set (i := 4) sc_law.nd rfl (Or.inl rfl) (pe_lst (pa_cons pe_str (pa_cons (pe_call G_law_long (hr.mono (by decide)) (by rfl) m_law_long k_law_long b_law_long .nil pass0 (pa_cons (pv 1) (pa_cons (pv 3) pa_nil))) pa_nil))))
      (pss_cons (ps_for PassesOwn.never rfl (pi_range1 (by rfl) T.b_range (pa_cons pe_int pa_nil)) (pg_name (i := 5) sc_law.nd rfl (Or.inl rfl)) (pss_cons (ps_set (i := 6) sc_law.nd rfl (Or.inl rfl) (pv 3))
      (pss_cons (ps_for PassesOwn.never rfl (pi_range1 (by rfl) T.b_range (pa_cons (pe_op op_add pe_int (pe_call G_law_pick (hr.mono (by decide)) (by rfl) m_law_pick k_law_pick b_law_pick .nil pass0 (pa_cons (pv 1) (pa_cons pe_int pa_nil)))) pa_nil)) (pg_name (i := 7) sc_law.nd rfl (Or.inl rfl)) (pss_one (ps_set (i := 6) sc_law.nd rfl (Or.inl rfl) (pe_call G_law_changed (hr.mono (by decide)) (by rfl) m_law_changed k_law_changed b_law_changed .nil pass0 (pa_cons (pv 1) (pa_cons (pv 6) pa_nil))))))
      (pss_one (ps_expr (pe_bmK (K := K) rfl PySem.F.plainAttrs_list PySem.F.slot_list_append PySem.F.type_list_append mt_append (pv 4) (pa_cons (pv 6) pa_nil)))))))
      (pss_cons (ps_for PassesOwn.never rfl (pi_listK (K := K) rfl (pv 4)) (pg_name (i := 6) sc_law.nd rfl (Or.inl rfl)) (pss_cons (ps_set (i := 8) sc_law.nd rfl (Or.inl rfl) (pe_call G_law_writes (hr.mono (by decide)) (by rfl) m_law_writes k_law_writes b_law_writes .nil pass0 (pa_cons (pv 6) pa_nil)))
      (pss_cons (ps_if (PW.pt (pw_and (PW.pt (pw_or (pt_cmpR op_eq (pe_ix (ix_tupK (K := K) rfl) (pv 8) pe_int (fun _ _ => rfl)) pe_str (nomark _)) (pw_or1 (pt_val (pe_call G_law_fits (hr.mono (by decide)) (by rfl) m_law_fits k_law_fits b_law_fits .nil pass0 (pa_cons (pv 6) pa_nil)))))) (pw_and1 (pt_not (pt_val (pe_call G_law_alike (hr.mono (by decide)) (by rfl) m_law_alike k_law_alike b_law_alike .nil pass0 (pa_cons (pe_call G_law_heard (hr.mono (by decide)) (by rfl) m_law_heard k_law_heard b_law_heard .nil pass0 (pa_cons (pv 6) pa_nil)) (pa_cons (pv 8) pa_nil)))))))) (pss_one (ps_ret pe_bl)) pss_nil)
      (pss_one (ps_if (pt_cmpR (op_neLK (K := K) rfl hr.units0) (pe_call G_read_retelling (hr.mono (by decide)) (by rfl) m_read_retelling k_read_retelling b_read_retelling .nil pass1 (pa_cons (pv 3) pa_nil)) (pv 2) (nomark _)) (pss_one (ps_ret pe_bl)) pss_nil)))))
      (pss_one (ps_ret pe_bl)))))))), ?_⟩
    refine ⟨_, rfl, a, ns, rfl, hs, hl, fun fl sc H1 hfl s1 f1 => ?_⟩
    refine ⟨_, rfl, _, rfl, fl, sc, 4, rfl, f1, by decide, by decide, fun d H2 d0 d1 f2 k2 => ⟨_, _, rfl, rfl, ?_⟩⟩
    obtain ⟨n, hn⟩ : ∃ n : Nat, 1 + d = (n : Int) := ⟨(1 + d).toNat, by omega⟩
    have hd : (fun i j : Int => V.int (i + j)) 1 d = V.int (n : Nat) := by rw [← hn]
    rw [hd]
    have n1 : 1 ≤ n := by omega
    have n4 : n ≤ 4 := by omega
    refine ⟨fl, sc, n, rfl, f2, n1, n4, fun a3 rs H3 ha3 hrt hro f3 k3 e3 => ?_⟩
    have g : GoodR n 8 rs := ⟨hrt, fun x hx => (hro x hx).1, fun x hx => (hro x hx).2⟩
    have tl := txt_len hrt n4
    obtain ⟨gp, gf, gw⟩ := good_txt g n1 n4
    have gn : (rowsW rs n).length = n := rowsW_len rs n
    refine ⟨_, rfl, a3, rs, n, rfl, SqT.of e3, hrt, n1, n4, fun H4 s4 => ?_⟩
    have f4 := f3.same s4
    have e4 := s4 _ _ e3
    generalize txtW rs = gt at tl gp
    refine ⟨_, rfl, _, rfl, fl, sc, gt, rfl, f4, tl, fun y H5 hy f5 k5 => ?_⟩
    have e5 := kp_tup f4 k5 e4
    refine ⟨len_1000 (by simp), fun L hL => ?_⟩
    have hLf : L ≠ fl := f5.ne hL
    have hLs : L ≠ sc := f5.ne2 hL
    have hL3 : a3 ≠ L := ne_of_none e5 hL
    have eL : upd H5 L (.lst [.str (Str.ofString ""), .str (S y)]) L = some (.lst (wds [[], y])) := by rw [upd_same, S_nil]; rfl
    have f6 := f5.upd (o := HO.lst [.str (Str.ofString ""), .str (S y)]) hL
    have e6 := (upd_ne (o := HO.lst [.str (Str.ofString ""), .str (S y)]) hL3).trans e5
    generalize upd H5 L (.lst [.str (Str.ofString ""), .str (S y)]) = H6 at eL f6 e6
    refine ⟨6, rfl, by decide, by decide, for_range (lo := 0) (n := 6) (fun i σ H7 => ∃ (v5 v6 v7 : Option V) (ws : List (List Nat)), σ = [some (.ref a), some (.ref fl), some (.ref a3), some (.str (S gt)), some (.ref L), v5, v6, v7, none] ∧ IsFl H7 fl sc ∧ H7 a3 = some (.tup (wds rs)) ∧ H7 L = some (.lst (wds ws)) ∧ ws.length ≤ 2 + i ∧ ∀ x ∈ ws, x.length ≤ 890) ⟨none, none, none, [[], y], rfl, f6, e6, eL, by simp, ?_⟩ ?_ ?_⟩
    · intro x hx
      simp only [List.mem_cons, List.not_mem_nil, or_false] at hx
      rcases hx with rfl | rfl
      · simp
      · exact hy
    · rintro i _ H7 hi ⟨v5, v6, v7, ws, rfl, f7, e7, l7, hwl, hwz⟩
      refine ⟨_, rfl, ?_⟩
      refine ⟨_, rfl, fl, sc, 2, rfl, f7, by decide, by decide, fun b H8 b0 b1 f8 k8 => ⟨_, _, rfl, rfl, 1 + b, rfl, by omega, by omega, ?_⟩⟩
      refine for_range (lo := 0) (n := (1 + b).toNat) (fun j σ H9 => ∃ (v7 : Option V) (x : List Nat), σ = [some (.ref a), some (.ref fl), some (.ref a3), some (.str (S gt)), some (.ref L), some (.int (0 + (i : Nat))), some (.str (S x)), v7, none] ∧ IsFl H9 fl sc ∧ H9 a3 = some (.tup (wds rs)) ∧ H9 L = some (.lst (wds ws)) ∧ x.length ≤ [60, 200, 620].getD j 0) ⟨v7, gt, rfl, f8, kp_tup f7 k8 e7, k8 _ _ l7 hLf, tl⟩ ?_ ?_
      · rintro j _ H9 hj ⟨v7, x, rfl, f9, e9, l9, hx⟩
        have hj2 : j = 0 ∨ j = 1 := by omega
        have hx2 : x.length ≤ 200 := by rcases hj2 with rfl | rfl <;> simp at hx <;> omega
        refine ⟨_, rfl, _, rfl, fl, sc, x, rfl, f9, by omega, fun z H10 hz f10 k10 => ⟨_, z, rfl, f10, kp_tup f9 k10 e9, k10 _ _ l9 hLf, ?_⟩⟩
        rcases hj2 with rfl | rfl <;> simp at hx ⊢ <;> omega
      · rintro _ H9 ⟨v7, x, rfl, f9, e9, l9, hx⟩
        have hx3 : x.length ≤ 620 := by
          have : (1 + b).toNat = 1 ∨ (1 + b).toNat = 2 := by omega
          rcases this with e | e <;> rw [e] at hx <;> simp at hx <;> omega
        refine ⟨_, rfl, .inl ⟨rfl, _, SqL.of l9⟩, _, rfl, L, _, _, rfl, rfl, l9, by rw [wds_len]; exact small1000 (by omega), _, _, _, ws ++ [x], rfl, f9.set hLf hLs, by rw [upd_ne hL3]; exact e9, by rw [upd_same, wds_app]; rfl, by rw [List.length_append]; simp; omega, ?_⟩
        intro z hz
        rcases List.mem_append.mp hz with q | q
        · exact hwz z q
        · rw [List.mem_singleton.mp q]; omega
    · rintro _ H7 ⟨v5, v6, v7, ws, rfl, f7, e7, l7, hwl, hwz⟩
      refine ⟨_, rfl, L, rfl, ⟨_, SqL.of l7⟩, for_list (K := K) (a := L) (xs := wds ws) (fun i σ H8 => ∃ v6 v8 : Option V, σ = [some (.ref a), some (.ref fl), some (.ref a3), some (.str (S gt)), some (.ref L), v5, v6, v7, v8] ∧ Same H7 H8) ⟨_, none, rfl, Same.refl _⟩ (fun i σ H8 _ ⟨_, _, _, s⟩ => SqL.of (s _ _ l7)) ?_ ?_⟩
      · rintro i v _ H8 hv ⟨v6, v8, rfl, s8⟩
        obtain ⟨t, ht, rfl⟩ := wds_get hv
        have htl := hwz t (List.mem_of_getElem? ht)
        refine ⟨_, rfl, t, rfl, htl, fun hg p q H9 s9 ep eq => ?_, fun j p H9 hr s9 ep => ?_⟩
        · have hz4 := firstX_len hg
          refine ⟨_, rfl, p, _, _, _, rfl, rfl, SqT.of ep, rfl, rfl, _, rfl, ?_⟩
          rw [show decide (V.str (Str.ofString "read") = V.str (Str.ofString "refused")) = false from by decide +kernel]
          refine iteF ⟨_, rfl, t, rfl, htl, fun b H10 s10 => ⟨_, rfl, ?_⟩⟩
          cases b with
          | false =>
            refine iteF (iteF ?_)
            have sA := (s8.trans s9).trans s10
            refine ⟨_, rfl, gt, rfl, by omega, fun hg3 p3 H13 s13 e13 => ?_, fun j dx H13 hb3 _ _ => (by rw [gp, gf] at hb3; cases hb3)⟩
            rw [gp, gn, gw] at e13
            refine ⟨_, rfl, p3, a3, _, _, rfl, rfl, .inr ⟨SqT.of e13, SqT.of (s13 _ _ (sA _ _ e7))⟩, wds_flat rs, wds_flat rs, _, rfl, ?_⟩
            rw [if_pos rfl, eqVs_refl (wds_flat rs)]
            exact iteF ⟨_, _, rfl, sA.trans s13⟩
          | true =>
            refine iteT ?_
            refine ⟨_, rfl, t, rfl, htl, fun _ p2 q2 H11 s11 ep2 eq2 => ?_, fun j2 p2 H11 hr2 _ _ => (by rw [hg] at hr2; cases hr2)⟩
            have ep' := s11 _ _ (s10 _ _ ep)
            have eq' := s11 _ _ (s10 _ _ eq)
            refine ⟨_, rfl, .ref p2, .ref p, rfl, .tup (SqT.of ep2) (SqT.of ep') rfl (by simp) ?_, fun H12 s12 => ⟨_, rfl, iteF ?_⟩⟩
            · intro j u v hu hv
              match j, hu, hv with
              | 0, hu, hv => cases hu; cases hv; exact .flat rfl
              | 1, hu, hv =>
                cases hu; cases hv
                refine .tup (SqT.of eq2) (SqT.of eq') rfl (by rw [wds_len, wordsX_len]; omega) ?_
                intro j u v hu hv
                rw [hu] at hv
                cases hv
                obtain ⟨z, _, rfl⟩ := wds_get hu
                exact .flat rfl
            have sA := (((s8.trans s9).trans s10).trans s11).trans s12
            refine ⟨_, rfl, gt, rfl, by omega, fun hg3 p3 H13 s13 e13 => ?_, fun j dx H13 hb3 _ _ => (by rw [gp, gf] at hb3; cases hb3)⟩
            rw [gp, gn, gw] at e13
            refine ⟨_, rfl, p3, a3, _, _, rfl, rfl, .inr ⟨SqT.of e13, SqT.of (s13 _ _ (sA _ _ e7))⟩, wds_flat rs, wds_flat rs, _, rfl, ?_⟩
            rw [if_pos rfl, eqVs_refl (wds_flat rs)]
            exact iteF ⟨_, _, rfl, sA.trans s13⟩
        · refine ⟨_, rfl, p, _, _, _, rfl, rfl, SqT.of ep, rfl, rfl, _, rfl, ?_⟩
          rw [decide_eq_true rfl]
          refine iteT (iteT ?_)
          refine ⟨_, rfl, t, rfl, htl, fun hg2 _ _ _ _ _ _ => (by rw [hr] at hg2; cases hg2), fun j2 p2 H11 hr2 s11 ep2 => ?_⟩
          obtain rfl : j = j2 := by rw [hr] at hr2; exact Option.some.inj hr2
          have ep' := s11 _ _ ep
          refine ⟨_, rfl, .ref p2, .ref p, rfl, .tup (SqT.of ep2) (SqT.of ep') rfl (by simp) ?_, fun H12 s12 => ⟨_, rfl, iteF ?_⟩⟩
          · intro j u v hu hv
            match j, hu, hv with
            | 0, hu, hv => cases hu; cases hv; exact .flat rfl
            | 1, hu, hv => cases hu; cases hv; exact .flat rfl
          have sA := ((s8.trans s9).trans s11).trans s12
          refine ⟨_, rfl, gt, rfl, by omega, fun hg3 p3 H13 s13 e13 => ?_, fun j dx H13 hb3 _ _ => (by rw [gp, gf] at hb3; cases hb3)⟩
          rw [gp, gn, gw] at e13
          refine ⟨_, rfl, p3, a3, _, _, rfl, rfl, .inr ⟨SqT.of e13, SqT.of (s13 _ _ (sA _ _ e7))⟩, wds_flat rs, wds_flat rs, _, rfl, ?_⟩
          rw [if_pos rfl, eqVs_refl (wds_flat rs)]
          exact iteF ⟨_, _, rfl, sA.trans s13⟩
      · rintro _ H8 ⟨v6, v8, rfl, s8⟩
        exact k H8
end
theorem all_mk {l : PySem.W.OpenLaw} {w : World} {K : PySem.W.Frag} {h : Heap} {mg : Str → Option Value} {fa : Addr} (X : K.In h) (G : h.Ns mainGlobals mg) (hfa : mg "law" = some (.ref fa))
    {f_0 f_1 f_2 f_3 f_4 f_5 f_6 f_7 f_8 f_9 f_10 f_11 f_12 f_13 f_14 f_15 f_16 f_17 f_18 f_19 f_20 f_21 f_22 f_23 f_24 f_25 a_CONTRARIES a_LETTERS a_MOST_LETTERS a_NO_LETTERS a_LetterError a_NoWord a_NoText a_NoAlphabet a_NoChange a_NoPaper a_TooMany a_NoRow f_NoText N_NoText : Addr}
    {nm_NoText q_NoText : Str} {bs_NoText sub_NoText : List Value} {sn_NoText : List Str} {ab_NoText : Bool} {col_NoText : Option Bool} {dd_NoText od_NoText an_NoText : Option Addr} {k0_NoText k1_NoText k2_NoText k3_NoText k5_NoText : Option Value} {sl_NoText : Array (Option Value)} {oc_NoText kV_NoText dc_NoText pm_NoText cd_NoText ct_NoText : Value}
    {nm_L q_L : Str} {N_L : Addr} {bs_L sub_L : List Value} {sn_L : List Str} {hd_L ab_L : Bool} {col_L : Option Bool} {dd_L : Option Addr} {k0_L k1_L k2_L k3_L k5_L : Option Value}
    {od_0 an_0 od_1 an_1 od_2 an_2 od_3 an_3 od_4 an_4 od_5 an_5 od_6 an_6 od_7 an_7 od_8 an_8 od_9 an_9 od_10 an_10 od_11 an_11 od_12 an_12 od_13 an_13 od_14 an_14 od_15 an_15 od_16 an_16 od_17 an_17 od_18 an_18 od_19 an_19 od_20 an_20 od_21 an_21 od_22 an_22 od_23 an_23 od_24 an_24 od_25 an_25 : Option Addr} {sl_0 sl_1 sl_2 sl_3 sl_4 sl_5 sl_6 sl_7 sl_8 sl_9 sl_10 sl_11 sl_12 sl_13 sl_14 sl_15 sl_16 sl_17 sl_18 sl_19 sl_20 sl_21 sl_22 sl_23 sl_24 sl_25 : Array (Option Value)} {oc_0 kV_0 dc_0 pm_0 cd_0 ct_0 oc_1 kV_1 dc_1 pm_1 cd_1 ct_1 oc_2 kV_2 dc_2 pm_2 cd_2 ct_2 oc_3 kV_3 dc_3 pm_3 cd_3 ct_3 oc_4 kV_4 dc_4 pm_4 cd_4 ct_4 oc_5 kV_5 dc_5 pm_5 cd_5 ct_5 oc_6 kV_6 dc_6 pm_6 cd_6 ct_6 oc_7 kV_7 dc_7 pm_7 cd_7 ct_7 oc_8 kV_8 dc_8 pm_8 cd_8 ct_8 oc_9 kV_9 dc_9 pm_9 cd_9 ct_9 oc_10 kV_10 dc_10 pm_10 cd_10 ct_10 oc_11 kV_11 dc_11 pm_11 cd_11 ct_11 oc_12 kV_12 dc_12 pm_12 cd_12 ct_12 oc_13 kV_13 dc_13 pm_13 cd_13 ct_13 oc_14 kV_14 dc_14 pm_14 cd_14 ct_14 oc_15 kV_15 dc_15 pm_15 cd_15 ct_15 oc_16 kV_16 dc_16 pm_16 cd_16 ct_16 oc_17 kV_17 dc_17 pm_17 cd_17 ct_17 oc_18 kV_18 dc_18 pm_18 cd_18 ct_18 oc_19 kV_19 dc_19 pm_19 cd_19 ct_19 oc_20 kV_20 dc_20 pm_20 cd_20 ct_20 oc_21 kV_21 dc_21 pm_21 cd_21 ct_21 oc_22 kV_22 dc_22 pm_22 cd_22 ct_22 oc_23 kV_23 dc_23 pm_23 cd_23 ct_23 oc_24 kV_24 dc_24 pm_24 cd_24 ct_24 oc_25 kV_25 dc_25 pm_25 cd_25 ct_25 : Value}
    (na_0 : PySem.W.nsIn K mainGlobals "letters_of" = some (some (.ref f_0))) (nl_0 : K.lookup f_0 = some ⟨oc_0, od_0, .func (fnX "letters_of" s_letters_of kV_0 dc_0 pm_0 an_0 cd_0 ct_0), sl_0⟩) (nc_0 : PySem.W.codeIn K cd_0 "letters_of" = true) (nk_0 : PySem.W.keepIn K (.ref f_0) = true)
    (na_1 : PySem.W.nsIn K mainGlobals "first_letters" = some (some (.ref f_1))) (nl_1 : K.lookup f_1 = some ⟨oc_1, od_1, .func (fnX "first_letters" s_first_letters kV_1 dc_1 pm_1 an_1 cd_1 ct_1), sl_1⟩) (nc_1 : PySem.W.codeIn K cd_1 "first_letters" = true) (nk_1 : PySem.W.keepIn K (.ref f_1) = true)
    (na_2 : PySem.W.nsIn K mainGlobals "contrary" = some (some (.ref f_2))) (nl_2 : K.lookup f_2 = some ⟨oc_2, od_2, .func (fnX "contrary" s_contrary kV_2 dc_2 pm_2 an_2 cd_2 ct_2), sl_2⟩) (nc_2 : PySem.W.codeIn K cd_2 "contrary" = true) (nk_2 : PySem.W.keepIn K (.ref f_2) = true)
    (na_3 : PySem.W.nsIn K mainGlobals "first_fault" = some (some (.ref f_3))) (nl_3 : K.lookup f_3 = some ⟨oc_3, od_3, .func (fnX "first_fault" s_first_fault kV_3 dc_3 pm_3 an_3 cd_3 ct_3), sl_3⟩) (nc_3 : PySem.W.codeIn K cd_3 "first_fault" = true) (nk_3 : PySem.W.keepIn K (.ref f_3) = true)
    (na_4 : PySem.W.nsIn K mainGlobals "read_word" = some (some (.ref f_4))) (nl_4 : K.lookup f_4 = some ⟨oc_4, od_4, .func (fnX "read_word" s_read_word kV_4 dc_4 pm_4 an_4 cd_4 ct_4), sl_4⟩) (nc_4 : PySem.W.codeIn K cd_4 "read_word" = true) (nk_4 : PySem.W.keepIn K (.ref f_4) = true)
    (na_5 : PySem.W.nsIn K mainGlobals "row_head" = some (some (.ref f_5))) (nl_5 : K.lookup f_5 = some ⟨oc_5, od_5, .func (fnX "row_head" s_row_head kV_5 dc_5 pm_5 an_5 cd_5 ct_5), sl_5⟩) (nc_5 : PySem.W.codeIn K cd_5 "row_head" = true) (nk_5 : PySem.W.keepIn K (.ref f_5) = true)
    (na_6 : PySem.W.nsIn K mainGlobals "word_in_row" = some (some (.ref f_6))) (nl_6 : K.lookup f_6 = some ⟨oc_6, od_6, .func (fnX "word_in_row" s_word_in_row kV_6 dc_6 pm_6 an_6 cd_6 ct_6), sl_6⟩) (nc_6 : PySem.W.codeIn K cd_6 "word_in_row" = true) (nk_6 : PySem.W.keepIn K (.ref f_6) = true)
    (na_7 : PySem.W.nsIn K mainGlobals "read_retelling" = some (some (.ref f_7))) (nl_7 : K.lookup f_7 = some ⟨oc_7, od_7, .func (fnX "read_retelling" s_read_retelling kV_7 dc_7 pm_7 an_7 cd_7 ct_7), sl_7⟩) (nc_7 : PySem.W.codeIn K cd_7 "read_retelling" = true) (nk_7 : PySem.W.keepIn K (.ref f_7) = true)
    (na_8 : PySem.W.nsIn K mainGlobals "_law_flow" = some (some (.ref f_8))) (nl_8 : K.lookup f_8 = some ⟨oc_8, od_8, .func (fnX "_law_flow" s_law_flow kV_8 dc_8 pm_8 an_8 cd_8 ct_8), sl_8⟩) (nc_8 : PySem.W.codeIn K cd_8 "_law_flow" = true) (nk_8 : PySem.W.keepIn K (.ref f_8) = true)
    (na_9 : PySem.W.nsIn K mainGlobals "_law_pick" = some (some (.ref f_9))) (nl_9 : K.lookup f_9 = some ⟨oc_9, od_9, .func (fnX "_law_pick" s_law_pick kV_9 dc_9 pm_9 an_9 cd_9 ct_9), sl_9⟩) (nc_9 : PySem.W.codeIn K cd_9 "_law_pick" = true) (nk_9 : PySem.W.keepIn K (.ref f_9) = true)
    (na_10 : PySem.W.nsIn K mainGlobals "_law_alike" = some (some (.ref f_10))) (nl_10 : K.lookup f_10 = some ⟨oc_10, od_10, .func (fnX "_law_alike" s_law_alike kV_10 dc_10 pm_10 an_10 cd_10 ct_10), sl_10⟩) (nc_10 : PySem.W.codeIn K cd_10 "_law_alike" = true) (nk_10 : PySem.W.keepIn K (.ref f_10) = true)
    (na_11 : PySem.W.nsIn K mainGlobals "_law_letters" = some (some (.ref f_11))) (nl_11 : K.lookup f_11 = some ⟨oc_11, od_11, .func (fnX "_law_letters" s_law_letters kV_11 dc_11 pm_11 an_11 cd_11 ct_11), sl_11⟩) (nc_11 : PySem.W.codeIn K cd_11 "_law_letters" = true) (nk_11 : PySem.W.keepIn K (.ref f_11) = true)
    (na_12 : PySem.W.nsIn K mainGlobals "_law_contrary" = some (some (.ref f_12))) (nl_12 : K.lookup f_12 = some ⟨oc_12, od_12, .func (fnX "_law_contrary" s_law_contrary kV_12 dc_12 pm_12 an_12 cd_12 ct_12), sl_12⟩) (nc_12 : PySem.W.codeIn K cd_12 "_law_contrary" = true) (nk_12 : PySem.W.keepIn K (.ref f_12) = true)
    (na_13 : PySem.W.nsIn K mainGlobals "_law_laid" = some (some (.ref f_13))) (nl_13 : K.lookup f_13 = some ⟨oc_13, od_13, .func (fnX "_law_laid" s_law_laid kV_13 dc_13 pm_13 an_13 cd_13 ct_13), sl_13⟩) (nc_13 : PySem.W.codeIn K cd_13 "_law_laid" = true) (nk_13 : PySem.W.keepIn K (.ref f_13) = true)
    (na_14 : PySem.W.nsIn K mainGlobals "_law_word" = some (some (.ref f_14))) (nl_14 : K.lookup f_14 = some ⟨oc_14, od_14, .func (fnX "_law_word" s_law_word kV_14 dc_14 pm_14 an_14 cd_14 ct_14), sl_14⟩) (nc_14 : PySem.W.codeIn K cd_14 "_law_word" = true) (nk_14 : PySem.W.keepIn K (.ref f_14) = true)
    (na_15 : PySem.W.nsIn K mainGlobals "_law_signs" = some (some (.ref f_15))) (nl_15 : K.lookup f_15 = some ⟨oc_15, od_15, .func (fnX "_law_signs" s_law_signs kV_15 dc_15 pm_15 an_15 cd_15 ct_15), sl_15⟩) (nc_15 : PySem.W.codeIn K cd_15 "_law_signs" = true) (nk_15 : PySem.W.keepIn K (.ref f_15) = true)
    (na_16 : PySem.W.nsIn K mainGlobals "_law_sign" = some (some (.ref f_16))) (nl_16 : K.lookup f_16 = some ⟨oc_16, od_16, .func (fnX "_law_sign" s_law_sign kV_16 dc_16 pm_16 an_16 cd_16 ct_16), sl_16⟩) (nc_16 : PySem.W.codeIn K cd_16 "_law_sign" = true) (nk_16 : PySem.W.keepIn K (.ref f_16) = true)
    (na_17 : PySem.W.nsIn K mainGlobals "_law_retelling" = some (some (.ref f_17))) (nl_17 : K.lookup f_17 = some ⟨oc_17, od_17, .func (fnX "_law_retelling" s_law_retelling kV_17 dc_17 pm_17 an_17 cd_17 ct_17), sl_17⟩) (nc_17 : PySem.W.codeIn K cd_17 "_law_retelling" = true) (nk_17 : PySem.W.keepIn K (.ref f_17) = true)
    (na_18 : PySem.W.nsIn K mainGlobals "_law_retelling_text" = some (some (.ref f_18))) (nl_18 : K.lookup f_18 = some ⟨oc_18, od_18, .func (fnX "_law_retelling_text" s_law_retelling_text kV_18 dc_18 pm_18 an_18 cd_18 ct_18), sl_18⟩) (nc_18 : PySem.W.codeIn K cd_18 "_law_retelling_text" = true) (nk_18 : PySem.W.keepIn K (.ref f_18) = true)
    (na_19 : PySem.W.nsIn K mainGlobals "_law_changed_row" = some (some (.ref f_19))) (nl_19 : K.lookup f_19 = some ⟨oc_19, od_19, .func (fnX "_law_changed_row" s_law_changed_row kV_19 dc_19 pm_19 an_19 cd_19 ct_19), sl_19⟩) (nc_19 : PySem.W.codeIn K cd_19 "_law_changed_row" = true) (nk_19 : PySem.W.keepIn K (.ref f_19) = true)
    (na_20 : PySem.W.nsIn K mainGlobals "_law_changed" = some (some (.ref f_20))) (nl_20 : K.lookup f_20 = some ⟨oc_20, od_20, .func (fnX "_law_changed" s_law_changed kV_20 dc_20 pm_20 an_20 cd_20 ct_20), sl_20⟩) (nc_20 : PySem.W.codeIn K cd_20 "_law_changed" = true) (nk_20 : PySem.W.keepIn K (.ref f_20) = true)
    (na_21 : PySem.W.nsIn K mainGlobals "_law_writes" = some (some (.ref f_21))) (nl_21 : K.lookup f_21 = some ⟨oc_21, od_21, .func (fnX "_law_writes" s_law_writes kV_21 dc_21 pm_21 an_21 cd_21 ct_21), sl_21⟩) (nc_21 : PySem.W.codeIn K cd_21 "_law_writes" = true) (nk_21 : PySem.W.keepIn K (.ref f_21) = true)
    (na_22 : PySem.W.nsIn K mainGlobals "_law_fits" = some (some (.ref f_22))) (nl_22 : K.lookup f_22 = some ⟨oc_22, od_22, .func (fnX "_law_fits" s_law_fits kV_22 dc_22 pm_22 an_22 cd_22 ct_22), sl_22⟩) (nc_22 : PySem.W.codeIn K cd_22 "_law_fits" = true) (nk_22 : PySem.W.keepIn K (.ref f_22) = true)
    (na_23 : PySem.W.nsIn K mainGlobals "_law_heard" = some (some (.ref f_23))) (nl_23 : K.lookup f_23 = some ⟨oc_23, od_23, .func (fnX "_law_heard" s_law_heard kV_23 dc_23 pm_23 an_23 cd_23 ct_23), sl_23⟩) (nc_23 : PySem.W.codeIn K cd_23 "_law_heard" = true) (nk_23 : PySem.W.keepIn K (.ref f_23) = true)
    (na_24 : PySem.W.nsIn K mainGlobals "_law_long" = some (some (.ref f_24))) (nl_24 : K.lookup f_24 = some ⟨oc_24, od_24, .func (fnX "_law_long" s_law_long kV_24 dc_24 pm_24 an_24 cd_24 ct_24), sl_24⟩) (nc_24 : PySem.W.codeIn K cd_24 "_law_long" = true) (nk_24 : PySem.W.keepIn K (.ref f_24) = true)
    (na_25 : PySem.W.nsIn K mainGlobals "law" = some (some (.ref f_25))) (nl_25 : K.lookup f_25 = some ⟨oc_25, od_25, .func (fnX "law" s_law kV_25 dc_25 pm_25 an_25 cd_25 ct_25), sl_25⟩) (nc_25 : PySem.W.codeIn K cd_25 "law" = true) (nk_25 : PySem.W.keepIn K (.ref f_25) = true)
    (nb_ValueError : PySem.W.nsIn K mainGlobals "ValueError" = some none)
    (nb_all : PySem.W.nsIn K mainGlobals "all" = some none)
    (nb_bool : PySem.W.nsIn K mainGlobals "bool" = some none)
    (nb_enumerate : PySem.W.nsIn K mainGlobals "enumerate" = some none)
    (nb_int : PySem.W.nsIn K mainGlobals "int" = some none)
    (nb_isinstance : PySem.W.nsIn K mainGlobals "isinstance" = some none)
    (nb_len : PySem.W.nsIn K mainGlobals "len" = some none)
    (nb_list : PySem.W.nsIn K mainGlobals "list" = some none)
    (nb_max : PySem.W.nsIn K mainGlobals "max" = some none)
    (nb_min : PySem.W.nsIn K mainGlobals "min" = some none)
    (nb_range : PySem.W.nsIn K mainGlobals "range" = some none)
    (nb_tuple : PySem.W.nsIn K mainGlobals "tuple" = some none)
    (nb_zip : PySem.W.nsIn K mainGlobals "zip" = some none)
    (nm_LetterError' : PySem.W.nsIn K mainGlobals "LetterError" = some (some (.ref a_LetterError)))
    (nm_NoWord' : PySem.W.nsIn K mainGlobals "NoWord" = some (some (.ref a_NoWord)))
    (nm_NoText' : PySem.W.nsIn K mainGlobals "NoText" = some (some (.ref a_NoText)))
    (nm_NoAlphabet' : PySem.W.nsIn K mainGlobals "NoAlphabet" = some (some (.ref a_NoAlphabet)))
    (nm_NoChange' : PySem.W.nsIn K mainGlobals "NoChange" = some (some (.ref a_NoChange)))
    (nm_NoPaper' : PySem.W.nsIn K mainGlobals "NoPaper" = some (some (.ref a_NoPaper)))
    (nm_TooMany' : PySem.W.nsIn K mainGlobals "TooMany" = some (some (.ref a_TooMany)))
    (nm_NoRow' : PySem.W.nsIn K mainGlobals "NoRow" = some (some (.ref a_NoRow)))
    (nL : K.lookup a_LetterError = some (excClassObj nm_L q_L a_LetterError N_L bs_L veM hd_L sn_L sub_L ab_L col_L dd_L k0_L k1_L k2_L k3_L k5_L "ValueError.__new__"))
    (nLe : PySem.W.mroIn K a_LetterError (.type "BaseException") = some true)
    (nLo : PySem.W.nsOkIn K N_L = true)
    (nLi : PySem.W.nsIn K N_L "__init__" = some none)
    (x1_NoText : K.lookup a_NoText = some (excClassObj nm_NoText q_NoText a_NoText N_NoText bs_NoText (.ref a_LetterError :: veM) true sn_NoText sub_NoText ab_NoText col_NoText dd_NoText k0_NoText k1_NoText k2_NoText k3_NoText k5_NoText "ValueError.__new__"))
    (x2_NoText : PySem.W.findIn K (.ref a_NoText) "__setattr__" = some (some (.builtin "object.__setattr__")))
    (x3_NoText : PySem.W.findIn K (.ref a_NoText) "__getattribute__" = some (some (.builtin "BaseException.__getattribute__")))
    (x4_NoText : PySem.W.findIn K (.ref a_NoText) "__getattr__" = some none)
    (x5_NoText : PySem.W.findIn K (.ref a_NoText) "__init__" = some (some (.ref f_NoText)))
    (x6_NoText : PySem.W.isFn K (.ref f_NoText) = true)
    (x7_NoText : PySem.W.keepIn K (.ref a_NoText) = true)
    (x8_NoText : PySem.W.findIn K (.ref a_NoText) "__class__" = some (some (.builtin "object.__class__")))
    (x9_NoText : PySem.W.specialIn K (.builtin "object.__class__") "__get__" = some (some (.builtin "getset_descriptor.__get__")))
    (xa_NoText : PySem.W.takesIn K (.builtin "object.__class__") = some true)
    (xb_NoText : PySem.W.mroIn K a_NoText (.ref a_LetterError) = some true)
    (xc_NoText : PySem.W.findIn K (.ref a_NoText) "row" = some none)
    (xd_NoText : K.lookup f_NoText = some ⟨oc_NoText, od_NoText, .func (PySem.W.fnOf "__init__" "NoText.__init__" (defArgs s_init_NoText) (defBody s_init_NoText) (defScope s_init_NoText) .none kV_NoText dc_NoText pm_NoText an_NoText cd_NoText ct_NoText), sl_NoText⟩)
    (xe_NoText : PySem.W.codeIn K cd_NoText "NoText.__init__" = true)
    (xf_NoText : PySem.W.keepIn K (.ref f_NoText) = true)
    (q_k_else : PySem.W.kitAny K (.ref a_NoText) [.ref a_NoAlphabet, .ref a_NoChange, .ref a_NoPaper, .ref a_NoRow, .ref a_NoWord, .ref a_TooMany] = some false)
    (q_k_this : PySem.W.kitOne K (.ref a_NoText) (.ref a_NoText) = some true)
    (q_k_ve : PySem.W.kitOne K (.ref a_NoText) (.type "ValueError") = some true)
    (nm_CONTRARIES : PySem.W.nsIn K mainGlobals "CONTRARIES" = some (some (.ref a_CONTRARIES)))
    (nt_CONTRARIES : KTD.tabLook KTD.flatLooks (fun b => K.lookup b) a_CONTRARIES conTab_rows = true) (nh_CONTRARIES : KTD.hashesOf (fun b => K.lookup b) a_CONTRARIES = conTab_rows.map fun p => (PySem.strKind l.prog w).hash p.1)
    (nm_LETTERS : PySem.W.nsIn K mainGlobals "LETTERS" = some (some (.ref a_LETTERS)))
    {i_LETTERS : Array Value} {n_LETTERS : Nat} (nt_LETTERS : K.lookup a_LETTERS = some ⟨.type "tuple", none, .seq i_LETTERS n_LETTERS, #[]⟩) (nv_LETTERS : Vals letV i_LETTERS.toList)
    {t_MOST_LETTERS : Tok} (nm_MOST_LETTERS : PySem.W.nsIn K mainGlobals "MOST_LETTERS" = some (some (.int 4 t_MOST_LETTERS)))
    {t_NO_LETTERS : Tok} (nm_NO_LETTERS : PySem.W.nsIn K mainGlobals "NO_LETTERS" = some (some (.str (Str.ofString ".") t_NO_LETTERS)))
    : ∃ fd : FuncData, (∀ (s : Shared) (v : Value), BindsTo s fd ⟨[v], []⟩ [("_law_script", v)]) ∧ ∀ base : Heap, K.In base → base.Ns mainGlobals mg → FnOk l.prog w K mg base CX0 40 fa fd ["_law_script"] (spLaw K) := by
  have e := hfa.symm.trans (PySem.W.mg_of X G na_25)
  have e2 : f_25 = fa := by cases e; rfl
  subst e2
  have T : Txt l.prog w K mg a_CONTRARIES a_LETTERS a_MOST_LETTERS a_NO_LETTERS a_LetterError a_NoWord a_NoText a_NoAlphabet a_NoChange a_NoPaper a_TooMany a_NoRow f_NoText _ := ⟨PySem.W.mg_of X G nm_LetterError', PySem.W.mg_of X G nm_NoWord', PySem.W.mg_of X G nm_NoText', PySem.W.mg_of X G nm_NoAlphabet', PySem.W.mg_of X G nm_NoChange', PySem.W.mg_of X G nm_NoPaper', PySem.W.mg_of X G nm_TooMany', PySem.W.mg_of X G nm_NoRow', ⟨⟨_, _, _, _, _, _, _, _, _, _, _, _, _, _, _, x1_NoText, tail_mk nL nLo nLi⟩, x2_NoText, x3_NoText, x4_NoText, x5_NoText, x6_NoText, x7_NoText⟩, ⟨x8_NoText, x9_NoText, xa_NoText⟩, ⟨xb_NoText, nLe, ⟨_, _, _, nL⟩⟩, xc_NoText, fun_mk xd_NoText xe_NoText xf_NoText, (fun_mk xd_NoText xe_NoText xf_NoText).binds (fun _ _ _ _ _ _ u h => match u, h with | [_, _], _ => rfl), q_k_else, q_k_this, q_k_ve, PySem.W.mg_none_of X G nb_ValueError, PySem.W.mg_none_of X G nb_all, PySem.W.mg_none_of X G nb_bool, PySem.W.mg_none_of X G nb_enumerate, PySem.W.mg_none_of X G nb_int, PySem.W.mg_none_of X G nb_isinstance, PySem.W.mg_none_of X G nb_len, PySem.W.mg_none_of X G nb_list, PySem.W.mg_none_of X G nb_max, PySem.W.mg_none_of X G nb_min, PySem.W.mg_none_of X G nb_range, PySem.W.mg_none_of X G nb_tuple, PySem.W.mg_none_of X G nb_zip, PySem.W.mg_of X G nm_CONTRARIES, fun h x => PySem.W.kt_tab_in l.prog w x nt_CONTRARIES (by decide +kernel) nh_CONTRARIES, PySem.W.mg_of X G nm_LETTERS, fun H => .inr ⟨_, _, _, nt_LETTERS, rfl, rfl, tab_fit nv_LETTERS (by decide), nv_LETTERS⟩, ⟨_, PySem.W.mg_of X G nm_MOST_LETTERS⟩, ⟨_, PySem.W.mg_of X G nm_NO_LETTERS⟩⟩
  have D_0 := dmk (ps := ["n"]) nl_0 nc_0 nk_0 (PySem.W.mg_of X G na_0) (fun _ _ _ _ _ _ u h => match u, h with | [_], _ => rfl)
  have D_1 := dmk (ps := ["n"]) nl_1 nc_1 nk_1 (PySem.W.mg_of X G na_1) (fun _ _ _ _ _ _ u h => match u, h with | [_], _ => rfl)
  have D_2 := dmk (ps := ["letter"]) nl_2 nc_2 nk_2 (PySem.W.mg_of X G na_2) (fun _ _ _ _ _ _ u h => match u, h with | [_], _ => rfl)
  have D_3 := dmk (ps := ["n", "text"]) nl_3 nc_3 nk_3 (PySem.W.mg_of X G na_3) (fun _ _ _ _ _ _ u h => match u, h with | [_, _], _ => rfl)
  have D_4 := dmk (ps := ["n", "shown"]) nl_4 nc_4 nk_4 (PySem.W.mg_of X G na_4) (fun _ _ _ _ _ _ u h => match u, h with | [_, _], _ => rfl)
  have D_5 := dmk (ps := ["letter"]) nl_5 nc_5 nk_5 (PySem.W.mg_of X G na_5) (fun _ _ _ _ _ _ u h => match u, h with | [_], _ => rfl)
  have D_6 := dmk (ps := ["n", "letter", "row"]) nl_6 nc_6 nk_6 (PySem.W.mg_of X G na_6) (fun _ _ _ _ _ _ u h => match u, h with | [_, _, _], _ => rfl)
  have D_7 := dmk (ps := ["text"]) nl_7 nc_7 nk_7 (PySem.W.mg_of X G na_7) (fun _ _ _ _ _ _ u h => match u, h with | [_], _ => rfl)
  have D_8 := dmk (ps := ["_law_script"]) nl_8 nc_8 nk_8 (PySem.W.mg_of X G na_8) (fun _ _ _ _ _ _ u h => match u, h with | [_], _ => rfl)
  have D_9 := dmk (ps := ["_law_flow_here", "_law_many"]) nl_9 nc_9 nk_9 (PySem.W.mg_of X G na_9) (fun _ _ _ _ _ _ u h => match u, h with | [_, _], _ => rfl)
  have D_10 := dmk (ps := ["_law_found", "_law_due"]) nl_10 nc_10 nk_10 (PySem.W.mg_of X G na_10) (fun _ _ _ _ _ _ u h => match u, h with | [_, _], _ => rfl)
  have D_11 := dmk (ps := ["_law_n"]) nl_11 nc_11 nk_11 (PySem.W.mg_of X G na_11) (fun _ _ _ _ _ _ u h => match u, h with | [_], _ => rfl)
  have D_12 := dmk (ps := ["_law_letter"]) nl_12 nc_12 nk_12 (PySem.W.mg_of X G na_12) (fun _ _ _ _ _ _ u h => match u, h with | [_], _ => rfl)
  have D_13 := dmk (ps := ["_law_text"]) nl_13 nc_13 nk_13 (PySem.W.mg_of X G na_13) (fun _ _ _ _ _ _ u h => match u, h with | [_], _ => rfl)
  have D_14 := dmk (ps := ["_law_flow_here", "_law_n", "_law_most"]) nl_14 nc_14 nk_14 (PySem.W.mg_of X G na_14) (fun _ _ _ _ _ _ u h => match u, h with | [_, _, _], _ => rfl)
  have D_15 := dmk (ps := []) nl_15 nc_15 nk_15 (PySem.W.mg_of X G na_15) (fun _ _ _ _ _ _ u h => match u, h with | [], _ => rfl)
  have D_16 := dmk (ps := ["_law_flow_here"]) nl_16 nc_16 nk_16 (PySem.W.mg_of X G na_16) (fun _ _ _ _ _ _ u h => match u, h with | [_], _ => rfl)
  have D_17 := dmk (ps := ["_law_flow_here", "_law_n"]) nl_17 nc_17 nk_17 (PySem.W.mg_of X G na_17) (fun _ _ _ _ _ _ u h => match u, h with | [_, _], _ => rfl)
  have D_18 := dmk (ps := ["_law_retelling_here"]) nl_18 nc_18 nk_18 (PySem.W.mg_of X G na_18) (fun _ _ _ _ _ _ u h => match u, h with | [_], _ => rfl)
  have D_19 := dmk (ps := ["_law_flow_here", "_law_row"]) nl_19 nc_19 nk_19 (PySem.W.mg_of X G na_19) (fun _ _ _ _ _ _ u h => match u, h with | [_, _], _ => rfl)
  have D_20 := dmk (ps := ["_law_flow_here", "_law_text"]) nl_20 nc_20 nk_20 (PySem.W.mg_of X G na_20) (fun _ _ _ _ _ _ u h => match u, h with | [_, _], _ => rfl)
  have D_21 := dmk (ps := ["_law_text"]) nl_21 nc_21 nk_21 (PySem.W.mg_of X G na_21) (fun _ _ _ _ _ _ u h => match u, h with | [_], _ => rfl)
  have D_22 := dmk (ps := ["_law_text"]) nl_22 nc_22 nk_22 (PySem.W.mg_of X G na_22) (fun _ _ _ _ _ _ u h => match u, h with | [_], _ => rfl)
  have D_23 := dmk (ps := ["_law_text"]) nl_23 nc_23 nk_23 (PySem.W.mg_of X G na_23) (fun _ _ _ _ _ _ u h => match u, h with | [_], _ => rfl)
  have D_24 := dmk (ps := ["_law_flow_here", "_law_good"]) nl_24 nc_24 nk_24 (PySem.W.mg_of X G na_24) (fun _ _ _ _ _ _ u h => match u, h with | [_, _], _ => rfl)
  have D_25 := dmk (ps := ["_law_script"]) nl_25 nc_25 nk_25 (PySem.W.mg_of X G na_25) (fun _ _ _ _ _ _ u h => match u, h with | [_], _ => rfl)
  refine ⟨fnX "law" s_law kV_25 dc_25 pm_25 an_25 cd_25 ct_25, fun s v => .of_eq rfl, fun base _ _ => ?_⟩
  have c_law_flow := ok_law_flow (base := base) D_8 T
  have c_law_pick := ok_law_pick (base := base) D_9 T
  have c_law_contrary := ok_law_contrary (base := base) D_12 T
  have c_law_letters := ok_law_letters (base := base) D_11 T
  have c_law_laid := ok_law_laid (base := base) D_13 T c_law_contrary
  have c_law_word := ok_law_word (base := base) D_14 T c_law_pick c_law_letters c_law_contrary
  have c_contrary := ok_contrary (base := base) D_2 T
  have c_first_letters := ok_first_letters (base := base) D_1 T
  have c_law_retelling := ok_law_retelling (base := base) D_17 T c_law_word
  have c_letters_of := ok_letters_of (base := base) D_0 T
  have c_law_signs := ok_law_signs (base := base) D_15 T
  have c_law_sign := ok_law_sign (base := base) D_16 T c_law_pick c_law_signs
  have c_row_head := ok_row_head (base := base) D_5 T
  have c_law_retelling_text := ok_law_retelling_text (base := base) D_18 T
  have c_first_fault := ok_first_fault (base := base) D_3 T c_letters_of c_contrary
  have c_read_word := ok_read_word (base := base) D_4 T c_first_fault
  have c_law_alike := ok_law_alike (base := base) D_10 T
  have c_law_alike_X := ok_law_alike_X (base := base) D_10 T c_law_alike
  have c_law_alike_Y := ok_law_alike_Y (base := base) D_10 T c_law_alike_X
  have c_word_in_row := ok_word_in_row (base := base) D_6 T c_read_word c_row_head
  have c_read_retelling := ok_read_retelling (base := base) D_7 T c_first_letters c_word_in_row
  have c_law_writes := ok_law_writes (base := base) D_21 T c_law_letters c_law_laid
  have c_law_fits := ok_law_fits (base := base) D_22 T
  have c_law_heard := ok_law_heard (base := base) D_23 T c_read_retelling
  have c_law_changed_row := ok_law_changed_row (base := base) D_19 T c_law_pick c_law_sign
  have c_law_long := ok_law_long (base := base) D_24 T c_law_pick
  have c_law_changed := ok_law_changed (base := base) D_20 T c_law_pick c_law_changed_row
  exact FnOk.mono (k := 40) (ok_law D_25 T c_read_retelling c_law_flow c_law_pick c_law_alike_Y c_law_retelling c_law_retelling_text c_law_changed c_law_writes c_law_fits c_law_heard c_law_long) (by decide)
theorem walk {l : PySem.W.OpenLaw} {q : Program} {loose : List Str} {XP : (Str → Option Value) → Heap → Prop} {YP : World → Heap → Prop} {d : DefRec} {K : Params → PySem.W.Frag} (hn : l.most = some 63) (hdf : d.params.defaults = [])
    (hY : ∀ (w : World) (h : Heap), YP w h → (K w.params).In h)
    (F : ∀ (w : World) (mg : Str → Option Value) (fa : Addr) (h : Heap), (K w.params).In h → h.Ns mainGlobals mg → mg d.name = some (.ref fa) →
      ∃ fd : FuncData, (∀ (s : Shared) (u : Value), BindsTo s fd ⟨[u], []⟩ [("_law_script", u)]) ∧ ∀ base : Heap, (K w.params).In base → base.Ns mainGlobals mg → FnOk l.prog w (K w.params) mg base CX0 40 fa fd ["_law_script"] (spLaw (K w.params))) :
    PySem.W.WalkO q loose XP YP l.row.toRowW d [] (fun f vs => PySem.call f vs) :=
  L2.walk_of (n := 63) (k := 40) (x := "_law_script") (CX := fun _ => CX0) (sp := fun w => spLaw (K w.params)) hn (by decide) hdf ⟨rfl, by decide, by decide⟩ hY F (fun _ _ a ns hl _ hS => ⟨a, ns, rfl, hS, hl, fun _ => rfl⟩) fun _ _ _ _ _ z => z
end Lw
def PySem.W.Fast.tw18087901681327575487 : Nat := 0
def PySem.W.Fast.tw6284102003401330809 : Nat := 0
def PySem.W.Fast.tw12614116223179566805 : Nat := 0
def PySem.W.Fast.tw17285255508050707905 : Nat := 0
def PySem.W.Fast.tw9939981103621857076 : Nat := 0
def PySem.W.Fast.tw12430246335344222207 : Nat := 0
def PySem.W.Fast.tw14390815985772411424 : Nat := 0
def PySem.W.Fast.tw8433424454437517732 : Nat := 0
def PySem.W.Fast.tw17337566990617345582 : Nat := 0
def PySem.W.Fast.tw5883720537639806598 : Nat := 0
def PySem.W.Fast.tw16197800235938275782 : Nat := 0
def PySem.W.Fast.tw9136009082303009104 : Nat := 0
def PySem.W.Fast.tw13709827675238861830 : Nat := 0
def PySem.W.Fast.tw8297670593851385447 : Nat := 0
def PySem.W.Fast.tw16083530967472987674 : Nat := 0
def PySem.W.Fast.tw16915589256388706261 : Nat := 0
def PySem.W.Fast.tw11951984299136950831 : Nat := 0
def PySem.W.Fast.tw43148195523391149 : Nat := 0
def PySem.W.Fast.tw5122159567073153750 : Nat := 0
def PySem.W.Fast.tw8066027323593081222 : Nat := 0
def PySem.W.Fast.tw3422394872359199373 : Nat := 0
def PySem.W.Fast.tw14512261522819514860 : Nat := 0
def PySem.W.Fast.tw15138323774417520733 : Nat := 0
def PySem.W.Fast.tw4714297528649225909 : Nat := 0
def PySem.W.Fast.tw7195877586095332202 : Nat := 0
def PySem.W.Fast.tw851093135006291898 : Nat := 0
def PySem.W.Fast.tw5724748245508063546 : Nat := 0
def PySem.W.Fast.tw9931264777994981940 : Nat := 0
def PySem.W.Fast.tw16718228287552768865 : Nat := 0
def PySem.W.Fast.tw3822164954986837417 : Nat := 0
def PySem.W.Fast.tw17263942981945466570 : Nat := 0
def PySem.W.Fast.tw178265490691794229 : Nat := 0
def PySem.W.Fast.tw10809472369798040371 : Nat := 0
def PySem.W.Fast.tw546926620733209322 : Nat := 0
def PySem.W.Fast.tw15636214307276050531 : Nat := 0
def PySem.W.Fast.tw1045078575132910160 : Nat := 0
def PySem.W.Fast.tw15248207655796343069 : Nat := 0
def PySem.W.Fast.tw10749791842090465047 : Nat := 0
def PySem.W.Fast.tw4702974825531988058 : Nat := 0
def PySem.W.Fast.tw14014126628816858200 : Nat := 0
def PySem.W.Fast.tw31216290414744917 : Nat := 0
def PySem.W.Fast.tw9770592275767902669 : Nat := 0
def PySem.W.Fast.tw10722854461917571089 : Nat := 0
def PySem.W.Fast.tw7946166376062227370 : Nat := 0
def PySem.W.Fast.tw13493478828971198206 : Nat := 0
def PySem.W.Fast.tw15707190936523429491 : Nat := 0
def PySem.W.Fast.tw15695401066274815141 : Nat := 0
def PySem.W.Fast.tw1988540390389250608 : Nat := 0
open PySem PySem.W PyProof.Rows
set_option maxRecDepth 100000 in
set_option maxHeartbeats 0 in
theorem PySem.Challenge.cw_newletters_k13_texts_of_no_retelling_holds : PySem.Challenge.rw_newletters_k13_texts_of_no_retelling.Holds := by
  w_on; o_law; k_head; (case hw => w_witness2)
  k_fill
  refine Lw.walk (l := PySem.Challenge.rw_newletters_k13_texts_of_no_retelling) rfl rfl (fun w h Y => PySem.W.kIn_of Y) ?F
  case F =>
    intro w mg fa h KX G hmg
    refine' Lw.all_mk (a_MOST_LETTERS := (0 : Nat)) (a_NO_LETTERS := (0 : Nat)) KX G hmg ?na_0 ?nl_0 ?nc_0 ?nk_0 ?na_1 ?nl_1 ?nc_1 ?nk_1 ?na_2 ?nl_2 ?nc_2 ?nk_2 ?na_3 ?nl_3 ?nc_3 ?nk_3 ?na_4 ?nl_4 ?nc_4 ?nk_4 ?na_5 ?nl_5 ?nc_5 ?nk_5 ?na_6 ?nl_6 ?nc_6 ?nk_6 ?na_7 ?nl_7 ?nc_7 ?nk_7 ?na_8 ?nl_8 ?nc_8 ?nk_8 ?na_9 ?nl_9 ?nc_9 ?nk_9 ?na_10 ?nl_10 ?nc_10 ?nk_10 ?na_11 ?nl_11 ?nc_11 ?nk_11 ?na_12 ?nl_12 ?nc_12 ?nk_12 ?na_13 ?nl_13 ?nc_13 ?nk_13 ?na_14 ?nl_14 ?nc_14 ?nk_14 ?na_15 ?nl_15 ?nc_15 ?nk_15 ?na_16 ?nl_16 ?nc_16 ?nk_16 ?na_17 ?nl_17 ?nc_17 ?nk_17 ?na_18 ?nl_18 ?nc_18 ?nk_18 ?na_19 ?nl_19 ?nc_19 ?nk_19 ?na_20 ?nl_20 ?nc_20 ?nk_20 ?na_21 ?nl_21 ?nc_21 ?nk_21 ?na_22 ?nl_22 ?nc_22 ?nk_22 ?na_23 ?nl_23 ?nc_23 ?nk_23 ?na_24 ?nl_24 ?nc_24 ?nk_24 ?na_25 ?nl_25 ?nc_25 ?nk_25 ?nb_ValueError ?nb_all ?nb_bool ?nb_enumerate ?nb_int ?nb_isinstance ?nb_len ?nb_list ?nb_max ?nb_min ?nb_range ?nb_tuple ?nb_zip ?nm_LetterError' ?nm_NoWord' ?nm_NoText' ?nm_NoAlphabet' ?nm_NoChange' ?nm_NoPaper' ?nm_TooMany' ?nm_NoRow' ?nL ?nLe ?nLo ?nLi ?x1_NoText ?x2_NoText ?x3_NoText ?x4_NoText ?x5_NoText ?x6_NoText ?x7_NoText ?x8_NoText ?x9_NoText ?xa_NoText ?xb_NoText ?xc_NoText ?xd_NoText ?xe_NoText ?xf_NoText ?q_k_else ?q_k_this ?q_k_ve ?nm_CONTRARIES ?nt_CONTRARIES ?nh_CONTRARIES ?nm_LETTERS ?nt_LETTERS ?nv_LETTERS ?nm_MOST_LETTERS ?nm_NO_LETTERS
    (case na_0 => k_is); (case nl_0 => k_is); (case nc_0 => k_is); (case nk_0 => k_is)
    (case na_1 => k_is); (case nl_1 => k_is); (case nc_1 => k_is); (case nk_1 => k_is)
    (case na_2 => k_is); (case nl_2 => k_is); (case nc_2 => k_is); (case nk_2 => k_is)
    (case na_3 => k_is); (case nl_3 => k_is); (case nc_3 => k_is); (case nk_3 => k_is)
    (case na_4 => k_is); (case nl_4 => k_is); (case nc_4 => k_is); (case nk_4 => k_is)
    (case na_5 => k_is); (case nl_5 => k_is); (case nc_5 => k_is); (case nk_5 => k_is)
    (case na_6 => k_is); (case nl_6 => k_is); (case nc_6 => k_is); (case nk_6 => k_is)
    (case na_7 => k_is); (case nl_7 => k_is); (case nc_7 => k_is); (case nk_7 => k_is)
    (case na_8 => k_is); (case nl_8 => k_is); (case nc_8 => k_is); (case nk_8 => k_is)
    (case na_9 => k_is); (case nl_9 => k_is); (case nc_9 => k_is); (case nk_9 => k_is)
    (case na_10 => k_is); (case nl_10 => k_is); (case nc_10 => k_is); (case nk_10 => k_is)
    (case na_11 => k_is); (case nl_11 => k_is); (case nc_11 => k_is); (case nk_11 => k_is)
    (case na_12 => k_is); (case nl_12 => k_is); (case nc_12 => k_is); (case nk_12 => k_is)
    (case na_13 => k_is); (case nl_13 => k_is); (case nc_13 => k_is); (case nk_13 => k_is)
    (case na_14 => k_is); (case nl_14 => k_is); (case nc_14 => k_is); (case nk_14 => k_is)
    (case na_15 => k_is); (case nl_15 => k_is); (case nc_15 => k_is); (case nk_15 => k_is)
    (case na_16 => k_is); (case nl_16 => k_is); (case nc_16 => k_is); (case nk_16 => k_is)
    (case na_17 => k_is); (case nl_17 => k_is); (case nc_17 => k_is); (case nk_17 => k_is)
    (case na_18 => k_is); (case nl_18 => k_is); (case nc_18 => k_is); (case nk_18 => k_is)
    (case na_19 => k_is); (case nl_19 => k_is); (case nc_19 => k_is); (case nk_19 => k_is)
    (case na_20 => k_is); (case nl_20 => k_is); (case nc_20 => k_is); (case nk_20 => k_is)
    (case na_21 => k_is); (case nl_21 => k_is); (case nc_21 => k_is); (case nk_21 => k_is)
    (case na_22 => k_is); (case nl_22 => k_is); (case nc_22 => k_is); (case nk_22 => k_is)
    (case na_23 => k_is); (case nl_23 => k_is); (case nc_23 => k_is); (case nk_23 => k_is)
    (case na_24 => k_is); (case nl_24 => k_is); (case nc_24 => k_is); (case nk_24 => k_is)
    (case na_25 => k_is); (case nl_25 => k_is); (case nc_25 => k_is); (case nk_25 => k_is)
    (case nb_ValueError => k_is); (case nb_all => k_is); (case nb_bool => k_is); (case nb_enumerate => k_is)
    (case nb_int => k_is); (case nb_isinstance => k_is); (case nb_len => k_is); (case nb_list => k_is)
    (case nb_max => k_is); (case nb_min => k_is); (case nb_range => k_is); (case nb_tuple => k_is)
    (case nb_zip => k_is); (case nm_LetterError' => k_is); (case nm_NoWord' => k_is); (case nm_NoText' => k_is)
    (case nm_NoAlphabet' => k_is); (case nm_NoChange' => k_is); (case nm_NoPaper' => k_is); (case nm_TooMany' => k_is)
    (case nm_NoRow' => k_is); (case nL => k_is); (case nLe => k_is); (case nLo => kernel_rfl)
    (case nLi => k_is); (case x1_NoText => k_is); (case x2_NoText => k_is); (case x3_NoText => k_is)
    (case x4_NoText => k_is); (case x5_NoText => k_is); (case x6_NoText => k_is); (case x7_NoText => k_is)
    (case x8_NoText => k_is); (case x9_NoText => k_is); (case xa_NoText => k_is); (case xb_NoText => k_is)
    (case xc_NoText => k_is); (case xd_NoText => k_is); (case xe_NoText => k_is); (case xf_NoText => k_is)
    (case q_k_else => kit_is); (case q_k_this => kit_is); (case q_k_ve => kit_is); (case nm_CONTRARIES => k_is)
    (case nm_LETTERS => k_is); (case nt_LETTERS => k_is); (case nm_MOST_LETTERS => k_is); (case nm_NO_LETTERS => k_is)
    (case nt_CONTRARIES => kernel_rfl)
    (case nh_CONTRARIES => kernel_rfl)
    (case nv_LETTERS => exact .cons ⟨_, rfl⟩ (.cons ⟨_, rfl⟩ (.cons ⟨_, rfl⟩ (.cons ⟨_, rfl⟩ (.cons ⟨_, rfl⟩ (.cons ⟨_, rfl⟩ (.cons ⟨_, rfl⟩ (.cons ⟨_, rfl⟩ .nil))))))))
